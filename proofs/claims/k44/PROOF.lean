import PyProof.Rows.All
import Wide.All
import OpenK.AllK
import Wide.FinOn
import HandS.GenList
import HandS.Lambda
import HandS.Words
import HandS.GenCall
import HandS.Defaults
import PyProof.ReprRoads
import HandS.Base
import HandS.Call
import HandS.List
import HandS.Comp
import HandS.Dict
import HandS.Iter
import HandS.Ends
import HandS.Evl
import HandS.IsInst
import HandS.ClsMeth
import HandS.TupAny
import HandS.TupMul
import HandS.Conv
import HandS.Rev
import HandS.Property
import HandS.Walk
import HandS.WordsExc
import HandS.Exc
import HandS.ExcInit
import HandS.Star
import HandS.MakeKwOnly
import HandS.Deep
import HandS.RevRange
import KE.GoesEnum
import HandS.WordsList
import PySem.Challenge.RW_passplaces_k44_whole_orders_listed
import OpenK.KOps
import PyProof.InstEq
import PyProof.ReprLen
import HandS.SetFor
import HandS.Strs
import HandS.Style
import HandS.TryOnly
import PyProof.TableCode
set_option Elab.async false
set_option linter.all false
set_option maxRecDepth 100000
set_option maxHeartbeats 2000000
set_option maxHeartbeats 1000000
/-! GnA: a generator that sleeps stays as it is: a run that could not wake it is the run itself. -/
namespace Gn
open PySem PyProof.Rows
open Sem (wp)
/-- it looks as before, and nothing wakes it -/
def pois : GenState → GenState
  | .suspended _ l c p fs cl => .suspended (fun _ => .unsupported "") l c p fs cl
  | x => x
def sleeps : GenState → Bool
  | .suspended .. => true
  | _ => false
def tidy : GenState → Prop
  | .suspended _ _ _ _ fs _ => splitAtGen fs = none
  | _ => True
theorem pois_seen (x : GenState) : (pois x).seen = x.seen := by cases x <;> rfl
theorem pois_sl (x : GenState) : sleeps (pois x) = sleeps x := by cases x <;> rfl
theorem awake {x z : GenState} (hx : sleeps x = false) (hz : sleeps z = true) (e : x = pois z) : False := by
  rw [e, pois_sl, hz] at hx
  cases hx
theorem pois_bare (x : GenState) : (pois x).bare = x.bare := by cases x <;> rfl
/-- O: the sleepers; P with the poisoned ones, G with themselves -/
structure Two (O : Nat → Option GenState) (P G : Array GenState) : Prop where
  sz : P.size = G.size
  slp : ∀ i z, O i = some z → sleeps z = true ∧ P[i]? = some (pois z) ∧ G[i]? = some z
  oth : ∀ i, O i = none → P[i]? = G[i]? ∧ ∀ x, G[i]? = some x → tidy x
theorem no_way {M : Model} {Γ : Ctx} {p : Pos} {t : Sem PySem.Fin} {fs : List Frame} {s s' : Shared} {e : End} (h : Runs M Γ p t fs s e s') : ∀ w, t = .unsupported w → False := by
  induction h with
  | segRet _ _ ih _ => exact fun w z => ih w z
  | segGen _ _ ih _ => exact fun w z => ih w z
  | segSuspOut _ _ ih => exact fun w z => ih w z
  | segSuspGen _ _ _ _ ih _ => exact fun w z => ih w z
  | _ => intro w z; cases z
theorem Two.set {O : Nat → Option GenState} {P G : Array GenState} (t : Two O P G) {g : Nat} {x : GenState} (hg : O g = none) (hx : tidy x) : Two O (P.setIfInBounds g x) (G.setIfInBounds g x) where
  sz := by rw [Array.size_setIfInBounds, Array.size_setIfInBounds]; exact t.sz
  slp := fun i z hz => by
    have hne : g ≠ i := fun e => by rw [e, hz] at hg; cases hg
    rw [Array.getElem?_setIfInBounds_ne hne, Array.getElem?_setIfInBounds_ne hne]
    exact t.slp i z hz
  oth := fun i hi => by
    by_cases e : g = i
    · subst e
      by_cases b : g < P.size
      · have b' : g < G.size := t.sz ▸ b
        rw [Array.getElem?_setIfInBounds_self_of_lt b, Array.getElem?_setIfInBounds_self_of_lt b']
        exact ⟨rfl, fun y hy => Option.some.inj hy ▸ hx⟩
      · have b' : ¬ g < G.size := t.sz ▸ b
        rw [Array.setIfInBounds_eq_of_size_le (by omega), Array.setIfInBounds_eq_of_size_le (by omega)]
        exact t.oth g hi
    · rw [Array.getElem?_setIfInBounds_ne e, Array.getElem?_setIfInBounds_ne e]
      exact t.oth i hi
theorem Two.push {O : Nat → Option GenState} {P G : Array GenState} (t : Two O P G) {x : GenState} (hx : tidy x) : Two O (P.push x) (G.push x) where
  sz := by rw [Array.size_push, Array.size_push, t.sz]
  slp := fun i z hz => by
    obtain ⟨h1, h2, h3⟩ := t.slp i z hz
    have l1 : i < P.size := (Array.getElem?_eq_some_iff.mp h2).1
    have l2 : i < G.size := (Array.getElem?_eq_some_iff.mp h3).1
    have n1 : i ≠ P.size := by omega
    have n2 : i ≠ G.size := by omega
    rw [Array.getElem?_push, Array.getElem?_push, if_neg n1, if_neg n2]
    exact ⟨h1, h2, h3⟩
  oth := fun i hi => by
    rw [Array.getElem?_push, Array.getElem?_push, t.sz]
    by_cases e : i = G.size
    · rw [if_pos e, if_pos e]
      exact ⟨rfl, fun y hy => Option.some.inj hy ▸ hx⟩
    · rw [if_neg e, if_neg e]
      exact t.oth i hi
theorem Two.same {O : Nat → Option GenState} {P G : Array GenState} (t : Two O P G) {g : Nat} {x : GenState} (h : P[g]? = some x) : ∃ y, G[g]? = some y ∧ x.seen = y.seen ∧ ((O g = none ∧ x = y ∧ tidy x) ∨ ∃ z, sleeps z = true ∧ x = pois z) := by
  cases e : O g with
  | none =>
    obtain ⟨q1, q2⟩ := t.oth g e
    rw [q1] at h
    exact ⟨x, h, rfl, .inl ⟨rfl, rfl, q2 x h⟩⟩
  | some z =>
    obtain ⟨q0, q1, q2⟩ := t.slp g z e
    rw [q1] at h
    cases h
    exact ⟨z, q2, pois_seen z, .inr ⟨z, q0, rfl⟩⟩
def endTidy : End → Prop
  | .susp _ _ _ _ _ _ fs => splitAtGen fs = none
  | .ret _ => True
theorem tidy_of {e : End} (h : endTidy e) : tidy e.genState := by cases e <;> exact h
theorem split_app : ∀ {fs gs : List Frame}, splitAtGen fs = none → splitAtGen gs = none → splitAtGen (fs ++ gs) = none
  | [], _, _, h => h
  | .gen .. :: _, _, h, _ => by cases h
  | .ret .. :: fs, gs, h, k => by
    have h' : splitAtGen fs = none := by
      have : (splitAtGen fs).map _ = none := h
      simpa using this
    show (splitAtGen (fs ++ gs)).map _ = none
    rw [split_app h' k]; rfl
theorem split_tl {fs : List Frame} {k h g l c p kp} (e : splitAtGen (.ret k h g l c p kp :: fs) = none) : splitAtGen fs = none := by
  have : (splitAtGen fs).map _ = none := e
  simpa using this
theorem runs_two {M : Model} {Γ : Ctx} {p : Pos} {t : Sem PySem.Fin} {fs : List Frame} {s s' : Shared} {e : End} (h : Runs M Γ p t fs s e s') :
    splitAtGen fs = none → ∀ (O : Nat → Option GenState) (G : Array GenState), Two O s.gens G → endTidy e ∧ ∃ G', Two O s'.gens G' ∧ Runs M Γ p t fs { s with gens := G } e { s' with gens := G' } := by
  induction h with
  | done => exact fun _ O G w => ⟨trivial, G, w, .done⟩
  | raise => exact fun _ O G w => ⟨trivial, G, w, .raise⟩
  | again q _ ih => exact fun f O G w => let ⟨a, G', b, c⟩ := ih f O G w; ⟨a, G', b, .again q c⟩
  | rule _ ih => exact fun f O G w => let ⟨a, G', b, c⟩ := ih f O G w; ⟨a, G', b, .rule c⟩
  | «at» _ ih => exact fun f O G w => let ⟨a, G', b, c⟩ := ih f O G w; ⟨a, G', b, .at c⟩
  | load ho _ ih => exact fun f O G w => let ⟨a, G', b, c⟩ := ih f O G w; ⟨a, G', b, .load ho c⟩
  | update ho _ ih => exact fun f O G w => let ⟨a, G', b, c⟩ := ih f O G w; ⟨a, G', b, .update ho c⟩
  | loadIfAlive _ ih => exact fun f O G w => let ⟨a, G', b, c⟩ := ih f O G w; ⟨a, G', b, .loadIfAlive c⟩
  | point _ ih => exact fun f O G w => let ⟨a, G', b, c⟩ := ih f O G w; ⟨a, G', b, .point c⟩
  | alloc _ ih => exact fun f O G w => let ⟨a, G', b, c⟩ := ih f O G w; ⟨a, G', b, .alloc c⟩
  | fresh _ ih => exact fun f O G w => let ⟨a, G', b, c⟩ := ih f O G w; ⟨a, G', b, .fresh c⟩
  | ask _ ih => exact fun f O G w => let ⟨a, G', b, c⟩ := ih f O G w; ⟨a, G', b, .ask c⟩
  | choose hn _ ih => exact fun f O G w => let ⟨a, G', b, c⟩ := ih f O G w; ⟨a, G', b, .choose hn c⟩
  | os _ ih => exact fun f O G w => let ⟨a, G', b, c⟩ := ih f O G w; ⟨a, G', b, .os c⟩
  | handled _ ih => exact fun f O G w => let ⟨a, G', b, c⟩ := ih f O G w; ⟨a, G', b, .handled c⟩
  | genState hg _ ih =>
    intro f O G w
    obtain ⟨y, hy, es, _⟩ := w.same hg
    obtain ⟨a, G', b, c⟩ := ih f O G w
    exact ⟨a, G', b, .genState hy (es ▸ c)⟩
  | stack _ ih => exact fun f O G w => let ⟨a, G', b, c⟩ := ih f O G w; ⟨a, G', b, .stack c⟩
  | thread _ ih => exact fun f O G w => let ⟨a, G', b, c⟩ := ih f O G w; ⟨a, G', b, .thread c⟩
  | newGen _ ih =>
    intro f O G w
    obtain ⟨a, G', b, c⟩ := ih f O _ (w.push (x := .fresh _) trivial)
    refine ⟨a, G', b, .newGen ?_⟩
    rw [w.sz] at c
    exact c
  | call _ _ ih1 ih2 =>
    intro f O G w
    obtain ⟨_, G1, b1, c1⟩ := ih1 rfl O G w
    obtain ⟨a, G', b, c⟩ := ih2 f O G1 b1
    exact ⟨a, G', b, .call c1 c⟩
  | callSusp _ ih =>
    intro f O G w
    obtain ⟨a, G', b, c⟩ := ih rfl O G w
    exact ⟨split_app a rfl, G', b, .callSusp c⟩
  | yield => exact fun _ O G w => ⟨rfl, G, w, .yield⟩
  | resumeFresh hg _ hq _ ih1 ih2 =>
    intro f O G w
    obtain ⟨y, hy, _, q⟩ := w.same hg
    rcases q with ⟨hO, rfl, _⟩ | ⟨z, hz, ez⟩
    · obtain ⟨a1, G1, b1, c1⟩ := ih1 rfl O _ (w.set (x := .running) hO trivial)
      obtain ⟨a, G', b, c⟩ := ih2 f O _ (b1.set hO (tidy_of a1))
      exact ⟨a, G', b, .resumeFresh hy c1 hq c⟩
    · exact (awake rfl hz ez).elim
  | resumeSuspended hg hr hq _ ih1 ih2 =>
    intro f O G w
    obtain ⟨y, hy, _, q⟩ := w.same hg
    rcases q with ⟨hO, rfl, ht⟩ | ⟨z, hz, ez⟩
    · obtain ⟨a1, G1, b1, c1⟩ := ih1 ht O _ (w.set (x := .running) hO trivial)
      obtain ⟨a, G', b, c⟩ := ih2 f O _ (b1.set hO (tidy_of a1))
      exact ⟨a, G', b, .resumeSuspended hy c1 hq c⟩
    · cases z with
      | suspended k l c p fs cl =>
        injection ez with e1
        subst e1
        exact (no_way hr _ rfl).elim
      | _ => cases hz
  | resumeJustStarted hg hv _ ih =>
    intro f O G w
    obtain ⟨y, hy, _, q⟩ := w.same hg
    rcases q with ⟨hO, rfl, _⟩ | ⟨z, hz, ez⟩
    · obtain ⟨a, G', b, c⟩ := ih f O G w
      exact ⟨a, G', b, .resumeJustStarted hy hv c⟩
    · exact (awake rfl hz ez).elim
  | resumeThrowFresh hg _ ih =>
    intro f O G w
    obtain ⟨y, hy, _, q⟩ := w.same hg
    rcases q with ⟨hO, rfl, _⟩ | ⟨z, hz, ez⟩
    · obtain ⟨a, G', b, c⟩ := ih f O _ (w.set (x := .finished) hO trivial)
      exact ⟨a, G', b, .resumeThrowFresh hy c⟩
    · exact (awake rfl hz ez).elim
  | resumeRunning hg _ ih =>
    intro f O G w
    obtain ⟨y, hy, _, q⟩ := w.same hg
    rcases q with ⟨hO, rfl, _⟩ | ⟨z, hz, ez⟩
    · obtain ⟨a, G', b, c⟩ := ih f O G w
      exact ⟨a, G', b, .resumeRunning hy c⟩
    · exact (awake rfl hz ez).elim
  | resumeFinished hg _ ih =>
    intro f O G w
    obtain ⟨y, hy, _, q⟩ := w.same hg
    rcases q with ⟨hO, rfl, _⟩ | ⟨z, hz, ez⟩
    · obtain ⟨a, G', b, c⟩ := ih f O G w
      exact ⟨a, G', b, .resumeFinished hy c⟩
    · exact (awake rfl hz ez).elim
  | segRet _ _ ih1 ih2 =>
    intro f O G w
    obtain ⟨_, G1, b1, c1⟩ := ih1 rfl O G w
    obtain ⟨a, G', b, c⟩ := ih2 (split_tl f) O G1 b1
    exact ⟨a, G', b, .segRet c1 c⟩
  | segGen _ _ _ _ => intro f; cases f
  | segSuspOut hs _ ih =>
    intro f O G w
    obtain ⟨a, G', b, c⟩ := ih rfl O G w
    exact ⟨split_app a f, G', b, .segSuspOut hs c⟩
  | segSuspGen hs _ _ _ _ _ => intro f; rw [hs] at f; cases f
/-- every sleeper, by its number -/
def slept (G : Array GenState) : Nat → Option GenState := fun i => match G[i]? with
  | some z => if sleeps z = true then some z else none
  | none => none
def poisAll (G : Array GenState) : Array GenState := G.map pois
theorem two_start (G : Array GenState) : Two (slept G) (poisAll G) G where
  sz := Array.size_map
  slp := fun i z hz => by
    unfold slept at hz
    cases e : G[i]? with
    | none => rw [e] at hz; cases hz
    | some y =>
      rw [e] at hz
      dsimp only at hz
      by_cases q : sleeps y = true
      · rw [if_pos q] at hz
        cases hz
        exact ⟨q, by unfold poisAll; rw [Array.getElem?_map, e]; rfl, rfl⟩
      · rw [if_neg q] at hz; cases hz
  oth := fun i hi => by
    unfold slept at hi
    unfold poisAll
    rw [Array.getElem?_map]
    cases e : G[i]? with
    | none => exact ⟨rfl, fun x hx => by cases hx⟩
    | some y =>
      rw [e] at hi
      dsimp only at hi
      by_cases q : sleeps y = true
      · rw [if_pos q] at hi; cases hi
      · refine ⟨?_, fun x hx => ?_⟩
        · cases y with
          | suspended => exact absurd rfl q
          | _ => rfl
        · cases hx
          cases y with
          | suspended => exact absurd rfl q
          | _ => trivial
theorem Two.bare {O : Nat → Option GenState} {P G : Array GenState} (t : Two O P G) (h : AllBare P) : AllBare G := fun y hy => by
  obtain ⟨i, hi, e⟩ := Array.mem_iff_getElem.mp hy
  have e' : G[i]? = some y := by rw [Array.getElem?_eq_getElem hi, e]
  cases q : O i with
  | none =>
    rw [← (t.oth i q).1] at e'
    exact h y (Array.mem_of_getElem? e')
  | some z =>
    obtain ⟨_, q1, q2⟩ := t.slp i z q
    rw [q2] at e'
    cases e'
    rw [← pois_bare]
    exact h _ (Array.mem_of_getElem? q1)
theorem poisAll_bare {G : Array GenState} (h : AllBare G) : AllBare (poisAll G) := fun y hy => by
  unfold poisAll at hy
  obtain ⟨z, hz, e⟩ := Array.mem_map.mp hy
  rw [← e, pois_bare]
  exact h z hz
theorem slept_at {G : Array GenState} {i : Nat} {z : GenState} (h : G[i]? = some z) (hz : sleeps z = true) : slept G i = some z := by
  unfold slept
  rw [h]
  exact if_pos hz
theorem wakes_two {M : Model} {Γ : Ctx} {p : Pos} {g : Nat} {r : Resume} {s s' : Shared} {res : GenResult} (h : Wakes M Γ p g r s res s') (O : Nat → Option GenState) (G : Array GenState) (w : Two O s.gens G) :
    ∃ G', Two O s'.gens G' ∧ Wakes M Γ p g r { s with gens := G } res { s' with gens := G' } := by
  unfold Wakes at h
  split at h
  · exact h.elim
  · rename_i c hg
    obtain ⟨y, hy, _, q⟩ := w.same hg
    rcases q with ⟨hO, rfl, _⟩ | ⟨z, hz, ez⟩
    · split at h
      · obtain ⟨e₁, s₁, hr, hq, rfl, rfl⟩ := h
        obtain ⟨a1, G1, b1, c1⟩ := runs_two hr rfl O _ (w.set (x := .running) hO trivial)
        refine ⟨_, b1.set hO (tidy_of a1), ?_⟩
        unfold Wakes
        rw [show ({ s with gens := G } : Shared).gens[g]? = some (.fresh c) from hy]
        exact ⟨e₁, _, c1, hq, rfl, rfl⟩
      · obtain ⟨rfl, rfl⟩ := h
        refine ⟨G, w, ?_⟩
        unfold Wakes
        rw [show ({ s' with gens := G } : Shared).gens[g]? = some (.fresh c) from hy]
        rename_i v hv
        cases v <;> first | exact ⟨rfl, rfl⟩ | exact absurd rfl hv
      · obtain ⟨rfl, rfl⟩ := h
        refine ⟨_, w.set (x := .finished) hO trivial, ?_⟩
        unfold Wakes
        rw [show ({ s with gens := G } : Shared).gens[g]? = some (.fresh c) from hy]
        exact ⟨rfl, rfl⟩
    · exact (awake rfl hz ez).elim
  · rename_i k₀ l₀ c₀ p₀ fs cl hg
    obtain ⟨y, hy, _, q⟩ := w.same hg
    obtain ⟨e₁, s₁, hr, hq, rfl, rfl⟩ := h
    rcases q with ⟨hO, rfl, ht⟩ | ⟨z, hz, ez⟩
    · obtain ⟨a1, G1, b1, c1⟩ := runs_two hr ht O _ (w.set (x := .running) hO trivial)
      refine ⟨_, b1.set hO (tidy_of a1), ?_⟩
      unfold Wakes
      rw [show ({ s with gens := G } : Shared).gens[g]? = some (.suspended k₀ l₀ c₀ p₀ fs cl) from hy]
      exact ⟨e₁, _, c1, hq, rfl, rfl⟩
    · cases z with
      | suspended k l c p fs cl =>
        injection ez with e1
        subst e1
        exact (no_way hr _ rfl).elim
      | _ => cases hz
  · rename_i hg
    obtain ⟨y, hy, _, q⟩ := w.same hg
    obtain ⟨rfl, rfl⟩ := h
    rcases q with ⟨hO, rfl, _⟩ | ⟨z, hz, ez⟩
    · refine ⟨G, w, ?_⟩
      unfold Wakes
      rw [show ({ s' with gens := G } : Shared).gens[g]? = some .running from hy]
      exact ⟨rfl, rfl⟩
    · exact (awake rfl hz ez).elim
  · rename_i hg
    obtain ⟨y, hy, _, q⟩ := w.same hg
    obtain ⟨rfl, rfl⟩ := h
    rcases q with ⟨hO, rfl, _⟩ | ⟨z, hz, ez⟩
    · refine ⟨G, w, ?_⟩
      unfold Wakes
      rw [show ({ s' with gens := G } : Shared).gens[g]? = some .finished from hy]
      exact ⟨rfl, rfl⟩
    · exact (awake rfl hz ez).elim
theorem wp_two {α : Type} (M : Model) (Γ : Ctx) (O : Nat → Option GenState) (t : Sem α) : ∀ (Q : α → Pos → Shared → Prop) (E : Value → Pos → Shared → Prop) (p : Pos) (s : Shared) (G : Array GenState), Two O s.gens G → wp M Γ t Q E p s →
    wp M Γ t (fun a p' s' => ∃ s1, Q a p' s1 ∧ ∃ G', Two O s1.gens G' ∧ s' = { s1 with gens := G' }) (fun e p' s' => ∃ s1, E e p' s1 ∧ ∃ G', Two O s1.gens G' ∧ s' = { s1 with gens := G' }) p { s with gens := G } := by
  induction t with
  | pure a => intro Q E p s G w h; exact ⟨s, h, G, w, rfl⟩
  | raise e => intro Q E p s G w h; exact ⟨s, h, G, w, rfl⟩
  | unsupported _ => intro Q E p s G _ h; exact h
  | finish _ => intro Q E p s G _ h; exact h
  | rule _ k ih => intro Q E p s G w h; exact ih () Q E p s G w h
  | «at» p' k ih => intro Q E p s G w h; exact ih () Q E p' s G w h
  | load a _ k ih => intro Q E p s G w h; obtain ⟨o, ho, h⟩ := h; exact ⟨o, ho, ih o Q E p s G w h⟩
  | update a _ f k ih => intro Q E p s G w h; exact ⟨h.1, ih () Q E p { s with heap := s.heap.update a f } G w h.2⟩
  | loadIfAlive a k ih => intro Q E p s G w h; exact ih _ Q E p s G w h
  | point _ k ih => intro Q E p s G w h; exact ih () Q E p s G w h
  | register _ _ => intro Q E p s G _ h; exact h
  | alloc o k ih => intro Q E p s G w h; exact ih s.heap.objs.size Q E p { s with heap := s.heap.push o } G w h
  | fresh k ih => intro Q E p s G w h; exact ih s.toks Q E p { s with toks := s.toks + 1 } G w h
  | ask k ih => intro Q E p s G w h; exact ih _ Q E p s G w h
  | choose src m k ih => intro Q E p s G w h; exact ⟨h.1, ih _ Q E p { s with drawn := s.drawn.bump src } G w h.2⟩
  | os q _ k ih => intro Q E p s G w h; exact ih _ Q E p { s with os := (Os.step s.os q).1 } G w h
  | call c hd _ _ k ih =>
    intro Q E p s G w h
    obtain ⟨r, s', hr, h⟩ := h
    obtain ⟨_, G1, b1, c1⟩ := runs_two hr rfl O G w
    exact ⟨r, _, c1, ih r Q E p s' G1 b1 h⟩
  | handled own k ih => intro Q E p s G w h; exact ih _ Q E p s G w h
  | genState g k ih =>
    intro Q E p s G w h
    obtain ⟨st, hs, h⟩ := h
    obtain ⟨y, hy, es, _⟩ := w.same hs
    exact ⟨y, hy, es ▸ ih _ Q E p s G w h⟩
  | newGen c k ih =>
    intro Q E p s G w h
    have q := ih s.gens.size Q E p { s with gens := s.gens.push (.fresh c) } (G.push (.fresh c)) (w.push (x := .fresh c) trivial) h
    rw [w.sz] at q
    exact q
  | resume g r _ k ih =>
    intro Q E p s G w h
    obtain ⟨res, s', hw, h⟩ := h
    obtain ⟨G1, b1, c1⟩ := wakes_two hw O G w
    exact ⟨res, _, c1, ih res Q E p s' G1 b1 h⟩
  | yield _ _ _ _ => intro Q E p s G _ h; exact h
  | stack k ih => intro Q E p s G w h; exact ih _ Q E p s G w h
  | fork _ _ => intro Q E p s G _ h; exact h
  | thread k ih => intro Q E p s G w h; exact ih _ Q E p s G w h
  | await _ _ _ _ _ => intro Q E p s G _ h; exact h
/-- nobody wakes who sleeps -/
theorem wpAny_two {α : Type} {M : Model} {A : Around} {t : Sem α} {Q : α → Shared → Prop} {E : Value → Shared → Prop} {s : Shared} (h : wpAny M A t Q E { s with gens := poisAll s.gens }) :
    wpAny M A t (fun a s' => ∃ s1, Q a s1 ∧ Two (slept s.gens) s1.gens s'.gens ∧ s' = { s1 with gens := s'.gens }) (fun e s' => ∃ s1, E e s1 ∧ Two (slept s.gens) s1.gens s'.gens ∧ s' = { s1 with gens := s'.gens }) s := by
  intro Γ p hΓ
  have q := wp_two M Γ (slept s.gens) t _ _ p { s with gens := poisAll s.gens } s.gens (two_start s.gens) (h Γ p hΓ)
  refine Sem.wp_mono _ _ _ ?_ ?_ _ _ q
  · rintro a p' s' ⟨s1, h1, G', w, rfl⟩
    exact ⟨s1, h1, w, rfl⟩
  · rintro a p' s' ⟨s1, h1, G', w, rfl⟩
    exact ⟨s1, h1, w, rfl⟩
end Gn

/-! GnB: a generator def's body, from wake to yield; whoever is served meanwhile may change the heap. -/
namespace Gn
open PySem PySem.Spec PyProof.Rows L2 GenW LamX
open Sem (wp)
/-- from here the run comes to an end that Φ likes -/
def Sg (M : Model) (A : Around) (Φ : End → Shared → Prop) (c : Code) (t : Sem PySem.Fin) (fs : List Frame) (s : Shared) : Prop :=
  ∀ Γ p, Γ.code = c → Γ.Woken A → ∃ e s', Runs M Γ p t fs s e s' ∧ Φ e s'
section
variable {M : Model} {A : Around} {Φ : End → Shared → Prop} {c : Code} {fs : List Frame} {s : Shared}
theorem sg_wrap {α : Type} {m : Sem α} {K : α → Sem PySem.Fin} {J : Value → Sem PySem.Fin} {gd : Bool → Bool} {lv : List Value → List Value}
    (h : wpAny M (A.over c fs) m (fun a s' => Sg M A Φ c (K a) fs s') (fun x s' => Sg M A Φ c (J x) fs s') s) : Sg M A Φ c (m.wrap K J gd lv) fs s := by
  rintro Γ p rfl hΓ
  exact runs_wrap_of_wp K J gd lv m (h (Γ.over fs) p (hΓ.over fs)) (fun a p' s' h' => h' Γ p' rfl hΓ) (fun x p' s' h' => h' Γ p' rfl hΓ)
theorem sg_bind_wrap {α β : Type} {m : Sem α} {f : α → Sem β} {K : β → Sem PySem.Fin} {J : Value → Sem PySem.Fin} {gd : Bool → Bool} {lv : List Value → List Value}
    (h : wpAny M (A.over c fs) m (fun a s' => Sg M A Φ c ((f a).wrap K J gd lv) fs s') (fun x s' => Sg M A Φ c (J x) fs s') s) : Sg M A Φ c ((m >>= f).wrap K J gd lv) fs s := by
  rw [Sem.bind_eq_wrap', Sem.wrap_wrap]
  exact sg_wrap h
theorem sg_at {p' : Pos} {k : Unit → Sem PySem.Fin} (h : Sg M A Φ c (k ()) fs s) : Sg M A Φ c (.at p' k) fs s :=
  sg_wrap (m := standAt p') (K := k) (J := .raise) (gd := id) (lv := id) (wpAny_standAt h)
theorem sg_call {c' : Code} {h g l} {k : Result → Sem PySem.Fin} (hc : ∀ p, Sg M A Φ c' (M.den c') (.ret k h g l c p [] :: fs) s) : Sg M A Φ c (.call c' h g l k) fs s := by
  rintro Γ p rfl hΓ
  obtain ⟨e, s', hr, he⟩ := hc p (Γ.goto c') p rfl (hΓ.goto c')
  exact ⟨e, s', runs_call_seg hr, he⟩
theorem sg_leaf {k h g l c₁ p₁ kp} (r : Result) (hk : Sg M A Φ c₁ (k r) fs s) : Sg M A Φ c (leafOf r) (.ret k h g l c₁ p₁ kp :: fs) s := by
  rintro Γ p rfl hΓ
  obtain ⟨e, s', hr, he⟩ := hk (Γ.goto c₁) p₁ rfl (hΓ.goto c₁)
  exact ⟨e, s', Runs.pop r hr, he⟩
theorem sg_again {c' : Code} (hq : c'.quiet = true) (hc : Sg M A Φ c' (M.den c') fs s) : Sg M A Φ c (.pure (.again c')) fs s := by
  rintro Γ p rfl hΓ
  obtain ⟨e, s', hr, he⟩ := hc (Γ.goto c') p rfl (hΓ.goto c')
  exact ⟨e, s', Runs.head (c₁ := c') (fun _ _ x => .again hq x) hr, he⟩
theorem sg_end (r : Result) (h : Φ (.ret r) s) : Sg M A Φ c (leafOf r) [] s := by
  rintro Γ p rfl _
  exact ⟨.ret r, s, Runs.leaf r, h⟩
theorem sg_yield {v g l} {k : Resume → Sem PySem.Fin} (hfs : splitAtGen fs = none) (h : ∀ p, Φ (.susp v g l k c p fs) s) : Sg M A Φ c (.yield v g l k) fs s := by
  rintro Γ p rfl _
  exact ⟨_, s, Runs.yield' fs hfs, h p⟩
theorem sg_point {l : List Value} {k : Unit → Sem PySem.Fin} (h : Sg M A Φ c (k ()) fs s) : Sg M A Φ c (.point l k) fs s :=
  sg_wrap (m := point) (K := k) (J := .raise) (gd := id) (lv := fun _ => l) (wpAny_point h)
end
/-- a wake: the state, what the waker knows of the heap, what the generator builds upon -/
abbrev Wk := Shared × Hp × Hp
/-- what it builds upon from now on: what it knew, and new things -/
def Grow (w : Hp × Hp) (G : Hp) : Prop := Same w.2 G ∧ ∀ p, G p ≠ none → w.2 p ≠ none ∨ w.1 p = none ∨ ∃ ps, w.1 p = some (.tbl ps)
/-- the heap below n alone -/
def cutH (n : Nat) (h : Heap) : Heap := { h with objs := h.objs.extract 0 n }
def cutS (n : Nat) (s : Shared) : Shared := { s with heap := cutH n s.heap }
theorem cut_size {n : Nat} {h : Heap} (e : n ≤ h.objs.size) : (cutH n h).objs.size = n := by
  show (h.objs.extract 0 n).size = n
  rw [Array.size_extract]; omega
theorem cut_lt {n : Nat} {h : Heap} {b : Addr} (l : b < n) : (cutH n h).get? b = h.get? b := by
  unfold Heap.get?
  have e : (cutH n h).objs[b]? = h.objs[b]? := by
    show (h.objs.extract 0 n)[b]? = h.objs[b]?
    rw [Array.getElem?_extract]
    split
    · rw [Nat.zero_add]
    · rename_i q
      refine (Array.getElem?_eq_none ?_).symm
      have q2 : min n h.objs.size - 0 ≤ b := Nat.not_lt.mp q
      rw [Nat.sub_zero] at q2
      rcases Nat.le_total n h.objs.size with z | z
      · rw [Nat.min_eq_left z] at q2
        exact absurd l (Nat.not_lt.mpr q2)
      · rw [Nat.min_eq_right z] at q2
        exact q2
  rw [e]
theorem cut_some {n : Nat} {h : Heap} {b : Addr} {o : Obj} (e : (cutH n h).get? b = some o) : b < n ∧ h.get? b = some o := by
  have l : b < (cutH n h).objs.size := Heap.lt_size e
  have l2 : b < n := by
    have : (h.objs.extract 0 n).size ≤ n := by rw [Array.size_extract]; omega
    exact Nat.lt_of_lt_of_le l this
  exact ⟨l2, cut_lt l2 ▸ e⟩
/-- a call of a generator def: its text, its frame's place n0, its generator object -/
structure Gd where
  P : Program
  w : World
  K : PySem.W.Frag
  mg : Str → Option Value
  base : Heap
  N : List Str
  qual : Str
  scope : Scope
  f : Addr
  cd : Value
  A : Around
  outer : List Env
  n0 : Nat
  a : Addr
  go : Obj
  os : OsState
/-- the frame as the rules see it in a run that began at this wake -/
def Gd.X (g : Gd) (wk : Wk) : Cx := (cxOf C8.CX0 g.P g.w g.K g.mg g.base g.N g.qual g.scope g.f g.cd g.A g.outer (cutS g.n0 wk.1) wk.2.1 C8.E0).tr [(g.a, g.go)] fun _ _ => False
def Gd.env (g : Gd) : Env := envOfC g.qual g.scope g.n0 g.f g.cd
def Gd.A1 (g : Gd) : Around := g.A.deeper g.env
theorem Gd.envX (g : Gd) {wk : Wk} (h : g.n0 ≤ wk.1.heap.objs.size) : (g.X wk).env = g.env := by
  show envOfC g.qual g.scope (cutH g.n0 wk.1.heap).objs.size g.f g.cd = envOfC g.qual g.scope g.n0 g.f g.cd
  rw [cut_size h]
theorem Gd.AX (g : Gd) {wk : Wk} (h : g.n0 ≤ wk.1.heap.objs.size) : (g.X wk).A = g.A1 := by
  show g.A.deeper (envOfC g.qual g.scope (cutH g.n0 wk.1.heap).objs.size g.f g.cd) = g.A.deeper (envOfC g.qual g.scope g.n0 g.f g.cd)
  rw [cut_size h]
/-- woken: the waker's knowledge holds; what the generator builds upon is known; its own records stand -/
structure Woke (g : Gd) (ip : List (Addr × Obj)) (wk : Wk) : Prop where
  env : Env0 g.P g.w g.K g.mg g.base g.A g.outer wk.1 wk.2.1
  sz : g.n0 ≤ wk.1.heap.objs.size
  old : g.base.objs.size ≤ g.n0
  ofr : ∀ e ∈ g.outer, ∀ L, e.frame = some L → L < g.n0
  os : wk.1.os = g.os
  kn : Same wk.2.2 wk.2.1
  pin : ∀ p ∈ ip, wk.1.heap.get? p.1 = some p.2 ∧ wk.2.1 p.1 = none
/-- the generator runs: j are out -/
structure Gi (g : Gd) (wk : Wk) (ip : List (Addr × Obj)) (σ : L2.St) (H : Hp) (s : Shared) : Prop where
  sz : g.n0 ≤ wk.1.heap.objs.size
  yng : ∀ p ∈ ip, g.n0 ≤ p.1
  inv : Inv (g.X wk) ip σ H s
/-- things are forgotten that were looked after -/
def Less (H H2 : Hp) : Prop := ∀ b, H2 b = H b ∨ (H2 b = none ∧ ∃ o, H b = some (.frz o (.ext fun _ => True)))
/-- what the waker gets and has to keep -/
structure Pact where
  /-- so many come -/
  n : Nat
  item : Nat → V → Hp → Hp → Prop
  /-- at the end -/
  fin : Hp → Prop
  /-- what the waker sees to -/
  on : Hp → Prop
  onS : ∀ H H', Same H H' → on H → on H'
  less : ∀ j x G H H', Less H H' → Same G H' → item j x G H → item j x G H'
  lessF : ∀ H H', Less H H' → fin H → fin H'
section
variable (g : Gd) (T : Pact)
def Got (wk : Wk) (j : Nat) (v : Value) (s : Shared) (kap : Wk → Prop) : Prop :=
  ∃ x σ ip H lo G, Gi g wk ip σ H s ∧ s.heap.get? g.n0 = some lo ∧ RelV x v ∧ T.item j x G H ∧ ExtN wk.2.1 H ∧ Same G H ∧ Grow wk.2 G ∧ ∀ wk', wk'.2.2 = G → Woke g ((g.a, g.go) :: (g.n0, lo) :: ip) wk' → T.on wk'.2.1 → kap wk'
def Gone (wk : Wk) (s : Shared) : Prop := ∃ σ ip H, Gi g wk ip σ H s ∧ ExtN wk.2.1 H ∧ T.fin H
/-- how a run that began at this wake may end, when r more have to come -/
def Fi : Nat → Wk → End → Shared → Prop
  | r, wk, .ret q, s => r = 0 ∧ (q = .ok (.ret .none) ∨ q = .ok .next) ∧ Gone g T wk s
  | 0, _, .susp .., _ => False
  | r + 1, wk, .susp v gd l k c p fs, s => (End.susp v gd l k c p fs).quiet = true ∧ Got g T wk (T.n - (r + 1)) v s fun wk' => Sg (model g.P g.w) g.A (Fi r wk') c (k (.send .none)) fs wk'.1
end
end Gn

/-! GnC: woken again; statements of a generator's body. -/
namespace Gn
open PySem PySem.Spec PyProof.Rows L2 GenW LamX
open Sem (wp)
theorem funs_cut {h base : Heap} {n : Nat} : ∀ {l : List Env}, h.FunFrames base l → (∀ e ∈ l, ∀ L, e.frame = some L → L < n) → (cutH n h).FunFrames base l
  | [], _, _ => trivial
  | e :: l, ⟨a, ⟨L, o, h1, h2, h3, h4⟩, r⟩, q => ⟨a, ⟨L, o, h1, h2, (cut_lt (q e List.mem_cons_self L h1)).trans h3, h4⟩, funs_cut r fun e' he' => q e' (List.mem_cons_of_mem _ he')⟩
/-- no name of it is a cell -/
def Plain (sc : Scope) : Prop := ∀ x, sc.names.lookup x ≠ some .cell ∧ sc.names.lookup x ≠ some .free
theorem no_cells {g : Gd} (hp : Plain g.scope) (hc : ∀ n, cellsFrom n g.scope.names [] = []) {wk : Wk} {x : Str} {c : Addr} (e : (g.X wk).env.cells.lookup x = some c) : False := by
  have q : (cellsFrom ((cutS g.n0 wk.1).heap.objs.size + 1) g.scope.names []).lookup x = some c := e
  rw [hc] at q
  cases q
/-- what a generator's def needs to be -/
structure Fit (g : Gd) : Prop where
  plain : Plain g.scope
  cells : ∀ n, cellsFrom n g.scope.names [] = []
theorem locX {g : Gd} {wk : Wk} (h : g.n0 ≤ wk.1.heap.objs.size) : (g.X wk).env.locals = g.n0 := by rw [g.envX h]; rfl
theorem woken {g : Gd} (ft : Fit g) {wk0 wk : Wk} {ip : List (Addr × Obj)} {σ : L2.St} {H : Hp} {s : Shared} {lo : Obj} (I : Gi g wk0 ip σ H s) (hlo : s.heap.get? g.n0 = some lo) (W : Woke g ((g.a, g.go) :: (g.n0, lo) :: ip) wk) : Gi g wk ip σ wk.2.1 wk.1 := by
  have l0 := locX I.sz
  have l1 := locX W.sz
  have J := I.inv
  have pl : wk.1.heap.get? g.n0 = some lo ∧ wk.2.1 g.n0 = none := W.pin _ (List.mem_cons_of_mem _ List.mem_cons_self)
  refine ⟨W.sz, I.yng, ⟨⟨W.env.mod, J.ok.kind, rfl, rfl, Nat.le_refl _, fun y z c h1 h2 => (no_cells ft.plain ft.cells h1).elim, fun y hy => ?_, fun y c _ h => (no_cells ft.plain ft.cells h).elim, fun _ => J.ok.hd rfl, Around.frames_deeper W.env.frames, .inr ⟨rfl, rfl⟩, fun b z => (by cases z), fun b o e => ?_, ?_, fun b o e z => (by cases z), fun b z => (by cases z), funs_cut W.env.funs W.ofr, W.env.frf⟩,
    rfl, W.env.bare, ?_, ?_, fun x c h => (no_cells ft.plain ft.cells h).elim, ?_, fun x c h => (no_cells ft.plain ft.cells h).elim, fun p hp => ?_, W.env.hok, J.len⟩⟩
  · rcases hy with hy | hy
    · exact absurd hy (ft.plain y).1
    · exact absurd hy (ft.plain y).2
  · obtain ⟨h1, h2⟩ := W.env.bs b o e
    exact ⟨(cut_lt (Nat.lt_of_lt_of_le (Heap.lt_size e) W.old)).trans h1, h2⟩
  · show g.base.objs.size ≤ (cutH g.n0 wk.1.heap).objs.size
    rw [cut_size W.sz]
    exact W.old
  · exact ⟨fun b o e _ _ _ => (cut_some e).2, fun b o e _ _ _ => ⟨o.slots, (cut_some e).2⟩, fun b o e n _ => n, fun b o e _ => ⟨o, (cut_some e).2⟩, fun b xs e => e, fun b o u e => e, fun b ps e => ⟨#[], by rw [show wk.2.1 b = some (.tbl ps) from e]; simp⟩⟩
  · obtain ⟨m, ns, q⟩ := J.loc
    rw [l0] at ns
    refine ⟨m, ?_, fun i x v h1 h2 h3 => ?_⟩
    · rw [l1]
      obtain ⟨o, es, ep, ho, r⟩ := ns
      rw [hlo] at ho
      cases ho
      exact ⟨lo, es, ep, pl.1, r⟩
    · obtain ⟨u, ru, lk⟩ := q i x v h1 h2 h3
      refine ⟨u, ru, ?_⟩
      rcases lk with lk | ⟨k, c, e, _⟩
      · exact .inl lk
      · exact (no_cells ft.plain ft.cells e).elim
  · rw [l1]; exact pl.2
  · obtain ⟨h1, h2, h3, h4, h5⟩ := J.pin p hp
    have hm : p ∈ (g.a, g.go) :: (g.n0, lo) :: ip := by
      rcases List.mem_append.mp hp with z | z
      · rw [List.mem_singleton.mp z]; exact List.mem_cons_self
      · exact List.mem_cons_of_mem _ (List.mem_cons_of_mem _ z)
    obtain ⟨q1, q2⟩ := W.pin p hm
    refine ⟨q1, q2, ?_, h4, h5⟩
    rw [l1]; rw [l0] at h3; exact h3
/-! ### the judgement -/
structure GE where
  nx : Hp × Hp → Nat → L2.St → Hp → Prop
  rt : Hp × Hp → Nat → VK
  bk : Hp × Hp → Nat → L2.St → Hp → Prop := fun _ _ _ _ => False
  ct : Hp × Hp → Nat → L2.St → Hp → Prop := fun _ _ _ _ => False
def GE.at (D : GE) (Hw : Hp × Hp) (j : Nat) : Ends := { nx := D.nx Hw j, rt := D.rt Hw j, bk := D.bk Hw j, ct := D.ct Hw j }
abbrev TGy := GE → Hp × Hp → Nat → L2.St → Hp → Prop
section
variable (g : Gd) (T : Pact)
def GP (wk : Wk) (ip : List (Addr × Obj)) (D : GE) (j : Nat) (f : Flow) (s : Shared) : Prop :=
  match f with
  | .next => ∃ σ H, Gi g wk ip σ H s ∧ D.nx wk.2 j σ H
  | .brk => ∃ σ H, Gi g wk ip σ H s ∧ D.bk wk.2 j σ H
  | .cont => ∃ σ H, Gi g wk ip σ H s ∧ D.ct wk.2 j σ H
  | .ret u => ∃ v σ H, Gi g wk ip σ H s ∧ RelV v u ∧ D.rt wk.2 j v H
structure GW (c : Code) (fs : List Frame) (gd : Bool → Bool) : Prop where
  over : g.A.over c fs = g.A1
  split : splitAtGen fs = none
  guard : fs.any Frame.guarded = false
  gd : gd false = false
def GK (ip : List (Addr × Obj)) (c : Code) (fs : List Frame) (K : Flow → Sem PySem.Fin) (D : GE) : Prop :=
  ∀ (r : Nat) (wk : Wk) (j : Nat) (s : Shared) (f : Flow), r + j = T.n → GP g wk ip D j f s → Sg (model g.P g.w) g.A (Fi g T r wk) c (K f) fs s
structure GS (st : Stmt) (t : TGy) : Prop where
  run : ∀ (ip : List (Addr × Obj)) (r : Nat) (wk : Wk) (j : Nat) (c : Code) (fs : List Frame) (K : Flow → Sem PySem.Fin) (J : Value → Sem PySem.Fin) (gd : Bool → Bool) (lv : List Value → List Value) (s : Shared) (σ : L2.St) (H : Hp) (D : GE),
    GW g c fs gd → r + j = T.n → GK g T ip c fs K D → Gi g wk ip σ H s → t D wk.2 j σ H → Sg (model g.P g.w) g.A (Fi g T r wk) c ((exec st g.env).wrap K J gd lv) fs s
structure GSs (st : List Stmt) (t : TGy) : Prop where
  run : ∀ (ip : List (Addr × Obj)) (r : Nat) (wk : Wk) (j : Nat) (c : Code) (fs : List Frame) (K : Flow → Sem PySem.Fin) (J : Value → Sem PySem.Fin) (gd : Bool → Bool) (lv : List Value → List Value) (s : Shared) (σ : L2.St) (H : Hp) (D : GE),
    GW g c fs gd → r + j = T.n → GK g T ip c fs K D → Gi g wk ip σ H s → t D wk.2 j σ H → Sg (model g.P g.w) g.A (Fi g T r wk) c ((execs st g.env).wrap K J gd lv) fs s
end
section
variable {g : Gd} {T : Pact} {st : Stmt} {rest : List Stmt}
theorem sp_gp {wk : Wk} {ip : List (Addr × Obj)} {D : GE} {j : Nat} {f : Flow} {s : Shared} (hz : g.n0 ≤ wk.1.heap.objs.size) (hy : ∀ p ∈ ip, g.n0 ≤ p.1) (h : SP (g.X wk) ip (D.at wk.2 j) f s) : GP g wk ip D j f s := by
  cases f with
  | next => obtain ⟨σ, H, I, q⟩ := h; exact ⟨σ, H, ⟨hz, hy, I⟩, q⟩
  | brk => obtain ⟨σ, H, I, q⟩ := h; exact ⟨σ, H, ⟨hz, hy, I⟩, q⟩
  | cont => obtain ⟨σ, H, I, q⟩ := h; exact ⟨σ, H, ⟨hz, hy, I⟩, q⟩
  | ret u => obtain ⟨v, σ, H, I, r, q⟩ := h; exact ⟨v, σ, H, ⟨hz, hy, I⟩, r, q⟩
def tPl (t : TS) : TGy := fun D Hw j σ H => t (D.at Hw j) σ H
theorem gs_ps {t : TS} (h : ∀ wk, PS (g.X wk) st t) : GS g T st (tPl t) := by
  refine ⟨fun ip r wk j c fs K J gd lv s σ H D G hn k I ht => ?_⟩
  refine sg_wrap ?_
  rw [G.over, ← g.AX I.sz, ← g.envX I.sz]
  exact wpAny_mono ((h wk).run _ s σ H (D.at wk.2 j) I.inv ht) (fun f s' hs => k r wk j s' f hn (sp_gp I.sz I.yng hs)) fun x s' hx => hx.elim
def tG0 : TGy := fun D Hw j σ H => D.nx Hw j σ H
theorem gss_nil : GSs g T [] tG0 := ⟨fun ip r wk j c fs K J gd lv s σ H D G hn k I ht => k r wk j s .next hn ⟨σ, H, I, ht⟩⟩
def tGT (t u : TGy) : TGy := fun D Hw j σ H => t { D with nx := u D } Hw j σ H
theorem gss_cons {t u : TGy} (a : GS g T st t) (b : GSs g T rest u) : GSs g T (st :: rest) (tGT t u) := by
  refine ⟨fun ip r wk j c fs K J gd lv s σ H D G hn k I ht => ?_⟩
  rw [execs_cons_wrap]
  refine a.run ip r wk j c fs _ J gd lv s σ H { D with nx := u D } G hn (fun r' wk' j' s' f hn' hs => ?_) I ht
  cases f with
  | next =>
    obtain ⟨σ', H', I', q⟩ := hs
    exact b.run ip r' wk' j' c fs K J gd lv s' σ' H' D G hn' k I' q
  | brk => exact k r' wk' j' s' .brk hn' hs
  | cont => exact k r' wk' j' s' .cont hn' hs
  | ret u => exact k r' wk' j' s' (.ret u) hn' hs
/-! ### yield -/
def tGy (T : Pact) (te : TE) : TGy := fun D Hw j σ H => te σ H fun x H1 => ExtN Hw.1 H1 ∧ j < T.n ∧ ∃ G, T.item j x G H1 ∧ Same G H1 ∧ Grow Hw G ∧ ∀ H2, Same G H2 → T.on H2 → D.nx (H2, G) (j + 1) σ H2
theorem gs_yield {e : Expr} {yp pos : Pos} {te : TE} (ft : Fit g) (he : ∀ wk, PE (g.X wk) e te) (hco : g.env.scope.isCoroutine = false := by rfl) (hi : interactive g.env = false := by rfl) : GS g T (.Expr (.Yield (some e) yp) pos) (tGy T te) := by
  refine ⟨fun ip r wk j c fs K J gd lv s σ H D G hn k I ht => ?_⟩
  rw [exec_Expr g.env _ pos hi rfl]
  show Sg _ _ _ c (.at pos fun _ => ((eval e g.env >>= fun v => (standAt yp >>= fun _ => yieldOut g.env v)) >>= fun x => dropValue (.Yield (some e) yp) pos x).wrap K J gd lv) fs s
  have hy : ∀ v, yieldOut g.env v = yieldValue v := fun v => by simp only [yieldOut, hco, Bool.false_eq_true, if_false]
  simp only [hy]
  refine sg_at ?_
  rw [Sem.bind_eq_wrap', Sem.bind_eq_wrap', Sem.wrap_wrap, Sem.wrap_wrap]
  refine sg_wrap ?_
  rw [G.over, ← g.AX I.sz, ← g.envX I.sz]
  refine wpAny_mono ((he wk).run _ s σ H _ I.inv ht) (fun v s' hv => ?_) fun x s' hx => hx.elim
  obtain ⟨x, H1, I1, rv, q0, q1, Gk, q2, q3, q5, q4⟩ := hv
  obtain ⟨r, rfl⟩ : ∃ m, r = m + 1 := ⟨r - 1, by omega⟩
  refine sg_at (sg_yield G.split fun p => ⟨?_, ?_⟩)
  · show (!(gd false || fs.any Frame.guarded)) = true
    rw [G.gd, G.guard]; rfl
  · have I1' : Gi g wk ip σ H1 s' := ⟨I.sz, I.yng, I1⟩
    obtain ⟨m, ns, _⟩ := I1.loc
    rw [locX I.sz] at ns
    obtain ⟨lo, es, ep, hlo, _⟩ := ns
    have ej : T.n - (r + 1) = j := by omega
    refine ⟨x, σ, ip, H1, lo, Gk, I1', hlo, rv, by rw [ej]; exact q2, q0, q3, q5, fun wk' eG W on => ?_⟩
    refine k r wk' (j + 1) wk'.1 .next (by omega) ⟨σ, wk'.2.1, woken ft I1' hlo W, ?_⟩
    obtain ⟨sw, Hw, Gw⟩ := wk'
    have eG2 : Gw = Gk := eG
    subst eG2
    exact q4 Hw W.kn on
end
end Gn

/-! GnD: a for in a generator's body, with yields within. -/
namespace Gn
open PySem PySem.Spec PyProof.Rows L2 GenW LamX
open Sem (wp)
section
variable {g : Gd} {T : Pact} {st : Stmt} {rest : List Stmt}
/-- what is true of an iterator's objects at every wake -/
def FpG (g : Gd) (ip : List (Addr × Obj)) (b : Addr) : Prop := b ≠ g.n0 ∧ b ∉ frs g.outer ∧ g.n0 ≤ b ∧ ∀ p ∈ (g.a, g.go) :: ip, p.1 ≠ b
theorem fpG_of {wk : Wk} {ip : List (Addr × Obj)} {H : Hp} {b : Addr} (hz : g.n0 ≤ wk.1.heap.objs.size) (h : FpOk (g.X wk) ip H b) : FpG g ip b := by
  obtain ⟨_, h2, h3, h4, _, h6⟩ := h
  rw [locX hz] at h2
  refine ⟨h2, h3, ?_, h6⟩
  rcases h4 with z | z
  · cases z
  · have q : (cutH g.n0 wk.1.heap).objs.size ≤ b := z
    rw [cut_size hz] at q
    exact q
theorem fpG_to (ft : Fit g) {wk : Wk} {ip : List (Addr × Obj)} {H : Hp} {b : Addr} (hz : g.n0 ≤ wk.1.heap.objs.size) (hn : H b = none) (h : FpG g ip b) : FpOk (g.X wk) ip H b := by
  refine ⟨hn, by rw [locX hz]; exact h.1, h.2.1, .inr ?_, fun x c e => (no_cells ft.plain ft.cells e).elim, h.2.2.2⟩
  show (cutH g.n0 wk.1.heap).objs.size ≤ b
  rw [cut_size hz]
  exact h.2.2.1
theorem gw_loop {c c' : Code} {fs : List Frame} {gd : Bool → Bool} {k : Result → Sem PySem.Fin} {l kp : List Value} {p : Pos} (G : GW g c fs gd) (hw : c'.weight = 0) (hu : c'.cUnits = 0) : GW g c' (.ret k none (gd false) l c p kp :: fs) id where
  over := (over_loop hw hu).trans G.over
  split := by
    show (splitAtGen fs).map _ = none
    rw [G.split]; rfl
  guard := by
    show (gd false || fs.any Frame.guarded) = false
    rw [G.gd, G.guard]; rfl
  gd := rfl
def tGFor (wi : TI) (gt : TG) (tb : TGy) : TGy := fun D Hw j σ H => wi σ H fun J H1 => ∃ W : Nat → Nat → Hp × Hp → Nat → L2.St → Hp → Prop, (∃ m, W 0 m Hw j σ H1) ∧ ∀ i m Hw j σ H, W i m Hw j σ H →
  (J.stop i H ∧ D.nx Hw j σ H) ∨ (J.go i H ∧ ∃ N : Hp × Hp → Nat → L2.St → Hp → Prop, (∀ Hw' j' σ' H', N Hw' j' σ' H' → ∃ m', m' < m ∧ W (i + 1) m' Hw' j' σ' H') ∧
    ∀ x H', J.yld i H x H' → gt x σ H' fun σ2 H2 => tb { D with nx := N, ct := N, bk := D.nx } Hw j σ2 H2)
theorem Gi.pinned (ft : Fit g) {wk : Wk} {ip : List (Addr × Obj)} {σ : L2.St} {H : Hp} {s : Shared} {fp : List Addr} (I : Gi g wk ip σ H s) (hf : ∀ b ∈ fp, FpG g ip b) (hn : ∀ b ∈ fp, H b = none) (ho : ∀ b ∈ fp, ∃ o, s.heap.get? b = some o ∧ ∀ v, o.data ≠ .cell v) : Gi g wk (ip ++ pinsAt fp s.heap) σ H s :=
  ⟨I.sz, fun p hp => (List.mem_append.mp hp).elim (I.yng p) fun z => (hf p.1 (of_pinsAt z).1).2.2.1, I.inv.pinned (fun b hb => fpG_to ft I.sz (hn b hb) (hf b hb)) ho⟩
theorem gs_for {tg iter : Expr} {body : List Stmt} {wi : TI} {gt : TG} {tb : TGy} {pos : Pos} (ft : Fit g) (hi : ∀ wk, PI (g.X wk) tg iter wi) (hg : ∀ wk, PG (g.X wk) tg gt) (hb : GSs g T body tb)
    (hs : ∀ x, foldedSetIterable iter g.env x = pure x := by intro _; rfl) : GS g T (.For tg iter body [] pos) (tGFor wi gt tb) := by
  refine ⟨fun ip r wk j c fs K J gd lv s σ H D G hn k I ht => ?_⟩
  rw [exec_For]
  refine sg_bind_wrap (wpAny_standAt ?_)
  refine sg_bind_wrap ?_
  rw [G.over, ← g.AX I.sz, ← g.envX I.sz]
  refine wpAny_mono ((hi wk).run _ s σ H _ I.inv ht) (fun v s1 h1 => ?_) fun x s' hx => hx.elim
  rw [g.envX I.sz]
  refine sg_bind_wrap (wpAny_of_eq (hs v) ?_)
  refine sg_bind_wrap (wpAny_standAt ?_)
  refine sg_bind_wrap (wpAny_holding ?_)
  rw [G.over, ← g.AX I.sz]
  refine wpAny_mono h1 (fun itv s2 h2 => ?_) fun x s' hx => hx.elim
  obtain ⟨it, fp, tn, J1, H2, rfl, I2, Tn, st2, f2, W, ⟨m0, w0⟩, turn⟩ := h2
  have f2' : ∀ b ∈ fp, FpG g ip b := fun b hb => fpG_of I.sz (f2 b hb)
  refine sg_call fun p => ?_
  -- the loop
  have gl := fun (kk : Result → Sem PySem.Fin) => gw_loop (k := kk) (c' := .forLoop tg (.ref it) body [] g.env) (l := lv []) (kp := []) (p := p) G rfl rfl
  have loop : ∀ (m i r j : Nat) (wk : Wk) (s : Shared) (σ : L2.St) (H : Hp), r + j = T.n → W i m wk.2 j σ H → Gi g wk ip σ H s → tn i s.heap → (∀ b ∈ fp, H b = none) →
      Sg (model g.P g.w) g.A (Fi g T r wk) (.forLoop tg (.ref it) body [] g.env) ((model g.P g.w).den (.forLoop tg (.ref it) body [] g.env))
        (.ret (fun r => ((match r with | .ok f => (.pure f : Sem Flow) | .error e => .raise e).onRaise (cameBack g.env)).wrap K J gd lv) none (gd false) (lv []) c p [] :: fs) s := by
    intro m
    induction m using Nat.strongRecOn with
    | ind m ih =>
      intro i r j wk s σ H hn w I st hf
      show Sg _ _ _ _ ((forTurn tg (.ref it) body [] g.env).onRaise (fun x => do noteFrame x g.env; theTreesLotGoes x)) _ _
      rw [Sem.onRaise_eq_wrap]
      unfold forTurn
      refine sg_bind_wrap (wpAny_standAt ?_)
      refine sg_bind_wrap ?_
      rw [(gl _).over, ← g.AX I.sz]
      have fok := fun b hb => fpG_to ft I.sz (hf b hb) (f2' b hb)
      rcases turn i m wk.2 j σ H w with ⟨stop, qn⟩ | ⟨go, N, hN, step⟩
      · refine wpAny_onRaise (wpAny_mono (Tn.done (g.X wk) rfl rfl rfl rfl i _ s σ H (fun _ _ => False) I.inv fok st stop) (fun q s4 h4 => ?_) fun x s' hx => hx.elim)
        obtain ⟨rfl, I4⟩ := h4
        refine sg_again (c' := .block [] g.env) rfl ?_
        refine sg_leaf (.ok .next) ?_
        exact k r wk j s4 .next hn ⟨σ, H, ⟨I.sz, I.yng, I4⟩, qn⟩
      · refine wpAny_onRaise (wpAny_mono (Tn.item (g.X wk) rfl rfl rfl rfl i _ s σ H (fun _ _ => False) I.inv fok st go) (fun q s4 h4 => ?_) fun x s' hx => hx.elim)
        obtain ⟨u, rfl, h4⟩ := h4
        refine sg_bind_wrap ?_
        rw [(gl _).over, ← g.AX I.sz]
        refine wpAny_mono h4 (fun _ s5 h5 => ?_) fun x s' hx => hx.elim
        obtain ⟨x, H5, I5, r5, y5, st5, fr5⟩ := h5
        have I5' := Gi.pinned ft ⟨I.sz, I.yng, I5⟩ f2' fr5 (Tn.obj _ _ st5)
        refine sg_bind_wrap ?_
        rw [(gl _).over, ← g.AX I.sz, ← g.envX I.sz]
        refine wpAny_mono ((hg wk).run _ s5 σ H5 x u _ I5'.inv r5 (step x H5 y5)) (fun _ s6 h6 => ?_) fun x s' hx => hx.elim
        obtain ⟨σ6, H6, I6, q6⟩ := h6
        rw [g.envX I.sz]
        rw [Sem.bind_eq_wrap', Sem.wrap_wrap]
        refine hb.run (ip ++ pinsAt fp s5.heap) r wk j _ _ _ _ _ _ s6 σ6 H6 _ (gl _) hn (fun r' wk' j' s7 f hn' hs => ?_) ⟨I.sz, I5'.yng, I6⟩ q6
        have again : ∀ {σ7 : L2.St} {H7 : Hp}, Gi g wk' (ip ++ pinsAt fp s5.heap) σ7 H7 s7 → N wk'.2 j' σ7 H7 → Sg (model g.P g.w) g.A (Fi g T r' wk') (.forLoop tg (.ref it) body [] g.env) (.pure (.again (.forLoop tg (.ref it) body [] g.env)))
            (.ret (fun r => ((match r with | .ok f => (.pure f : Sem Flow) | .error e => .raise e).onRaise (cameBack g.env)).wrap K J gd lv) none (gd false) (lv []) c p [] :: fs) s7 := fun {σ7 H7} I7 n7 => by
          obtain ⟨m', hm, w7⟩ := hN wk'.2 j' σ7 H7 n7
          refine sg_again rfl (ih m' hm (i + 1) r' j' wk' s7 σ7 H7 hn' w7 ⟨I7.sz, fun p hp => I7.yng p (List.mem_append_left _ hp), I7.inv.unpinned⟩ (Tn.keep _ _ _ st5 fun b hb o e => (I7.inv.pin (b, o) (List.mem_append_right _ (List.mem_append_right _ (mem_pinsAt hb e)))).1) fun b hb => ?_)
          obtain ⟨o, e, d⟩ := Tn.obj _ _ st5 b hb
          exact (I7.inv.pin (b, o) (List.mem_append_right _ (List.mem_append_right _ (mem_pinsAt hb e)))).2.1
        cases f with
        | next => obtain ⟨σ7, H7, I7, n7⟩ := hs; exact again I7 n7
        | cont => obtain ⟨σ7, H7, I7, n7⟩ := hs; exact again I7 n7
        | brk => obtain ⟨σ7, H7, I7, q7⟩ := hs; exact sg_leaf (.ok .next) (k r' wk' j' s7 .next hn' ⟨σ7, H7, ⟨I7.sz, fun p hp => I7.yng p (List.mem_append_left _ hp), I7.inv.unpinned⟩, q7⟩)
        | ret v => obtain ⟨x7, σ7, H7, I7, r7, q7⟩ := hs; exact sg_leaf (.ok (.ret v)) (k r' wk' j' s7 (.ret v) hn' ⟨x7, σ7, H7, ⟨I7.sz, fun p hp => I7.yng p (List.mem_append_left _ hp), I7.inv.unpinned⟩, r7, q7⟩)
  exact loop m0 0 r j wk s2 σ H2 hn w0 ⟨I.sz, I.yng, I2⟩ st2 fun b hb => (f2 b hb).1
end
end Gn

/-! GnE: a generator that is ready to be woken; the call of a generator def. -/
namespace Gn
open PySem PySem.Spec PyProof.Rows L2 GenW LamX
open Sem (wp)
/-- ready: r come, then the end -/
structure Ready (g : Gd) (T : Pact) (G : Hp) (pins : List (Addr × Obj)) (r : Nat) (gs : GenState) : Prop where
  bare : gs.bare = true
  run : ∀ wk, wk.2.2 = G → Woke g pins wk → T.on wk.2.1 → match gs with
    | .fresh c => Sg (model g.P g.w) g.A (Fi g T r wk) c ((model g.P g.w).den c) [] wk.1
    | .suspended k _ c _ fs _ => Sg (model g.P g.w) g.A (Fi g T r wk) c (k (.send .none)) fs wk.1
    | _ => False
/-- the body's ends -/
def endsG (T : Pact) : GE where
  nx := fun Hw j _ H => j = T.n ∧ ExtN Hw.1 H ∧ T.fin H
  rt := fun Hw j v H => v = .non ∧ j = T.n ∧ ExtN Hw.1 H ∧ T.fin H
theorem ready_fresh {g : Gd} {T : Pact} (ft : Fit g) {wk0 : Wk} {σ : L2.St} {H G : Hp} {s : Shared} {lo : Obj} {body : List Stmt} {t : TGy} (I : Gi g wk0 [] σ H s) (hlo : s.heap.get? g.n0 = some lo)
    (ht : GSs g T body t) (hq : ∀ H2, Same G H2 → T.on H2 → t (endsG T) (H2, G) 0 σ H2) : Ready g T G [(g.a, g.go), (g.n0, lo)] T.n (.fresh (.func body g.env)) := by
  refine ⟨rfl, fun wk eG W on => ?_⟩
  have I1 := woken ft I hlo W
  show Sg _ _ _ _ (.point [] fun _ => ((execs body g.env).onRaise (leaving g.env)) >>= _) [] _
  refine sg_point ?_
  rw [Sem.onRaise_eq_wrap, Sem.bind_eq_wrap', Sem.wrap_wrap]
  rw [Sem.wrap_congr (execs body g.env) _ _ (K' := fun f => .pure (.done (.ret (match f with | .ret v => v | _ => .none))))
    (H' := fun e => (leaving g.env e).wrap (fun _ => .raise e) .raise id id) (fun f => by cases f <;> rfl)
    (fun e => by rw [Sem.bind_eq_wrap, Sem.wrap_wrap]; rfl)]
  have hq1 : t (endsG T) wk.2 0 σ wk.2.1 := by
    obtain ⟨sw, Hw, Gw⟩ := wk
    have eG2 : Gw = G := eG
    subst eG2
    exact hq Hw W.kn on
  refine ht.run [] T.n wk 0 _ [] _ _ id id wk.1 σ wk.2.1 (endsG T) ⟨over_func, rfl, rfl, rfl⟩ (by omega) (fun r wk' j s' f hn hs => ?_) I1 hq1
  cases f with
  | next =>
    obtain ⟨σ', H', I', e1, e2, e3⟩ := hs
    refine sg_end (.ok (.ret .none)) ?_
    have hr : r = 0 := by omega
    subst hr
    exact ⟨rfl, .inl rfl, σ', [], H', I', e2, e3⟩
  | brk => obtain ⟨_, _, _, q⟩ := hs; exact q.elim
  | cont => obtain ⟨_, _, _, q⟩ := hs; exact q.elim
  | ret u =>
    obtain ⟨v, σ', H', I', rv, ev, e1, e2, e3⟩ := hs
    subst ev
    have eu : u = Value.none := rv
    subst eu
    refine sg_end (.ok (.ret .none)) ?_
    have hr : r = 0 := by omega
    subst hr
    exact ⟨rfl, .inl rfl, σ', [], H', I', e2, e3⟩
theorem cut_all {h : Heap} : cutH h.objs.size h = h := by
  unfold cutH
  have : h.objs.extract 0 h.objs.size = h.objs := by simp
  rw [this]
/-- a generator has been made by a call in this state -/
structure GMade (g : Gd) (s s' : Shared) (lo : Obj) (c : Code) (u : Value) : Prop where
  ref : u = .ref g.a
  n0 : g.n0 = s.heap.objs.size
  lt : g.n0 < g.a
  at_a : s'.heap.get? g.a = some g.go
  gen : g.go.cls = .type "generator" ∧ g.go.slots = #[] ∧ ∃ nm qn, g.go.data = .fields #[.int s.gens.size 0, nm, qn]
  at_n : s'.heap.get? g.n0 = some lo
  dat : ∀ v, lo.data ≠ .cell v
  gens : s'.gens = s.gens.push (.fresh c)
  os : s'.os = s.os
  kept : ∀ b o, s.heap.get? b = some o → s'.heap.get? b = some o
/-- a generator def's promise: the arguments, the heap, the pact, what it builds upon -/
abbrev SpY := List V → Hp → Pact → Hp → Prop
structure GnOk (P : Program) (w : World) (K : PySem.W.Frag) (mg : Str → Option Value) (base : Heap) (k : Nat) (f : Addr) (fd : FuncData) (ps : List Str) (sp : SpY) : Prop where
  len : ∀ vs H T G, sp vs H T G → vs.length = ps.length
  run : ∀ (A : Around) (outer : List Env) (s : Shared) (H : Hp) (args : Args) (us : List Value) (vs : List V) (T : Pact) (G : Hp), Room k A → Env0 P w K mg base A outer s H → BindsTo s fd args (ps.zip us) → Vals vs us → sp vs H T G →
    codeAny (model P w) A (.call (.ref f) args) (fun r s' => match r with
      | .ok (.ret u) => ∃ (mk : Around → Gd) (lo : Obj) (c : Code), Same G H ∧ ∀ Aw, Room k Aw → Aw.frames = some outer →
          (∃ N qual scope cd n0 a go, mk Aw = (⟨P, w, K, mg, base, N, qual, scope, f, cd, Aw, outer, n0, a, go, s.os⟩ : Gd)) ∧ GMade (mk Aw) s s' lo c u ∧ Ready (mk Aw) T G [((mk Aw).a, (mk Aw).go), ((mk Aw).n0, lo)] T.n (.fresh c)
      | _ => False) s
/-- THE RULE: a generator def, by its body -/
theorem gnok_of {P : Program} {w : World} {K : PySem.W.Frag} {mg : Str → Option Value} {base : Heap} {k : Nat} {f : Addr} {name qual : Str} {params : Arguments} {body : List Stmt} {scope : Scope} {dV kV doc pm cdv ct oc : Value} {an od : Option Addr}
    {osl : Array (Option Value)} {N ps : List Str} {sp : SpY} (lk : K.lookup f = some ⟨oc, od, .func (PySem.W.fnOf name qual params body scope dV kV doc pm an cdv ct), osl⟩) (hcd : PySem.W.codeIn K cdv qual = true) (S : GScope N ps scope)
    (pl : Plain scope) (cl : ∀ n, cellsFrom n scope.names [] = [])
    (len : ∀ vs H T G, sp vs H T G → vs.length = ps.length ∧ Same G H)
    (hbody : ∀ (g : Gd) (vs : List V) (H : Hp) (T : Pact) (G : Hp), g.P = P → g.w = w → g.K = K → g.mg = mg → g.base = base → g.N = N → g.qual = qual → g.scope = scope → Room k g.A1 → Fit g → sp vs H T G →
      ∃ t, GSs g T body t ∧ ∀ H2, Same G H2 → T.on H2 → t (endsG T) (H2, G) 0 (start N vs) H2) :
    GnOk P w K mg base (k + 1) f (PySem.W.fnOf name qual params body scope dV kV doc pm an cdv ct) ps sp := by
  refine ⟨fun vs H T G q => (len vs H T G q).1, fun A outer s H args us vs T G hr e0 hb r hsp => ?_⟩
  have hl := (len _ _ _ _ hsp).1
  have KX : K.In s.heap := e0.mod.kin.keeps fun b o e => (e0.bs b o e).1
  have lim : s.heap.NoLimit := e0.mod.nolimit.keeps fun b o e => (e0.bs b o e).1
  have hkind : ∀ y ∈ ps.zip us, scope.names.lookup y.1 = some .local ∨ (scope.names.lookup y.1 = some .cell ∧ ((cellsFrom (s.heap.objs.size + 1) scope.names []).lookup y.1).isSome = true) := fun ⟨n, v⟩ hy => by
    rcases S.par n (List.of_mem_zip hy).1 with q | q
    · exact .inl q
    · exact .inr ⟨q, PySem.W.cellsFrom_some _ _ _ (.inl q)⟩
  refine codeAny_call_generator hr.depth (KX _ _ lk) rfl S.co S.gen rfl (PySem.W.codeRec_of KX hcd) (hb _ _ _ _ ?_)
  refine wpAny_newFunctionEnv_cells S.kind hkind fun env he s1 x => ?_
  subst he
  have lim1 : s1.heap.NoLimit := lim.keeps x.toInCall.keep
  refine ⟨lim1, ?_⟩
  obtain ⟨h1, tk, es1, hk1⟩ := x.done
  have os1 : s1.os = s.os := by rw [es1]
  have gen1 : s1.gens = s.gens := by rw [es1]
  have lt1 : s.heap.objs.size < s1.heap.objs.size := x.toInCall.ns.lt
  have kp1 : ∀ b o, s.heap.get? b = some o → s1.heap.get? b = some o := x.toInCall.keep
  obtain ⟨lo, es, ep, hlo, hlod, hlor⟩ := x.toInCall.ns
  have main : ∀ (go : Obj) (nm qn : Value) (tk2 : Nat), go.cls = .type "generator" → go.data = .fields #[.int s1.gens.size 0, nm, qn] → go.slots = #[] → (∀ h : Heap, (h.push go).get? h.objs.size = some go) →
      ∃ (mk : Around → Gd) (lo : Obj) (c : Code), Same G H ∧ ∀ Aw, Room (k + 1) Aw → Aw.frames = some outer →
          (∃ N qual scope cd n0 a go, mk Aw = (⟨P, w, K, mg, base, N, qual, scope, f, cd, Aw, outer, n0, a, go, s.os⟩ : Gd)) ∧ GMade (mk Aw) s { s1 with gens := s1.gens.push (.fresh (.func body (envOfC qual scope s.heap.objs.size f cdv))), toks := tk2, heap := s1.heap.push go } lo c (.ref s1.heap.objs.size) ∧ Ready (mk Aw) T G [((mk Aw).a, (mk Aw).go), ((mk Aw).n0, lo)] T.n (.fresh c) := by
    intro go nm qn tk2 hgc hgd0 hgs hgp
    refine ⟨fun Aw => ⟨P, w, K, mg, base, N, qual, scope, f, cdv, Aw, outer, s.heap.objs.size, s1.heap.objs.size, go, s.os⟩, lo, .func body (envOfC qual scope s.heap.objs.size f cdv), (len _ _ _ _ hsp).2, fun Aw hAw hfr => ⟨⟨_, _, _, _, _, _, _, rfl⟩, ⟨rfl, rfl, lt1, hgp _, ⟨hgc, hgs, nm, qn, by rw [← gen1]; exact hgd0⟩, Heap.get?_push_of_some _ hlo, fun v z => (by rw [hlod] at z; cases z), by rw [← gen1], os1, fun b o e => Heap.get?_push_of_some _ (kp1 b o e)⟩, ?_⟩⟩
    have e0w : Env0 P w K mg base Aw outer s H := ⟨hfr, e0.mod, e0.bs, e0.bsz, e0.funs, e0.frf, e0.hok, e0.bare⟩
    have I1 : Inv (gcxOf P w K mg base N qual scope f cdv Aw outer s H C8.E0 []) [] (start N vs) H s1 := inv_startG S hAw.hd e0w hl r x
    let g : Gd := ⟨P, w, K, mg, base, N, qual, scope, f, cdv, Aw, outer, s.heap.objs.size, s1.heap.objs.size, go, s.os⟩
    let s2 : Shared := { s1 with gens := s1.gens.push (.fresh (.func body (envOfC qual scope s.heap.objs.size f cdv))), toks := tk2, heap := s1.heap.push go }
    have I2 : Inv (gcxOf P w K mg base N qual scope f cdv Aw outer s H C8.E0 []) [] (start N vs) H s2 :=
      I1.call' (ch := []) rfl (Un.kept fun b o e => Heap.get?_push_of_some _ e) (I1.hok.kept fun b o e => Heap.get?_push_of_some _ e) (AllBare.push (by rw [gen1]; exact e0.bare) rfl) fun b z => by simp at z
    have ft : Fit g := ⟨pl, cl⟩
    obtain ⟨t, ht, hq⟩ := hbody g vs H T G rfl rfl rfl rfl rfl rfl rfl rfl (hAw.deeper _) ft hsp
    have I3 : Inv (gcxOf P w K mg base N qual scope f cdv Aw outer s H C8.E0 [(s1.heap.objs.size, go)]) [] (start N vs) H s2 := by
      refine Inv.pinnedG I2 fun p hp => ?_
      have : p = (s1.heap.objs.size, go) := by simpa using hp
      subst this
      refine ⟨hgp _, I1.hok.fresh (Nat.le_refl _), Nat.ne_of_gt lt1, I1.nofs (Nat.le_refl _), fun v q => by rw [hgd0] at q; cases q⟩
    have I4 : Gi g (s, H, G) [] (start N vs) H s2 := by
      refine ⟨Nat.le_refl _, fun p hp => (by cases hp), ?_⟩
      have ec : cutS s.heap.objs.size s = s := by
        show ({ s with heap := cutH s.heap.objs.size s.heap } : Shared) = s
        rw [cut_all]
      show Inv ((cxOf C8.CX0 P w K mg base N qual scope f cdv Aw outer (cutS s.heap.objs.size s) H C8.E0).tr [(s1.heap.objs.size, go)] fun _ _ => False) [] (start N vs) H s2
      rw [ec]
      exact ⟨⟨I3.ok.mod, I3.ok.kind, I3.ok.glob, I3.ok.blt, I3.ok.above, I3.ok.inj, I3.ok.has, I3.ok.cab, I3.ok.hd, I3.ok.frames, I3.ok.stk, I3.ok.exf, I3.ok.bs, I3.ok.bsz, I3.ok.noex, I3.ok.exfs, I3.ok.funs, I3.ok.frf⟩, I3.os, I3.bare, I3.base, I3.loc, I3.cell, I3.free, I3.freeC, I3.pin, I3.hok, I3.len⟩
    exact ready_fresh (g := g) ft I4 (Heap.get?_push_of_some _ hlo) ht hq
  exact main _ _ _ _ rfl rfl rfl fun h => Heap.get?_push_size _ rfl
end Gn

/-! GnF: next of a generator; the consumer's frame behind it. -/
namespace Gn
open PySem PySem.Spec PyProof.Rows L2 GenW LamX
open Sem (wp)
/-- how a woken state goes on -/
def goesS (M : Model) (A : Around) (Φ : End → Shared → Prop) (gs : GenState) (s : Shared) : Prop := match gs with
  | .fresh c => Sg M A Φ c (M.den c) [] s
  | .suspended k _ c _ fs _ => Sg M A Φ c (k (.send .none)) fs s
  | _ => False
section
variable {M : Model}
theorem wpAny_wake {A : Around} {Φ : End → Shared → Prop} {E : Value → Shared → Prop} {s : Shared} {gn : Nat} {gs : GenState} {l : List Value} {α : Type} {k : GenResult → Sem α} {Q : α → Shared → Prop} (hg : s.gens[gn]? = some gs)
    (hgo : goesS M A Φ gs (s.setGen gn .running)) (hq : ∀ e s1, Φ e s1 → e.quiet = true)
    (hR : ∀ e s1, Φ e s1 → wpAny M A (k e.result) Q E (s1.setGen gn e.genState)) : wpAny M A (.resume gn (.send .none) l k) Q E s := by
  intro Γ p hΓ
  rw [Sem.wp_resume]
  have hB : ∀ c, (Γ.wake c p).Woken A := fun c => hΓ.wake c p
  cases gs with
  | fresh c =>
    obtain ⟨e₁, s₁, hr, he⟩ := hgo (Γ.wake c p) p rfl (hB c)
    exact ⟨_, _, by unfold Wakes; rw [hg]; exact ⟨e₁, s₁, hr, hq e₁ s₁ he, rfl, rfl⟩, hR e₁ s₁ he Γ p hΓ⟩
  | suspended k₀ l₀ c₀ p₀ fs₀ cl =>
    obtain ⟨e₁, s₁, hr, he⟩ := hgo (Γ.wake c₀ p) p₀ rfl (hB c₀)
    exact ⟨_, _, by unfold Wakes; rw [hg]; exact ⟨e₁, s₁, hr, hq e₁ s₁ he, rfl, rfl⟩, hR e₁ s₁ he Γ p hΓ⟩
  | running => exact hgo.elim
  | finished => exact hgo.elim
end
theorem fi_quiet {g : Gd} {T : Pact} : ∀ (r : Nat) (wk : Wk) (e : End) (s : Shared), Fi g T r wk e s → e.quiet = true
  | _, _, .ret _, _, _ => rfl
  | 0, _, .susp .., _, h => h.elim
  | _ + 1, _, .susp .., _, h => h.1
theorem Ready.goes {g : Gd} {T : Pact} {G : Hp} {pins : List (Addr × Obj)} {r : Nat} {gs : GenState} (R : Ready g T G pins r gs) {wk : Wk} (e : wk.2.2 = G) (W : Woke g pins wk) (on : T.on wk.2.1) : goesS (model g.P g.w) g.A (Fi g T r wk) gs wk.1 := by
  have q := R.run wk e W on
  cases gs <;> exact q
theorem wpAny_next {A : Around} {g : Gd} {T : Pact} {r gn : Nat} {gs : GenState} {wk : Wk} {s : Shared} {Q : Option Value → Shared → Prop} {E : Value → Shared → Prop} (hA : A.handled = none) (hroom : A.depth < recursionLimit) (gA : g.A = A.in1) (hl : s.heap.NoLimit)
    (hg : s.heap.IsGen g.a gn) (hgs : s.gens[gn]? = some gs) (hw : wk.1 = s.setGen gn .running) (hgo : goesS (model g.P g.w) g.A (Fi g T r wk) gs wk.1)
    (hY : ∀ m v s1 gs', r = m + 1 → gs'.bare = true → sleeps gs' = true → Got g T wk (T.n - r) v s1 (fun wk' => goesS (model g.P g.w) g.A (Fi g T m wk') gs' wk'.1) → Q (some v) (s1.setGen gn gs'))
    (hP : r = 0 → ∀ s1, Gone g T wk s1 → ∀ h', (∀ b o, s1.heap.get? b = some o → h'.get? b = some o) → Q none { s1.setGen gn .finished with heap := h' }) :
    wpAny (model g.P g.w) A (pyNext (.ref g.a)) Q E s := by
  rw [gA, hw] at hgo
  unfold pyNext
  refine wpAny_bind (wpAny_attempt (wpAny_callSpecial?_slot (name := Str.ofString "__next__") hg.typeIs slot_gen_next
    (wpAny_call_entry slot_gen_next hg.typeIs entry_gen_next ?_ (args_gen_next _))))
  show wpAny _ A.in1 (Builtin.Generator.genWake (.ref g.a) (.send .none)) _ _ s
  unfold Builtin.Generator.genWake
  refine wpAny_bind (wpAny_holding (wpAny_genNumber hg (wpAny_bind (wpAny_genState hgs ?_))))
  cases gs with
  | running => exact hgo.elim
  | finished => exact hgo.elim
  | _ =>
    refine wpAny_bind (wpAny_roomToWake hl hroom ?_)
    show wpAny _ A.in1 (.resume gn (.send .none) [] _) _ _ s
    refine wpAny_wake hgs hgo (fun e s1 he => fi_quiet _ _ _ _ he) (fun e s1 he => ?_)
    cases e with
    | ret x =>
      have he' : r = 0 ∧ (x = .ok (.ret .none) ∨ x = .ok .next) ∧ Gone g T wk s1 := by cases r <;> exact he
      obtain ⟨h0, hr, hp⟩ := he'
      have hres : End.result (.ret x) = .returned .none := by
        rcases hr with hr | hr <;> rw [hr] <;> rfl
      first | rw [hres] | simp only [hres]
      show wpAny _ A.in1 (newExc (.type "StopIteration") [] >>= _) _ _ _
      refine wpAny_bind ?_
      simp only [newExc, newTuple]
      refine wpAny_bind (wpAny_newObj_type ?_ (by size_fits))
      refine wpAny_bind (m := firstArgMember _ _) (wpAny_of_eq (a := Value.none) (by first | rfl | (simp only [firstArgMember]; rfl)) ?_)
      refine wpAny_newObj_type ?_ (by size_fits)
      simp only [raiseNew]
      refine wpAny_bind (wpAny_bind (wpAny_handled ?_))
      first | rw [show A.in1.handled = none from hA] | rw [hA]
      refine wpAny_throw ?_
      refine wpAny_bind (wpAny_isInstance (T := "StopIteration") (b := true) ⟨_, Heap.get?_push_size _ rfl, rfl⟩ isSubtype_stop ?_)
      exact wpAny_pure (hP h0 s1 hp _ fun b o hb => Heap.get?_push_of_some _ (Heap.get?_push_of_some _ hb))
    | susp v g₀ l₀ k₀ c₀ p₀ fs₀ =>
      cases r with
      | zero => exact he.elim
      | succ m =>
        exact wpAny_pure ⟨v, rfl, wpAny_pure (hY m v s1 _ rfl (End.bare_of_quiet he.1) rfl he.2)⟩
theorem obj_there {P : Program} {w : World} {H : Hp} {h : Heap} {a : Addr} {o : HO} (x : ObjOk P w H h a o) : ∃ u, h.get? a = some u := by
  cases o with
  | lst xs => obtain ⟨_, _, _, _, e⟩ := x; exact ⟨_, e⟩
  | tup xs => obtain ⟨_, _, _, o, e, _⟩ := x; exact ⟨_, e⟩
  | dK kvs => obtain ⟨_, _, _, _, o, _, _, e, _⟩ := x; exact ⟨_, e⟩
  | dT kvs => obtain ⟨_, _, _, _, o, _, _, e, _⟩ := x; exact ⟨_, e⟩
  | set S n => obtain ⟨o, _, _, _, e, _⟩ := x; exact ⟨_, e⟩
  | ins C dx fs => obtain ⟨_, _, _, e, _⟩ := x; exact ⟨_, e⟩
  | own y => obtain ⟨_, e⟩ := x; exact ⟨_, e⟩
  | xd fs => obtain ⟨_, ⟨_, _, _, e, _⟩, _⟩ := x; exact ⟨_, e⟩
  | rng lo hi => obtain ⟨_, _, _, e⟩ := x; exact ⟨_, e⟩
  | frz ob u => obtain ⟨e, _⟩ := x; exact ⟨_, e⟩
  | tbl ps => exact ⟨_, show h.get? a = some _ from x⟩
  | met f y => exact ⟨_, show h.get? a = some _ from x⟩
  | ext φ => obtain ⟨_, ⟨_, e⟩, _⟩ := x; exact ⟨_, e⟩
/-- the consumer's frame, and a generator made in it -/
structure Held (X : Cx) (g : Gd) : Prop where
  P : g.P = X.prog
  w : g.w = X.w
  K : g.K = X.K
  mg : g.mg = X.mg
  base : g.base = X.base
  fr : g.A.frames = some g.outer
  out : g.outer = X.stack
  os : g.os = X.s_0.os
  old : X.base.objs.size ≤ g.n0
  frl : ∀ b ∈ frs X.stack, b < g.n0
  fre : ∀ b, g.n0 ≤ b → b < X.s_0.heap.objs.size → b ∉ X.ex → ∃ o, X.s_0.heap.get? b = some o
/-- what is nobody's and young is looked after while the generator runs; q: its own -/
def guardH (n0 : Nat) (h : Heap) (q : List (Addr × Obj)) (H : Hp) : Hp := fun b => match H b with
  | some u => some u
  | none => if n0 ≤ b ∧ ∀ p ∈ q, p.1 ≠ b then (h.get? b).map fun o => .frz o (.ext fun _ => True) else none
section
variable {n0 : Nat} {h : Heap} {q : List (Addr × Obj)} {H H' : Hp}
theorem guard_same : Same H (guardH n0 h q H) := fun b o e => by unfold guardH; rw [e]
theorem guard_low {b : Addr} (e : H b = none) (l : b < n0) : guardH n0 h q H b = none := by
  unfold guardH
  rw [e]
  exact if_neg fun z => absurd l (Nat.not_lt.mpr z.1)
theorem guard_own {b : Addr} (e : H b = none) {p : Addr × Obj} (hp : p ∈ q) (l : p.1 = b) : guardH n0 h q H b = none := by
  unfold guardH
  rw [e]
  exact if_neg fun z => z.2 p hp l
theorem guard_high {b : Addr} {o : Obj} (e : H b = none) (l : n0 ≤ b) (n : ∀ p ∈ q, p.1 ≠ b) (ho : h.get? b = some o) : guardH n0 h q H b = some (.frz o (.ext fun _ => True)) := by
  unfold guardH
  rw [e]
  show (if n0 ≤ b ∧ ∀ p ∈ q, p.1 ≠ b then (h.get? b).map fun o => HO.frz o (.ext fun _ => True) else none) = _
  rw [if_pos ⟨l, n⟩, ho]
  rfl
theorem guard_cases (b : Addr) : guardH n0 h q H b = H b ∨ (H b = none ∧ ∃ o, h.get? b = some o ∧ guardH n0 h q H b = some (.frz o (.ext fun _ => True))) := by
  cases e : H b with
  | some u => exact .inl (guard_same b u e)
  | none =>
    by_cases z : n0 ≤ b ∧ ∀ p ∈ q, p.1 ≠ b
    · cases ho : h.get? b with
      | none =>
        refine .inl ?_
        unfold guardH
        rw [e]
        show (if n0 ≤ b ∧ ∀ p ∈ q, p.1 ≠ b then (h.get? b).map fun o => HO.frz o (.ext fun _ => True) else none) = _
        rw [if_pos z, ho]
        rfl
      | some o => exact .inr ⟨rfl, o, rfl, guard_high e z.1 z.2 ho⟩
    · refine .inl ?_
      unfold guardH
      rw [e]
      exact if_neg z
theorem guard_ok {P : Program} {w : World} (ok : HOk P w H h) : HOk P w (guardH n0 h q H) h := fun b u e => by
  rcases guard_cases (n0 := n0) (h := h) (q := q) (H := H) b with z | ⟨_, o, ho, z⟩
  · rw [z] at e
    exact (ok b u e).stay (fun _ _ _ z => z) (fun c r => guard_same _ _ r) fun c xs r => guard_same _ _ r
  · rw [z] at e
    cases e
    exact ⟨ho, trivial, ⟨o, ho⟩, fun _ _ _ _ => trivial⟩
/-- what was looked after is forgotten -/
def lessH (n0 : Nat) (h : Heap) (q : List (Addr × Obj)) (H H' : Hp) : Hp := fun b => if H b = none ∧ guardH n0 h q H b ≠ none then none else H' b
theorem less_at {b : Addr} (n : ¬ (H b = none ∧ guardH n0 h q H b ≠ none)) : lessH n0 h q H H' b = H' b := by unfold lessH; exact if_neg n
theorem less_known {b : Addr} {u : HO} (e : H b = some u) : lessH n0 h q H H' b = H' b := less_at fun z => by rw [e] at z; cases z.1
theorem less_none {b : Addr} (e : H' b = none) : lessH n0 h q H H' b = none := by
  unfold lessH
  split
  · rfl
  · exact e
theorem less_less (ext : ExtN (guardH n0 h q H) H') : Less H' (lessH n0 h q H H') := fun b => by
  by_cases z : H b = none ∧ guardH n0 h q H b ≠ none
  · refine .inr ⟨by unfold lessH; exact if_pos z, ?_⟩
    rcases guard_cases (n0 := n0) (h := h) (q := q) (H := H) b with y | ⟨_, o, _, y⟩
    · exact absurd (y.trans z.1) z.2
    · exact ⟨o, ext b _ y fun ps r => by cases r⟩
  · exact .inl (less_at z)
theorem less_ok {P : Program} {w : World} {h1 : Heap} (ext : ExtN (guardH n0 h q H) H') (ok : HOk P w H' h1) : HOk P w (lessH n0 h q H H') h1 := fun b u e => by
  have old : ∀ c v, H' c = some v → (∀ o, v ≠ .frz o (.ext fun _ => True)) → lessH n0 h q H H' c = some v := fun c v r nf => by
    rcases less_less ext c with z | ⟨_, o, z⟩
    · rw [z]; exact r
    · rw [r] at z
      exact absurd (Option.some.inj z) (nf o)
  have e' : H' b = some u := by
    rcases less_less ext b with z | ⟨z, _⟩
    · rw [← z]; exact e
    · rw [z] at e; cases e
  exact (ok b u e').stay (fun _ _ _ z => z) (fun c r => old _ _ r fun o z => by cases z) fun c xs r => old _ _ r fun o z => by cases z
theorem less_grow {G G' : Hp} (sm : Same G H) (sm' : Same G' H') (gr : Grow (guardH n0 h q H, G) G') : Same G' (lessH n0 h q H H') ∧ Grow (H, G) G' := by
  have key : ∀ p, G' p ≠ none → G p ≠ none ∨ H p = none ∧ guardH n0 h q H p = none ∨ ∃ ps, H p = some (.tbl ps) := fun p e => by
    rcases gr.2 p e with z | z | ⟨ps, z⟩
    · exact .inl z
    · refine .inr (.inl ⟨?_, z⟩)
      cases y : H p with
      | none => rfl
      | some u =>
        have z2 : guardH n0 h q H p = none := z
        rw [guard_same p u y] at z2
        cases z2
    · refine .inr (.inr ⟨ps, ?_⟩)
      rcases guard_cases (n0 := n0) (h := h) (q := q) (H := H) p with y | ⟨_, o, _, y⟩
      · rw [← y]; exact z
      · rw [show guardH n0 h q H p = some (.tbl ps) from z] at y; cases y
  refine ⟨fun b o e => ?_, gr.1, fun p e => (key p e).elim .inl fun z => .inr (z.elim (fun z => .inl z.1) .inr)⟩
  rw [less_at]
  · exact sm' b o e
  · intro z
    rcases key b (by rw [e]; simp) with y | ⟨_, y⟩ | ⟨ps, y⟩
    · cases r : G b with
      | none => exact y r
      | some u => rw [sm b u r] at z; cases z.1
    · exact z.2 y
    · rw [y] at z; cases z.1
theorem less_ext (ext : ExtN (guardH n0 h q H) H') : ExtN H (lessH n0 h q H H') := fun b o e nt => by
  rw [less_known e]
  exact ext b o (guard_same b o e) nt
end
section
variable {X : Cx} {pins : List (Addr × Obj)} {g : Gd}
theorem Held.woke (h : Held X g) {q : List (Addr × Obj)} {σ : L2.St} {H G : Hp} {s : Shared} {gn : Nat} (I : Inv X pins σ H s) (kn : Same G H) (hsz : g.n0 ≤ s.heap.objs.size) (hp : ∀ p ∈ q, s.heap.get? p.1 = some p.2 ∧ H p.1 = none) :
    Woke g q (s.setGen gn .running, guardH g.n0 s.heap q H, G) := by
  have e0 := I.env0
  refine ⟨?_, hsz, ?_, ?_, ?_, kn.trans guard_same, fun p hm => ⟨(hp p hm).1, guard_own (hp p hm).2 hm rfl⟩⟩
  · have fr := h.fr
    rw [h.out] at fr
    rw [h.P, h.w, h.K, h.mg, h.base, h.out]
    exact ⟨fr, e0.mod, fun b o e => ⟨(e0.bs b o e).1, guard_low (e0.bs b o e).2 (Nat.lt_of_lt_of_le (Heap.lt_size e) h.old)⟩, e0.bsz, e0.funs, fun b hb => guard_low (e0.frf b hb) (h.frl b hb), guard_ok e0.hok, allBare_setGen e0.bare rfl⟩
  · rw [h.base]
    exact h.old
  · rw [h.out]
    exact fun e he L hL => h.frl L (List.mem_filterMap.mpr ⟨e, he, hL⟩)
  · rw [h.os]; exact I.os
/-- behind a wake: the consumer's frame -/
theorem Held.back (h : Held X g) {q ip : List (Addr × Obj)} {σ σg : L2.St} {H G H' : Hp} {s s1 s2 : Shared} {gn : Nat} (I : Inv X pins σ H s) (hq : ∀ p ∈ q, FpOk X pins H p.1) (J : Gi g (s.setGen gn .running, guardH g.n0 s.heap q H, G) ip σg H' s1) (ext : ExtN (guardH g.n0 s.heap q H) H')
    (hs2 : s2.os = s1.os ∧ AllBare s2.gens) (kp : ∀ b o, s1.heap.get? b = some o → s2.heap.get? b = some o) : Inv X pins σ (lessH g.n0 s.heap q H H') s2 := by
  obtain ⟨hsz, hy, J⟩ := J
  have un0 : Un (frs X.stack) [] (guardH g.n0 s.heap q H) H' (cutH g.n0 s.heap) s1.heap := by
    have q0 := J.base
    have q2 : Un (frs g.outer) (g.X (s.setGen gn .running, guardH g.n0 s.heap q H, G)).ex (guardH g.n0 s.heap q H) H' (cutH g.n0 s.heap) s1.heap := q0
    rw [h.out] at q2
    exact q2
  have hok : HOk X.prog X.w H' s1.heap := by
    have q0 : HOk g.P g.w H' s1.heap := J.hok
    rw [h.P, h.w] at q0
    exact q0
  have hn : ∀ b : Addr, b ∉ ([] : List Addr) := fun b z => by cases z
  -- young, nobody's, not its own: as it was
  have safe : ∀ b o, s.heap.get? b = some o → H b = none → g.n0 ≤ b → b ∉ q.map Prod.fst → s1.heap.get? b = some o ∧ guardH g.n0 s.heap q H b ≠ none := fun b o e n l nq => by
    have e1 : guardH g.n0 s.heap q H b = some (.frz o (.ext fun _ => True)) := guard_high n l (fun p hp z => nq (List.mem_map.mpr ⟨p, hp, z⟩)) e
    exact ⟨(hok b _ (ext b _ e1 fun ps r => by cases r)).1, by rw [e1]; simp⟩
  have un : Un (frs X.stack) (q.map Prod.fst) H (lessH g.n0 s.heap q H H') s.heap s1.heap := by
    refine ⟨fun b o e n hb hc => ?_, fun b o e n hb hc => ?_, fun b o e n hc => ?_, fun b o e hc => ?_, fun b xs e => ?_, fun b o u e => ?_, fun b ps e => ?_⟩
    · rcases Nat.lt_or_ge b g.n0 with l | l
      · exact un0.keep b o ((cut_lt l).trans e) (guard_low n l) hb (hn b)
      · exact (safe b o e n l hc).1
    · have l := h.frl b hb
      exact un0.slot b o ((cut_lt l).trans e) (guard_low n l) hb (hn b)
    · rcases Nat.lt_or_ge b g.n0 with l | l
      · exact less_none (un0.free b o ((cut_lt l).trans e) (guard_low n l) (hn b))
      · have z := (safe b o e n l hc).2
        unfold lessH
        exact if_pos ⟨n, z⟩
    · rcases Nat.lt_or_ge b g.n0 with l | l
      · exact un0.there b o ((cut_lt l).trans e) (hn b)
      · cases r : H b with
        | none => exact ⟨o, (safe b o e r l hc).1⟩
        | some u =>
          by_cases z : ∃ ps, u = .tbl ps
          · obtain ⟨ps, rfl⟩ := z
            obtain ⟨more, q2⟩ := un0.tbls b ps (guard_same _ _ r)
            exact obj_there (hok _ _ q2)
          · exact obj_there (hok _ _ (ext b u (guard_same _ _ r) fun ps y => z ⟨ps, y⟩))
    · rw [less_known e]
      exact un0.tups b xs (guard_same _ _ e)
    · rw [less_known e]
      exact un0.frzs b o u (guard_same _ _ e)
    · rw [less_known e]
      exact un0.tbls b ps (guard_same _ _ e)
  refine I.call' (ch := q.map Prod.fst) (hs2.1.trans J.os) (un.trans (Un.kept kp)) ((less_ok ext hok).kept kp) hs2.2 fun b hb => ?_
  obtain ⟨p, hp, rfl⟩ := List.mem_map.mp hb
  obtain ⟨_, f1, _, f3, f4, f5⟩ := hq p hp
  exact ⟨f3, f1, f4, f5⟩
end
end Gn

/-! GnG: a for over a generator. -/
namespace Gn
open PySem PySem.Spec PyProof.Rows L2 GenW LamX
open Sem (wp)
/-- what an exception leaves says nothing of sleeping generators -/
def XG (X : Cx) : Prop := ∀ (O : Nat → Option GenState) (G : Array GenState) (e : Value) (s : Shared), Two O s.gens G → X.xe e s → X.xe e { s with gens := G }
theorem xg_not {X : Cx} (h : ∀ e s, ¬ X.xe e s) : XG X := fun O G e s _ q => (h e s q).elim
/-- the generator's object is a generator's -/
structure GObj (g : Gd) (gn : Nat) : Prop where
  cls : g.go.cls = .type "generator"
  slots : g.go.slots = #[]
  dat : ∃ nm qn, g.go.data = .fields #[.int gn 0, nm, qn]
theorem GObj.is {g : Gd} {gn : Nat} (o : GObj g gn) {h : Heap} (e : h.get? g.a = some g.go) : h.IsGen g.a gn := by
  obtain ⟨nm, qn, d⟩ := o.dat
  exact ⟨g.go, nm, qn, e, o.cls, d, o.slots⟩
/-- a generator sleeps in the consumer's frame; r come -/
structure Slp (X : Cx) (pins : List (Addr × Obj)) (g : Gd) (T : Pact) (gn r : Nat) (G : Hp) (gs : GenState) (q : List (Addr × Obj)) (σ : L2.St) (H : Hp) (s : Shared) : Prop where
  held : Held X g
  obj : GObj g gn
  lt : g.n0 < g.a
  sz : g.n0 ≤ s.heap.objs.size
  at_ : s.gens[gn]? = some gs
  rdy : Ready g T G q r gs
  mem : (g.a, g.go) ∈ q
  mem2 : ∃ lo, (g.n0, lo) ∈ q
  /-- its own things -/
  own : ∀ p ∈ q, (p.1 ∈ X.ex ∨ X.s_0.heap.objs.size ≤ p.1) ∧ (∀ x c, X.env.cells.lookup x = some c → c ≠ p.1) ∧ (∀ p' ∈ X.pn ++ pins, p'.1 ≠ p.1) ∧ g.n0 ≤ p.1
  inv : Inv X (pins ++ q) σ H s
section
variable {X : Cx} {pins : List (Addr × Obj)} {g : Gd} {T : Pact} {gn r : Nat} {G : Hp} {gs : GenState} {q : List (Addr × Obj)} {σ : L2.St} {H : Hp} {s : Shared}
theorem Slp.pin (L : Slp X pins g T gn r G gs q σ H s) {p : Addr × Obj} (hp : p ∈ q) : s.heap.get? p.1 = some p.2 ∧ H p.1 = none ∧ p.1 ≠ X.env.locals ∧ p.1 ∉ X.fs ∧ ∀ v, p.2.data ≠ .cell v := L.inv.pin p (List.mem_append_right _ (List.mem_append_right _ hp))
theorem Slp.isgen (L : Slp X pins g T gn r G gs q σ H s) : s.heap.IsGen g.a gn := L.obj.is (L.pin L.mem).1
theorem Slp.fpOk (L : Slp X pins g T gn r G gs q σ H s) : ∀ p ∈ q, FpOk X pins H p.1 := fun p hp => by
  obtain ⟨_, h2, h3, h4, _⟩ := L.pin hp
  obtain ⟨y1, y2, y3, _⟩ := L.own p hp
  exact ⟨h2, h3, h4, y1, y2, y3⟩
abbrev Slp.wk (_ : Slp X pins g T gn r G gs q σ H s) : Wk := (s.setGen gn .running, guardH g.n0 s.heap q H, G)
theorem Slp.woke (L : Slp X pins g T gn r G gs q σ H s) (kn : Same G H) : Woke g q L.wk := L.held.woke L.inv.unpinned kn L.sz fun p hp => ⟨(L.pin hp).1, (L.pin hp).2.1⟩
theorem Slp.goes (L : Slp X pins g T gn r G gs q σ H s) (kn : Same G H) (on : T.on H) : goesS (model g.P g.w) g.A (Fi g T r L.wk) gs (s.setGen gn .running) :=
  L.rdy.goes (wk := L.wk) rfl (L.woke kn) (T.onS _ _ guard_same on)
/-- next, an item -/
theorem slp_item {A : Around} {m : Nat} {E : Value → Shared → Prop} (L : Slp X pins g T gn (m + 1) G gs q σ H s) (kn : Same G H) (on : T.on H) (hh : A.handled = none) (hr : A.depth < recursionLimit) (gA : g.A = A.in1) :
    wpAny (model X.prog X.w) A (pyNext (.ref g.a)) (fun o s' => ∃ u x H' G' gs' q', o = some u ∧ RelV x u ∧ sleeps gs' = true ∧ Slp X pins g T gn m G' gs' q' σ H' s' ∧ T.item (T.n - (m + 1)) x G' H' ∧ ExtN H H' ∧ Same G' H' ∧ Grow (H, G) G') E s := by
  have hd := L.held
  have hgl : gn < s.gens.size := (Array.getElem?_eq_some_iff.mp L.at_).1
  rw [← hd.P, ← hd.w]
  refine wpAny_gsz (n := gn + 1) hgl (wpAny_next (wk := L.wk) hh hr gA L.inv.nolimit L.isgen L.at_ rfl (L.goes kn on) (fun m' v s1 gs' em hb hs hgot => ?_) fun h0 => by cases h0)
  intro hsz
  have e : m' = m := by omega
  subst e
  obtain ⟨x, σ', ip, H', lo, G', J, hlo, rv, it, ext, sm, gr, kap⟩ := hgot
  have ext : ExtN (guardH g.n0 s.heap q H) H' := ext
  have gr : Grow (guardH g.n0 s.heap q H, G) G' := gr
  have hsz1 : gn < s1.gens.size := by
    have q : (s1.setGen gn gs').gens.size = s1.gens.size := setGen_size _ _ _
    have hsz' : gn + 1 ≤ (s1.setGen gn gs').gens.size := hsz
    omega
  have hbare : AllBare (s1.setGen gn gs').gens := allBare_setGen J.inv.bare hb
  have I2 : Inv X pins σ (lessH g.n0 s.heap q H H') (s1.setGen gn gs') := hd.back L.inv.unpinned L.fpOk J ext ⟨rfl, hbare⟩ fun b o e => e
  obtain ⟨sm2, gr2⟩ := less_grow kn sm gr
  have J' := J.inv
  have fr0 : H' g.n0 = none := by
    have := J'.free
    rw [locX J.sz] at this
    exact this
  -- an own thing of the generator's is an old own thing or new
  have known : ∀ b, H' b = none → H b = none := fun b e => by
    cases y : H b with
    | none => rfl
    | some u =>
      by_cases z : ∃ ps, u = .tbl ps
      · obtain ⟨ps, rfl⟩ := z
        obtain ⟨more, q2⟩ := J'.base.tbls b ps (guard_same _ _ y)
        rw [e] at q2; cases q2
      · have q2 := ext b u (guard_same _ _ y) fun ps y => z ⟨ps, y⟩
        rw [e] at q2; cases q2
  have ownNew : ∀ b, H' b = none → g.n0 ≤ b → (b ≠ X.env.locals ∧ b ∉ X.fs) ∧ (b ∈ X.ex ∨ X.s_0.heap.objs.size ≤ b) ∧ (∀ x c, X.env.cells.lookup x = some c → c ≠ b) ∧ (∀ p' ∈ X.pn ++ pins, p'.1 ≠ b) ∧ g.n0 ≤ b := fun b e l => by
    cases ho : s.heap.get? b with
    | some o =>
      by_cases z : ∃ p ∈ q, p.1 = b
      · obtain ⟨p, hp, rfl⟩ := z
        obtain ⟨_, _, h3, h4, _⟩ := L.pin hp
        exact ⟨⟨h3, h4⟩, L.own p hp⟩
      · have e1 : guardH g.n0 s.heap q H b = some (.frz o (.ext fun _ => True)) := guard_high (known b e) l (fun p hp y => z ⟨p, hp, y⟩) ho
        have q2 := ext b _ e1 fun ps y => by cases y
        rw [e] at q2; cases q2
    | none =>
      have I0 : Inv X pins σ H s := L.inv.unpinned
      refine ⟨⟨fun z => ?_, fun z => ?_⟩, ?_, fun x c hc z => ?_, fun p' hp' z => ?_, l⟩
      · obtain ⟨mm, ⟨o, es, ep, ho', _⟩, _⟩ := I0.loc
        rw [← z, ho] at ho'; cases ho'
      · obtain ⟨_, o, ho', _⟩ := I0.funs.mem z
        rw [ho] at ho'; cases ho'
      · by_cases y : b ∈ X.ex
        · exact .inl y
        · refine .inr (Nat.le_of_not_lt fun lt => ?_)
          obtain ⟨o, e0⟩ := hd.fre b l lt y
          obtain ⟨o', e1⟩ := I0.base.there b o e0 y
          rw [ho] at e1; cases e1
      · obtain ⟨v, o, ho', _⟩ := I0.cell x c hc
        rw [z, ho] at ho'; cases ho'
      · have e1 := (I0.pin p' hp').1
        rw [z, ho] at e1; cases e1
  have all : ∀ p ∈ (g.a, g.go) :: (g.n0, lo) :: ip, s1.heap.get? p.1 = some p.2 ∧ H' p.1 = none ∧ g.n0 ≤ p.1 ∧ ∀ v, p.2.data ≠ .cell v := fun p z => by
    have viaJ : p ∈ (g.a, g.go) :: ip → s1.heap.get? p.1 = some p.2 ∧ H' p.1 = none ∧ ∀ v, p.2.data ≠ .cell v := fun hm => by
      obtain ⟨h1, h2, h3, h4, h5⟩ := J'.pin p (by
        show p ∈ [(g.a, g.go)] ++ ip
        exact hm)
      exact ⟨h1, h2, h5⟩
    rcases List.mem_cons.mp z with z | z
    · obtain ⟨h1, h2, h3⟩ := viaJ (z ▸ List.mem_cons_self)
      exact ⟨h1, h2, by rw [z]; exact Nat.le_of_lt L.lt, h3⟩
    · rcases List.mem_cons.mp z with z | z
      · subst z
        refine ⟨hlo, fr0, Nat.le_refl _, ?_⟩
        obtain ⟨mm, ns, _⟩ := J'.loc
        rw [locX J.sz] at ns
        obtain ⟨o, es, ep, ho, hod, _⟩ := ns
        rw [hlo] at ho
        cases ho
        intro v z
        rw [hod] at z
        cases z
      · obtain ⟨h1, h2, h3⟩ := viaJ (List.mem_cons_of_mem _ z)
        exact ⟨h1, h2, J.yng p z, h3⟩
  have I3 : Inv X (pins ++ ((g.a, g.go) :: (g.n0, lo) :: ip)) σ (lessH g.n0 s.heap q H H') (s1.setGen gn gs') := I2.pins_of fun p hp => by
    rcases List.mem_append.mp hp with z | z
    · exact I2.pin p (List.mem_append_right _ z)
    · obtain ⟨h1, h2, h3, h4⟩ := all p z
      obtain ⟨⟨y1, y2⟩, _⟩ := ownNew p.1 h2 h3
      exact ⟨h1, less_none h2, y1, y2, h4⟩
  refine ⟨v, x, lessH g.n0 s.heap q H H', G', gs', _, rfl, rv, hs, ⟨hd, L.obj, L.lt, Nat.le_of_lt (Heap.lt_size hlo), setGen_at hsz1, ⟨hb, fun wk eG W on => ?_⟩, List.mem_cons_self, ⟨lo, List.mem_cons_of_mem _ List.mem_cons_self⟩, fun p hp => ?_, I3⟩, T.less _ _ _ _ _ (less_less ext) sm2 it, less_ext ext, sm2, gr2⟩
  · have := kap wk eG W on
    cases gs' <;> exact this
  · obtain ⟨h1, h2, h3, h4⟩ := all p hp
    exact (ownNew p.1 h2 h3).2
/-- next, the end -/
theorem slp_done {A : Around} {E : Value → Shared → Prop} (L : Slp X pins g T gn 0 G gs q σ H s) (kn : Same G H) (on : T.on H) (hh : A.handled = none) (hr : A.depth < recursionLimit) (gA : g.A = A.in1) :
    wpAny (model X.prog X.w) A (pyNext (.ref g.a)) (fun o s' => o = none ∧ ∃ H', Inv X pins σ H' s' ∧ ExtN H H' ∧ T.fin H') E s := by
  have hd := L.held
  rw [← hd.P, ← hd.w]
  refine wpAny_next (wk := L.wk) hh hr gA L.inv.nolimit L.isgen L.at_ rfl (L.goes kn on) (fun m' v s1 gs' em hb hs hgot => by cases em) fun h0 s1 hg h' hk => ?_
  obtain ⟨σ', ip, H', J, ext, fin⟩ := hg
  have ext : ExtN (guardH g.n0 s.heap q H) H' := ext
  exact ⟨rfl, lessH g.n0 s.heap q H H', hd.back L.inv.unpinned L.fpOk J ext ⟨rfl, allBare_setGen J.inv.bare rfl⟩ hk, less_ext ext, T.lessF _ _ (less_less ext) fin⟩
/-- whatever is run leaves it asleep -/
theorem slp_two {α : Type} {t : Sem α} {Q : α → Shared → Prop} {R : L2.St → Hp → α → Prop} (L : Slp X pins g T gn r G gs q σ H s) (hs : sleeps gs = true) (hx : XG X)
    (run : ∀ s0, Inv X (pins ++ q) σ H s0 → wpAny (model X.prog X.w) X.A t (fun a s' => ∃ σ' H', Inv X (pins ++ q) σ' H' s' ∧ R σ' H' a) X.xe s0)
    (hQ : ∀ a s' σ' H', Slp X pins g T gn r G gs q σ' H' s' → R σ' H' a → Q a s') : wpAny (model X.prog X.w) X.A t Q X.xe s := by
  have I0 : Inv X (pins ++ q) σ H { s with gens := poisAll s.gens } := by
    obtain ⟨h1, h2, h3, h4, h5, h6, h7, h8, h9, h10, h11⟩ := L.inv
    exact ⟨h1, h2, poisAll_bare h3, h4, h5, h6, h7, h8, h9, h10, h11⟩
  refine wpAny_mono (wpAny_two (run _ I0)) (fun a s' h => ?_) fun e s' h => ?_
  · obtain ⟨s1, ⟨σ', H', I1, ra⟩, tw, es⟩ := h
    refine hQ a s' σ' H' ⟨L.held, L.obj, L.lt, ?_, (tw.slp gn gs (slept_at L.at_ hs)).2.2, L.rdy, L.mem, L.mem2, L.own, ?_⟩ ra
    · have I2 : Inv X (pins ++ q) σ' H' s1 := I1
      have e2 : s'.heap = s1.heap := by rw [es]
      rw [e2]
      have := (I2.pin (g.a, g.go) (List.mem_append_right _ (List.mem_append_right _ L.mem))).1
      exact Nat.le_trans (Nat.le_of_lt L.lt) (Nat.le_of_lt (Heap.lt_size this))
    · obtain ⟨h1, h2, h3, h4, h5, h6, h7, h8, h9, h10, h11⟩ := I1
      rw [es]
      exact ⟨h1, h2, tw.bare h3, h4, h5, h6, h7, h8, h9, h10, h11⟩
  · obtain ⟨s1, hx1, tw, es⟩ := h
    rw [es]
    exact hx _ _ e s1 tw hx1
end
abbrev TGn := L2.St → Hp → (Pact → Hp → Hp → Prop) → Prop
/-- an expression that makes a generator -/
structure PGn (X : Cx) (k : Nat) (e : Expr) (wg : TGn) : Prop where
  run : ∀ (pins : List (Addr × Obj)) (s : Shared) (σ : L2.St) (H : Hp) (R : Pact → Hp → Hp → Prop), Inv X pins σ H s → wg σ H R →
    wpAny (model X.prog X.w) X.A (eval e X.env) (fun v s1 => ∃ (mk : Around → Gd) (T : Pact) (gn : Nat) (G : Hp) (gs : GenState) (q : Around → List (Addr × Obj)) (H1 : Hp) (a : Addr), v = .ref a ∧ (∀ Aw, Room k Aw → Aw.frames = some X.stack → (mk Aw).A = Aw ∧ (mk Aw).a = a ∧ Slp X pins (mk Aw) T gn T.n G gs (q Aw) σ H1 s1) ∧ Same G H1 ∧ R T G H1) X.xe s
def tForG (wg : TGn) (gt : TG) (tb : TS) : TS := fun D σ H => wg σ H fun T G H1 => ∃ W : Nat → Hp → L2.St → Hp → Prop, W 0 G σ H1 ∧ ∀ i G σ H, Same G H → W i G σ H → T.on H ∧ (
  (i = T.n ∧ ∀ H', ExtN H H' → T.fin H' → D.nx σ H') ∨ (i < T.n ∧ ∀ x G' H', ExtN H H' → Grow (H, G) G' → Same G' H' → T.item i x G' H' →
    gt x σ H' fun σ2 H2 => tb { D with nx := fun σ3 H3 => Same G' H3 ∧ W (i + 1) G' σ3 H3, ct := fun σ3 H3 => Same G' H3 ∧ W (i + 1) G' σ3 H3, bk := D.nx } σ2 H2))
section
variable {X : Cx}
theorem ps_forG {tg iter : Expr} {body : List Stmt} {wg : TGn} {gt : TG} {tb : TS} {pos : Pos} (hp : PassesOwn (model X.prog X.w) X.A X.env X.xe) (hc : X.calm = true) {k : Nat} (hr : Room (k + 1) X.A) (hx : XG X) (hi : PGn X k iter wg) (hg : PG X tg gt) (hb : PSs X body tb)
    (hs : ∀ x, foldedSetIterable iter X.env x = pure x := by intro _; rfl) : PS X (.For tg iter body [] pos) (tForG wg gt tb) := by
  refine ⟨fun pins s σ H D I h => ?_⟩
  refine wpAny_For (thn (hi.run pins s σ H _ I h) fun v s1 h1 => ?_) hs
  obtain ⟨mk, T, gn, G, gs, q, H1, a, rfl, Lm, sm, W, w0, turn⟩ := h1
  obtain ⟨gA, ea, L⟩ := Lm X.A.in1 hr.in1 I.ok.frames
  have hh := I.ok.hd hc
  have hdep := hr.depth
  subst ea
  generalize q X.A.in1 = q at L
  generalize mk X.A.in1 = g at L gA
  refine wpAny_pyIter_gen L.isgen ?_
  refine codeAny_forLoop_any (fun n s' => ∃ i G gs q σ' H', n + i = T.n ∧ Slp X pins g T gn n G gs q σ' H' s' ∧ Same G H' ∧ W i G σ' H') ?_ T.n ⟨0, G, gs, q, σ, H1, by omega, L, sm, w0⟩
  rintro n s3 ⟨i, G3, gs3, q3, σ3, H3, en, L3, sm3, w3⟩
  obtain ⟨on3, turn3⟩ := turn i G3 σ3 H3 sm3 w3
  rcases turn3 with ⟨stop, qn⟩ | ⟨go, step⟩
  · have e0 : n = 0 := by omega
    subst e0
    refine wpAny_passesOwn hp (thn (slp_done L3 sm3 on3 hh hdep gA) fun r s4 ⟨hr, H4, I4, e4, f4⟩ => ?_)
    subst hr
    exact wpAny_execs_nil ⟨σ3, H4, I4, qn H4 e4 f4⟩
  · obtain ⟨m, rfl⟩ : ∃ m, n = m + 1 := ⟨n - 1, by omega⟩
    refine wpAny_passesOwn hp (thn (slp_item L3 sm3 on3 hh hdep gA) fun r s4 h4 => ?_)
    obtain ⟨u, x, H4, G4, gs4, q4, rfl, rv, hsl, L4, it, e4, sm4, gr⟩ := h4
    have ei : T.n - (m + 1) = i := by omega
    rw [ei] at it
    have st := step x G4 H4 e4 gr sm4 it
    have hob : s4.heap.get? g.a = some g.go := (L4.inv.pin (g.a, g.go) (List.mem_append_right _ (List.mem_append_right _ L4.mem))).1
    obtain ⟨nm, qn, hd⟩ := L4.obj.dat
    refine wpAny_passesOwn hp (go_of hob L4.obj.cls hd (by decide) ?_)
    refine wpAny_passesOwn hp (slp_two (R := fun σ' H' _ => tb { D with nx := fun σ3 H3 => Same G4 H3 ∧ W (i + 1) G4 σ3 H3, ct := fun σ3 H3 => Same G4 H3 ∧ W (i + 1) G4 σ3 H3, bk := D.nx } σ' H') L4 hsl hx (fun s0 I0 => hg.run _ s0 σ3 H4 x u _ I0 rv st) fun _ s6 σ6 H6 L6 q6 => ?_)
    refine wpAny_passesOwn hp (slp_two (R := fun σ' H' f => match f with
      | .next => Same G4 H' ∧ W (i + 1) G4 σ' H'
      | .cont => Same G4 H' ∧ W (i + 1) G4 σ' H'
      | .brk => D.nx σ' H'
      | .ret v => ∃ x, RelV x v ∧ D.rt x H') L6 hsl hx (fun s0 I0 => thn (hb.run _ s0 σ6 H6 _ I0 q6) fun f s7 q7 => ?_) fun f s7 σ7 H7 L7 q7 => ?_)
    · cases f with
      | next => obtain ⟨σ7, H7, I7, n7⟩ := q7; exact ⟨σ7, H7, I7, n7⟩
      | cont => obtain ⟨σ7, H7, I7, n7⟩ := q7; exact ⟨σ7, H7, I7, n7⟩
      | brk => obtain ⟨σ7, H7, I7, n7⟩ := q7; exact ⟨σ7, H7, I7, n7⟩
      | ret v => obtain ⟨x7, σ7, H7, I7, r7, n7⟩ := q7; exact ⟨σ7, H7, I7, x7, r7, n7⟩
    · cases f with
      | next => exact ⟨m, by omega, i + 1, G4, gs4, q4, σ7, H7, by omega, L7, q7.1, q7.2⟩
      | cont => exact ⟨m, by omega, i + 1, G4, gs4, q4, σ7, H7, by omega, L7, q7.1, q7.2⟩
      | brk => exact ⟨σ7, H7, L7.inv.unpinned, q7⟩
      | ret v => obtain ⟨x7, r7, n7⟩ := q7; exact ⟨x7, σ7, H7, L7.inv.unpinned, r7, n7⟩
end
end Gn

/-! GnH: calls of generator defs; list(..) of a generator. -/
namespace Gn
open PySem PySem.Spec PyProof.Rows L2 GenW LamX
open Sem (wp)
section
variable {X : Cx} {k : Nat} {f : Addr} {fd : FuncData} {ps ks : List Str} {sp : SpY} {dvs : List V} {ds : List Value} {x : Str} {p pos : Pos}
theorem run_gn {pins : List (Addr × Obj)} {σ : L2.St} {H G : Hp} {T : Pact} {s : Shared} {us as : List Value} {kw : List (Str × Value)} {vs : List V} {R : Pact → Hp → Hp → Prop} {E : Value → Shared → Prop} (F : GnOk X.prog X.w X.K X.mg X.base k f fd ps sp) (hr : Room k X.A)
    (I : Inv X pins σ H s) (hb : BindsTo s fd ⟨us, kw⟩ (ps.zip as)) (r : Vals vs as) (h : sp vs H T G) (hR : R T G H) :
    wpAny (model X.prog X.w) X.A (call (.ref f) us kw) (fun v s1 => ∃ (mk : Around → Gd) (T : Pact) (gn : Nat) (G : Hp) (gs : GenState) (q : Around → List (Addr × Obj)) (H1 : Hp) (a : Addr), v = .ref a ∧ (∀ Aw, Room k Aw → Aw.frames = some X.stack → (mk Aw).A = Aw ∧ (mk Aw).a = a ∧ Slp X pins (mk Aw) T gn T.n G gs (q Aw) σ H1 s1) ∧ Same G H1 ∧ R T G H1) E s := by
  refine wpAny_call (codeAny_mono (F.run X.A X.stack s H ⟨us, kw⟩ as vs T G hr I.env0 hb r h) fun r s' hq => ?_)
  cases r with
  | error e => exact False.elim hq
  | ok fl =>
    cases fl with
    | next => exact False.elim hq
    | brk => exact False.elim hq
    | cont => exact False.elim hq
    | ret u =>
      obtain ⟨mk, lo, c, sm, M⟩ := hq
      obtain ⟨_, M0, _⟩ := M X.A hr I.ok.frames
      refine ⟨mk, T, s.gens.size, G, .fresh c, fun Aw => [((mk Aw).a, (mk Aw).go), ((mk Aw).n0, lo)], H, (mk X.A).a, M0.ref, fun Aw hA hf => ?_, sm, hR⟩
      obtain ⟨⟨N, qual, scope, cd, n0, a, go, em⟩, M1, Rd⟩ := M Aw hA hf
      show (mk Aw).A = Aw ∧ (mk Aw).a = (mk X.A).a ∧ Slp X pins (mk Aw) T s.gens.size T.n G (.fresh c) [((mk Aw).a, (mk Aw).go), ((mk Aw).n0, lo)] σ H s'
      have ea : (mk Aw).a = (mk X.A).a := by
        exact Value.ref.inj (M1.ref.symm.trans M0.ref)
      have en := M1.n0
      generalize mk Aw = g at em M1 Rd ea en
      have lt0 : ∀ b o, s.heap.get? b = some o → b < g.n0 := fun b o e => by rw [en]; exact Heap.lt_size e
      have gb : AllBare s'.gens := by rw [M1.gens]; exact AllBare.push I.bare rfl
      have I2 : Inv X pins σ H s' := I.call' (ch := []) M1.os (Un.kept M1.kept) (I.hok.kept M1.kept) gb fun b z => by cases z
      obtain ⟨gc, gsl, nm, qn, gd⟩ := M1.gen
      have held : Held X g := by
        refine ⟨by rw [em], by rw [em], by rw [em], by rw [em], by rw [em], ?_, by rw [em], ?_, ?_, fun b hb => ?_, fun b h1 h2 => ?_⟩
        · rw [em]; exact hf
        · rw [em]; exact I.os
        · rw [en]; exact Nat.le_trans I.ok.bsz I.sz
        · rcases List.mem_cons.mp (I.stkSub b hb) with z | z
          · rw [en, z]; exact I.lt
          · rw [en]
            exact Nat.lt_of_not_le fun y => I.nofs y z
        · rw [en] at h1
          exact absurd h2 (Nat.not_lt.mpr (Nat.le_trans I.sz h1))
      have young : ∀ b, g.n0 ≤ b → H b = none ∧ b ≠ X.env.locals ∧ b ∉ X.fs := fun b hb => by
        rw [en] at hb
        exact ⟨I.hok.fresh hb, Nat.ne_of_gt (Nat.lt_of_lt_of_le I.lt hb), I.nofs hb⟩
      refine ⟨by rw [em], ea, held, ⟨gc, gsl, nm, qn, gd⟩, M1.lt, Nat.le_of_lt (Heap.lt_size M1.at_n), by rw [M1.gens]; exact Array.getElem?_push_size .., Rd, List.mem_cons_self, ⟨lo, List.mem_cons_of_mem _ List.mem_cons_self⟩, fun p hp => ?_, I2.pins_of fun p hp => ?_⟩
      · have l : g.n0 ≤ p.1 := by
          rcases List.mem_cons.mp hp with z | z
          · rw [z]; exact Nat.le_of_lt M1.lt
          · rw [List.mem_singleton.mp z]; exact Nat.le_refl _
        refine ⟨.inr ?_, fun x c e => ?_, fun p' hp' => ?_, l⟩
        · rw [en] at l
          exact Nat.le_trans I.sz l
        · obtain ⟨v, o, ho, _⟩ := I.cell x c e
          exact Nat.ne_of_lt (Nat.lt_of_lt_of_le (lt0 c o ho) l)
        · exact Nat.ne_of_lt (Nat.lt_of_lt_of_le (lt0 p'.1 p'.2 (I.pin p' hp').1) l)
      rcases List.mem_append.mp hp with z | z
      · exact I2.pin p (List.mem_append_right _ z)
      · rcases List.mem_cons.mp z with z | z
        · subst z
          obtain ⟨y1, y2, y3⟩ := young g.a (Nat.le_of_lt M1.lt)
          exact ⟨M1.at_a, y1, y2, y3, fun v q => by rw [gd] at q; cases q⟩
        · have z := List.mem_singleton.mp z
          subst z
          obtain ⟨y1, y2, y3⟩ := young g.n0 (Nat.le_refl _)
          exact ⟨M1.at_n, y1, y2, y3, M1.dat⟩
def tGnC (sp : SpY) (dvs : List V) (t : TA) : TGn := fun σ H R => t σ H fun vs H1 => ∃ T G, sp (vs ++ dvs) H1 T G ∧ R T G H1
/-- f(e, ..) of a generator def -/
theorem pgn_call {e : Expr} {es : List Expr} {t : TA} (F : GnOk X.prog X.w X.K X.mg X.base k f fd ps sp) (hr : Room k X.A) (hg : Gl X x) (hm : X.mg x = some (.ref f)) (hk : PySem.W.keepIn X.K (.ref f) = true) (hb : Binds X.K fd ps ds) (hd : Vals dvs ds)
    (ha : PA X (e :: es) t) (hdb : (x == ("__debug__" : Str)) = false := by decide) (he : starEach (e :: es) X.env = (false, eval e X.env) :: starEach es X.env := by rfl) (hpl : (backTo pos (starEach es X.env)).any (·.1) = false := by rfl) :
    PGn X k (.Call (.Name x p) (e :: es) [] pos) (tGnC sp dvs t) := by
  refine ⟨fun pins s σ H R I h => ?_⟩
  refine wpAny_Call_Name_kw (ld_glob I hg hm ?_ hdb)
  refine PySem.W.callWith_K (h₀ := X.base) I.ok.mod.kin hk (thn (ha.run pos pins s σ H _ I h) fun us s1 ⟨vs, H1, I1, r, T, G, q, q2⟩ => ⟨I1.kIn, ?_⟩) he hpl
  have r2 : Vals (vs ++ dvs) (us ++ ds) := r.append hd
  have hl2 : (us ++ ds).length = ps.length := by rw [← r2.length]; exact F.len _ _ _ _ q
  exact run_gn F hr I1 (hb s1 us I1.kIn hl2) r2 q q2
/-- f(k = e, ..) -/
theorem pgn_callK0 {kws : List Keyword} {tk : TA} {g : List Value → List Value → List Value} {gV : List V → List V → List V} (F : GnOk X.prog X.w X.K X.mg X.base k f fd ps sp) (hr : Room k X.A) (hg : Gl X x) (hm : X.mg x = some (.ref f)) (hk : PySem.W.keepIn X.K (.ref f) = true) (hb : KBn X.K fd ps 0 ks g gV)
    (hw : PK X kws tk) (hnm : (backToKw pos (keywordEach kws X.env)).filterMap (·.1) = ks := by rfl) (hpl : ((backTo pos (starEach [] X.env)).any (·.1) || (backToKw pos (keywordEach kws X.env)).any (·.1.isNone)) = false := by rfl)
    (hall : (backToKw pos (keywordEach kws X.env)).all (·.1.isSome) = true := by rfl) (hdb : (x == ("__debug__" : Str)) = false := by decide) :
    PGn X k (.Call (.Name x p) [] kws pos) (fun σ H R => tk σ H fun zs H1 => zs.length = ks.length ∧ ∃ T G, sp (gV [] zs) H1 T G ∧ R T G H1) := by
  refine ⟨fun pins s σ H R I h => ?_⟩
  refine wpAny_Call_Name_kw (ld_glob I hg hm ?_ hdb)
  refine PySem.W.callWith_KW0 (first := []) (h₀ := X.base) I.ok.mod.kin hk hall ?_ hpl
  refine thn (hw.run pos pins s σ H _ I h) fun ws s1 ⟨zs, H1, I1, rz, hl, T, G, q, q2⟩ => ⟨I1.kIn, ?_⟩
  rw [hnm]
  exact run_gn F hr I1 (hb.to s1 [] ws I1.kIn rfl (rz.length.symm.trans hl)) (hb.rel (vs := []) (us := []) .nil rz) q q2
end
end Gn

/-! GnI: list(..) of a generator. -/
namespace Gn
open PySem PySem.Spec PyProof.Rows L2 GenW LamX
open Sem (wp)
theorem same_mut {G H : Hp} {l : Addr} {o : HO} (s : Same G H) (hl : G l = none) : Same G (upd H l o) := fun b u e => by
  rw [upd_ne (ne_of_none e hl)]
  exact s _ _ e
theorem grow_old {w : Hp × Hp} {G : Hp} (g : Grow w G) {S : Addr} {o : HO} (h : w.1 S = some o) (nt : ∀ ps, o ≠ .tbl ps) (n : w.2 S = none) : G S = none := by
  cases e : G S with
  | none => rfl
  | some u =>
    rcases g.2 S (by rw [e]; simp) with z | z | ⟨ps, z⟩
    · exact absurd n z
    · rw [h] at z; cases z
    · rw [h] at z
      exact absurd (Option.some.inj z) (nt ps)
/-- the turns of list(..), comprehensions: xs is gathered at S -/
def Turns (T : Pact) (S : Addr) (W : Nat → List V → Hp → Hp → Prop) (Z : Hp → Prop) : Prop := ∀ i xs G H, Same G H → G S = none → H S = some (.lst xs) → W i xs G H → T.on H ∧ (
  (i = T.n ∧ ∀ H', ExtN H H' → T.fin H' → Z H') ∨ (i < T.n ∧ xs.length < sizeLine ∧ ∀ x G' H', ExtN H H' → Grow (H, G) G' → Same G' H' → T.item i x G' H' → W (i + 1) (xs ++ [x]) G' (upd H' S (.lst (xs ++ [x])))))
section
variable {X : Cx} {pins : List (Addr × Obj)} {g : Gd} {T : Pact} {gn : Nat} {σ : L2.St} {S : Addr}
theorem Inv.push {q : List (Addr × Obj)} {H : Hp} {s : Shared} {xs : List V} {x : V} {v : Value} {its : List Value} {c : Nat} (I : Inv X q σ H s) (hS : H S = some (.lst xs)) (e : s.heap.get? S = some (lstObj its.toArray c)) (r : Vals xs its) (rv : RelV x v) (hz : xs.length < sizeLine) :
    Inv X q σ (upd H S (.lst (xs ++ [x]))) { s with heap := s.heap.update S (Obj.mapSeq (·.push v)) } := by
  have e2 := Heap.get?_update_self (Obj.mapSeq (·.push v)) e rfl
  refine I.write (t' := s.toks) (x := S) (e := S) (by rw [hS]; trivial) (.inl rfl) (fun b u hb q => (Heap.get?_update_other _ _ (Ne.symm hb)).trans q) ⟨_, e2⟩ ?_
  have e3 : (its ++ [v]).toArray = its.toArray.push v := by rw [List.push_toArray]
  refine ⟨by rw [List.length_append]; exact hz, its ++ [v], ?n, r.append (.cons rv .nil), ?h⟩
  case h =>
    rw [e3]
    exact e2
theorem drainG {A : Around} {W : Nat → List V → Hp → Hp → Prop} {Z : Hp → Prop} {R : Result → Shared → Prop} {res : Value} (hh : A.handled = none) (hdep : A.depth < recursionLimit) (gA : g.A = A.in1.in1) (turn : Turns T S W Z)
    (hend : ∀ s' H', Inv X pins σ H' s' → Z H' → R (.ok (.ret res)) s') : ∀ (n i : Nat) (xs : List V) (G : Hp) (gs : GenState) (q : List (Addr × Obj)) (H : Hp) (s : Shared), n + i = T.n → Slp X pins g T gn n G gs q σ H s → Same G H → G S = none → H S = some (.lst xs) → W i xs G H →
    codeAny (model X.prog X.w) A (.builtin "list.extend.loop" ⟨[.ref S, .ref g.a, res], []⟩) R s := by
  intro n
  induction n with
  | zero =>
    intro i xs G gs q H s en L sm gS hS w
    refine codeAny_builtin F.entry_extend_loop ?_
    rw [Around.under_plainId F.plain_extend_loop _]
    show wpAny _ A.in1 (pyNext (.ref g.a) >>= _) _ _ s
    obtain ⟨on, turn1⟩ := turn i xs G H sm gS hS w
    rcases turn1 with ⟨stop, qn⟩ | ⟨go, _⟩
    · refine wpAny_bind (thn (slp_done (A := A.in1) L sm on hh hdep gA) fun r s4 ⟨hr, H4, I4, e4, f4⟩ => ?_)
      subst hr
      exact wpAny_pure (hend s4 H4 I4 (qn H4 e4 f4))
    · omega
  | succ m ih =>
    intro i xs G gs q H s en L sm gS hS w
    refine codeAny_builtin F.entry_extend_loop ?_
    rw [Around.under_plainId F.plain_extend_loop _]
    show wpAny _ A.in1 (pyNext (.ref g.a) >>= _) _ _ s
    obtain ⟨on, turn1⟩ := turn i xs G H sm gS hS w
    rcases turn1 with ⟨stop, qn⟩ | ⟨go, hlen, step⟩
    · omega
    · refine wpAny_bind (thn (slp_item (A := A.in1) L sm on hh hdep gA) fun r s4 h4 => ?_)
      obtain ⟨u, x, H4, G4, gs4, q4, rfl, rv, hsl, L4, it, e4, sm4, gr⟩ := h4
      have ei : T.n - (m + 1) = i := by omega
      rw [ei] at it
      have w4 := step x G4 H4 e4 gr sm4 it
      have h4S : H4 S = some (.lst xs) := e4 S _ hS fun ps z => by cases z
      have g4S : G4 S = none := grow_old gr hS (fun ps z => by cases z) gS
      obtain ⟨hz, its, c, rx, eS⟩ := L4.inv.hok S _ h4S
      have hl := rx.length
      show wpAny _ A.in1 (updateSeq S (·.push u) >>= _) _ _ _
      refine wpAny_bind ?_
      refine wpAny_updateSeq eS rfl (wpAny_pure ⟨plainId_quiet F.plain_extend_loop _, ?_⟩) (by show its.toArray.size ≤ sizeLine; simp; omega) (by show (its.toArray.push u).size ≤ sizeLine + 1; rw [Array.size_push]; simp; omega)
      have I5 := Inv.push L4.inv h4S eS rx rv hlen
      refine ih (i + 1) (xs ++ [x]) G4 gs4 q4 (upd H4 S (.lst (xs ++ [x]))) _ (by omega) ⟨L4.held, L4.obj, L4.lt, ?_, L4.at_, L4.rdy, L4.mem, L4.mem2, L4.own, I5⟩ (same_mut sm4 g4S) g4S upd_same w4
      have := (I5.pin (g.a, g.go) (List.mem_append_right _ (List.mem_append_right _ L4.mem))).1
      exact Nat.le_trans (Nat.le_of_lt L4.lt) (Nat.le_of_lt (Heap.lt_size this))
end
def tListGn (wg : TGn) : TE := fun σ H Q => wg σ H fun T G H1 => ∀ S, H1 S = none → ∃ (W : Nat → List V → Hp → Hp → Prop) (Z : Hp → Prop), W 0 [] G (upd H1 S (.lst [])) ∧ Turns T S W Z ∧ ∀ H', Z H' → Q (.ref S) H'
section
variable {X : Cx} {k : Nat} {p pos : Pos} {nm : Str}
/-- list(g) -/
theorem pe_listGn {e : Expr} {wg : TGn} (h : PGn X k e wg) (hr : Room (k + 3) X.A) (hc : X.calm = true) (hg : Gl X nm) (hmg : X.mg nm = none) (hv : bootBuiltins nm = some (.type "list")) (hnm : nm ≠ "__name__" := by decide) (hdb : (nm == ("__debug__" : Str)) = false := by decide)
    (he : starEach [e] X.env = (false, eval e X.env) :: starEach [] X.env := by rfl) : PE X (.Call (.Name nm p) [e] [] pos) (tListGn wg) := by
  refine ⟨fun pins s σ H Q I hq => ?_⟩
  refine wpAny_Call_Name_kw (ld_blt I hg hmg hv ?_ hnm hdb)
  refine PyProof.Rows.callWith_type1 ?_ he rfl
  rw [he]
  show wpAny _ _ (spliced ((false, eval e X.env) :: backTo pos (starEach [] X.env))) _ _ s
  refine Calls.spliced_cons (thn (h.run pins s σ H _ I hq) fun u s1 h1 => ?_)
  refine Calls.spliced_nil ?_
  obtain ⟨mk, T, gn, G, gs, q, H1, a, rfl, Lm, sm, hS⟩ := h1
  have hh := I.ok.hd hc
  obtain ⟨gA, ea, L⟩ := Lm X.A.in1.in1.in1 ⟨hh, by have := hr.dp; show X.A.depth + 3 * k + 5 < _; omega, by have := hr.un; show X.A.units + 1 + 1 + 1 + 16 * k + 200 < _; omega⟩ I.ok.frames
  subst ea
  generalize q X.A.in1.in1.in1 = q at L
  generalize mk X.A.in1.in1.in1 = g at L gA
  have hga := L.isgen
  have ha2 : g.a < s1.heap.objs.size := let ⟨o, _, _, ho, _⟩ := hga; Heap.lt_size ho
  have hSa : s1.heap.objs.size ≠ g.a := Nat.ne_of_gt ha2
  have hl := L.inv.nolimit
  have nS : H1 s1.heap.objs.size = none := L.inv.hok.fresh (Nat.le_refl _)
  obtain ⟨W, Z, w0, turn, fin⟩ := hS s1.heap.objs.size nS
  refine callType_codes (Q₁ := fun obj s₁ => obj = .ref s1.heap.objs.size ∧ s₁ = { s1 with heap := s1.heap.push { cls := .type "list", data := .seq #[] } }) F.called_list (F.typeCall_list_1 _) F.entry_list_init
    (code_list_new _ ⟨rfl, rfl⟩) fun obj s₁ h₁ => ?_
  obtain ⟨rfl, rfl⟩ := h₁
  have hS : (s1.heap.push { cls := .type "list", data := .seq #[] }).get? s1.heap.objs.size = some { cls := .type "list", data := .seq #[] } := Heap.get?_push_size _ rfl
  refine ⟨⟨_, hS, rfl⟩, F.args_list_init_2 _ _, ?_⟩
  show wpAny _ X.A.in1.in1 (do let old ← Builtin.List.listItems (.ref s1.heap.objs.size); Builtin.List.listUpdate (.ref s1.heap.objs.size) (fun _ => #[]); letGo old.toList.reverse; Builtin.List.listExtendWith (.ref s1.heap.objs.size) (.ref g.a) .none) _ _ _
  refine wpAny_bind ?_
  unfold Builtin.List.listItems
  refine wpAny_bind (wpAny_seqItems hS rfl (wpAny_pure ?_))
  show wpAny _ X.A.in1.in1 (updateSeq s1.heap.objs.size (fun _ => #[]) >>= fun _ => letGo (#[] : Array Value).toList.reverse >>= fun _ => Builtin.List.listExtendWith (.ref s1.heap.objs.size) (.ref g.a) .none) _ _ _
  refine wpAny_bind (wpAny_updateSeq hS rfl ?_)
  have hS2 := Heap.get?_update_self (Obj.mapSeq (fun _ => (#[] : Array Value))) hS rfl
  refine wpAny_bind (wpAny_letGo ?_)
  unfold Builtin.List.listExtendWith
  have up : ∀ (h : Heap) (f : Obj → Obj), (∀ b o, s1.heap.get? b = some o → h.get? b = some o) → ∀ b o, s1.heap.get? b = some o → (h.update s1.heap.objs.size f).get? b = some o := fun h f q b o e =>
    (Heap.get?_update_other _ _ (Ne.symm (Nat.ne_of_lt (Heap.lt_size e)))).trans (q b o e)
  have k1 : ∀ b o, s1.heap.get? b = some o → (s1.heap.push { cls := .type "list", data := .seq #[] }).get? b = some o := fun b o e => Heap.get?_push_of_some _ e
  have k2 := up _ (Obj.mapSeq (fun _ => (#[] : Array Value))) k1
  have gty : ∀ {h : Heap}, (∀ b o, s1.heap.get? b = some o → h.get? b = some o) → h.IsGen g.a gn := fun {h} q => hga.keeps q
  refine wpAny_bind (wpAny_typeOf (Heap.IsGen.typeIs (s := { s1 with heap := _ }) (gty k2)) ?_)
  have h1 : Builtin.List.listSameRef (.ref s1.heap.objs.size) (.ref g.a) = false := by simp [Builtin.List.listSameRef, hSa]
  have h2 : (Value.type "generator" == Value.type "list") = false := by decide
  have h3 : (Value.type "generator" == Value.type "tuple") = false := by decide
  simp only [h1, h2, h3, Bool.or_false, Bool.false_eq_true, if_false]
  refine wpAny_bind (wpAny_pyIter_gen (s := { s1 with heap := _ }) (gty k2) ?_)
  refine wpAny_bind (wpAny_holding ?_)
  unfold Builtin.List.listLengthHint
  refine wpAny_bind (wpAny_specialOf (Heap.IsGen.typeIs (s := { s1 with heap := _ }) (gty k2)) F.gen_no_len ?_)
  show wpAny _ X.A.in1.in1 (specialOf (Value.ref g.a) (Str.ofString "__length_hint__") >>= _) _ _ _
  refine wpAny_bind (wpAny_specialOf (Heap.IsGen.typeIs (s := { s1 with heap := _ }) (gty k2)) F.gen_no_hint ?_)
  refine wpAny_pure ?_
  show wpAny _ X.A.in1.in1 (rule "list.extend.makes-room" >>= fun _ => Builtin.List.listTouch (.ref s1.heap.objs.size) >>= fun _ =>
    again (.builtin "list.extend.loop" ⟨[.ref s1.heap.objs.size, .ref g.a, .none], []⟩)) _ _ _
  refine wpAny_bind (wpAny_rule ?_)
  refine wpAny_bind ?_
  show wpAny _ X.A.in1.in1 (updateSeq s1.heap.objs.size (·.push .none) >>= fun _ => updateSeq s1.heap.objs.size (·.pop)) _ _ _
  refine wpAny_bind (wpAny_updateSeq hS2 rfl ?_)
  have hS3 := Heap.get?_update_self (Obj.mapSeq (·.push Value.none)) hS2 rfl
  refine wpAny_updateSeq (hz := by seq_fits) hS3 rfl ?_
  have hS4 := Heap.get?_update_self (Obj.mapSeq (·.pop)) hS3 rfl
  have k4 := up _ (Obj.mapSeq (·.pop)) (up _ (Obj.mapSeq (·.push Value.none)) k2)
  refine wpAny_pure ⟨plainId_quiet F.plain_extend_loop _, ?_⟩
  have I2 := L.inv.laid (t' := s1.toks) (a := s1.heap.objs.size) (o := .lst []) k4 (Nat.le_refl _) ⟨Nat.zero_le _, [], _, .nil, hS4⟩
  refine drainG (S := s1.heap.objs.size) (W := W) (Z := Z) (A := X.A.in1) hh (by have := hr.dp; show X.A.depth < _; omega) gA turn (fun s' H' I' z => ⟨rfl, .ref s1.heap.objs.size, H', I', rfl, fin H' z⟩) T.n 0 [] G gs q _ _ (by omega)
    ⟨L.held, L.obj, L.lt, ?_, L.at_, L.rdy, L.mem, L.mem2, L.own, I2⟩ (fun b o e => ?_) ?_ upd_same w0
  · exact Nat.le_trans (Nat.le_of_lt L.lt) (Nat.le_of_lt (let ⟨o, _, _, ho, _⟩ := gty k4; Heap.lt_size ho))
  · rw [upd_ne (ne_of_none (sm b o e) nS)]; exact sm b o e
  · exact sm.free nS
end
end Gn

/-! GnJ: a list comprehension over a generator. -/
namespace Gn
open PySem PySem.Spec PyProof.Rows L2 GenW LamX
open Sem (wp)
section
variable {X : Cx} {pins : List (Addr × Obj)} {g : Gd} {T : Pact} {gn r : Nat} {G : Hp} {gs : GenState} {q : List (Addr × Obj)} {σ : L2.St} {H : Hp} {s : Shared}
theorem Slp.weak {σ' : L2.St} (L : Slp X pins g T gn r G gs q σ H s) (hl : σ'.length = σ.length) (w : ∀ (i : Nat) v, σ'[i]? = some (some v) → σ[i]? = some (some v)) : Slp X pins g T gn r G gs q σ' H s :=
  ⟨L.held, L.obj, L.lt, L.sz, L.at_, L.rdy, L.mem, L.mem2, L.own, L.inv.weak hl w⟩
/-- young and gone: no place of this frame's -/
def goneL (n0 : Nat) (h : Heap) : List Addr := (List.range h.objs.size).filter fun b => decide (n0 ≤ b) && (h.get? b).isNone
theorem mem_goneL {n0 : Nat} {h : Heap} {b : Addr} : b ∈ goneL n0 h ↔ b < h.objs.size ∧ n0 ≤ b ∧ h.get? b = none := by
  unfold goneL
  rw [List.mem_filter, List.mem_range, Bool.and_eq_true, decide_eq_true_iff, Option.isNone_iff_eq_none]
theorem gone_fp (L : Slp X pins g T gn r G gs q σ H s) {b : Addr} (hb : b ∈ q.map Prod.fst ++ goneL g.n0 s.heap) : FpOk X pins H b ∧ b < s.heap.objs.size := by
  rcases List.mem_append.mp hb with z | z
  · obtain ⟨p, hp, rfl⟩ := List.mem_map.mp z
    exact ⟨L.fpOk p hp, Heap.lt_size (L.pin hp).1⟩
  · obtain ⟨h1, h2, h3⟩ := mem_goneL.mp z
    have I0 : Inv X pins σ H s := L.inv.unpinned
    refine ⟨⟨?_, fun z => ?_, fun z => ?_, ?_, fun x c hc z => ?_, fun p' hp' z => ?_⟩, h1⟩
    · cases y : H b with
      | none => rfl
      | some u =>
        obtain ⟨o, e⟩ := obj_there (I0.hok b u y)
        rw [h3] at e; cases e
    · obtain ⟨mm, ⟨o, es, ep, ho', _⟩, _⟩ := I0.loc
      rw [← z, h3] at ho'; cases ho'
    · obtain ⟨_, o, ho', _⟩ := I0.funs.mem z
      rw [h3] at ho'; cases ho'
    · by_cases y : b ∈ X.ex
      · exact .inl y
      · refine .inr (Nat.le_of_not_lt fun lt => ?_)
        obtain ⟨o, e0⟩ := L.held.fre b h2 lt y
        obtain ⟨o', e1⟩ := I0.base.there b o e0 y
        rw [h3] at e1; cases e1
    · obtain ⟨v, o, ho', _⟩ := I0.cell x c hc
      rw [z, h3] at ho'; cases ho'
    · have e1 := (I0.pin p' hp').1
      rw [z, h3] at e1; cases e1
end
section
variable {X : Cx}
def tLcG (wg : TGn) (gt : TG) (tt : TT) (te : TE) (vs : List Nat) : TE := fun σ H Q => wg σ H fun T G H1 => ∀ D, H1 D = none → ∃ W : Nat → Hp → Hp → Prop, W 0 G (upd H1 D (.lst [])) ∧ ∀ i G H, Same G H → W i G H → T.on H ∧ (
  (i = T.n ∧ ∀ H', ExtN H H' → T.fin H' → Q (.ref D) H') ∨ (i < T.n ∧ ∀ x G' H', ExtN H H' → Grow (H, G) G' → Same G' H' → T.item i x G' H' → gt x (wipe σ vs) H' fun σ2 H2 => wipe σ2 vs = wipe σ vs ∧ tt σ2 H2 fun b H3 =>
    if b = true then te σ2 H3 fun y H4 => ∃ acc, H4 D = some (.lst acc) ∧ acc.length < sizeLine ∧ Same G' (upd H4 D (.lst (acc ++ [y]))) ∧ W (i + 1) G' (upd H4 D (.lst (acc ++ [y]))) else Same G' H3 ∧ W (i + 1) G' H3))
theorem lcG_core {pins : List (Addr × Obj)} {s : Shared} {σ : L2.St} {H : Hp} {Q : VK} {elt tg iter : Expr} {ifs : List Expr} {scope : Scope} {own : List (Str × Nat)} {pos pos' : Pos} {wg : TGn} {gt : TG} {tt : TT} {te : TE} {use : Option (Value → Sem Unit)} {Qf : Value → Shared → Prop} {k : Nat}
    (hc : X.calm = true) (hN : X.N.Nodup) (hr : Room (k + 1) X.A) (I : Inv X pins σ H s) (hi : PGn X k iter wg) (ok : BlkOk X.N X.env.scope scope own)
    (hg : ∀ (s : Shared) (H : Hp) (C : Addr) (cl : List (Str × Addr)) (fp : List Addr), PG (X.blk s H scope (compEnvC scope cl C X.env) fp) tg gt) (ht : ∀ (s : Shared) (H : Hp) (C : Addr) (cl : List (Str × Addr)) (fp : List Addr), PTs (X.blk s H scope (compEnvC scope cl C X.env) fp) ifs tt)
    (he : ∀ (s : Shared) (H : Hp) (C : Addr) (cl : List (Str × Addr)) (fp : List Addr), PE (X.blk s H scope (compEnvC scope cl C X.env) fp) elt te) (hs : ∀ x, foldedSetIterable iter X.env x = pure x)
    (h : tLcG wg gt tt te (own.map (·.2)) σ H Q)
    (hRR : ∀ D C s' m H', Inv X pins σ H' s' → Q (.ref D) H' → s'.heap.Ns C m → FpOk X pins H' C → compPost (model X.prog X.w) X.A X.xe use Qf (.ref D) C (.ok .next) s') :
    wpAny (model X.prog X.w) X.A (comprehension (.ListComp elt [⟨tg, iter, ifs, 0⟩] scope pos) scope X.env pos' (newList []) false (eval iter X.env) use) Qf X.xe s := by
  have hfree : ∀ y ∈ scope.names, y.2 = .free → ∃ c, X.env.cells.lookup y.1 = some c := fun y hy e => by
    rcases ok.free y hy e with k | k
    · exact I.ok.has _ (.inl k)
    · exact I.ok.has _ (.inr k)
  refine wpAny_comprehension_free (use := use) rfl hs (closure_ok hfree) ok.kind (fun y hy e => by rw [ok.uniq y hy, e])
    (thn (hi.run pins s σ H _ I h) fun xv s2 hx => ?_)
  obtain ⟨mk, T, gn, G, gs, q0, H2, a, rfl, Lm, sm, q⟩ := hx
  obtain ⟨gA, ea, L⟩ := Lm X.A.in1 hr.in1 I.ok.frames
  have hh := I.ok.hd hc
  have hdep := hr.depth
  subst ea
  generalize q0 X.A.in1 = q0 at L
  generalize mk X.A.in1 = g at L gA
  refine wpAny_pyIter_gen L.isgen ?_
  refine wpAny_newObj_type (newEnv_comp ?_) (by show 0 ≤ sizeLine; decide)
  generalize hD : s2.heap.objs.size = D
  have I2 : Inv X (pins ++ q0) σ H2 s2 := L.inv
  have hDn : H2 D = none := I2.hok.fresh (Nat.le_of_eq hD)
  obtain ⟨W, w0, turn⟩ := q D hDn
  generalize hs3 : ({ s2 with heap := s2.heap.push { cls := .type "list", data := .seq ([] : List Value).toArray } } : Shared) = s3
  have I3 : Inv X (pins ++ q0) σ (upd H2 D (.lst [])) s3 := by
    rw [← hs3]
    refine I2.laid (t' := s2.toks) (fun b o e => Heap.get?_push_of_some _ e) (Nat.le_of_eq hD) ⟨Nat.zero_le _, [], 0, .nil, ?_⟩
    rw [← hD]
    exact Heap.get?_push_size _ rfl
  have h3 : s3.heap = s2.heap.push { cls := .type "list", data := .seq ([] : List Value).toArray } := by rw [← hs3]
  have sz3 : s2.heap.objs.size ≤ s3.heap.objs.size := by rw [h3, Heap.size_push]; exact Nat.le_succ _
  have L3 : Slp X pins g T gn T.n G gs q0 σ (upd H2 D (.lst [])) s3 := ⟨L.held, L.obj, L.lt, Nat.le_trans L.sz sz3, by rw [← hs3]; exact L.at_, L.rdy, L.mem, L.mem2, L.own, I3⟩
  have sm3 : Same G (upd H2 D (.lst [])) := fun b o e => by rw [upd_ne (ne_of_none (sm b o e) hDn)]; exact sm b o e
  let fp : List Addr := q0.map Prod.fst ++ goneL g.n0 s3.heap
  have f3 : ∀ b ∈ fp, FpOk X pins (upd H2 D (.lst [])) b ∧ b < s3.heap.objs.size := fun b hb => gone_fp L3 hb
  have I4 := block_start (fp := fp) (I3.unpinned (pins := pins)) ok hN f3
  have pg := hg s3 (upd H2 D (.lst [])) s3.heap.objs.size (cellsFrom (s3.heap.objs.size + 1) scope.names (cloFrom X.env.cells scope.names [])) fp
  have pt := ht s3 (upd H2 D (.lst [])) s3.heap.objs.size (cellsFrom (s3.heap.objs.size + 1) scope.names (cloFrom X.env.cells scope.names [])) fp
  have pe := he s3 (upd H2 D (.lst [])) s3.heap.objs.size (cellsFrom (s3.heap.objs.size + 1) scope.names (cloFrom X.env.cells scope.names [])) fp
  show codeAny _ _ (.compStart (.ListComp elt [⟨tg, iter, ifs, 0⟩] scope pos) 0 (.ref g.a) (.ref D) (compEnvC scope (cellsFrom (s3.heap.objs.size + 1) scope.names (cloFrom X.env.cells scope.names [])) s3.heap.objs.size X.env)) (compPost (model X.prog X.w) X.A X.xe use Qf (.ref D) s3.heap.objs.size) { s3 with heap := pushCells (s3.heap.push { cls := .type "dict", data := .dict #[] }) scope.names }
  generalize hce : compEnvC scope (cellsFrom (s3.heap.objs.size + 1) scope.names (cloFrom X.env.cells scope.names [])) s3.heap.objs.size X.env = ce at I4 pg pt pe ⊢
  have cL : ce.locals = s3.heap.objs.size := by subst hce; rfl
  generalize hH3 : upd H2 D (.lst []) = H3 at I3 I4 pg pt pe w0 f3 L3 sm3
  have hs4 : ∀ b o, s3.heap.get? b = some o → (pushCells (s3.heap.push { cls := .type "dict", data := .dict #[] }) scope.names).get? b = some o := fun b o e => pushCells_keeps _ _ _ _ (Heap.get?_push_of_some _ e)
  have sz4 : s3.heap.objs.size ≤ (pushCells (s3.heap.push { cls := .type "dict", data := .dict #[] }) scope.names).objs.size := by
    refine Nat.le_trans ?_ (pushCells_size _ _)
    rw [Heap.size_push]; exact Nat.le_succ _
  have g4 : ({ s3 with heap := pushCells (s3.heap.push { cls := .type "dict", data := .dict #[] }) scope.names } : Shared).gens = s3.gens := rfl
  have L4 : Slp (X.blk s3 H3 scope ce fp) [] g T gn T.n G gs q0 (wipe σ (own.map (·.2))) H3 { s3 with heap := pushCells (s3.heap.push { cls := .type "dict", data := .dict #[] }) scope.names } := by
    refine ⟨⟨L.held.P, L.held.w, L.held.K, L.held.mg, L.held.base, L.held.fr, L.held.out, L.held.os.trans I3.os.symm, L.held.old, L.held.frl, fun b l1 l2 nb => ?_⟩, L.obj, L.lt, Nat.le_trans L3.sz sz4, L3.at_, L3.rdy, L3.mem, L3.mem2, fun p hp => ⟨.inl ?_, ?_, fun p' hp' => ?_, (L3.own p hp).2.2.2⟩, I4.pins_of fun p hp => ?_⟩
    · cases y : s3.heap.get? b with
      | some o => exact ⟨o, rfl⟩
      | none => exact absurd (List.mem_append_right _ (mem_goneL.mpr ⟨l2, l1, y⟩)) nb
    · exact List.mem_append_left _ (List.mem_map.mpr ⟨p, hp, rfl⟩)
    · exact (I4.ok.exf p.1 (List.mem_append_left _ (List.mem_map.mpr ⟨p, hp, rfl⟩))).2
    · exact absurd (show p' ∈ ([] : List (Addr × Obj)) ++ [] from hp') (by simp)
    · have hp : p ∈ q0 := hp
      obtain ⟨h1, h2, h3', h4, h5⟩ := L3.pin hp
      refine ⟨hs4 _ _ h1, h2, ?_, fun z => ?_, h5⟩
      · show p.1 ≠ ce.locals
        rw [cL]
        exact Nat.ne_of_lt (Heap.lt_size h1)
      · rcases List.mem_cons.mp (I3.stkSub p.1 z) with y | y
        · exact h3' y
        · exact h4 y
  generalize ({ s3 with heap := pushCells (s3.heap.push { cls := .type "dict", data := .dict #[] }) scope.names } : Shared) = s4 at L4 ⊢
  have xg : XG (X.blk s3 H3 scope ce fp) := xg_not fun _ _ z => z
  have loop : codeAny (model X.prog X.w) X.A (.compLoop (.ListComp elt [⟨tg, iter, ifs, 0⟩] scope pos) 0 (.ref g.a) (.ref D) ce) (compPost (model X.prog X.w) X.A X.xe use Qf (.ref D) s3.heap.objs.size) s4 := by
    refine compLoop_any (fun n s' => ∃ i G gs q H', n + i = T.n ∧ Slp (X.blk s3 H3 scope ce fp) [] g T gn n G gs q (wipe σ (own.map (·.2))) H' s' ∧ Same G H' ∧ W i G H') ?_ T.n ⟨0, G, gs, q0, H3, by omega, L4, sm3, w0⟩
    rintro n s5 ⟨i, G5, gs5, q5, H5, en, L5, sm5, w5⟩
    obtain ⟨on5, turn5⟩ := turn i G5 H5 sm5 w5
    rcases turn5 with ⟨stop, qq⟩ | ⟨go, step⟩
    · have e0 : n = 0 := by omega
      subst e0
      have td := slp_done (E := fun _ _ => False) L5 sm5 on5 hh hdep gA
      refine thnF td fun r s6 ⟨hr, H6, I6, e6, f6⟩ => ?_
      subst hr
      have I7 : Inv X pins σ H6 s6 := (I3.unpinned (pins := pins)).call' (ch := fp) I6.os I6.base I6.hok I6.bare fun b hb => ⟨(f3 b hb).1.2.2.2.1, (f3 b hb).1.2.1, (f3 b hb).1.2.2.2.2.1, (f3 b hb).1.2.2.2.2.2⟩
      have nC : H6 s3.heap.objs.size = none := by
        have z : H6 ce.locals = none := I6.free
        rw [cL] at z
        exact z
      obtain ⟨m, hn, _⟩ := I6.loc
      have hn : s6.heap.Ns ce.locals m := hn
      rw [cL] at hn
      exact hRR D s3.heap.objs.size s6 m H6 I7 (qq H6 e6 f6) hn ((I3.unpinned (pins := pins)).fpOk (Nat.le_refl _) nC)
    · obtain ⟨m, rfl⟩ : ∃ m, n = m + 1 := ⟨n - 1, by omega⟩
      have ti := slp_item (E := fun _ _ => False) L5 sm5 on5 hh hdep gA
      refine thnF ti fun r s6 h6 => ?_
      obtain ⟨u, x, H6, G6, gs6, q6, rfl, rv, hsl, L6, it, e6, sm6, gr⟩ := h6
      have ei : T.n - (m + 1) = i := by omega
      rw [ei] at it
      have st := step x G6 H6 e6 gr sm6 it
      have hob : s6.heap.get? g.a = some g.go := (L6.pin L6.mem).1
      obtain ⟨nm, qn, hd⟩ := L6.obj.dat
      refine go_of hob L6.obj.cls hd (by decide) ?_
      refine thnF (slp_two (Q := fun _ s' => ∃ σ' H', Slp (X.blk s3 H3 scope ce fp) [] g T gn m G6 gs6 q6 σ' H' s' ∧ (wipe σ' (own.map (·.2)) = wipe σ (own.map (·.2)) ∧ tt σ' H' fun b H3 => if b = true then te σ' H3 fun y H4 => ∃ acc, H4 D = some (.lst acc) ∧ acc.length < sizeLine ∧ Same G6 (upd H4 D (.lst (acc ++ [y]))) ∧ W (i + 1) G6 (upd H4 D (.lst (acc ++ [y]))) else Same G6 H3 ∧ W (i + 1) G6 H3)) (R := fun σ' H' _ => (wipe σ' (own.map (·.2)) = wipe σ (own.map (·.2)) ∧ tt σ' H' fun b H3 => if b = true then te σ' H3 fun y H4 => ∃ acc, H4 D = some (.lst acc) ∧ acc.length < sizeLine ∧ Same G6 (upd H4 D (.lst (acc ++ [y]))) ∧ W (i + 1) G6 (upd H4 D (.lst (acc ++ [y]))) else Same G6 H3 ∧ W (i + 1) G6 H3)) L6 hsl xg (fun s0 I0 => pg.run _ s0 _ H6 x u _ I0 rv st) fun _ s7 σ7 H7 L7 q7 => ⟨σ7, H7, L7, q7⟩) fun _ s7 ⟨σ7, H7, L7, hw7, q7⟩ => ?_
      refine thnF (slp_two (Q := fun b s' => ∃ H', Slp (X.blk s3 H3 scope ce fp) [] g T gn m G6 gs6 q6 σ7 H' s' ∧ (if b = true then te σ7 H' (fun y H4 => ∃ acc, H4 D = some (.lst acc) ∧ acc.length < sizeLine ∧ Same G6 (upd H4 D (.lst (acc ++ [y]))) ∧ W (i + 1) G6 (upd H4 D (.lst (acc ++ [y])))) else Same G6 H' ∧ W (i + 1) G6 H')) (R := fun σ' H' b => σ' = σ7 ∧ (if b = true then te σ7 H' (fun y H4 => ∃ acc, H4 D = some (.lst acc) ∧ acc.length < sizeLine ∧ Same G6 (upd H4 D (.lst (acc ++ [y]))) ∧ W (i + 1) G6 (upd H4 D (.lst (acc ++ [y])))) else Same G6 H' ∧ W (i + 1) G6 H')) L7 hsl xg (fun s0 I0 => thnF (pt.run _ s0 σ7 H7 _ I0 q7) fun b s8 ⟨H8, I8, q8⟩ => ⟨σ7, H8, I8, rfl, q8⟩) fun b s8 σ8 H8 L8 q8 => ⟨H8, by obtain ⟨rfl, _⟩ := q8; exact L8, q8.2⟩) fun b s8 ⟨H8, L8, q8⟩ => ?_
      have hl : (wipe σ (own.map (·.2))).length = σ7.length := by rw [← hw7, wipe_length]
      have fin : ∀ {s' : Shared} {H' : Hp}, Slp (X.blk s3 H3 scope ce fp) [] g T gn m G6 gs6 q6 σ7 H' s' → Same G6 H' ∧ W (i + 1) G6 H' → ∃ m', m' < m + 1 ∧ ∃ i G gs q H', m' + i = T.n ∧ Slp (X.blk s3 H3 scope ce fp) [] g T gn m' G gs q (wipe σ (own.map (·.2))) H' s' ∧ Same G H' ∧ W i G H' := fun {s' H'} L' nx =>
        ⟨m, by omega, i + 1, G6, gs6, q6, H', by omega, L'.weak hl (fun j v e => by rw [← hw7] at e; exact (wipe_some e).1), nx.1, nx.2⟩
      cases b with
      | false =>
        simp only [Bool.false_eq_true, if_false] at q8 ⊢
        exact fin L8 q8
      | true =>
        simp only [if_true] at q8 ⊢
        refine thnF (slp_two (Q := fun z s' => ∃ yv H', RelV yv z ∧ Slp (X.blk s3 H3 scope ce fp) [] g T gn m G6 gs6 q6 σ7 H' s' ∧ (∃ acc, H' D = some (.lst acc) ∧ acc.length < sizeLine ∧ Same G6 (upd H' D (.lst (acc ++ [yv]))) ∧ W (i + 1) G6 (upd H' D (.lst (acc ++ [yv]))))) (R := fun σ' H' z => σ' = σ7 ∧ ∃ yv, RelV yv z ∧ (∃ acc, H' D = some (.lst acc) ∧ acc.length < sizeLine ∧ Same G6 (upd H' D (.lst (acc ++ [yv]))) ∧ W (i + 1) G6 (upd H' D (.lst (acc ++ [yv]))))) L8 hsl xg (fun s0 I0 => thnF (pe.run _ s0 σ7 H8 _ I0 q8) fun z s9 ⟨yv, H9, I9, r9, q9⟩ => ⟨σ7, H9, I9, rfl, yv, r9, q9⟩) fun z s9 σ9 H9 L9 q9 => by
          obtain ⟨rfl, yv, r9, q9⟩ := q9
          exact ⟨yv, H9, r9, L9, q9⟩) fun z s9 ⟨yv, H9, r9, L9, acc, hD9, hz9, nx⟩ => ?_
        refine thnF (slp_two (Q := fun _ s' => _) (R := fun σ' H' _ => σ' = σ7 ∧ H' = upd H9 D (.lst (acc ++ [yv]))) L9 hsl xg (fun s0 I0 => app_ok (X := X.blk s3 H3 scope ce fp) I0 hD9 hz9 r9 fun s11 I11 => ⟨σ7, _, I11, rfl, rfl⟩) fun _ s11 σ11 H11 L11 q11 => by
          obtain ⟨rfl, rfl⟩ := q11
          exact fin L11 nx) fun _ s11 q11 => q11
  exact codeAny_compStart_list loop (wpAny_pyIter_gen L4.isgen loop)
/-- as a value -/
theorem pe_lcG {elt tg iter : Expr} {ifs : List Expr} {scope : Scope} {own : List (Str × Nat)} {pos : Pos} {wg : TGn} {gt : TG} {tt : TT} {te : TE} {k : Nat} (hc : X.calm = true) (hN : X.N.Nodup) (hr : Room (k + 1) X.A) (hi : PGn X k iter wg) (ok : BlkOk X.N X.env.scope scope own)
    (hg : ∀ (s : Shared) (H : Hp) (C : Addr) (cl : List (Str × Addr)) (fp : List Addr), PG (X.blk s H scope (compEnvC scope cl C X.env) fp) tg gt) (ht : ∀ (s : Shared) (H : Hp) (C : Addr) (cl : List (Str × Addr)) (fp : List Addr), PTs (X.blk s H scope (compEnvC scope cl C X.env) fp) ifs tt)
    (he : ∀ (s : Shared) (H : Hp) (C : Addr) (cl : List (Str × Addr)) (fp : List Addr), PE (X.blk s H scope (compEnvC scope cl C X.env) fp) elt te) (hs : ∀ x, foldedSetIterable iter X.env x = pure x := by intro _; rfl) :
    PE X (.ListComp elt [⟨tg, iter, ifs, 0⟩] scope pos) (tLcG wg gt tt te (own.map (·.2))) := by
  refine ⟨fun pins s σ H Q I h => ?_⟩
  rw [eval_ListComp]
  refine lcG_core hc hN hr I hi ok hg ht he hs h fun D C s' m H' I' q hn f => ⟨m, hn, fun h'' sb => ?_⟩
  obtain ⟨f0, f1, f2, f3, f4, f5⟩ := f
  exact ⟨.ref D, H', I'.turned (t' := s'.toks) (fun b o hb e => (sb.2 b hb).trans e) f0 f1 f3 f4 f5, rfl, q⟩
end
end Gn

set_option maxHeartbeats 2000000
/-! Pg: defs that are called where nothing is being shown (guards are empty). -/
namespace Pg
open PySem PySem.Spec PyProof.Rows L2

/-- the def at f keeps its promise where no object is being shown -/
structure FnG (P : Program) (w : World) (K : PySem.W.Frag) (mg : Str → Option Value) (base : Heap) (k : Nat) (f : Addr) (fd : FuncData) (ps : List Str) (sp : Sp) : Prop where
  len : ∀ vs H Q E, sp vs H Q E → vs.length = ps.length
  run : ∀ (A : Around) (outer : List Env) (s : Shared) (H : Hp) (args : Args) (us : List Value) (vs : List V) (Q : VK) (E : XK), Room k A → A.guards = some [] → Env0 P w K mg base A outer s H → BindsTo s fd args (ps.zip us) → Vals vs us → sp vs H Q E →
    codeAny (model P w) A (.call (.ref f) args) (CR CX0 outer P w H s Q E) s

theorem gd_deeper {A : Around} {env : Env} (h : A.guards = some []) : (A.deeper env).guards = some [] := h

section
variable {P : Program} {w : World} {K : PySem.W.Frag} {mg : Str → Option Value} {base : Heap} {k : Nat} {f : Addr}
theorem fnG_of {name qual : Str} {params : Arguments} {body : List Stmt} {scope : Scope} {dV kV doc pm cdv ct oc : Value} {an od : Option Addr} {osl : Array (Option Value)} {N ps : List Str} {sp : Sp}
    (lk : K.lookup f = some ⟨oc, od, .func (PySem.W.fnOf name qual params body scope dV kV doc pm an cdv ct), osl⟩) (hcd : PySem.W.codeIn K cdv qual = true) (S : FnScope N ps scope)
    (len : ∀ vs H Q E, sp vs H Q E → vs.length = ps.length)
    (hbody : ∀ (A : Around) (outer : List Env) (s : Shared) (H : Hp) (vs : List V) (Q : VK) (E : XK), Room k (A.deeper (envOfC qual scope s.heap.objs.size f cdv)) → (A.deeper (envOfC qual scope s.heap.objs.size f cdv)).guards = some [] → sp vs H Q E →
      ∃ t, PSs (cxOf CX0 P w K mg base N qual scope f cdv A outer s H E) body t ∧ t { nx := fun _ H' => Q .non H', rt := Q } (start N vs) H) :
    FnG P w K mg base (k + 1) f (PySem.W.fnOf name qual params body scope dV kV doc pm an cdv ct) ps sp := by
  refine ⟨len, fun A outer s H args us vs Q E hr hgd e0 hb r hsp => ?_⟩
  have hl := len _ _ _ _ hsp
  have KX : K.In s.heap := e0.mod.kin.keeps fun b o e => (e0.bs b o e).1
  have lim : s.heap.NoLimit := e0.mod.nolimit.keeps fun b o e => (e0.bs b o e).1
  have hkind : ∀ y ∈ ps.zip us, scope.names.lookup y.1 = some .local ∨ (scope.names.lookup y.1 = some .cell ∧ ((cellsFrom (s.heap.objs.size + 1) scope.names []).lookup y.1).isSome = true) := fun ⟨n, v⟩ hy => by
    rcases S.par n (List.of_mem_zip hy).1 with q | q
    · exact .inl q
    · exact .inr ⟨q, PySem.W.cellsFrom_some _ _ _ (.inl q)⟩
  refine codeAny_call_function hr.depth (KX _ _ lk) rfl S.co S.gen rfl (PySem.W.codeRec_of KX hcd) (hb _ _ _ _ ?_)
  refine wpAny_newFunctionEnv_cells S.kind hkind fun env he s1 x => ?_
  subst he
  refine ⟨lim.keeps x.toInCall.keep, codeAny_func ?_⟩
  obtain ⟨t, ht, hq⟩ := hbody A outer s H vs Q E (hr.deeper _) (gd_deeper hgd) hsp
  have I : Inv (cxOf CX0 P w K mg base N qual scope f cdv A outer s H E) [] (start N vs) H s1 := inv_start S hr.hd e0 hl r x
  refine wpAny_mono (ht.run [] s1 (start N vs) H _ I hq) (fun fl s' hs => ?_) fun e s' hs => hs
  have fin : ∀ {σ' : L2.St} {H' : Hp} {v : V} {u : Value}, Inv (cxOf CX0 P w K mg base N qual scope f cdv A outer s H E) [] σ' H' s' → RelV v u → Q v H' → CE outer P w H s Q u s' :=
    fun {σ' H' v u} J rv q => ⟨v, H', J.os, J.bare, J.base, J.hok, rv, q⟩
  cases fl with
  | ret u =>
    obtain ⟨v, σ', H', J, rv, q⟩ := hs
    exact fin J rv q
  | next =>
    obtain ⟨σ', H', J, q⟩ := hs
    exact fin (v := V.non) (u := Value.none) J rfl q
  | brk =>
    obtain ⟨_, _, _, q⟩ := hs
    exact False.elim q
  | cont =>
    obtain ⟨_, _, _, q⟩ := hs
    exact False.elim q
/-- THE RULE for a def of the text -/
theorem okG {x qual : Str} {st : Stmt} {fd : FuncData} {N ps : List Str} {sp : Sp} (F : Fun K x qual st f fd) (S : FnScope N ps (defScope st)) (len : ∀ vs H Q E, sp vs H Q E → vs.length = ps.length)
    (hbody : ∀ (cdv : Value) (A : Around) (outer : List Env) (s : Shared) (H : Hp) (vs : List V) (Q : VK) (E : XK), Room k (A.deeper (envOfC qual (defScope st) s.heap.objs.size f cdv)) → (A.deeper (envOfC qual (defScope st) s.heap.objs.size f cdv)).guards = some [] → sp vs H Q E →
      ∃ t, PSs (cxOf CX0 P w K mg base N qual (defScope st) f cdv A outer s H E).nox (defBody st) t ∧ t { nx := fun _ H' => Q .non H', rt := Q } (start N vs) H) : FnG P w K mg base (k + 1) f fd ps sp := by
  obtain ⟨oc, od, kV, doc, pm, an, cdv, ct, osl, rfl, lk, hcd⟩ := F.ex
  refine fnG_of lk hcd S len fun A outer s H vs Q E hr hgd hsp => ?_
  obtain ⟨t, h, q⟩ := hbody cdv A outer s H vs Q E hr hgd hsp
  exact ⟨t, h.nox, q⟩
end
/-- a def of the module, called by its name -/
structure CalG (P : Program) (w : World) (K : PySem.W.Frag) (mg : Str → Option Value) (base : Heap) (k : Nat) (x : Str) (sp : Sp) : Prop where
  ex : ∃ (f : Addr) (fd : FuncData) (ps : List Str), FnG P w K mg base k f fd ps sp ∧ mg x = some (.ref f) ∧ PySem.W.keepIn K (.ref f) = true ∧ Binds K fd ps []
section
variable {X : Cx} {k j : Nat} {x : Str} {sp : Sp} {p pos : Pos} {e : Expr} {es : List Expr} {t : TA}
theorem run_fnG {f : Addr} {fd : FuncData} {ps : List Str} {pins : List (Addr × Obj)} {σ : L2.St} {H : Hp} {s : Shared} {Q : VK} {us : List Value} {vs : List V} (F : FnG X.prog X.w X.K X.mg X.base k f fd ps sp) (hr : Room k X.A) (hgd : X.A.guards = some []) (hb : Binds X.K fd ps [])
    (I : Inv X pins σ H s) (r : Vals vs us) (h : sp vs H Q E0) : wpAny (model X.prog X.w) X.A (call (.ref f) us) (EP X pins σ Q) X.xe s := by
  have hl : (us ++ []).length = ps.length := by rw [List.append_nil, ← r.length]; exact F.len _ _ _ _ h
  have hb' := hb s us I.kIn hl
  rw [List.append_nil] at hb'
  refine wpAny_call (codeAny_mono (F.run X.A X.stack s H ⟨us, []⟩ us vs Q E0 hr hgd I.env0 hb' r h) fun r s' hq => ?_)
  cases r with
  | error e => exact False.elim hq
  | ok fl =>
    cases fl with
    | ret u => exact I.after hq
    | next => exact False.elim hq
    | brk => exact False.elim hq
    | cont => exact False.elim hq
def tCallG (sp : Sp) (t : TA) : TE := fun σ H Q => t σ H fun vs H1 => sp vs H1 Q E0
theorem pe_cG (c : CalG X.prog X.w X.K X.mg X.base k x sp) (hr : Room j X.A) (hk : k ≤ j) (hgd : X.A.guards = some []) (hg : Gl X x) (ha : PA X (e :: es) t)
    (hdb : (x == ("__debug__" : Str)) = false := by decide) (he : starEach (e :: es) X.env = (false, eval e X.env) :: starEach es X.env := by rfl) (hpl : (backTo pos (starEach es X.env)).any (·.1) = false := by rfl) :
    PE X (.Call (.Name x p) (e :: es) [] pos) (tCallG sp t) := by
  obtain ⟨f, fd, ps, F, hm, kp, b⟩ := c.ex
  refine ⟨fun pins s σ H Q I h => ?_⟩
  refine wpAny_Call_Name_kw (ld_glob I hg hm ?_ hdb)
  refine PySem.W.callWith_K (h₀ := X.base) I.ok.mod.kin kp (thn (ha.run pos pins s σ H _ I h) fun us s1 ⟨vs, H1, I1, r, q⟩ => ⟨I1.kIn, ?_⟩) he hpl
  exact run_fnG F (hr.mono hk) hgd b I1 r q

/-- a def of the module whose promise hangs on nothing that is shown -/
structure CalO (P : Program) (w : World) (K : PySem.W.Frag) (mg : Str → Option Value) (base : Heap) (k : Nat) (x : Str) (sp : Sp) : Prop where
  ex : ∃ (f : Addr) (fd : FuncData) (ps : List Str), FnOk P w K mg base CX0 k f fd ps sp ∧ mg x = some (.ref f) ∧ PySem.W.keepIn K (.ref f) = true ∧ Binds K fd ps []
theorem pe_cO (c : CalO X.prog X.w X.K X.mg X.base k x sp) (hr : Room j X.A) (hk : k ≤ j) (hg : Gl X x) (ha : PA X (e :: es) t)
    (hdb : (x == ("__debug__" : Str)) = false := by decide) (he : starEach (e :: es) X.env = (false, eval e X.env) :: starEach es X.env := by rfl) (hpl : (backTo pos (starEach es X.env)).any (·.1) = false := by rfl) :
    PE X (.Call (.Name x p) (e :: es) [] pos) (tCallG sp t) := by
  obtain ⟨f, fd, ps, F, hm, kp, b⟩ := c.ex
  have z := pe_call (pos := pos) (p := p) F (hr.mono hk) hg hm kp b .nil pass0 ha hdb he hpl
  have et : tCall sp [] E0 t = tCallG sp t := by
    funext σ H Q
    show t σ H _ = t σ H _
    congr 1
    funext vs H1
    rw [List.append_nil]
  rw [← et]
  exact z

/-! ### repr of data -/
theorem call_reprD (hgd : X.A.guards = some []) (hu : X.A.units + 64 < cLine) :
    CallR X (.builtin "repr") (fun xs H Q => ∃ a d, xs = [.ref a] ∧ Dp X.K H (.ref a) d ∧ d.showable = true ∧ d.hasDict = false ∧ d.depth ≤ 60 ∧ d.shown.length ≤ sizeLine ∧ Q (.str d.shown) H) := by
  intro pins s σ H xs us Q I r h
  obtain ⟨a, d, rfl, hd, hs, hnd, hdp, hsz, q⟩ := h
  obtain ⟨u, rfl, ru⟩ := vals1 r
  obtain rfl : u = Value.ref a := ru
  obtain ⟨as, rd⟩ := Dp.reads I d _ _ hd rfl
  refine repr_of_reads' (h₀ := s.heap) rd hs (fun z => by rw [hnd] at z; cases z) hgd (by omega) (fun b o e => e) (fun h' u tk hk => ⟨.str d.shown, H, I.kept (t' := tk) hk, ⟨_, rfl⟩, q⟩) hsz
end
end Pg

/-! Pf: what is known for good (G) within what stands now (H). -/
namespace Pf
open PySem PySem.Spec PyProof.Rows L2 Pg

theorem upd_none_ne {H : Hp} {a b : Addr} {o : HO} (h : b ≠ a) (e : H b = none) : upd H a o b = none := by rw [upd_ne h]; exact e
theorem Same.new {H : Hp} {p : Addr} {o : HO} (h : H p = none) : Same H (upd H p o) := fun a u e => by
  rw [upd_ne (ne_of_none e h)]
  exact e
/-- from (G, H) to (G', H'): nothing that stood has changed; what G' knows anew is new -/
structure Fut (G H G' H' : Hp) : Prop where
  g : Same G G'
  h : Same H H'
  s : Same G' H'
  n : ∀ p, G' p ≠ none → G p ≠ none ∨ H p = none
/-- .. but for what stands at m and q -/
structure FutM (m q : Addr) (G H G' H' : Hp) : Prop where
  g : Same G G'
  h : ∀ p o, H p = some o → p ≠ m → p ≠ q → H' p = some o
  s : Same G' H'
  n : ∀ p, G' p ≠ none → G p ≠ none ∨ H p = none
  k : ∀ p, H' p = none → H p = none
theorem Fut.refl {G H : Hp} (s : Same G H) : Fut G H G H := ⟨Same.refl _, Same.refl _, s, fun _ h => .inl h⟩
theorem Fut.trans {G H G1 H1 G2 H2 : Hp} (a : Fut G H G1 H1) (b : Fut G1 H1 G2 H2) : Fut G H G2 H2 :=
  ⟨a.g.trans b.g, a.h.trans b.h, b.s, fun p h => (b.n p h).elim (a.n p) fun z => .inr (a.h.free z)⟩
/-- a new object, known from now on -/
theorem Fut.new {G H : Hp} {p : Addr} {o : HO} (s : Same G H) (h : H p = none) : Fut G H (upd G p o) (upd H p o) :=
  ⟨Same.new (s.free h), Same.new h, fun b u e => by
    by_cases q : b = p
    · rw [q, upd_same] at e ⊢
      exact e
    · rw [upd_ne q] at e ⊢
      exact s _ _ e, fun b e => by
    by_cases q : b = p
    · exact .inr (q ▸ h)
    · rw [upd_ne q] at e
      exact .inl e⟩
/-- H grew, G as it was -/
theorem Fut.up {G H H' : Hp} (s : Same G H) (h : Same H H') : Fut G H G H' := ⟨Same.refl _, h, s.trans h, fun _ e => .inl e⟩
theorem Fut.m {m q : Addr} {G H G' H' : Hp} (a : Fut G H G' H') : FutM m q G H G' H' := ⟨a.g, fun p o e _ _ => a.h p o e, a.s, a.n, fun p e => a.h.free e⟩
theorem FutM.trans {m q : Addr} {G H G1 H1 G2 H2 : Hp} (a : FutM m q G H G1 H1) (b : FutM m q G1 H1 G2 H2) : FutM m q G H G2 H2 :=
  ⟨a.g.trans b.g, fun p o e h1 h2 => b.h p o (a.h p o e h1 h2) h1 h2, b.s, fun p h => (b.n p h).elim (a.n p) fun z => .inr (a.k p z), fun p e => a.k p (b.k p e)⟩
theorem FutM.refl {m q : Addr} {G H : Hp} (s : Same G H) : FutM m q G H G H := (Fut.refl s).m
/-- the object at l, not known for good, changes -/
theorem Fut.mut {G H : Hp} {l : Addr} {o : HO} (s : Same G H) (hl : G l = none) : Same G (upd H l o) := fun b u e => by
  rw [upd_ne (ne_of_none e hl)]
  exact s _ _ e

mutual
theorem Dp.mono {K : PySem.W.Frag} {H H' : Hp} (e : Same H H') : ∀ (d : PyData) (v : V), Dp K H v d → Dp K H' v d
  | .none, _, h => by cases h; exact .non
  | .bool _, _, h => by cases h; exact .bl _
  | .int _, _, h => by cases h; exact .int _
  | .str _, _, h => by cases h; exact .str _
  | .list ds, _, h => by
    cases h with
    | lst a b => exact .lst (Same.seq e a) (DpAll.mono e ds _ b)
  | .tuple ds, _, h => by
    cases h with
    | tup a b => exact .tup (Evl.ex_t e a) (DpAll.mono e ds _ b)
  | .dict _, _, h => by cases h
theorem DpAll.mono {K : PySem.W.Frag} {H H' : Hp} (e : Same H H') : ∀ (ds : List PyData) (vs : List V), DpAll K H vs ds → DpAll K H' vs ds
  | [], _, h => by cases h; exact .nil
  | d :: ds, _, h => by
    cases h with
    | cons a b => exact .cons (Dp.mono e d _ a) (DpAll.mono e ds _ b)
end
theorem DpAll.ints {K : PySem.W.Frag} {H : Hp} : ∀ (ns : List Int), DpAll K H (ns.map V.int) (ns.map PyData.int)
  | [] => .nil
  | n :: ns => .cons (.int n) (DpAll.ints ns)
theorem DpAll.len {K : PySem.W.Frag} {H : Hp} : ∀ {vs : List V} {ds : List PyData}, DpAll K H vs ds → vs.length = ds.length
  | _, _, .nil => rfl
  | _, _, .cons _ b => by rw [List.length_cons, List.length_cons, DpAll.len b]
theorem DpAll.at {K : PySem.W.Frag} {H : Hp} : ∀ {vs : List V} {ds : List PyData} {i : Nat} {d : PyData}, DpAll K H vs ds → ds[i]? = some d → ∃ v, vs[i]? = some v ∧ Dp K H v d
  | _, _, 0, d, .cons a b, h => ⟨_, rfl, by
    have e := Option.some.inj h
    rw [← e]
    exact a⟩
  | _, _, i + 1, d, .cons a b, h => DpAll.at (i := i) b h
  | _, _, i, d, .nil, h => by simp at h
theorem DpAll.at' {K : PySem.W.Frag} {H : Hp} : ∀ {vs : List V} {ds : List PyData} {i : Nat} {v : V}, DpAll K H vs ds → vs[i]? = some v → ∃ d, ds[i]? = some d ∧ Dp K H v d
  | _, _, 0, d, .cons a b, h => ⟨_, rfl, by
    have e := Option.some.inj h
    rw [← e]
    exact a⟩
  | _, _, i + 1, d, .cons a b, h => DpAll.at' (i := i) b h
  | _, _, i, d, .nil, h => by simp at h
theorem DpAll.snoc {K : PySem.W.Frag} {H : Hp} : ∀ {vs : List V} {ds : List PyData} {v : V} {d : PyData}, DpAll K H vs ds → Dp K H v d → DpAll K H (vs ++ [v]) (ds ++ [d])
  | _, _, _, _, .nil, h => .cons h .nil
  | _, _, _, _, .cons a b, h => .cons a (DpAll.snoc b h)
theorem DpAll.app {K : PySem.W.Frag} {H : Hp} : ∀ {vs ws : List V} {ds es : List PyData}, DpAll K H vs ds → DpAll K H ws es → DpAll K H (vs ++ ws) (ds ++ es)
  | _, _, _, _, .nil, h => h
  | _, _, _, _, .cons a b, h => .cons a (DpAll.app b h)

/-! ### the state from which all numbers are drawn -/
abbrev kc : Key := Sum.inr ("cells" : Str)
abbrev kg : Key := Sum.inr ("great" : Str)
abbrev ks : Key := Sum.inr ("spot" : Str)
structure MAt (G H : Hp) (m c q : Addr) (b : Nat) : Prop where
  s : Same G H
  gm : G m = none
  gc : G c = none
  gq : G q = none
  ob : ∃ n : Int, H m = some (.dK [(kc, .ref c), (kg, .ref q), (ks, .int n)]) ∧ 0 ≤ n ∧ n ≤ b
  cs : ∃ cs : List Int, H c = some (.lst (cs.map V.int)) ∧ cs.length = 64
  gs : ∃ gs : List Int, H q = some (.lst (gs.map V.int)) ∧ gs.length ≤ 63
  cq : c ≠ q
theorem MAt.mono {G H : Hp} {m c q : Addr} {b b' : Nat} (M : MAt G H m c q b) (h : b ≤ b') : MAt G H m c q b' :=
  ⟨M.s, M.gm, M.gc, M.gq, let ⟨n, a, h0, h1⟩ := M.ob; ⟨n, a, h0, by omega⟩, M.cs, M.gs, M.cq⟩
theorem MAt.fut {G H G' H' : Hp} {m c q : Addr} {b : Nat} (M : MAt G H m c q b) (f : Fut G H G' H') : MAt G' H' m c q b := by
  obtain ⟨n, a, h0, h1⟩ := M.ob
  obtain ⟨cs, b1, b2⟩ := M.cs
  obtain ⟨gs, c1, c2⟩ := M.gs
  have no : ∀ p o, G p = none → H p = some o → G' p = none := fun p o e1 e2 => by
    cases e : G' p with
    | none => rfl
    | some z =>
      rcases f.n p (by rw [e]; simp) with x | x
      · exact absurd e1 x
      · rw [e2] at x
        cases x
  exact ⟨f.s, no _ _ M.gm a, no _ _ M.gc b1, no _ _ M.gq c1, ⟨n, f.h _ _ a, h0, h1⟩, ⟨cs, f.h _ _ b1, b2⟩, ⟨gs, f.h _ _ c1, c2⟩, M.cq⟩
end Pf

set_option maxHeartbeats 1000000
/-! Pp0: readings that compute: data, worlds, answers. -/
namespace Pp
open PySem PySem.Spec PyProof.Rows L2 Pg Pf LamX
/-- what is fixed through a law: the tables of code objects, the own classes by numbers -/
structure Zn where
  T : List (Addr × Str)
  cl : Nat → Addr
/-- the attributes of the own classes, in the order in which they are set: Way, Plan, Crossing, LoggedCrossing -/
def nm : Nat → List Str
  | 0 => ["_rights", "_lefts", "_places", "_table"]
  | 1 => ["_way", "_cells"]
  | 2 => ["_way", "_right_spots", "_left_spots", "_cells"]
  | 3 => ["_way", "_right_spots", "_left_spots", "_cells", "_log"]
  | _ => []
/-- data: what a value stands for -/
inductive D where
  | non | bl (b : Bool) | int (i : Int) | str (x : Str) | tup (ds : List D) | lst (ds : List D)
  /-- an instance of an own class, whole -/
  | obj (c : Nat) (ds : List D)
  /-- any object, by its address alone -/
  | adr (a : Addr)
  /-- {} -/
  | emp
  /-- a list that is only read -/
  | rls (ds : List D)
mutual
inductive Dv (K : PySem.W.Frag) (Z : Zn) (G : Hp) : V → D → Prop
  | non : Dv K Z G .non .non
  | bl (b : Bool) : Dv K Z G (.bl b) (.bl b)
  | int (i : Int) : Dv K Z G (.int i) (.int i)
  | str (x : Str) : Dv K Z G (.str x) (.str x)
  | tup {a : Addr} {vs : List V} {ds : List D} (h : SqT K G a vs) (hs : DvA K Z G vs ds) : Dv K Z G (.ref a) (.tup ds)
  | lst {a : Addr} {vs : List V} {ds : List D} (h : G a = some (.lst vs)) (hs : DvA K Z G vs ds) : Dv K Z G (.ref a) (.lst ds)
  | obj {a : Addr} {c : Nat} {dx : Addr} {fs : List (Str × V)} {ds : List D} (h : G a = some (.ins (Z.cl c) dx fs)) (hn : fs.map Prod.fst = nm c) (hs : DvA K Z G (fs.map Prod.snd) ds) : Dv K Z G (.ref a) (.obj c ds)
  | adr (a : Addr) : Dv K Z G (.ref a) (.adr a)
  | emp {a : Addr} (h : G a = some (.dK [])) : Dv K Z G (.ref a) .emp
  | rls {a : Addr} {vs : List V} {ds : List D} (h : SqL K G a vs) (hs : DvA K Z G vs ds) : Dv K Z G (.ref a) (.rls ds)
inductive DvA (K : PySem.W.Frag) (Z : Zn) (G : Hp) : List V → List D → Prop
  | nil : DvA K Z G [] []
  | cons {v : V} {d : D} {vs : List V} {ds : List D} (h : Dv K Z G v d) (hs : DvA K Z G vs ds) : DvA K Z G (v :: vs) (d :: ds)
end
mutual
theorem Dv.mono {K : PySem.W.Frag} {Z : Zn} {H H' : Hp} (e : Same H H') : ∀ (d : D) (v : V), Dv K Z H v d → Dv K Z H' v d
  | .non, _, h => by cases h; exact .non
  | .bl _, _, h => by cases h; exact .bl _
  | .int _, _, h => by cases h; exact .int _
  | .str _, _, h => by cases h; exact .str _
  | .lst ds, _, h => by
    cases h with
    | lst a b => exact .lst (e _ _ a) (DvA.mono e ds _ b)
  | .tup ds, _, h => by
    cases h with
    | tup a b => exact .tup (Evl.ex_t e a) (DvA.mono e ds _ b)
  | .obj _ ds, _, h => by
    cases h with
    | obj a n b => exact .obj (e _ _ a) n (DvA.mono e ds _ b)
  | .adr _, _, h => by cases h; exact .adr _
  | .emp, _, h => by
    cases h with
    | emp a => exact .emp (e _ _ a)
  | .rls ds, _, h => by
    cases h with
    | rls a b => exact .rls (Evl.ex_l e a) (DvA.mono e ds _ b)
theorem DvA.mono {K : PySem.W.Frag} {Z : Zn} {H H' : Hp} (e : Same H H') : ∀ (ds : List D) (vs : List V), DvA K Z H vs ds → DvA K Z H' vs ds
  | [], _, h => by cases h; exact .nil
  | d :: ds, _, h => by
    cases h with
    | cons a b => exact .cons (Dv.mono e d _ a) (DvA.mono e ds _ b)
end
section
variable {K : PySem.W.Frag} {Z : Zn} {G : Hp}
theorem DvA.len : ∀ {vs : List V} {ds : List D}, DvA K Z G vs ds → vs.length = ds.length
  | _, _, .nil => rfl
  | _, _, .cons _ b => by rw [List.length_cons, List.length_cons, DvA.len b]
theorem DvA.at : ∀ {vs : List V} {ds : List D} {i : Nat} {d : D}, DvA K Z G vs ds → ds[i]? = some d → ∃ v, vs[i]? = some v ∧ Dv K Z G v d
  | _, _, 0, d, .cons a b, h => ⟨_, rfl, by
    have e := Option.some.inj h
    rw [← e]
    exact a⟩
  | _, _, i + 1, d, .cons a b, h => DvA.at (i := i) b h
  | _, _, i, d, .nil, h => by simp at h
theorem DvA.at' : ∀ {vs : List V} {ds : List D} {i : Nat} {v : V}, DvA K Z G vs ds → vs[i]? = some v → ∃ d, ds[i]? = some d ∧ Dv K Z G v d
  | _, _, 0, d, .cons a b, h => ⟨_, rfl, by
    have e := Option.some.inj h
    rw [← e]
    exact a⟩
  | _, _, i + 1, d, .cons a b, h => DvA.at' (i := i) b h
  | _, _, i, d, .nil, h => by simp at h
theorem DvA.app : ∀ {vs ws : List V} {ds es : List D}, DvA K Z G vs ds → DvA K Z G ws es → DvA K Z G (vs ++ ws) (ds ++ es)
  | _, _, _, _, .nil, h => h
  | _, _, _, _, .cons a b, h => .cons a (DvA.app b h)
theorem DvA.snoc {vs : List V} {ds : List D} {v : V} {d : D} (h : DvA K Z G vs ds) (k : Dv K Z G v d) : DvA K Z G (vs ++ [v]) (ds ++ [d]) := h.app (.cons k .nil)
theorem DvA.rev : ∀ {vs : List V} {ds : List D}, DvA K Z G vs ds → DvA K Z G vs.reverse ds.reverse
  | _, _, .nil => .nil
  | _, _, .cons a b => by
    rw [List.reverse_cons, List.reverse_cons]
    exact b.rev.snoc a
theorem DvA.take : ∀ {vs : List V} {ds : List D} (n : Nat), DvA K Z G vs ds → DvA K Z G (vs.take n) (ds.take n)
  | _, _, 0, _ => by rw [List.take_zero, List.take_zero]; exact .nil
  | _, _, n + 1, .nil => .nil
  | _, _, n + 1, .cons a b => .cons a (b.take n)
theorem DvA.drop : ∀ {vs : List V} {ds : List D} (n : Nat), DvA K Z G vs ds → DvA K Z G (vs.drop n) (ds.drop n)
  | _, _, 0, h => h
  | _, _, n + 1, .nil => .nil
  | _, _, n + 1, .cons a b => b.drop n
theorem DvA.set : ∀ {vs : List V} {ds : List D} {v : V} {d : D} (n : Nat), DvA K Z G vs ds → Dv K Z G v d → DvA K Z G (vs.set n v) (ds.set n d)
  | _, _, _, _, 0, .nil, _ => .nil
  | _, _, _, _, _ + 1, .nil, _ => .nil
  | _, _, _, _, 0, .cons a b, h => .cons h b
  | _, _, _, _, n + 1, .cons a b, h => .cons a (b.set n h)
theorem DvA.ints : ∀ (ns : List Int), DvA K Z G (ns.map V.int) (ns.map D.int)
  | [] => .nil
  | n :: ns => .cons (.int n) (DvA.ints ns)
end
/-- the state from which numbers are drawn -/
structure MS where
  m : Addr
  c : Addr
  q : Addr
  /-- so many have been drawn at most -/
  b : Nat
abbrev S := Option MS
def adr : S → Option (Addr × Addr × Addr)
  | none => none
  | some k => some (k.m, k.c, k.q)
def inS (s : S) (p : Addr) : Prop := match adr s with
  | none => False
  | some (m, c, q) => p = m ∨ p = c ∨ p = q
theorem inS_of {s s' : S} (e : adr s' = adr s) (p : Addr) : inS s' p = inS s p := by unfold inS; rw [e]
/-- G knows no table of code objects -/
def NoT (G : Hp) : Prop := ∀ b ps, G b ≠ some (.tbl ps)
def MR (V H : Hp) : S → Prop
  | none => True
  | some k => (∃ n : Int, H k.m = some (.dK [(kc, .ref k.c), (kg, .ref k.q), (ks, .int n)]) ∧ 0 ≤ n ∧ n ≤ k.b) ∧ (∃ cs : List Int, H k.c = some (.lst (cs.map L2.V.int)) ∧ cs.length = 64) ∧ (∃ gs : List Int, H k.q = some (.lst (gs.map L2.V.int)) ∧ gs.length ≤ 63) ∧ V k.m = none ∧ V k.c = none ∧ V k.q = none ∧ k.c ≠ k.q
structure Wd (T : List (Addr × Str)) (V H : Hp) (s : S) : Prop where
  sv : Same V H
  nt : NoT V
  tb : Tabs T H
  mr : MR V H s
theorem MR.inV {V H : Hp} {s : S} (h : MR V H s) {p : Addr} (e : inS s p) : V p = none := by
  cases s with
  | none => exact e.elim
  | some k =>
    obtain ⟨_, _, _, a, b, c, _⟩ := h
    rcases e with rfl | rfl | rfl
    · exact a
    · exact b
    · exact c
theorem MR.inH {V H : Hp} {s : S} (h : MR V H s) {p : Addr} (e : inS s p) : H p ≠ none := by
  cases s with
  | none => exact e.elim
  | some k =>
    obtain ⟨⟨_, a, _⟩, ⟨_, b, _⟩, ⟨_, c, _⟩, _⟩ := h
    rcases e with rfl | rfl | rfl
    · rw [a]; simp
    · rw [b]; simp
    · rw [c]; simp
/-- free, or a table of code objects -/
def Fre (H : Hp) (p : Addr) : Prop := H p = none ∨ ∃ ps, H p = some (.tbl ps)
theorem fre_ne {H : Hp} {a p : Addr} {o : HO} (e : H a = some o) (n : ∀ ps, o ≠ .tbl ps) (f : Fre H p) : a ≠ p := fun z => by
  subst z
  rcases f with f | ⟨ps, f⟩
  · rw [e] at f
    cases f
  · rw [e] at f
    exact n ps (Option.some.inj f)
/-- from (V, H) and s to (V', H') and s': nothing that stood has changed but the state's own objects and tables; what V' knows anew is new -/
structure Nx (s s' : S) (V H V' H' : Hp) : Prop where
  a : adr s' = adr s
  g : Same V V'
  h : ∀ p o, H p = some o → (∀ ps, o ≠ .tbl ps) → ¬ inS s p → H' p = some o
  n : ∀ p, V' p ≠ none → V p ≠ none ∨ Fre H p
  k : ∀ p, Fre H' p → Fre H p
section
variable {T : List (Addr × Str)} {s s' s'' : S} {V H V' H' V'' H'' : Hp}
theorem Nx.refl (s : S) (V H : Hp) : Nx s s V H V H := ⟨rfl, Same.refl _, fun _ _ e _ _ => e, fun _ e => .inl e, fun _ e => e⟩
theorem Nx.trans (x : Nx s s' V H V' H') (y : Nx s' s'' V' H' V'' H'') : Nx s s'' V H V'' H'' :=
  ⟨y.a.trans x.a, x.g.trans y.g, fun p o e n i => y.h p o (x.h p o e n i) n (by rw [inS_of x.a]; exact i), fun p e => (y.n p e).elim (x.n p) fun z => .inr (x.k p z), fun p e => x.k p (y.k p e)⟩
/-- what V does not know of the old heap, V' does not -/
theorem Nx.not (x : Nx s s' V H V' H') {p : Addr} {u : HO} (e : V p = none) (h : H p = some u) (nt : ∀ ps, u ≠ .tbl ps) : V' p = none := by
  cases z : V' p with
  | none => rfl
  | some o => exact ((x.n p (by rw [z]; simp)).elim (fun y => absurd e y) fun y => absurd rfl (fre_ne h nt y))
/-- a new object, known from now on -/
theorem Nx.new {p : Addr} {o : HO} (w : Wd T V H s) (h : H p = none) : Nx s s V H (upd V p o) (upd H p o) :=
  ⟨rfl, Same.new (w.sv.free h), fun b u e _ _ => by rw [upd_ne (ne_of_none e h)]; exact e, fun b e => by
    by_cases q : b = p
    · exact .inr (.inl (q ▸ h))
    · rw [upd_ne q] at e
      exact .inl e, fun b e => by
    by_cases q : b = p
    · exact .inl (q ▸ h)
    · unfold Fre at e
      rw [upd_ne q] at e
      exact e⟩
/-- a new object, not known for good -/
theorem Nx.up {p : Addr} {o : HO} (h : H p = none) : Nx s s V H V (upd H p o) :=
  ⟨rfl, Same.refl _, fun b u e _ _ => by rw [upd_ne (ne_of_none e h)]; exact e, fun b e => .inl e, fun b e => by
    by_cases q : b = p
    · exact .inl (q ▸ h)
    · unfold Fre at e
      rw [upd_ne q] at e
      exact e⟩
/-- the new object at p changes -/
theorem Nx.mut {p : Addr} {o : HO} (x : Nx s s' V H V' H') (h : Fre H p) : Nx s s' V H V' (upd H' p o) :=
  ⟨x.a, x.g, fun b u e n i => by rw [upd_ne (fre_ne e n h)]; exact x.h b u e n i, x.n, fun b e => by
    by_cases q : b = p
    · exact q ▸ h
    · unfold Fre at e
      rw [upd_ne q] at e
      exact x.k b e⟩
/-- .. is known from now on -/
theorem Nx.freeze {p : Addr} {o : HO} (x : Nx s s' V H V' H') (h : Fre H p) (v : V' p = none) : Nx s s' V H (upd V' p o) H' :=
  ⟨x.a, x.g.trans (Same.new v), x.h, fun b e => by
    by_cases q : b = p
    · exact .inr (q ▸ h)
    · rw [upd_ne q] at e
      exact x.n b e, x.k⟩
theorem NoT.put {G : Hp} {p : Addr} {o : HO} (h : NoT G) (ho : ∀ ps, o ≠ .tbl ps) : NoT (upd G p o) := fun b ps e => by
  by_cases z : b = p
  · rw [z, upd_same] at e
    exact ho ps (Option.some.inj e)
  · rw [upd_ne z] at e
    exact h b ps e
theorem Wd.new {p : Addr} {o : HO} (w : Wd T V H s) (h : H p = none) (ho : ∀ ps, o ≠ .tbl ps) : Wd T (upd V p o) (upd H p o) s := by
  refine ⟨fun b u e => ?_, w.nt.put ho, w.tb.ext (Same.new h), ?_⟩
  · by_cases q : b = p
    · rw [q, upd_same] at e ⊢
      exact e
    · rw [upd_ne q] at e ⊢
      exact w.sv _ _ e
  · cases s with
    | none => exact trivial
    | some k =>
      obtain ⟨⟨n, a1, b1⟩, ⟨cs, a2, b2⟩, ⟨gs, a3, b3⟩, a4, a5, a6, a7⟩ := w.mr
      have n1 := ne_of_none a1 h
      have n2 := ne_of_none a2 h
      have n3 := ne_of_none a3 h
      exact ⟨⟨n, by rw [upd_ne n1]; exact a1, b1⟩, ⟨cs, by rw [upd_ne n2]; exact a2, b2⟩, ⟨gs, by rw [upd_ne n3]; exact a3, b3⟩, by rw [upd_ne n1]; exact a4, by rw [upd_ne n2]; exact a5, by rw [upd_ne n3]; exact a6, a7⟩
theorem Wd.up {p : Addr} {o : HO} (w : Wd T V H s) (h : H p = none) : Wd T V (upd H p o) s := by
  refine ⟨w.sv.trans (Same.new h), w.nt, w.tb.ext (Same.new h), ?_⟩
  cases s with
  | none => exact trivial
  | some k =>
    obtain ⟨⟨n, a1, b1⟩, ⟨cs, a2, b2⟩, ⟨gs, a3, b3⟩, a4⟩ := w.mr
    exact ⟨⟨n, by rw [upd_ne (ne_of_none a1 h)]; exact a1, b1⟩, ⟨cs, by rw [upd_ne (ne_of_none a2 h)]; exact a2, b2⟩, ⟨gs, by rw [upd_ne (ne_of_none a3 h)]; exact a3, b3⟩, a4⟩
theorem tabs_put {T : List (Addr × Str)} {H : Hp} {L : Addr} {u o : HO} (t : Tabs T H) (h : H L = some u) (hu : ∀ ps, u ≠ .tbl ps) (hx : ∀ φ, u ≠ .ext φ) : Tabs T (upd H L o) := fun p hp => by
  obtain ⟨ps, h1, h2, h3⟩ := t p hp
  refine ⟨ps, by rw [upd_ne (ne_of h1 h (by intro z; exact hu _ z.symm))]; exact h1, h2, fun pos cv hc => ?_⟩
  obtain ⟨c, e1, e2⟩ := h3 pos cv hc
  exact ⟨c, e1, by rw [upd_ne (ne_of e2 h (by intro z; exact hx _ z.symm))]; exact e2⟩
/-- an object that stands, not known for good, no table, changes -/
theorem Wd.mut {p : Addr} {u o : HO} (w : Wd T V H s) (e : H p = some u) (v : V p = none) (i : ¬ inS s p) (hu : ∀ ps, u ≠ .tbl ps) (hx : ∀ φ, u ≠ .ext φ) : Wd T V (upd H p o) s := by
  refine ⟨fun b q z => by rw [upd_ne (ne_of_none z v)]; exact w.sv _ _ z, w.nt, tabs_put w.tb e hu hx, ?_⟩
  cases s with
  | none => exact trivial
  | some k =>
    obtain ⟨⟨n, a1, b1⟩, ⟨cs, a2, b2⟩, ⟨gs, a3, b3⟩, a4⟩ := w.mr
    have n1 : k.m ≠ p := fun z => i (.inl z.symm)
    have n2 : k.c ≠ p := fun z => i (.inr (.inl z.symm))
    have n3 : k.q ≠ p := fun z => i (.inr (.inr z.symm))
    exact ⟨⟨n, by rw [upd_ne n1]; exact a1, b1⟩, ⟨cs, by rw [upd_ne n2]; exact a2, b2⟩, ⟨gs, by rw [upd_ne n3]; exact a3, b3⟩, a4⟩
theorem Wd.freeze {p : Addr} {o : HO} (w : Wd T V H s) (e : H p = some o) (ho : ∀ ps, o ≠ .tbl ps) (i : ¬ inS s p) : Wd T (upd V p o) H s := by
  refine ⟨fun b q z => ?_, w.nt.put ho, w.tb, ?_⟩
  · by_cases y : b = p
    · rw [y, upd_same] at z
      rw [y, e]
      exact z
    · rw [upd_ne y] at z
      exact w.sv _ _ z
  · cases s with
    | none => exact trivial
    | some k =>
      obtain ⟨a1, a2, a3, a4, a5, a6, a7⟩ := w.mr
      have n1 : k.m ≠ p := fun z => i (.inl z.symm)
      have n2 : k.c ≠ p := fun z => i (.inr (.inl z.symm))
      have n3 : k.q ≠ p := fun z => i (.inr (.inr z.symm))
      exact ⟨a1, a2, a3, by rw [upd_ne n1]; exact a4, by rw [upd_ne n2]; exact a5, by rw [upd_ne n3]; exact a6, a7⟩
end
/-- an exception: its class, its fields -/
structure Exc where
  c : Nat
  ns : List Str
  ds : List D
inductive R (α : Type) where
  | ok (a : α) (s : S)
  | ex (e : Exc) (s : S)
  | un
  /-- any number from 0 to below top -/
  | dr (top : Int) (k : Int → R α)
  /-- any data and state with P -/
  | an (P : D → S → Prop) (k : D → S → R α)
def R.bind {α β : Type} (r : R α) (k : α → S → R β) : R β := match r with
  | .ok a s => k a s
  | .ex e s => .ex e s
  | .un => .un
  | .dr t f => .dr t fun i => (f i).bind k
  | .an P f => .an P fun d s => (f d s).bind k
def ExR (K : PySem.W.Frag) (Z : Zn) (G : Hp) (cls : Value) (dd : Option Addr) (e : Exc) : Prop := cls = .ref (Z.cl e.c) ∧ ∃ (d : Addr) (fs : List (Str × V)), dd = some d ∧ G d = some (.xd fs) ∧ fs.map Prod.fst = e.ns ∧ DvA K Z G (fs.map Prod.snd) e.ds
/-- what an answer asks of what follows -/
def Ans {α β : Type} (K : PySem.W.Frag) (Z : Zn) (E : XK) (Rl : Hp → β → α → Prop) (r : R α) (s : S) (V H : Hp) (Q : β → Hp → Prop) : Prop := match r with
  | .ok d s' => ∀ v V' H', Nx s s' V H V' H' → Wd Z.T V' H' s' → Rl V' v d → Q v H'
  | .ex e s' => ∀ cls dd V' H', Nx s s' V H V' H' → Wd Z.T V' H' s' → ExR K Z V' cls dd e → E cls dd H'
  | .un => False
  | .dr t k => ∀ i, 0 ≤ i → i < t → Ans K Z E Rl (k i) s V H Q
  | .an P k => ∀ d s1, P d s1 → Ans K Z E Rl (k d s1) s V H Q
/-- an object of one's own: a list, an instance -/
inductive OD where
  | ls (ds : List D) | is (c : Nat) (ns : List Str) (ds : List D)
def OD.d : OD → Option D
  | .ls ds => some (.lst ds)
  | .is c ns ds => if ns = nm c then some (.obj c ds) else none
inductive HD (K : PySem.W.Frag) (Z : Zn) (G : Hp) : HO → OD → Prop
  | ls {vs : List V} {ds : List D} (h : DvA K Z G vs ds) : HD K Z G (.lst vs) (.ls ds)
  | is {c : Nat} {dx : Addr} {fs : List (Str × V)} {ns : List Str} {ds : List D} (hn : fs.map Prod.fst = ns) (h : DvA K Z G (fs.map Prod.snd) ds) : HD K Z G (.ins (Z.cl c) dx fs) (.is c ns ds)
section
variable {K : PySem.W.Frag} {Z : Zn} {G G' : Hp} {u : HO} {o : OD} {a : Addr}
theorem HD.mono (e : Same G G') (h : HD K Z G u o) : HD K Z G' u o := by
  cases h with
  | ls h => exact .ls (DvA.mono e _ _ h)
  | is n h => exact .is n (DvA.mono e _ _ h)
theorem HD.nt (h : HD K Z G u o) : ∀ ps, u ≠ .tbl ps := fun ps z => by
  subst z
  cases h
theorem HD.ne (h : HD K Z G u o) : ∀ φ, u ≠ .ext φ := fun ps z => by
  subst z
  cases h
theorem HD.dv {d : D} (h : HD K Z G u o) (e : G a = some u) (hd : o.d = some d) : Dv K Z G (.ref a) d := by
  cases h with
  | ls h =>
    cases hd
    exact .lst e h
  | @is c dx fs ns ds n h =>
    replace hd : (if ns = nm c then some (D.obj c ds) else none) = some d := hd
    split at hd
    case isTrue y =>
      cases hd
      exact .obj e (n.trans y) h
    case isFalse => cases hd
end
/-- a slot: nothing is known; a value known for good; an object of one's own -/
inductive Sl where
  | no | fz (d : D) | ow (o : OD)
abbrev Slots := List Sl
structure Rep (K : PySem.W.Frag) (Z : Zn) (V H : Hp) (σ : L2.St) (ρ : Slots) (s : S) : Prop where
  fz : ∀ (i : Nat) (d : D), ρ[i]? = some (.fz d) → ∃ v, σ[i]? = some (some v) ∧ Dv K Z V v d
  ow : ∀ (i : Nat) (o : OD), ρ[i]? = some (.ow o) → ∃ a u, σ[i]? = some (some (.ref a)) ∧ H a = some u ∧ HD K Z V u o ∧ V a = none ∧ ¬ inS s a
  ln : σ.length = ρ.length
section
variable {α β γ δ : Type} {K : PySem.W.Frag} {Z : Zn} {E : XK} {Rl : Hp → β → α → Prop} {s s' : S} {V H V' H' : Hp} {σ : L2.St} {ρ : Slots}
theorem Ans.later {r : R α} {Q : β → Hp → Prop} (x : Nx s s' V H V' H') (h : Ans K Z E Rl r s V H Q) : Ans K Z E Rl r s' V' H' Q := by
  induction r with
  | ok d s2 => exact fun v V2 H2 n w q => h v V2 H2 (x.trans n) w q
  | ex e s2 => exact fun cls dd V2 H2 n w q => h cls dd V2 H2 (x.trans n) w q
  | un => exact h
  | dr t k ih => exact fun i h0 h1 => ih i (h i h0 h1)
  | an P k ih => exact fun d s2 hp => ih d s2 (h d s2 hp)
theorem Ans.mono {r : R α} {Q Q' : β → Hp → Prop} (h : Ans K Z E Rl r s V H Q) (k : ∀ v H', Q v H' → Q' v H') : Ans K Z E Rl r s V H Q' := by
  induction r with
  | ok d s2 => exact fun v V2 H2 n w q => k _ _ (h v V2 H2 n w q)
  | ex e s2 => exact h
  | un => exact h
  | dr t k ih => exact fun i h0 h1 => ih i (h i h0 h1)
  | an P k ih => exact fun d s2 hp => ih d s2 (h d s2 hp)
theorem Ans.pure {Q : β → Hp → Prop} {v : β} {d : α} (w : Wd Z.T V H s) (q : Rl V v d) (h : Ans K Z E Rl (.ok d s) s V H Q) : Q v H := h v V H (Nx.refl _ _ _) w q
theorem Rep.later (p : Rep K Z V H σ ρ s) (x : Nx s s' V H V' H') : Rep K Z V' H' σ ρ s' := by
  refine ⟨fun i d e => ?_, fun i ds e => ?_, p.ln⟩
  · obtain ⟨v, h1, h2⟩ := p.fz i d e
    exact ⟨v, h1, Dv.mono x.g _ _ h2⟩
  · obtain ⟨a, vs, h1, h2, h3, h4, h5⟩ := p.ow i ds e
    exact ⟨a, vs, h1, x.h a _ h2 h3.nt h5, h3.mono x.g, x.not h4 h2 h3.nt, by rw [inS_of x.a]; exact h5⟩
/-- first r, then k: what the first asks -/
theorem Ans.bind {Rl2 : Hp → δ → γ → Prop} {r : R α} {k : α → S → R γ} {Q : δ → Hp → Prop} {Q1 : β → Hp → Prop} (h : Ans K Z E Rl2 (r.bind k) s V H Q)
    (c : ∀ d s' v V' H', Nx s s' V H V' H' → Wd Z.T V' H' s' → Rl V' v d → Ans K Z E Rl2 (k d s') s' V' H' Q → Q1 v H') : Ans K Z E Rl r s V H Q1 := by
  induction r with
  | ok d s2 => exact fun v V2 H2 n w q => c d s2 v V2 H2 n w q (Ans.later n h)
  | ex e s2 => exact h
  | un => exact h
  | dr t k ih => exact fun i h0 h1 => ih i (h i h0 h1)
  | an P k ih => exact fun d s2 hp => ih d s2 (h d s2 hp)
end
/-- t computes f: an expression, arguments, a test -/
def Cmp (K : PySem.W.Frag) (Z : Zn) (E : XK) (t : TE) (f : Slots → S → R D) : Prop := ∀ V H σ ρ s Q, Wd Z.T V H s → Rep K Z V H σ ρ s → Ans K Z E (Dv K Z) (f ρ s) s V H Q → t σ H Q
def CmpA (K : PySem.W.Frag) (Z : Zn) (E : XK) (t : TA) (f : Slots → S → R (List D)) : Prop := ∀ V H σ ρ s Q, Wd Z.T V H s → Rep K Z V H σ ρ s → Ans K Z E (DvA K Z) (f ρ s) s V H Q → t σ H Q
def CmpT (K : PySem.W.Frag) (Z : Zn) (E : XK) (t : TT) (f : Slots → S → R Bool) : Prop := ∀ V H σ ρ s Q, Wd Z.T V H s → Rep K Z V H σ ρ s → Ans K Z E (fun _ b c => b = c) (f ρ s) s V H Q → t σ H Q
/-- an operation on two values, on one, a call on values -/
def Cmp2 (K : PySem.W.Frag) (Z : Zn) (E : XK) (r : R2) (op : D → D → S → R D) : Prop := ∀ V H s x y dx dy Q, Wd Z.T V H s → Dv K Z V x dx → Dv K Z V y dy → Ans K Z E (Dv K Z) (op dx dy s) s V H Q → r x y H Q
def Cmp1 (K : PySem.W.Frag) (Z : Zn) (E : XK) (r : V → Hp → VK → Prop) (op : D → S → R D) : Prop := ∀ V H s x dx Q, Wd Z.T V H s → Dv K Z V x dx → Ans K Z E (Dv K Z) (op dx s) s V H Q → r x H Q
def CmpC (K : PySem.W.Frag) (Z : Zn) (E : XK) (r : List V → Hp → VK → Prop) (op : List D → S → R D) : Prop := ∀ V H s xs ds Q, Wd Z.T V H s → DvA K Z V xs ds → Ans K Z E (Dv K Z) (op ds s) s V H Q → r xs H Q
end Pp

/-! Pp1: expressions that compute. -/
namespace Pp
open PySem PySem.Spec PyProof.Rows L2 Pg Pf LamX
def fits (n : Nat) : Bool := decide (n ≤ 100000)
theorem fits_le {n : Nat} (h : fits n = true) : n ≤ sizeLine := Nat.le_trans (of_decide_eq_true h) (by decide)
theorem fits_lt {n : Nat} (h : fits n = true) : n < sizeLine := Nat.lt_of_le_of_lt (of_decide_eq_true h) (by decide)
/-- e computes f by the reading t -/
structure PP (X : Cx) (Z : Zn) (E : XK) (e : Expr) (t : TE) (f : Slots → S → R D) : Prop where
  pe : PE X e t
  cm : Cmp X.K Z E t f
structure PPA (X : Cx) (Z : Zn) (E : XK) (es : List Expr) (t : TA) (f : Slots → S → R (List D)) : Prop where
  pe : PA X es t
  cm : CmpA X.K Z E t f
structure PPT (X : Cx) (Z : Zn) (E : XK) (e : Expr) (t : TT) (f : Slots → S → R Bool) : Prop where
  pe : PT X e t
  cm : CmpT X.K Z E t f
structure PPW (X : Cx) (Z : Zn) (E : XK) (e : Expr) (t : TT) (f : Slots → S → R Bool) : Prop where
  pe : PW X e t
  cm : CmpT X.K Z E t f
/-! ### what is computed -/
def vr (i : Nat) (ρ : Slots) (s : S) : R D := match ρ[i]? with
  | some (.fz d) => .ok d s
  | _ => .un
def kst (d : D) (_ : Slots) (s : S) : R D := .ok d s
def b2 (op : D → D → S → R D) (f g : Slots → S → R D) (ρ : Slots) (s : S) : R D := (f ρ s).bind fun x s => (g ρ s).bind fun y s => op x y s
def b1 (op : D → S → R D) (f : Slots → S → R D) (ρ : Slots) (s : S) : R D := (f ρ s).bind fun x s => op x s
def bC (op : List D → S → R D) (f : Slots → S → R (List D)) (ρ : Slots) (s : S) : R D := (f ρ s).bind fun x s => op x s
def bl' (x : D) (s : S) : R Bool := match x with
  | .bl b => .ok b s
  | _ => .un
def tst (f : Slots → S → R D) (ρ : Slots) (s : S) : R Bool := (f ρ s).bind bl'
def bnd (f g : Slots → S → R Bool) (ρ : Slots) (s : S) : R Bool := (f ρ s).bind fun b s => if b = true then g ρ s else .ok false s
def bor (f g : Slots → S → R Bool) (ρ : Slots) (s : S) : R Bool := (f ρ s).bind fun b s => if b = true then .ok true s else g ρ s
def bnt (f : Slots → S → R Bool) (ρ : Slots) (s : S) : R Bool := (f ρ s).bind fun b s => .ok (!b) s
def dnd (f g : Slots → S → R D) (ρ : Slots) (s : S) : R D := (f ρ s).bind fun x s => (bl' x s).bind fun b s => if b = true then g ρ s else .ok (.bl false) s
def dor (f g : Slots → S → R D) (ρ : Slots) (s : S) : R D := (f ρ s).bind fun x s => (bl' x s).bind fun b s => if b = true then .ok (.bl true) s else g ρ s
def iff (c : Slots → S → R Bool) (f g : Slots → S → R D) (ρ : Slots) (s : S) : R D := (c ρ s).bind fun b s => if b = true then f ρ s else g ρ s
def nilA (_ : Slots) (s : S) : R (List D) := .ok [] s
def cnsA (f : Slots → S → R D) (g : Slots → S → R (List D)) (ρ : Slots) (s : S) : R (List D) := (f ρ s).bind fun x s => (g ρ s).bind fun xs s => .ok (x :: xs) s
def tupF (ds : List D) (s : S) : R D := if fits ds.length = true then .ok (.tup ds) s else .un
def lstF (ds : List D) (s : S) : R D := if fits ds.length = true then .ok (.lst ds) s else .un
section
variable {K : PySem.W.Frag} {Z : Zn} {E : XK} {ta tb tc : TE} {u1 u2 : TT} {ua : TA} {f g h : Slots → S → R D} {p q : Slots → S → R Bool} {fa : Slots → S → R (List D)} {r r' : R2} {op op' : D → D → S → R D}
theorem c_var (i : Nat) : Cmp K Z E (tVar i) (vr i) := by
  intro V H σ ρ s Q w p a
  unfold vr at a
  split at a
  · rename_i d e
    obtain ⟨v, h1, h2⟩ := p.fz i d e
    exact ⟨v, h1, Ans.pure w h2 a⟩
  · exact a.elim
theorem c_c {v : V} {d : D} (h : ∀ G, Dv K Z G v d) : Cmp K Z E (tC v) (kst d) := fun V H σ ρ s Q w p a => Ans.pure w (h V) a
theorem c_op (ho : Cmp2 K Z E r op) (ha : Cmp K Z E ta f) (hb : Cmp K Z E tb g) : Cmp K Z E (tOp r ta tb) (b2 op f g) := fun V H σ ρ s Q w p a =>
  ha V H σ ρ s _ w p (Ans.bind a fun d s1 v V1 H1 n1 w1 r1 a1 => hb V1 H1 σ ρ s1 _ w1 (p.later n1) (Ans.bind a1 fun d2 s2 v2 V2 H2 n2 w2 r2 a2 => ho V2 H2 s2 v v2 d d2 Q w2 (Dv.mono n2.g _ _ r1) r2 a2))
theorem c_un {r : V → Hp → VK → Prop} {op : D → S → R D} (ho : Cmp1 K Z E r op) (ha : Cmp K Z E ta f) : Cmp K Z E (tUn r ta) (b1 op f) := fun V H σ ρ s Q w p a =>
  ha V H σ ρ s _ w p (Ans.bind a fun d s1 v V1 H1 n1 w1 r1 a1 => ho V1 H1 s1 v d Q w1 r1 a1)
theorem c_call {r : List V → Hp → VK → Prop} {op : List D → S → R D} (ho : CmpC K Z E r op) (ha : CmpA K Z E ua fa) : Cmp K Z E (tCB r ua) (bC op fa) := fun V H σ ρ s Q w p a =>
  ha V H σ ρ s _ w p (Ans.bind a fun d s1 v V1 H1 n1 w1 r1 a1 => ho V1 H1 s1 v d Q w1 r1 a1)
/-- a chain of two comparisons -/
def chn (op op' : D → D → S → R D) (f g h : Slots → S → R D) (ρ : Slots) (s : S) : R D := (f ρ s).bind fun x s => (g ρ s).bind fun y s => (op x y s).bind fun z s => (bl' z s).bind fun b s => if b = true then (h ρ s).bind fun u s => op' y u s else .ok (.bl false) s
theorem c_bl {v : V} {V H : Hp} {d : D} {s : S} {β γ : Type} {Rl : Hp → β → γ → Prop} {k : Bool → S → R γ} {Q : β → Hp → Prop} (rd : Dv K Z V v d) (a : Ans K Z E Rl ((bl' d s).bind k) s V H Q) : ∃ b, v = .bl b ∧ Ans K Z E Rl (k b s) s V H Q := by
  cases rd with
  | bl b => exact ⟨b, rfl, a⟩
  | _ => exact a.elim
theorem c_chain (ho : Cmp2 K Z E r op) (ho' : Cmp2 K Z E r' op') (ha : Cmp K Z E ta f) (hb : Cmp K Z E tb g) (hc : Cmp K Z E tc h) : Cmp K Z E (tChain r r' ta tb tc) (chn op op' f g h) := fun V H σ ρ s Q w p a =>
  ha V H σ ρ s _ w p (Ans.bind a fun d s1 v V1 H1 n1 w1 r1 a1 => hb V1 H1 σ ρ s1 _ w1 (p.later n1) (Ans.bind a1 fun d2 s2 v2 V2 H2 n2 w2 r2 a2 => ho V2 H2 s2 v v2 d d2 _ w2 (Dv.mono n2.g _ _ r1) r2
    (Ans.bind a2 fun d3 s3 v3 V3 H3 n3 w3 r3 a3 => by
      obtain ⟨b, e, a4⟩ := c_bl r3 a3
      refine ⟨b, e, ?_⟩
      by_cases hb : b = true
      · rw [if_pos hb] at a4 ⊢
        exact hc V3 H3 σ ρ s3 _ w3 (((p.later n1).later n2).later n3) (Ans.bind a4 fun d4 s4 v4 V4 H4 n4 w4 r4 a5 => ho' V4 H4 s4 v2 v4 d2 d4 Q w4 (Dv.mono n4.g _ _ (Dv.mono n3.g _ _ r2)) r4 a5)
      · rw [if_neg hb] at a4 ⊢
        exact Ans.pure w3 (.bl false) a4)))
/-- a value that is a bool, as a test -/
theorem c_tB (ha : Cmp K Z E ta f) : CmpT K Z E (tB ta) (tst f) := fun V H σ ρ s Q w p a =>
  ha V H σ ρ s _ w p (Ans.bind a fun d s1 v V1 H1 n1 w1 r1 a1 => by
    cases r1 with
    | bl b => exact ⟨b, rfl, Ans.pure w1 rfl a1⟩
    | _ => exact a1.elim)
theorem c_tT (ha : Cmp K Z E ta f) : CmpT K Z E (tTest ta) (tst f) := c_tB ha
theorem c_and (ha : CmpT K Z E u1 p) (hb : CmpT K Z E u2 q) : CmpT K Z E (tAnd u1 u2) (bnd p q) := fun V H σ ρ s Q w pp a =>
  ha V H σ ρ s _ w pp (Ans.bind a fun d s1 v V1 H1 n1 w1 r1 a1 => by
    subst r1
    by_cases hb' : v = true
    · rw [if_pos hb'] at a1 ⊢
      exact hb V1 H1 σ ρ s1 _ w1 (pp.later n1) a1
    · rw [if_neg hb'] at a1 ⊢
      exact Ans.pure w1 rfl a1)
theorem c_or (ha : CmpT K Z E u1 p) (hb : CmpT K Z E u2 q) : CmpT K Z E (tOr u1 u2) (bor p q) := fun V H σ ρ s Q w pp a =>
  ha V H σ ρ s _ w pp (Ans.bind a fun d s1 v V1 H1 n1 w1 r1 a1 => by
    subst r1
    by_cases hb' : v = true
    · rw [if_pos hb'] at a1 ⊢
      exact Ans.pure w1 rfl a1
    · rw [if_neg hb'] at a1 ⊢
      exact hb V1 H1 σ ρ s1 _ w1 (pp.later n1) a1)
theorem c_not (ha : CmpT K Z E u1 p) : CmpT K Z E (tNot u1) (bnt p) := fun V H σ ρ s Q w pp a =>
  ha V H σ ρ s _ w pp (Ans.bind a fun d s1 v V1 H1 n1 w1 r1 a1 => by
    subst r1
    exact Ans.pure w1 rfl a1)
theorem c_andV (ha : Cmp K Z E ta f) (hb : Cmp K Z E tb g) : Cmp K Z E (tAndV ta tb) (dnd f g) := fun V H σ ρ s Q w p a =>
  ha V H σ ρ s _ w p (Ans.bind a fun d s1 v V1 H1 n1 w1 r1 a1 => by
    obtain ⟨b, e, a4⟩ := c_bl r1 a1
    refine ⟨b, e, ?_⟩
    by_cases hb' : b = true
    · rw [if_pos hb'] at a4 ⊢
      exact hb V1 H1 σ ρ s1 _ w1 (p.later n1) a4
    · rw [if_neg hb'] at a4 ⊢
      exact Ans.pure w1 (.bl false) a4)
theorem c_orV (ha : Cmp K Z E ta f) (hb : Cmp K Z E tb g) : Cmp K Z E (tOrV ta tb) (dor f g) := fun V H σ ρ s Q w p a =>
  ha V H σ ρ s _ w p (Ans.bind a fun d s1 v V1 H1 n1 w1 r1 a1 => by
    obtain ⟨b, e, a4⟩ := c_bl r1 a1
    refine ⟨b, e, ?_⟩
    by_cases hb' : b = true
    · rw [if_pos hb'] at a4 ⊢
      exact Ans.pure w1 (.bl true) a4
    · rw [if_neg hb'] at a4 ⊢
      exact hb V1 H1 σ ρ s1 _ w1 (p.later n1) a4)
def ntV (f : Slots → S → R D) (ρ : Slots) (s : S) : R D := (f ρ s).bind fun x s => (bl' x s).bind fun b s => .ok (.bl (!b)) s
theorem c_notV (ha : Cmp K Z E ta f) : Cmp K Z E (tNotV ta) (ntV f) := fun V H σ ρ s Q w p a =>
  ha V H σ ρ s _ w p (Ans.bind a fun d s1 v V1 H1 n1 w1 r1 a1 => by
    obtain ⟨b, e, a4⟩ := c_bl r1 a1
    exact ⟨b, e, Ans.pure w1 (.bl _) a4⟩)
theorem c_if (hc : CmpT K Z E u1 p) (ha : Cmp K Z E ta f) (hb : Cmp K Z E tb g) : Cmp K Z E (tIf u1 ta tb) (iff p f g) := fun V H σ ρ s Q w pp a =>
  hc V H σ ρ s _ w pp (Ans.bind a fun d s1 v V1 H1 n1 w1 r1 a1 => by
    subst r1
    by_cases hb' : v = true
    · rw [if_pos hb'] at a1 ⊢
      exact ha V1 H1 σ ρ s1 _ w1 (pp.later n1) a1
    · rw [if_neg hb'] at a1 ⊢
      exact hb V1 H1 σ ρ s1 _ w1 (pp.later n1) a1)
theorem c_nil : CmpA K Z E tNil nilA := fun V H σ ρ s Q w p a => Ans.pure w .nil a
theorem c_cons (ha : Cmp K Z E ta f) (hb : CmpA K Z E ua fa) : CmpA K Z E (tCons ta ua) (cnsA f fa) := fun V H σ ρ s Q w p a =>
  ha V H σ ρ s _ w p (Ans.bind a fun d s1 v V1 H1 n1 w1 r1 a1 => hb V1 H1 σ ρ s1 _ w1 (p.later n1) (Ans.bind a1 fun d2 s2 v2 V2 H2 n2 w2 r2 a2 => Ans.pure w2 (.cons (Dv.mono n2.g _ _ r1) r2) a2))
/-- a new tuple, a new list -/
theorem new_tup {V H : Hp} {s : S} {vs : List L2.V} {ds : List D} {Q : VK} (w : Wd Z.T V H s) (h : DvA K Z V vs ds) (a : Ans K Z E (Dv K Z) (.ok (.tup ds) s) s V H Q) : ∀ p, H p = none → Q (.ref p) (upd H p (.tup vs)) := fun p hp =>
  a (.ref p) (upd V p (.tup vs)) _ (Nx.new w hp) (w.new hp fun _ z => by cases z) (.tup (.inl (.inl upd_same)) (DvA.mono (Same.new (w.sv.free hp)) _ _ h))
theorem new_lst {V H : Hp} {s : S} {vs : List L2.V} {ds : List D} {Q : VK} (w : Wd Z.T V H s) (h : DvA K Z V vs ds) (a : Ans K Z E (Dv K Z) (.ok (.lst ds) s) s V H Q) : ∀ p, H p = none → Q (.ref p) (upd H p (.lst vs)) := fun p hp =>
  a (.ref p) (upd V p (.lst vs)) _ (Nx.new w hp) (w.new hp fun _ z => by cases z) (.lst upd_same (DvA.mono (Same.new (w.sv.free hp)) _ _ h))
theorem c_tup (ha : CmpA K Z E ua fa) : Cmp K Z E (tTup ua) (bC tupF fa) := fun V H σ ρ s Q w p a =>
  ha V H σ ρ s _ w p (Ans.bind a fun d s1 v V1 H1 n1 w1 r1 a1 => by
    unfold tupF at a1
    split at a1
    · rename_i e
      exact ⟨by rw [r1.len]; exact fits_le e, new_tup w1 r1 a1⟩
    · exact a1.elim)
theorem c_lst (ha : CmpA K Z E ua fa) : Cmp K Z E (tLst ua) (bC lstF fa) := fun V H σ ρ s Q w p a =>
  ha V H σ ρ s _ w p (Ans.bind a fun d s1 v V1 H1 n1 w1 r1 a1 => by
    unfold lstF at a1
    split at a1
    · rename_i e
      exact ⟨by rw [r1.len]; exact fits_le e, new_lst w1 r1 a1⟩
    · exact a1.elim)
end
/-! ### operations on data -/
def intF (k : Int → Int → D) (x y : D) (s : S) : R D := match x, y with
  | .int i, .int j => .ok (k i j) s
  | _, _ => .un
section
variable {K : PySem.W.Frag} {Z : Zn} {E : XK}
theorem c2_int {g : Int → Int → V} {k : Int → Int → D} (hk : ∀ i j G, Dv K Z G (g i j) (k i j)) : Cmp2 K Z E (rI0 g) (intF k) := fun V H s x y dx dy Q w rx ry a => by
  cases rx with
  | int i =>
    cases ry with
    | int j => exact ⟨i, j, rfl, rfl, Ans.pure w (hk i j V) a⟩
    | _ => exact a.elim
  | _ => exact a.elim
theorem c2_lt : Cmp2 K Z E (rI0 fun i j => .bl (decide (i < j))) (intF fun i j => .bl (decide (i < j))) := c2_int fun _ _ _ => .bl _
theorem c2_le : Cmp2 K Z E (rI0 fun i j => .bl (decide (i ≤ j))) (intF fun i j => .bl (decide (i ≤ j))) := c2_int fun _ _ _ => .bl _
theorem c2_gt : Cmp2 K Z E (rI0 fun i j => .bl (decide (j < i))) (intF fun i j => .bl (decide (j < i))) := c2_int fun _ _ _ => .bl _
theorem c2_ge : Cmp2 K Z E (rI0 fun i j => .bl (decide (j ≤ i))) (intF fun i j => .bl (decide (j ≤ i))) := c2_int fun _ _ _ => .bl _
theorem c2_sub : Cmp2 K Z E (rI0 fun i j => .int (i - j)) (intF fun i j => .int (i - j)) := c2_int fun _ _ _ => .int _
/-- + : ints, tuples, lists -/
def rPlus (K : PySem.W.Frag) : R2 := fun x y H Q => (rI0 fun i j => .int (i + j)) x y H Q ∨ (rCatA K x y H Q ∨ rCat x y H Q)
theorem op_plus {X : Cx} : OpR X (binaryOp .Add) (rPlus X.K) := op_add.or (op_catA.or op_cat)
def plusF (x y : D) (s : S) : R D := match x, y with
  | .int i, .int j => .ok (.int (i + j)) s
  | .tup xs, .tup ys => if fits (xs.length + ys.length) = true then .ok (.tup (xs ++ ys)) s else .un
  | .lst xs, .lst ys => if fits (xs.length + ys.length) = true then .ok (.lst (xs ++ ys)) s else .un
  | _, _ => .un
theorem c2_plus : Cmp2 K Z E (rPlus K) plusF := fun V H s x y dx dy Q w rx ry a => by
  cases rx with
  | int i =>
    cases ry with
    | int j => exact .inl ⟨i, j, rfl, rfl, Ans.pure w (.int _) a⟩
    | _ => exact a.elim
  | @tup ax vx xs hx rx =>
    cases ry with
    | @tup ay vy ys hy ry =>
      change Ans K Z E (Dv K Z) (if _ then _ else _) s V H Q at a
      split at a
      case isTrue e =>
        have lx := rx.len
        have ly := ry.len
        refine .inr (.inl ⟨ax, ay, vx, vy, rfl, rfl, Evl.ex_t w.sv hx, Evl.ex_t w.sv hy, by rw [lx, ly]; exact fits_le e, fun z => ?_, fun _ z => ?_, fun _ _ => new_tup w (rx.app ry) a⟩)
        · subst z
          cases rx
          exact Ans.pure w (.tup hy ry) a
        · subst z
          cases ry
          rw [List.append_nil] at a
          exact Ans.pure w (.tup hx rx) a
      case isFalse => exact a.elim
    | _ => exact a.elim
  | @lst ax vx xs hx rx =>
    cases ry with
    | @lst ay vy ys hy ry =>
      change Ans K Z E (Dv K Z) (if _ then _ else _) s V H Q at a
      split at a
      case isTrue e => exact .inr (.inr ⟨ax, ay, vx, vy, rfl, rfl, w.sv _ _ hx, w.sv _ _ hy, by rw [rx.len, ry.len]; exact fits_le e, new_lst w (rx.app ry) a⟩)
      case isFalse => exact a.elim
    | _ => exact a.elim
  | _ => exact a.elim
/-- * : a small int times an int -/
def mulF (x y : D) (s : S) : R D := match x, y with
  | .int i, .int j => if (decide (-(2 ^ 64) < i) && decide (i < 2 ^ 64)) || (decide (-(2 ^ 64) < j) && decide (j < 2 ^ 64)) then .ok (.int (i * j)) s else .un
  | _, _ => .un
theorem c2_mul : Cmp2 K Z E (rI CMul fun i j => .int (i * j)) mulF := fun V H s x y dx dy Q w rx ry a => by
  cases rx with
  | int i =>
    cases ry with
    | int j =>
      change Ans K Z E (Dv K Z) (if _ then _ else _) s V H Q at a
      split at a
      case isTrue e =>
        refine ⟨i, j, rfl, rfl, ?_, Ans.pure w (.int _) a⟩
        rcases Bool.or_eq_true_iff.mp e with e | e
        · have := Bool.and_eq_true_iff.mp e
          exact .inl ⟨of_decide_eq_true this.1, of_decide_eq_true this.2⟩
        · have := Bool.and_eq_true_iff.mp e
          exact .inr ⟨of_decide_eq_true this.1, of_decide_eq_true this.2⟩
      case isFalse => exact a.elim
    | _ => exact a.elim
  | _ => exact a.elim
def modF (x y : D) (s : S) : R D := match x, y with
  | .int i, .int j => if 0 < j then .ok (.int (i % j)) s else .un
  | _, _ => .un
theorem c2_mod : Cmp2 K Z E (rI (fun _ j => 0 < j) fun i j => .int (i % j)) modF := fun V H s x y dx dy Q w rx ry a => by
  cases rx with
  | int i =>
    cases ry with
    | int j =>
      change Ans K Z E (Dv K Z) (if _ then _ else _) s V H Q at a
      split at a
      case isTrue e => exact ⟨i, j, rfl, rfl, e, Ans.pure w (.int _) a⟩
      case isFalse => exact a.elim
    | _ => exact a.elim
  | _ => exact a.elim
def isN : D → Bool
  | .non => true
  | _ => false
theorem isN_of {G : Hp} {v : V} {d : D} (h : Dv K Z G v d) : decide (v = .non) = isN d := by
  cases h <;> rfl
def isNF (x y : D) (s : S) : R D := match y with
  | .non => .ok (.bl (isN x)) s
  | _ => .un
def notNF (x y : D) (s : S) : R D := match y with
  | .non => .ok (.bl (!isN x)) s
  | _ => .un
theorem c2_isN : Cmp2 K Z E (fun x y H Q => y = .non ∧ Q (.bl (decide (x = .non))) H) isNF := fun V H s x y dx dy Q w rx ry a => by
  cases ry with
  | non => exact ⟨rfl, by rw [isN_of rx]; exact Ans.pure w (.bl _) a⟩
  | _ => exact a.elim
theorem c2_notN : Cmp2 K Z E (fun x y H Q => y = .non ∧ Q (.bl (!decide (x = .non))) H) notNF := fun V H s x y dx dy Q w rx ry a => by
  cases ry with
  | non => exact ⟨rfl, by rw [isN_of rx]; exact Ans.pure w (.bl _) a⟩
  | _ => exact a.elim
/-- an item of a tuple, of a list -/
def ixF (x y : D) (s : S) : R D := match x, y with
  | .tup ds, .int i => match atI ds i with
    | some d => .ok d s
    | none => .un
  | .lst ds, .int i => match atI ds i with
    | some d => .ok d s
    | none => .un
  | .rls ds, .int i => match atI ds i with
    | some d => .ok d s
    | none => .un
  | _, _ => .un
theorem DvA.atI {G : Hp} {vs : List V} {ds : List D} {i : Int} {d : D} (h : DvA K Z G vs ds) (e : L2.atI ds i = some d) : ∃ v, L2.atI vs i = some v ∧ Dv K Z G v d := by
  unfold L2.atI at e ⊢
  rw [h.len]
  cases n : ixN ds.length i with
  | none =>
    rw [n] at e
    cases e
  | some j =>
    rw [n] at e
    exact h.at (i := j) e
theorem c2_ix : Cmp2 K Z E (rIx K) ixF := fun V H s x y dx dy Q w rx ry a => by
  cases rx with
  | @tup ax vx xs hx rx =>
    cases ry with
    | int i =>
      replace a : Ans K Z E (Dv K Z) (match L2.atI xs i with | some d => R.ok d s | none => .un) s V H Q := a
      cases e : L2.atI xs i with
      | some d =>
        rw [e] at a
        obtain ⟨v, h1, h2⟩ := DvA.atI rx e
        exact .inr (.inl ⟨ax, vx, i, v, rfl, rfl, Evl.ex_t w.sv hx, h1, Ans.pure w h2 a⟩)
      | none =>
        rw [e] at a
        exact a.elim
    | _ => exact a.elim
  | @lst ax vx xs hx rx =>
    cases ry with
    | int i =>
      replace a : Ans K Z E (Dv K Z) (match L2.atI xs i with | some d => R.ok d s | none => .un) s V H Q := a
      cases e : L2.atI xs i with
      | some d =>
        rw [e] at a
        obtain ⟨v, h1, h2⟩ := DvA.atI rx e
        exact .inl ⟨ax, vx, i, v, rfl, rfl, SqL.of (w.sv _ _ hx), h1, Ans.pure w h2 a⟩
      | none =>
        rw [e] at a
        exact a.elim
    | _ => exact a.elim
  | @rls ax vx xs hx rx =>
    cases ry with
    | int i =>
      replace a : Ans K Z E (Dv K Z) (match L2.atI xs i with | some d => R.ok d s | none => .un) s V H Q := a
      cases e : L2.atI xs i with
      | some d =>
        rw [e] at a
        obtain ⟨v, h1, h2⟩ := DvA.atI rx e
        exact .inl ⟨ax, vx, i, v, rfl, rfl, Evl.ex_l w.sv hx, h1, Ans.pure w h2 a⟩
      | none =>
        rw [e] at a
        exact a.elim
    | _ => exact a.elim
  | _ => exact a.elim
/-- len of a tuple, of a list -/
def lenF (xs : List D) (s : S) : R D := match xs with
  | [.tup ds] => .ok (.int ds.length) s
  | [.lst ds] => .ok (.int ds.length) s
  | [.rls ds] => .ok (.int ds.length) s
  | _ => .un
theorem cC_len : CmpC K Z E (fun xs H Q => ∃ p ys, xs = [.ref p] ∧ (SqL K H p ys ∨ SqT K H p ys) ∧ Q (.int ys.length) H) lenF := fun V H s xs ds Q w r a => by
  match ds, r, a with
  | [.tup es], .cons (.tup h hs) .nil, a => exact ⟨_, _, rfl, .inr (Evl.ex_t w.sv h), by rw [hs.len]; exact Ans.pure w (.int _) a⟩
  | [.lst es], .cons (.lst h hs) .nil, a => exact ⟨_, _, rfl, .inl ((SqL.of (w.sv _ _ h))), by rw [hs.len]; exact Ans.pure w (.int _) a⟩
  | [.rls es], .cons (.rls h hs) .nil, a => exact ⟨_, _, rfl, .inl (Evl.ex_l w.sv h), by rw [hs.len]; exact Ans.pure w (.int _) a⟩
  | [], _, a => exact a.elim
  | .non :: _, _, a | .bl _ :: _, _, a | .int _ :: _, _, a | .str _ :: _, _, a | .obj _ _ :: _, _, a | .adr _ :: _, _, a | .emp :: _, _, a => exact a.elim
  | .tup _ :: _ :: _, _, a | .lst _ :: _ :: _, _, a | .rls _ :: _ :: _, _, a => exact a.elim
/-- tuple(..), list(..) of a tuple, of a list -/
def tupleF (xs : List D) (s : S) : R D := match xs with
  | [.tup ds] => .ok (.tup ds) s
  | [.lst ds] => .ok (.tup ds) s
  | [.rls ds] => .ok (.tup ds) s
  | _ => .un
theorem cC_tuple : CmpC K Z E (fun xs H Q => ∃ p ys, xs = [.ref p] ∧ ((SqL K H p ys ∧ ∀ l, H l = none → Q (.ref l) (upd H l (.tup ys))) ∨ (SqT K H p ys ∧ Q (.ref p) H))) tupleF := fun V H s xs ds Q w r a => by
  match ds, r, a with
  | [.tup es], .cons (.tup h hs) .nil, a => exact ⟨_, _, rfl, .inr ⟨Evl.ex_t w.sv h, Ans.pure w (.tup h hs) a⟩⟩
  | [.lst es], .cons (.lst h hs) .nil, a => exact ⟨_, _, rfl, .inl ⟨(SqL.of (w.sv _ _ h)), new_tup w hs a⟩⟩
  | [.rls es], .cons (.rls h hs) .nil, a => exact ⟨_, _, rfl, .inl ⟨Evl.ex_l w.sv h, new_tup w hs a⟩⟩
  | [], _, a => exact a.elim
  | .non :: _, _, a | .bl _ :: _, _, a | .int _ :: _, _, a | .str _ :: _, _, a | .obj _ _ :: _, _, a | .adr _ :: _, _, a | .emp :: _, _, a => exact a.elim
  | .tup _ :: _ :: _, _, a | .lst _ :: _ :: _, _, a | .rls _ :: _ :: _, _, a => exact a.elim
def listF (xs : List D) (s : S) : R D := match xs with
  | [.tup ds] => .ok (.lst ds) s
  | [.lst ds] => .ok (.lst ds) s
  | [.rls ds] => .ok (.lst ds) s
  | _ => .un
theorem cC_list : CmpC K Z E (fun xs H Q => ∃ p ys, xs = [.ref p] ∧ (SqL K H p ys ∨ SqT K H p ys) ∧ ∀ l, H l = none → Q (.ref l) (upd H l (.lst ys))) listF := fun V H s xs ds Q w r a => by
  match ds, r, a with
  | [.tup es], .cons (.tup h hs) .nil, a => exact ⟨_, _, rfl, .inr (Evl.ex_t w.sv h), new_lst w hs a⟩
  | [.lst es], .cons (.lst h hs) .nil, a => exact ⟨_, _, rfl, .inl ((SqL.of (w.sv _ _ h))), new_lst w hs a⟩
  | [.rls es], .cons (.rls h hs) .nil, a => exact ⟨_, _, rfl, .inl (Evl.ex_l w.sv h), new_lst w hs a⟩
  | [], _, a => exact a.elim
  | .non :: _, _, a | .bl _ :: _, _, a | .int _ :: _, _, a | .str _ :: _, _, a | .obj _ _ :: _, _, a | .adr _ :: _, _, a | .emp :: _, _, a => exact a.elim
  | .tup _ :: _ :: _, _, a | .lst _ :: _ :: _, _, a | .rls _ :: _ :: _, _, a => exact a.elim
end
end Pp

/-! Pp2: statements that compute. -/
namespace Pp
open PySem PySem.Spec PyProof.Rows L2 Pg Pf LamX
inductive Fl where
  | nx (ρ : Slots) | rt (d : D) | bk (ρ : Slots) | ct (ρ : Slots)
/-- within a body: its entry (s0, G0, H0), where one stands -/
structure RepF (K : PySem.W.Frag) (Z : Zn) (s0 : S) (G0 H0 G H : Hp) (σ : L2.St) (ρ : Slots) (s : S) : Prop where
  nx : Nx s0 s G0 H0 G H
  w : Wd Z.T G H s
  p : Rep K Z G H σ ρ s
  new : ∀ (i : Nat) (o : OD) (a : Addr), ρ[i]? = some (.ow o) → σ[i]? = some (some (.ref a)) → Fre H0 a
  dis : ∀ (i j : Nat) (o u : OD) (a : Addr), i ≠ j → ρ[i]? = some (.ow o) → ρ[j]? = some (.ow u) → σ[i]? = some (some (.ref a)) → σ[j]? = some (some (.ref a)) → False
  len : σ.length = ρ.length
def AnsS (K : PySem.W.Frag) (Z : Zn) (E : XK) (r : R Fl) (s0 : S) (G0 H0 G : Hp) (D : Ends) : Prop := match r with
  | .ok (.nx ρ) s => ∀ σ G' H', Same G G' → RepF K Z s0 G0 H0 G' H' σ ρ s → D.nx σ H'
  | .ok (.bk ρ) s => ∀ σ G' H', Same G G' → RepF K Z s0 G0 H0 G' H' σ ρ s → D.bk σ H'
  | .ok (.ct ρ) s => ∀ σ G' H', Same G G' → RepF K Z s0 G0 H0 G' H' σ ρ s → D.ct σ H'
  | .ok (.rt d) s => ∀ v V' H', Nx s0 s G0 H0 V' H' → Wd Z.T V' H' s → Dv K Z V' v d → D.rt v H'
  | .ex e s => ∀ cls dd V' H', Nx s0 s G0 H0 V' H' → Wd Z.T V' H' s → ExR K Z V' cls dd e → E cls dd H'
  | .un => False
  | .dr t k => ∀ i, 0 ≤ i → i < t → AnsS K Z E (k i) s0 G0 H0 G D
  | .an P k => ∀ d s1, P d s1 → AnsS K Z E (k d s1) s0 G0 H0 G D
def CmpS (K : PySem.W.Frag) (Z : Zn) (E : XK) (t : TS) (F : Slots → S → R Fl) : Prop := ∀ s0 G0 H0 G H σ ρ s D, RepF K Z s0 G0 H0 G H σ ρ s → AnsS K Z E (F ρ s) s0 G0 H0 G D → t D σ H
def Sl.all : Sl → Sl
  | .ow o => match o.d with
    | some d => .fz d
    | none => .no
  | x => x
def allS (ρ : Slots) : Slots := ρ.map Sl.all
theorem allS_fz {ρ : Slots} {i : Nat} {d : D} (h : (allS ρ)[i]? = some (.fz d)) : ρ[i]? = some (.fz d) ∨ ∃ o, ρ[i]? = some (.ow o) ∧ o.d = some d := by
  unfold allS at h
  rw [List.getElem?_map] at h
  cases e : ρ[i]? with
  | none =>
    rw [e] at h
    cases h
  | some x =>
    rw [e] at h
    cases x with
    | no => cases h
    | fz y =>
      cases h
      exact .inl rfl
    | ow o =>
      have h' : Sl.all (.ow o) = .fz d := Option.some.inj h
      unfold Sl.all at h'
      simp only at h'
      split at h'
      case h_1 d' y =>
        cases h'
        exact .inr ⟨o, rfl, y⟩
      case h_2 => cases h'
theorem allS_ow {ρ : Slots} {i : Nat} {o : OD} (h : (allS ρ)[i]? = some (.ow o)) : False := by
  unfold allS at h
  rw [List.getElem?_map] at h
  cases e : ρ[i]? with
  | none =>
    rw [e] at h
    cases h
  | some x =>
    rw [e] at h
    cases x with
    | no => cases h
    | fz _ => cases h
    | ow o2 =>
      have h' : Sl.all (.ow o2) = .ow o := Option.some.inj h
      unfold Sl.all at h'
      simp only at h'
      split at h' <;> cases h'
open Classical in
/-- what a body may know of the heap: all but the state's objects, tables, and what the entry did not know -/
noncomputable def vw (G0 H0 H : Hp) (s : S) : Hp := fun p => if inS s p then none else if G0 p = none ∧ ¬ Fre H0 p then none else match H p with
  | some (.tbl _) => none
  | o => o
section
variable {K : PySem.W.Frag} {Z : Zn} {E : XK} {s0 s s' : S} {G0 H0 G H G' H' V' : Hp} {σ : L2.St} {ρ : Slots}
theorem vw_some {p : Addr} {o : HO} (h : vw G0 H0 H s p = some o) : H p = some o ∧ (∀ ps, o ≠ .tbl ps) ∧ ¬ inS s p ∧ (G0 p ≠ none ∨ Fre H0 p) := by
  unfold vw at h
  split at h
  · cases h
  · rename_i i
    split at h
    · cases h
    · rename_i c
      have hc : G0 p ≠ none ∨ Fre H0 p := by
        by_cases g : G0 p = none
        · exact .inr (Classical.byContradiction fun z => c ⟨g, z⟩)
        · exact .inl g
      split at h
      · cases h
      · rename_i n
        exact ⟨h, fun ps z => n ps (z ▸ h), i, hc⟩
theorem vw_of {p : Addr} {o : HO} (h : H p = some o) (n : ∀ ps, o ≠ .tbl ps) (i : ¬ inS s p) (c : G0 p ≠ none ∨ Fre H0 p) : vw G0 H0 H s p = some o := by
  unfold vw
  rw [if_neg i, if_neg fun z => c.elim (fun y => y z.1) z.2, h]
  cases o <;> first | rfl | exact absurd rfl (n _)
theorem RepF.sub (r : RepF K Z s0 G0 H0 G H σ ρ s) : Same G (vw G0 H0 H s) := fun p o e => vw_of (r.w.sv _ _ e) (fun ps z => r.w.nt p ps (z ▸ e)) (fun i => by
  have := r.w.mr.inV i
  rw [e] at this
  cases this) (r.nx.n p (by rw [e]; simp))
theorem RepF.hW (r : RepF K Z s0 G0 H0 G H σ ρ s) : Wd Z.T (vw G0 H0 H s) H s := by
  refine ⟨fun p o e => (vw_some e).1, fun p ps e => (vw_some e).2.1 ps rfl, r.w.tb, ?_⟩
  have m := r.w.mr
  cases s with
  | none => exact trivial
  | some k =>
    obtain ⟨a1, a2, a3, a4, a5, a6, a7⟩ := m
    have no : ∀ p, inS (some k) p → vw G0 H0 H (some k) p = none := fun p i => by
      unfold vw
      rw [if_pos i]
    exact ⟨a1, a2, a3, no _ (.inl rfl), no _ (.inr (.inl rfl)), no _ (.inr (.inr rfl)), a7⟩
theorem RepF.hP (r : RepF K Z s0 G0 H0 G H σ ρ s) : Rep K Z (vw G0 H0 H s) H σ (allS ρ) s := by
  refine ⟨fun i d e0 => ?_, fun i o e0 => (allS_ow e0).elim, by unfold allS; rw [List.length_map]; exact r.p.ln⟩
  rcases allS_fz e0 with e | ⟨o, e, ed⟩
  · obtain ⟨v, h1, h2⟩ := r.p.fz i d e
    exact ⟨v, h1, Dv.mono r.sub _ _ h2⟩
  · obtain ⟨a, u, h1, h2, h3, h4, h5⟩ := r.p.ow i o e
    exact ⟨.ref a, h1, (h3.mono r.sub).dv (vw_of h2 h3.nt h5 (.inr (r.new i o a e h1))) ed⟩
/-- the entry's view of what comes out of the view -/
theorem RepF.out (r : RepF K Z s0 G0 H0 G H σ ρ s) (n : Nx s s' (vw G0 H0 H s) H V' H') : Nx s0 s' G0 H0 V' H' := by
  refine ⟨n.a.trans r.nx.a, (r.nx.g.trans r.sub).trans n.g, fun p o e nt i => n.h p o (r.nx.h p o e nt i) nt (by rw [inS_of r.nx.a]; exact i), fun p e => ?_, fun p e => r.nx.k p (n.k p e)⟩
  rcases n.n p e with z | z
  · cases y : vw G0 H0 H s p with
    | none => exact absurd y z
    | some o => exact (vw_some y).2.2.2
  · exact .inr (r.nx.k p z)
theorem MR.of {V V2 H2 : Hp} (h : MR V H2 s') (a : adr s' = adr s) (m : MR G H s) : MR G H2 s' := by
  cases s' with
  | none => exact trivial
  | some k' =>
    cases s with
    | none => cases a
    | some k =>
      injection a with a
      injection a with a1 a
      injection a with a2 a3
      obtain ⟨b1, b2, b3, b4, b5, b6, b7⟩ := h
      obtain ⟨_, _, _, c4, c5, c6, _⟩ := m
      exact ⟨b1, b2, b3, a1 ▸ c4, a2 ▸ c5, a3 ▸ c6, b7⟩
/-- what is known for good stays as it was -/
theorem RepF.back (r : RepF K Z s0 G0 H0 G H σ ρ s) (n : Nx s s' (vw G0 H0 H s) H V' H') (w : Wd Z.T V' H' s') : RepF K Z s0 G0 H0 G H' σ ρ s' := by
  refine ⟨⟨n.a.trans r.nx.a, r.nx.g, fun p o e nt i => n.h p o (r.nx.h p o e nt i) nt (by rw [inS_of r.nx.a]; exact i), r.nx.n, fun p e => r.nx.k p (n.k p e)⟩,
    ⟨(r.sub.trans n.g).trans w.sv, r.w.nt, w.tb, MR.of (V2 := V') w.mr n.a r.w.mr⟩, ⟨r.p.fz, fun i o e => ?_, r.p.ln⟩, r.new, r.dis, r.len⟩
  obtain ⟨a, u, h1, h2, h3, h4, h5⟩ := r.p.ow i o e
  exact ⟨a, u, h1, n.h a u h2 h3.nt h5, h3, h4, by rw [inS_of n.a]; exact h5⟩
/-- all that is one's own is known for good from now on -/
theorem RepF.froz (r : RepF K Z s0 G0 H0 G H σ ρ s) (n : Nx s s' (vw G0 H0 H s) H V' H') (w : Wd Z.T V' H' s') : RepF K Z s0 G0 H0 V' H' σ (allS ρ) s' :=
  ⟨r.out n, w, r.hP.later n, fun i o a e _ => (allS_ow e).elim, fun i j o u a _ e _ _ _ => (allS_ow e).elim, by unfold allS; rw [List.length_map]; exact r.len⟩
/-- a frozen expression -/
theorem RepF.on (r : RepF K Z s0 G0 H0 G H σ ρ s) (n : Nx s s' G H G' H') (w : Wd Z.T G' H' s') : RepF K Z s0 G0 H0 G' H' σ ρ s' :=
  ⟨r.nx.trans n, w, r.p.later n, r.new, r.dis, r.len⟩
/-- a slot gets a value -/
theorem RepF.set (r : RepF K Z s0 G0 H0 G H σ ρ s) {i : Nat} {v : V} {d : D} (h : Dv K Z G v d) : RepF K Z s0 G0 H0 G H (σ.set i (some v)) (ρ.set i (.fz d)) s := by
  have old : ∀ {j : Nat} {x : Sl}, (ρ.set i (.fz d))[j]? = some x → (j = i ∧ x = .fz d ∧ i < ρ.length) ∨ (j ≠ i ∧ ρ[j]? = some x) := fun {j x} e => by
    by_cases z : j = i
    · subst z
      by_cases l : j < ρ.length
      · rw [List.getElem?_set_self l] at e
        exact .inl ⟨rfl, (Option.some.inj e).symm, l⟩
      · rw [List.getElem?_eq_none (by rw [List.length_set]; omega)] at e
        cases e
    · rw [List.getElem?_set_ne (Ne.symm z)] at e
      exact .inr ⟨z, e⟩
  have σo : ∀ {j : Nat}, j ≠ i → (σ.set i (some v))[j]? = σ[j]? := fun {j} z => List.getElem?_set_ne (Ne.symm z)
  refine ⟨r.nx, r.w, ⟨fun j x e => ?_, fun j o e => ?_, by rw [List.length_set, List.length_set]; exact r.len⟩, fun j o a e1 e2 => ?_, fun j k o u a n e1 e2 e3 e4 => ?_, by rw [List.length_set, List.length_set]; exact r.len⟩
  · rcases old e with ⟨rfl, y, l⟩ | ⟨z, e⟩
    · cases y
      exact ⟨v, List.getElem?_set_self (by rw [r.len]; exact l), h⟩
    · rw [σo z]
      exact r.p.fz j x e
  · rcases old e with ⟨rfl, y, l⟩ | ⟨z, e⟩
    · cases y
    · rw [σo z]
      exact r.p.ow j o e
  · rcases old e1 with ⟨rfl, y, l⟩ | ⟨z, e⟩
    · cases y
    · rw [σo z] at e2
      exact r.new j o a e e2
  · rcases old e1 with ⟨rfl, y, l⟩ | ⟨z, e⟩
    · cases y
    · rcases old e2 with ⟨rfl, y, l⟩ | ⟨z2, f⟩
      · cases y
      · rw [σo z] at e3
        rw [σo z2] at e4
        exact r.dis j k o u a n e f e3 e4
/-- a slot gets a new object of its own -/
theorem RepF.own (r : RepF K Z s0 G0 H0 G H σ ρ s) {i : Nat} {a : Addr} {u : HO} {o : OD} (h : H a = some u) (hd : HD K Z G u o) (g : G a = none) (is : ¬ inS s a) (n0 : Fre H0 a) (fr : ∀ (j : Nat) (o : OD), ρ[j]? = some (.ow o) → σ[j]? = some (some (.ref a)) → j = i) :
    RepF K Z s0 G0 H0 G H (σ.set i (some (.ref a))) (ρ.set i (.ow o)) s := by
  have old : ∀ {j : Nat} {x : Sl}, (ρ.set i (.ow o))[j]? = some x → (j = i ∧ x = .ow o ∧ i < ρ.length) ∨ (j ≠ i ∧ ρ[j]? = some x) := fun {j x} e => by
    by_cases z : j = i
    · subst z
      by_cases l : j < ρ.length
      · rw [List.getElem?_set_self l] at e
        exact .inl ⟨rfl, (Option.some.inj e).symm, l⟩
      · rw [List.getElem?_eq_none (by rw [List.length_set]; omega)] at e
        cases e
    · rw [List.getElem?_set_ne (Ne.symm z)] at e
      exact .inr ⟨z, e⟩
  have σo : ∀ {j : Nat}, j ≠ i → (σ.set i (some (.ref a)))[j]? = σ[j]? := fun {j} z => List.getElem?_set_ne (Ne.symm z)
  have σs : i < ρ.length → (σ.set i (some (V.ref a)))[i]? = some (some (.ref a)) := fun l => List.getElem?_set_self (by rw [r.len]; exact l)
  refine ⟨r.nx, r.w, ⟨fun j x e => ?_, fun j x e => ?_, by rw [List.length_set, List.length_set]; exact r.len⟩, fun j x b e1 e2 => ?_, fun j k x y b n e1 e2 e3 e4 => ?_, by rw [List.length_set, List.length_set]; exact r.len⟩
  · rcases old e with ⟨rfl, y, l⟩ | ⟨z, e⟩
    · cases y
    · rw [σo z]
      exact r.p.fz j x e
  · rcases old e with ⟨rfl, y, l⟩ | ⟨z, e⟩
    · cases y
      exact ⟨a, u, σs l, h, hd, g, is⟩
    · rw [σo z]
      exact r.p.ow j x e
  · rcases old e1 with ⟨rfl, y, l⟩ | ⟨z, e⟩
    · rw [σs l] at e2
      cases e2
      exact n0
    · rw [σo z] at e2
      exact r.new j x b e e2
  · rcases old e1 with ⟨rfl, p, l⟩ | ⟨z, e⟩
    · rcases old e2 with ⟨rfl, p, l2⟩ | ⟨z2, f⟩
      · exact n rfl
      · rw [σs l] at e3
        cases e3
        rw [σo z2] at e4
        exact z2 (fr k y f e4)
    · rcases old e2 with ⟨rfl, p, l⟩ | ⟨z2, f⟩
      · rw [σs l] at e4
        cases e4
        rw [σo z] at e3
        exact z (fr j x e e3)
      · rw [σo z] at e3
        rw [σo z2] at e4
        exact r.dis j k x y b n e f e3 e4
/-- a new object is no slot's own -/
theorem RepF.fr (r : RepF K Z s0 G0 H0 G H σ ρ s) {a : Addr} (h : Fre H a) {j : Nat} {o : OD} (e : ρ[j]? = some (.ow o)) (f : σ[j]? = some (some (.ref a))) : False := by
  obtain ⟨b, u, h1, h2, h3, _⟩ := r.p.ow j o e
  rw [h1] at f
  cases f
  exact fre_ne h2 h3.nt h rfl
/-- an own object changes -/
theorem RepF.mut (r : RepF K Z s0 G0 H0 G H σ ρ s) {i : Nat} {a : Addr} {u' : HO} {o o' : OD} (e : ρ[i]? = some (.ow o)) (f : σ[i]? = some (some (.ref a))) (hd : HD K Z G u' o') : RepF K Z s0 G0 H0 G (upd H a u') σ (ρ.set i (.ow o')) s := by
  obtain ⟨b, u, h1, h2, h3, h4, h5⟩ := r.p.ow i o e
  rw [f] at h1
  cases h1
  have l : i < ρ.length := (List.getElem?_eq_some_iff.mp e).1
  have n0 := r.new i o a e f
  have old : ∀ {j : Nat} {x : Sl}, (ρ.set i (.ow o'))[j]? = some x → (j = i ∧ x = .ow o') ∨ (j ≠ i ∧ ρ[j]? = some x) := fun {j x} e => by
    by_cases z : j = i
    · subst z
      rw [List.getElem?_set_self l] at e
      exact .inl ⟨rfl, (Option.some.inj e).symm⟩
    · rw [List.getElem?_set_ne (Ne.symm z)] at e
      exact .inr ⟨z, e⟩
  refine ⟨r.nx.mut n0, r.w.mut h2 h4 h5 h3.nt h3.ne, ⟨fun j x ej => ?_, fun j x ej => ?_, by rw [List.length_set]; exact r.len⟩, fun j x b e1 e2 => ?_, fun j k x y b n e1 e2 e3 e4 => ?_, by rw [List.length_set]; exact r.len⟩
  · rcases old ej with ⟨rfl, y⟩ | ⟨z, ej⟩
    · cases y
    · exact r.p.fz j x ej
  · rcases old ej with ⟨rfl, y⟩ | ⟨z, ej⟩
    · cases y
      exact ⟨a, u', f, upd_same, hd, h4, h5⟩
    · obtain ⟨b, v, q1, q2, q3, q4, q5⟩ := r.p.ow j x ej
      refine ⟨b, v, q1, ?_, q3, q4, q5⟩
      rw [upd_ne fun y => r.dis j i x o a z ej e (by rw [← y]; exact q1) f]
      exact q2
  · rcases old e1 with ⟨rfl, y⟩ | ⟨z, ej⟩
    · exact r.new j o b e e2
    · exact r.new j x b ej e2
  · rcases old e1 with ⟨rfl, p⟩ | ⟨z, ej⟩
    · rcases old e2 with ⟨rfl, p⟩ | ⟨z2, ek⟩
      · exact n rfl
      · exact r.dis j k o y b n e ek e3 e4
    · rcases old e2 with ⟨rfl, p⟩ | ⟨z2, ek⟩
      · exact r.dis j k x o b n ej e e3 e4
      · exact r.dis j k x y b n ej ek e3 e4
theorem AnsS.later {r : R Fl} {D : Ends} {G1 : Hp} (e : Same G G1) (h : AnsS K Z E r s0 G0 H0 G D) : AnsS K Z E r s0 G0 H0 G1 D := by
  induction r with
  | ok fl s =>
    cases fl with
    | nx ρ => exact fun σ G' H' q => h σ G' H' (e.trans q)
    | bk ρ => exact fun σ G' H' q => h σ G' H' (e.trans q)
    | ct ρ => exact fun σ G' H' q => h σ G' H' (e.trans q)
    | rt d => exact h
  | ex e s => exact h
  | un => exact h
  | dr t k ih => exact fun i h0 h1 => ih i (h i h0 h1)
  | an P k ih => exact fun d s2 hp => ih d s2 (h d s2 hp)
/-- a statement, then k -/
theorem AnsS.bindS {r : R Fl} {k : Fl → S → R Fl} {D D' : Ends} (h : AnsS K Z E (r.bind k) s0 G0 H0 G D) (c : ∀ fl s, AnsS K Z E (k fl s) s0 G0 H0 G D → AnsS K Z E (.ok fl s) s0 G0 H0 G D') : AnsS K Z E r s0 G0 H0 G D' := by
  induction r with
  | ok fl s => exact c fl s h
  | ex e s => exact h
  | un => exact h
  | dr t k ih => exact fun i h0 h1 => ih i (h i h0 h1)
  | an P k ih => exact fun d s2 hp => ih d s2 (h d s2 hp)
/-- an expression seen with all that is one's own, then k -/
theorem AnsS.bindH {α β : Type} {Rl : Hp → β → α → Prop} {r : R α} {k : α → S → R Fl} {D : Ends} {Q1 : β → Hp → Prop} (F : RepF K Z s0 G0 H0 G H σ ρ s) (h : AnsS K Z E (r.bind k) s0 G0 H0 G D)
    (c : ∀ d s' v V' H', Nx s s' (vw G0 H0 H s) H V' H' → Wd Z.T V' H' s' → Rl V' v d → AnsS K Z E (k d s') s0 G0 H0 G D → Q1 v H') : Ans K Z E Rl r s (vw G0 H0 H s) H Q1 := by
  induction r with
  | ok d s2 => exact fun v V2 H2 n w q => c d s2 v V2 H2 n w q h
  | ex e s2 => exact fun cls dd V2 H2 n w q => h cls dd V2 H2 (F.out n) w q
  | un => exact h
  | dr t k ih => exact fun i h0 h1 => ih i (h i h0 h1)
  | an P k ih => exact fun d s2 hp => ih d s2 (h d s2 hp)
/-- .. with what is known for good -/
theorem AnsS.bindF {α β : Type} {Rl : Hp → β → α → Prop} {r : R α} {k : α → S → R Fl} {D : Ends} {Q1 : β → Hp → Prop} (F : RepF K Z s0 G0 H0 G H σ ρ s) (h : AnsS K Z E (r.bind k) s0 G0 H0 G D)
    (c : ∀ d s' v V' H', Nx s s' G H V' H' → Wd Z.T V' H' s' → Rl V' v d → AnsS K Z E (k d s') s0 G0 H0 V' D → Q1 v H') : Ans K Z E Rl r s G H Q1 := by
  induction r with
  | ok d s2 => exact fun v V2 H2 n w q => c d s2 v V2 H2 n w q (AnsS.later n.g h)
  | ex e s2 => exact fun cls dd V2 H2 n w q => h cls dd V2 H2 (F.nx.trans n) w q
  | un => exact h
  | dr t k ih => exact fun i h0 h1 => ih i (h i h0 h1)
  | an P k ih => exact fun d s2 hp => ih d s2 (h d s2 hp)
end
/-! ### what statements compute -/
def nxS (ρ : Slots) (s : S) : R Fl := .ok (.nx ρ) s
def seqS (F1 F2 : Slots → S → R Fl) (ρ : Slots) (s : S) : R Fl := (F1 ρ s).bind fun fl s => match fl with
  | .nx ρ => F2 ρ s
  | x => .ok x s
def ifS (p : Slots → S → R Bool) (F1 F2 : Slots → S → R Fl) (ρ : Slots) (s : S) : R Fl := (p (allS ρ) s).bind fun b s => if b = true then F1 ρ s else F2 ρ s
def retS (f : Slots → S → R D) (ρ : Slots) (s : S) : R Fl := (f (allS ρ) s).bind fun d s => .ok (.rt d) s
def dropS (f : Slots → S → R D) (ρ : Slots) (s : S) : R Fl := (f (allS ρ) s).bind fun _ s => .ok (.nx ρ) s
/-- x = e : e reads nothing of one's own -/
def setF (i : Nat) (f : Slots → S → R D) (ρ : Slots) (s : S) : R Fl := (f ρ s).bind fun d s => .ok (.nx (ρ.set i (.fz d))) s
/-- .. it may; all that is one's own is given up -/
def setA (i : Nat) (f : Slots → S → R D) (ρ : Slots) (s : S) : R Fl := (f (allS ρ) s).bind fun d s => .ok (.nx ((allS ρ).set i (.fz d))) s
/-- .. it may; the value is a number and the like -/
def isSc : D → Bool
  | .non | .bl _ | .int _ | .str _ => true
  | _ => false
def setN (i : Nat) (f : Slots → S → R D) (ρ : Slots) (s : S) : R Fl := (f (allS ρ) s).bind fun d s => if isSc d = true then .ok (.nx (ρ.set i (.fz d))) s else .un
/-- x = [..] : a list of one's own -/
def setL (i : Nat) (f : Slots → S → R (List D)) (ρ : Slots) (s : S) : R Fl := (f ρ s).bind fun ds s => if fits ds.length = true then .ok (.nx (ρ.set i (.ow (.ls ds)))) s else .un
/-- x.append(e) -/
def appS (i : Nat) (f : Slots → S → R D) (ρ : Slots) (s : S) : R Fl := match ρ[i]? with
  | some (.ow (.ls ds)) => (f ρ s).bind fun d s => if fits (ds.length + 1) = true then .ok (.nx (ρ.set i (.ow (.ls (ds ++ [d]))))) s else .un
  | _ => .un
def brkS (ρ : Slots) (s : S) : R Fl := .ok (.bk ρ) s
def cntS (ρ : Slots) (s : S) : R Fl := .ok (.ct ρ) s
section
variable {K : PySem.W.Frag} {Z : Zn} {E : XK} {t u : TS} {F1 F2 : Slots → S → R Fl} {te : TE} {f : Slots → S → R D} {tt : TT} {p : Slots → S → R Bool} {ua : TA} {fa : Slots → S → R (List D)}
theorem cs_next : CmpS K Z E tNext nxS := fun s0 G0 H0 G H σ ρ s D r a => a σ G H (Same.refl _) r
theorem cs_break : CmpS K Z E tBreak brkS := fun s0 G0 H0 G H σ ρ s D r a => a σ G H (Same.refl _) r
theorem cs_cont : CmpS K Z E tCont cntS := fun s0 G0 H0 G H σ ρ s D r a => a σ G H (Same.refl _) r
theorem cs_seq (h1 : CmpS K Z E t F1) (h2 : CmpS K Z E u F2) : CmpS K Z E (tSeq t u) (seqS F1 F2) := fun s0 G0 H0 G H σ ρ s D r a => by
  refine h1 s0 G0 H0 G H σ ρ s _ r (AnsS.bindS a fun fl s1 a => ?_)
  cases fl with
  | nx ρ1 => exact fun σ1 G1 H1 q r1 => h2 s0 G0 H0 G1 H1 σ1 ρ1 s1 D r1 (AnsS.later q a)
  | bk ρ1 => exact a
  | ct ρ1 => exact a
  | rt d => exact a
theorem cs_if (hc : CmpT K Z E tt p) (h1 : CmpS K Z E t F1) (h2 : CmpS K Z E u F2) : CmpS K Z E (tIfS tt t u) (ifS p F1 F2) := fun s0 G0 H0 G H σ ρ s D r a =>
  hc _ H σ (allS ρ) s _ r.hW r.hP (AnsS.bindH r a fun b s1 c V1 H1 n1 w1 e a1 => by
    subst e
    by_cases hb : c = true
    · rw [if_pos hb] at a1 ⊢
      exact h1 s0 G0 H0 G H1 σ ρ s1 D (r.back n1 w1) a1
    · rw [if_neg hb] at a1 ⊢
      exact h2 s0 G0 H0 G H1 σ ρ s1 D (r.back n1 w1) a1)
theorem cs_ret (h : Cmp K Z E te f) : CmpS K Z E (tRet te) (retS f) := fun s0 G0 H0 G H σ ρ s D r a =>
  h _ H σ (allS ρ) s _ r.hW r.hP (AnsS.bindH r a fun d s1 v V1 H1 n1 w1 e a1 => a1 v V1 H1 (r.out n1) w1 e)
theorem cs_drop (h : Cmp K Z E te f) : CmpS K Z E (tDrop te) (dropS f) := fun s0 G0 H0 G H σ ρ s D r a =>
  h _ H σ (allS ρ) s _ r.hW r.hP (AnsS.bindH r a fun d s1 v V1 H1 n1 w1 e a1 => a1 σ G H1 (Same.refl _) (r.back n1 w1))
theorem cs_setF (i : Nat) (h : Cmp K Z E te f) : CmpS K Z E (tAsg te (gName i)) (setF i f) := fun s0 G0 H0 G H σ ρ s D r a =>
  h G H σ ρ s _ r.w r.p (AnsS.bindF r a fun d s1 v V1 H1 n1 w1 e a1 => a1 _ V1 H1 (Same.refl _) ((r.on n1 w1).set e))
theorem cs_setA (i : Nat) (h : Cmp K Z E te f) : CmpS K Z E (tAsg te (gName i)) (setA i f) := fun s0 G0 H0 G H σ ρ s D r a =>
  h _ H σ (allS ρ) s _ r.hW r.hP (AnsS.bindH r a fun d s1 v V1 H1 n1 w1 e a1 => a1 _ V1 H1 (r.sub.trans n1.g) ((r.froz n1 w1).set e))
theorem sc_dv {G G' : Hp} {v : V} {d : D} (h : Dv K Z G v d) (e : isSc d = true) : Dv K Z G' v d := by
  cases h with
  | non => exact .non
  | bl b => exact .bl b
  | int i => exact .int i
  | str x => exact .str x
  | _ => cases e
theorem cs_setN (i : Nat) (h : Cmp K Z E te f) : CmpS K Z E (tAsg te (gName i)) (setN i f) := fun s0 G0 H0 G H σ ρ s D r a =>
  h _ H σ (allS ρ) s _ r.hW r.hP (AnsS.bindH r a fun d s1 v V1 H1 n1 w1 e a1 => by
    by_cases z : isSc d = true
    · rw [if_pos z] at a1
      exact a1 _ G H1 (Same.refl _) ((r.back n1 w1).set (sc_dv e z))
    · rw [if_neg z] at a1
      exact a1.elim)
/-- a list display -/
theorem cs_setL (i : Nat) (h : CmpA K Z E ua fa) : CmpS K Z E (tAsg (tLst ua) (gName i)) (setL i fa) := fun s0 G0 H0 G H σ ρ s D r a =>
  h G H σ ρ s _ r.w r.p (AnsS.bindF r a fun ds s1 vs V1 H1 n1 w1 e a1 => by
    by_cases z : fits ds.length = true
    · rw [if_pos z] at a1
      refine ⟨by rw [e.len]; exact fits_le z, fun q hq => ?_⟩
      have r1 := r.on n1 w1
      have is : ¬ inS s1 q := fun y => w1.mr.inH y hq
      have r2 := r1.on (Nx.up (o := .lst vs) hq) (w1.up hq)
      exact a1 _ V1 _ (Same.refl _) (r2.own upd_same (.ls e) (w1.sv.free hq) is (r1.nx.k q (.inl hq)) fun j o ej ef => (r1.fr (.inl hq) ej ef).elim)
    · rw [if_neg z] at a1
      exact a1.elim)
theorem cs_app (i : Nat) (h : Cmp K Z E te f) : CmpS K Z E (tDrop (tBM K "list" rAppend (tVar i) (tCons te tNil))) (appS i f) := fun s0 G0 H0 G H σ ρ s D r a => by
  unfold appS at a
  match e : ρ[i]?, a with
  | some (.ow (.ls ds)), a =>
    obtain ⟨b, u, h1, h2, h3, h4, h5⟩ := r.p.ow i _ e
    cases h3 with
    | @ls vs _ hs =>
      refine ⟨.ref b, h1, .inl ⟨rfl, _, SqL.of h2⟩, ?_⟩
      refine h G H σ ρ s _ r.w r.p (AnsS.bindF r a fun d s1 v V1 H1 n1 w1 q a1 => ?_)
      by_cases z : fits (ds.length + 1) = true
      · rw [if_pos z] at a1
        have r1 := r.on n1 w1
        have hb := n1.h b _ h2 (fun ps z => by cases z) h5
        refine ⟨b, vs, v, rfl, rfl, hb, ?_, ?_⟩
        · rw [hs.len]
          have := fits_lt z
          omega
        · exact a1 _ V1 _ (Same.refl _) (r1.mut e h1 (.ls ((DvA.mono n1.g _ _ hs).snoc q)))
      · rw [if_neg z] at a1
        exact a1.elim
  | none, a => exact a.elim
  | some .no, a => exact a.elim
  | some (.fz d), a => exact a.elim
  | some (.ow (.is c ns ds)), a => exact a.elim
/-- code that is never come to -/
theorem cs_never : CmpS K Z E tNever (fun _ _ => .un) := fun s0 G0 H0 G H σ ρ s D r a => a
end
end Pp

/-! Pp3: targets, loops, comprehensions. -/
namespace Pp
open PySem PySem.Spec PyProof.Rows L2 Pg Pf LamX
/-! ### targets -/
def CmpG (t : TG) (g : D → Slots → Option Slots) (is : List Nat) (K : PySem.W.Frag) (Z : Zn) : Prop := ∀ (P : L2.St → Slots → Prop) (V H : Hp), Same V H → (∀ σ ρ i v d, i ∈ is → P σ ρ → Dv K Z V v d → P (σ.set i (some v)) (ρ.set i (.fz d))) →
  ∀ σ ρ v d Q, P σ ρ → Dv K Z V v d → (match g d ρ with
    | some ρ' => ∀ σ', P σ' ρ' → Q σ' H
    | none => False) → t v σ H Q
def CmpGs (t : TGs) (g : List D → Slots → Option Slots) (is : List Nat) (K : PySem.W.Frag) (Z : Zn) : Prop := ∀ (P : L2.St → Slots → Prop) (V H : Hp), Same V H → (∀ σ ρ i v d, i ∈ is → P σ ρ → Dv K Z V v d → P (σ.set i (some v)) (ρ.set i (.fz d))) →
  ∀ σ ρ vs ds Q, P σ ρ → DvA K Z V vs ds → (match g ds ρ with
    | some ρ' => ∀ σ', P σ' ρ' → Q σ' H
    | none => False) → t vs σ H Q
def gN (i : Nat) (d : D) (ρ : Slots) : Option Slots := some (ρ.set i (.fz d))
def gT (n : Nat) (g : List D → Slots → Option Slots) (d : D) (ρ : Slots) : Option Slots := match d with
  | .tup ds => if ds.length = n then g ds ρ else none
  | _ => none
def gs0 (ds : List D) (ρ : Slots) : Option Slots := match ds with
  | [] => some ρ
  | _ => none
def gsC (g : D → Slots → Option Slots) (gs : List D → Slots → Option Slots) (ds : List D) (ρ : Slots) : Option Slots := match ds with
  | d :: ds => (g d ρ).bind (gs ds)
  | [] => none
section
variable {K : PySem.W.Frag} {Z : Zn} {t : TG} {ts : TGs} {g : D → Slots → Option Slots} {gs : List D → Slots → Option Slots} {is js : List Nat}
theorem cg_name (i : Nat) : CmpG (gName i) (gN i) [i] K Z := fun P V H sv st σ ρ v d Q p r h => h _ (st σ ρ i v d (by simp) p r)
theorem cg_tup {n : Nat} (h : CmpGs ts gs is K Z) : CmpG (gTup K n ts) (gT n gs) is K Z := fun P V H sv st σ ρ v d Q p r a => by
  cases r with
  | @tup b vs ds hx hs =>
    unfold gT at a
    by_cases e : ds.length = n
    · simp only [if_pos e] at a
      exact ⟨b, vs, rfl, Evl.ex_t sv hx, hs.len.trans e, h P V H sv st σ ρ vs ds Q p hs a⟩
    · simp only [if_neg e] at a
  | _ => exact a.elim
theorem cg_nil : CmpGs gNil gs0 [] K Z := fun P V H sv st σ ρ vs ds Q p r a => by
  cases r with
  | nil => exact ⟨rfl, a σ p⟩
  | cons _ _ => exact a.elim
theorem cg_cons (h : CmpG t g is K Z) (h2 : CmpGs ts gs js K Z) : CmpGs (gCons t ts) (gsC g gs) (is ++ js) K Z := fun P V H sv st σ ρ vs ds Q p r a => by
  cases r with
  | nil => exact a.elim
  | @cons v d vs ds hv hs =>
    refine ⟨v, vs, rfl, h P V H sv (fun σ ρ i v d e => st σ ρ i v d (List.mem_append_left _ e)) σ ρ v d _ p hv ?_⟩
    cases e : g d ρ with
    | none =>
      simp only [gsC, e] at a
      exact a
    | some ρ1 => exact fun σ1 p1 => h2 P V H sv (fun σ ρ i v d e => st σ ρ i v d (List.mem_append_right _ e)) σ1 ρ1 vs ds Q p1 hs (by simp only [gsC, e] at a; exact a)
end
/-! ### what is walked -/
structure ItR (K : PySem.W.Frag) (Z : Zn) (V : Hp) (J : It) (ds : List D) : Prop where
  go : ∀ i V1 H1, Same V V1 → Same V1 H1 → i < ds.length → J.go i H1
  stop : ∀ V1 H1, Same V V1 → Same V1 H1 → J.stop ds.length H1
  yld : ∀ i V1 H1 x H2, Same V V1 → Same V1 H1 → i < ds.length → J.yld i H1 x H2 → ∃ d, ds[i]? = some d ∧ ((H2 = H1 ∧ Dv K Z V1 x d) ∨ ∃ T xs, x = .ref T ∧ H1 T = none ∧ H2 = upd H1 T (.tup xs) ∧ Dv K Z (upd V1 T (.tup xs)) x d)
def CmpI (K : PySem.W.Frag) (Z : Zn) (E : XK) (t : TI) (f : Slots → S → R (List D)) : Prop := ∀ V H σ ρ s Q, Wd Z.T V H s → Rep K Z V H σ ρ s → Ans K Z E (ItR K Z) (f ρ s) s V H Q → t σ H Q
/-- a list or a tuple -/
def iSeq (K : PySem.W.Frag) (tl : TE) : TI := fun σ H R => tl σ H fun x H1 => ∃ a, x = .ref a ∧ (((∃ xs, SqL K H1 a xs) ∧ R (Itl K a) H1) ∨ ((∃ xs, SqT K H1 a xs) ∧ R (Itt K a) H1))
theorem pi_seq {X : Cx} {tg l : Expr} {tl : TE} (hl : PE X l tl) : PI X tg l (iSeq X.K tl) := by
  refine ⟨fun pins s σ H R I h => ?_⟩
  refine thn (hl.run pins s σ H _ I h) fun v s1 ⟨x, H1, I1, r1, q1⟩ => ?_
  obtain ⟨a, e, q1⟩ := q1
  subst e
  cases r1
  rcases q1 with ⟨⟨xs, hq⟩, q⟩ | ⟨⟨xs, hq⟩, q⟩
  · obtain ⟨its, rv, p, hz⟩ := I1.list hq
    refine wpAny_pyIter_list p.isList ?_
    refine ⟨s1.heap.objs.size, [s1.heap.objs.size], _, _, H1, rfl, I1.kept (t' := s1.toks) fun b o e => Heap.get?_push_of_some _ e, turn_list a _, ⟨_, Heap.get?_push_size _ rfl, rfl, rfl⟩, fun b hb => ?_, q⟩
    have e : b = s1.heap.objs.size := by simpa using hb
    subst e
    exact I1.fpOk (Nat.le_refl _) (I1.hok.fresh (Nat.le_refl _))
  · obtain ⟨its, rv, p, hz⟩ := I1.tuple hq
    refine wpAny_pyIter_tuple (show s1.heap.IsTuple a its.toArray from p) ?_
    refine ⟨s1.heap.objs.size, [s1.heap.objs.size], _, _, H1, rfl, I1.kept (t' := s1.toks) fun b o e => Heap.get?_push_of_some _ e, turn_tuple a _, ⟨_, Heap.get?_push_size _ rfl, rfl, rfl⟩, fun b hb => ?_, q⟩
    have e : b = s1.heap.objs.size := by simpa using hb
    subst e
    exact I1.fpOk (Nat.le_refl _) (I1.hok.fresh (Nat.le_refl _))
def itmF (d : D) (s : S) : R (List D) := match d with
  | .lst ds => .ok ds s
  | .rls ds => .ok ds s
  | .tup ds => .ok ds s
  | _ => .un
def seqI (f : Slots → S → R D) (ρ : Slots) (s : S) : R (List D) := (f ρ s).bind itmF
def rngD (lo : Int) (n : Nat) : List D := (List.range n).map fun i => .int (lo + (i : Nat))
def rgB (i : Int) : Bool := decide (-(2 ^ 62) ≤ i) && decide (i < 2 ^ 62)
def rg1F (ds : List D) (s : S) : R (List D) := match ds with
  | [.int j] => if rgB j = true then .ok (rngD 0 j.toNat) s else .un
  | _ => .un
def rg2F (ds : List D) (s : S) : R (List D) := match ds with
  | [.int i, .int j] => if (rgB i && rgB j) = true then .ok (rngD i (j - i).toNat) s else .un
  | _ => .un
def rgI (k : List D → S → R (List D)) (f : Slots → S → R (List D)) (ρ : Slots) (s : S) : R (List D) := (f ρ s).bind k
section
variable {K : PySem.W.Frag} {Z : Zn} {E : XK} {te : TE} {f : Slots → S → R D} {ua : TA} {fa : Slots → S → R (List D)}
theorem itR_list {V : Hp} {a : Addr} {vs : List L2.V} {ds : List D} (h : SqL K V a vs) (hs : DvA K Z V vs ds) : ItR K Z V (Itl K a) ds := by
  refine ⟨fun i V1 H1 e1 e2 l => ?_, fun V1 H1 e1 e2 => ⟨vs, (Evl.ex_l e2 (Evl.ex_l e1 h)), by rw [hs.len]; exact Nat.le_refl _⟩, fun i V1 H1 x H2 e1 e2 l y => ?_⟩
  · have l2 : i < vs.length := by rw [hs.len]; exact l
    exact ⟨vs, vs[i], (Evl.ex_l e2 (Evl.ex_l e1 h)), List.getElem?_eq_getElem l2⟩
  · obtain ⟨rfl, q⟩ := y
    obtain ⟨d, e, r⟩ := hs.at' (q vs ((Evl.ex_l e2 (Evl.ex_l e1 h))))
    exact ⟨d, e, .inl ⟨rfl, Dv.mono e1 _ _ r⟩⟩
theorem itR_tup {V : Hp} {a : Addr} {vs : List L2.V} {ds : List D} (h : SqT K V a vs) (hs : DvA K Z V vs ds) : ItR K Z V (Itt K a) ds := by
  have st : ∀ {V1 H1 : Hp}, Same V V1 → Same V1 H1 → SqT K H1 a vs := fun e1 e2 => Evl.ex_t (e1.trans e2) h
  refine ⟨fun i V1 H1 e1 e2 l => ?_, fun V1 H1 e1 e2 => ⟨vs, st e1 e2, by rw [hs.len]; exact Nat.le_refl _⟩, fun i V1 H1 x H2 e1 e2 l y => ?_⟩
  · have l2 : i < vs.length := by rw [hs.len]; exact l
    exact ⟨vs, vs[i], st e1 e2, List.getElem?_eq_getElem l2⟩
  · obtain ⟨rfl, q⟩ := y
    obtain ⟨d, e, r⟩ := hs.at' (q vs (st e1 e2))
    exact ⟨d, e, .inl ⟨rfl, Dv.mono e1 _ _ r⟩⟩
theorem rngD_len (lo : Int) (n : Nat) : (rngD lo n).length = n := by unfold rngD; rw [List.length_map, List.length_range]
theorem itR_rng {V : Hp} (lo : Int) (n : Nat) : ItR K Z V (Itr lo n) (rngD lo n) := by
  refine ⟨fun i V1 H1 e1 e2 l => by rw [rngD_len] at l; exact l, fun V1 H1 e1 e2 => by rw [rngD_len]; exact Nat.le_refl _, fun i V1 H1 x H2 e1 e2 l y => ?_⟩
  obtain ⟨rfl, rfl⟩ := y
  rw [rngD_len] at l
  refine ⟨.int (lo + (i : Nat)), ?_, .inl ⟨rfl, .int _⟩⟩
  unfold rngD
  rw [List.getElem?_map, List.getElem?_range l]
  rfl
theorem ci_seq (h : Cmp K Z E te f) : CmpI K Z E (iSeq K te) (seqI f) := fun V H σ ρ s Q w p a =>
  h V H σ ρ s _ w p (Ans.bind a fun d s1 v V1 H1 n1 w1 r1 a1 => by
    cases r1 with
    | @lst b vs ds hx hs => exact ⟨b, rfl, .inl ⟨⟨_, Evl.ex_l w1.sv (SqL.of hx)⟩, Ans.pure w1 (itR_list (SqL.of hx) hs) a1⟩⟩
    | @rls b vs ds hx hs => exact ⟨b, rfl, .inl ⟨⟨_, Evl.ex_l w1.sv hx⟩, Ans.pure w1 (itR_list hx hs) a1⟩⟩
    | @tup b vs ds hx hs => exact ⟨b, rfl, .inr ⟨⟨_, Evl.ex_t w1.sv hx⟩, Ans.pure w1 (itR_tup hx hs) a1⟩⟩
    | _ => exact a1.elim)
theorem rgB_of {i : Int} (h : rgB i = true) : -(2 ^ 62) ≤ i ∧ i < 2 ^ 62 := by
  have := Bool.and_eq_true_iff.mp h
  exact ⟨of_decide_eq_true this.1, of_decide_eq_true this.2⟩
theorem ci_rng1 (h : CmpA K Z E ua fa) : CmpI K Z E (iRng1 ua) (rgI rg1F fa) := fun V H σ ρ s Q w p a =>
  h V H σ ρ s _ w p (Ans.bind a fun d s1 v V1 H1 n1 w1 r1 a1 => by
    match d, r1, a1 with
    | [.int j], .cons (.int _) .nil, a1 =>
      replace a1 : Ans K Z E (ItR K Z) (if rgB j = true then .ok (rngD 0 j.toNat) s1 else .un) s1 V1 H1 Q := a1
      by_cases e : rgB j = true
      · rw [if_pos e] at a1
        exact ⟨j, rfl, (rgB_of e).1, (rgB_of e).2, Ans.pure w1 (itR_rng 0 j.toNat) a1⟩
      · rw [if_neg e] at a1
        exact a1.elim
    | [], _, a1 => exact a1.elim
    | .non :: _, _, a1 | .bl _ :: _, _, a1 | .str _ :: _, _, a1 | .obj _ _ :: _, _, a1 | .adr _ :: _, _, a1 | .emp :: _, _, a1 | .tup _ :: _, _, a1 | .lst _ :: _, _, a1 => exact a1.elim
    | .int _ :: _ :: _, _, a1 => exact a1.elim)
theorem ci_rng2 (h : CmpA K Z E ua fa) : CmpI K Z E (iRng2 ua) (rgI rg2F fa) := fun V H σ ρ s Q w p a =>
  h V H σ ρ s _ w p (Ans.bind a fun d s1 v V1 H1 n1 w1 r1 a1 => by
    match d, r1, a1 with
    | [.int i, .int j], .cons (.int _) (.cons (.int _) .nil), a1 =>
      replace a1 : Ans K Z E (ItR K Z) (if (rgB i && rgB j) = true then .ok (rngD i (j - i).toNat) s1 else .un) s1 V1 H1 Q := a1
      by_cases e : (rgB i && rgB j) = true
      · rw [if_pos e] at a1
        have e2 := Bool.and_eq_true_iff.mp e
        have b1 := rgB_of e2.1
        have b2 := rgB_of e2.2
        exact ⟨i, j, rfl, ⟨b1.1, b1.2, b2.1, b2.2⟩, Ans.pure w1 (itR_rng i _) a1⟩
      · rw [if_neg e] at a1
        exact a1.elim
    | [], _, a1 => exact a1.elim
    | [.int _], _, a1 => exact a1.elim
    | .int _ :: .int _ :: _ :: _, _, a1 => exact a1.elim
    | .int _ :: .non :: _, _, a1 | .int _ :: .bl _ :: _, _, a1 | .int _ :: .str _ :: _, _, a1 | .int _ :: .obj _ _ :: _, _, a1 | .int _ :: .adr _ :: _, _, a1 | .int _ :: .emp :: _, _, a1 | .int _ :: .tup _ :: _, _, a1 | .int _ :: .lst _ :: _, _, a1 => exact a1.elim
    | .non :: _, _, a1 | .bl _ :: _, _, a1 | .str _ :: _, _, a1 | .obj _ _ :: _, _, a1 | .adr _ :: _, _, a1 | .emp :: _, _, a1 | .tup _ :: _, _, a1 | .lst _ :: _, _, a1 => exact a1.elim)
end
/-! ### for, while -/
def forK (k : Slots → S → R Fl) (fl : Fl) (s : S) : R Fl := match fl with
  | .nx ρ => k ρ s
  | .ct ρ => k ρ s
  | .bk ρ => .ok (.nx ρ) s
  | .rt d => .ok (.rt d) s
def forL (g : D → Slots → Option Slots) (F : Slots → S → R Fl) : List D → Slots → S → R Fl
  | [], ρ, s => .ok (.nx ρ) s
  | d :: ds, ρ, s => match g d ρ with
    | none => .un
    | some ρ1 => (F ρ1 s).bind (forK fun ρ s => forL g F ds ρ s)
def forS (fi : Slots → S → R (List D)) (g : D → Slots → Option Slots) (F : Slots → S → R Fl) (ρ : Slots) (s : S) : R Fl := (fi ρ s).bind fun ds s => forL g F ds ρ s
def frzS (F : Slots → S → R Fl) (ρ : Slots) (s : S) : R Fl := F (allS ρ) s
def whlL (p : Slots → S → R Bool) (F : Slots → S → R Fl) : Nat → Slots → S → R Fl
  | 0, _, _ => .un
  | n + 1, ρ, s => (p (allS ρ) s).bind fun b s => if b = true then (F ρ s).bind (forK fun ρ s => whlL p F n ρ s) else .ok (.nx ρ) s
def asgS (f : Slots → S → R D) (g : D → Slots → Option Slots) (ρ : Slots) (s : S) : R Fl := (f ρ s).bind fun d s => match g d ρ with
  | some ρ => .ok (.nx ρ) s
  | none => .un
section
variable {K : PySem.W.Frag} {Z : Zn} {E : XK} {t : TS} {F : Slots → S → R Fl} {te : TE} {f : Slots → S → R D} {tt : TT} {p : Slots → S → R Bool} {wi : TI} {fi : Slots → S → R (List D)} {tg : TG} {g : D → Slots → Option Slots} {is : List Nat}
/-- first all that is one's own is known for good -/
theorem cs_frz (h : CmpS K Z E t F) : CmpS K Z E t (frzS F) := fun s0 G0 H0 G H σ ρ s D r a =>
  h s0 G0 H0 _ H σ (allS ρ) s D (r.froz (Nx.refl _ _ _) r.hW) (AnsS.later r.sub a)
theorem cs_asg (h : Cmp K Z E te f) (hg : CmpG tg g is K Z) : CmpS K Z E (tAsg te tg) (asgS f g) := fun s0 G0 H0 G H σ ρ s D r a =>
  h G H σ ρ s _ r.w r.p (AnsS.bindF r a fun d s1 v V1 H1 n1 w1 e a1 => by
    refine hg (fun σ ρ => RepF K Z s0 G0 H0 V1 H1 σ ρ s1) V1 H1 w1.sv (fun σ ρ i v d _ q hd => q.set hd) σ ρ v d _ (r.on n1 w1) e ?_
    cases e1 : g d ρ with
    | none =>
      rw [e1] at a1
      exact a1
    | some ρ1 =>
      rw [e1] at a1
      exact fun σ' q => a1 σ' V1 H1 (Same.refl _) q)
theorem cs_for (hi : CmpI K Z E wi fi) (hg : CmpG tg g is K Z) (hb : CmpS K Z E t F) : CmpS K Z E (tFor wi tg t) (forS fi g F) := fun s0 G0 H0 G H σ ρ s D r a => by
  refine hi G H σ ρ s _ r.w r.p (AnsS.bindF r a fun ds s1 J V1 H1 n1 w1 it a1 => ?_)
  refine ⟨fun i m σ H => m = ds.length - i ∧ i ≤ ds.length ∧ ∃ G2 ρ2 s2, RepF K Z s0 G0 H0 G2 H σ ρ2 s2 ∧ Same V1 G2 ∧ AnsS K Z E (forL g F (ds.drop i) ρ2 s2) s0 G0 H0 G2 D, ⟨ds.length, by simp, Nat.zero_le _, V1, ρ, s1, r.on n1 w1, Same.refl _, a1⟩, ?_⟩
  rintro i m σ2 H2 ⟨rfl, hi2, G2, ρ2, s2, r2, e2, a2⟩
  by_cases l : i < ds.length
  · refine .inr ⟨it.go i G2 H2 e2 r2.w.sv l, fun σ3 H3 => ∃ G3 ρ3 s3, RepF K Z s0 G0 H0 G3 H3 σ3 ρ3 s3 ∧ Same V1 G3 ∧ AnsS K Z E (forL g F (ds.drop (i + 1)) ρ3 s3) s0 G0 H0 G3 D, fun σ3 H3 q => ⟨ds.length - (i + 1), by omega, rfl, l, q⟩, fun x H3 y => ?_⟩
    obtain ⟨d, ed, y⟩ := it.yld i G2 H2 x H3 e2 r2.w.sv l y
    have dd : ds.drop i = d :: ds.drop (i + 1) := by
      rw [List.drop_eq_getElem_cons l]
      rw [List.getElem?_eq_getElem l] at ed
      rw [Option.some.inj ed]
    rw [dd] at a2
    have go : ∀ G3, Same G2 G3 → RepF K Z s0 G0 H0 G3 H3 σ2 ρ2 s2 → Dv K Z G3 x d → tg x σ2 H3 fun σ4 H4 => t { D with nx := fun σ3 H3 => ∃ G3 ρ3 s3, RepF K Z s0 G0 H0 G3 H3 σ3 ρ3 s3 ∧ Same V1 G3 ∧ AnsS K Z E (forL g F (ds.drop (i + 1)) ρ3 s3) s0 G0 H0 G3 D, ct := fun σ3 H3 => ∃ G3 ρ3 s3, RepF K Z s0 G0 H0 G3 H3 σ3 ρ3 s3 ∧ Same V1 G3 ∧ AnsS K Z E (forL g F (ds.drop (i + 1)) ρ3 s3) s0 G0 H0 G3 D, bk := D.nx } σ4 H4 := by
      intro G3 e3 r3 hd
      refine hg (fun σ ρ => RepF K Z s0 G0 H0 G3 H3 σ ρ s2) G3 H3 r3.w.sv (fun σ ρ i v d _ q hd => q.set hd) σ2 ρ2 x d _ r3 hd ?_
      have a3 := AnsS.later e3 a2
      unfold forL at a3
      cases eg : g d ρ2 with
      | none =>
        rw [eg] at a3
        exact a3
      | some ρ4 =>
        rw [eg] at a3
        refine fun σ4 r4 => hb s0 G0 H0 G3 H3 σ4 ρ4 s2 _ r4 ?_
        replace a3 : AnsS K Z E ((F ρ4 s2).bind (forK fun ρ s => forL g F (ds.drop (i + 1)) ρ s)) s0 G0 H0 G3 D := a3
        refine AnsS.bindS a3 fun fl s5 a3 => ?_
        cases fl with
        | nx ρ5 => exact fun σ5 G5 H5 q r5 => ⟨G5, ρ5, s5, r5, (e2.trans e3).trans q, AnsS.later q a3⟩
        | ct ρ5 => exact fun σ5 G5 H5 q r5 => ⟨G5, ρ5, s5, r5, (e2.trans e3).trans q, AnsS.later q a3⟩
        | bk ρ5 => exact a3
        | rt d => exact a3
    rcases y with ⟨rfl, hd⟩ | ⟨T, xs, rfl, nT, rfl, hd⟩
    · exact go G2 (Same.refl _) r2 hd
    · exact go _ (Same.new (r2.w.sv.free nT)) (r2.on (Nx.new r2.w nT) (r2.w.new nT fun _ z => by cases z)) hd
  · have e : i = ds.length := by omega
    subst e
    rw [List.drop_length] at a2
    exact .inl ⟨it.stop G2 H2 e2 r2.w.sv, a2 σ2 G2 H2 (Same.refl _) r2⟩
theorem cs_while (n : Nat) (hc : CmpT K Z E tt p) (hb : CmpS K Z E t F) : CmpS K Z E (tWhile tt t) (whlL p F n) := fun s0 G0 H0 G H σ ρ s D r a => by
  refine ⟨fun m σ H => ∃ G2 ρ2 s2, RepF K Z s0 G0 H0 G2 H σ ρ2 s2 ∧ AnsS K Z E (whlL p F m ρ2 s2) s0 G0 H0 G2 D, ⟨n, G, ρ, s, r, a⟩, ?_⟩
  rintro m σ2 H2 ⟨G2, ρ2, s2, r2, a2⟩
  cases m with
  | zero => exact a2.elim
  | succ m =>
    unfold whlL at a2
    refine hc _ H2 σ2 (allS ρ2) s2 _ r2.hW r2.hP (AnsS.bindH r2 a2 fun b s3 c V3 H3 n3 w3 e a3 => ?_)
    subst e
    by_cases z : c = true
    · rw [if_pos z] at a3 ⊢
      refine ⟨fun σ H => ∃ G2 ρ2 s2, RepF K Z s0 G0 H0 G2 H σ ρ2 s2 ∧ AnsS K Z E (whlL p F m ρ2 s2) s0 G0 H0 G2 D, fun σ' H' q => ⟨m, by omega, q⟩, ?_⟩
      refine hb s0 G0 H0 G2 H3 σ2 ρ2 s3 _ (r2.back n3 w3) ?_
      refine AnsS.bindS a3 fun fl s5 a3 => ?_
      cases fl with
      | nx ρ5 => exact fun σ5 G5 H5 q r5 => ⟨G5, ρ5, s5, r5, AnsS.later q a3⟩
      | ct ρ5 => exact fun σ5 G5 H5 q r5 => ⟨G5, ρ5, s5, r5, AnsS.later q a3⟩
      | bk ρ5 => exact a3
      | rt d => exact a3
    · rw [if_neg z] at a3 ⊢
      exact a3 σ2 G2 H3 (Same.refl _) (r2.back n3 w3)
end
end Pp

/-! Pp4: new lists, comprehensions. -/
namespace Pp
open PySem PySem.Spec PyProof.Rows L2 Pg Pf LamX
def AnsL (K : PySem.W.Frag) (Z : Zn) (E : XK) (r : R (List D)) (s : S) (V H : Hp) (Q : VK) : Prop := match r with
  | .ok ds s' => ∀ p vs V' H', Nx s s' V H V' H' → Wd Z.T V' H' s' → Fre H p → V' p = none → ¬ inS s' p → H' p = some (.lst vs) → DvA K Z V' vs ds → Q (.ref p) H'
  | .ex e s' => ∀ cls dd V' H', Nx s s' V H V' H' → Wd Z.T V' H' s' → ExR K Z V' cls dd e → E cls dd H'
  | .un => False
  | .dr t k => ∀ i, 0 ≤ i → i < t → AnsL K Z E (k i) s V H Q
  | .an P k => ∀ d s1, P d s1 → AnsL K Z E (k d s1) s V H Q
/-- t makes a new list -/
def CmpL (K : PySem.W.Frag) (Z : Zn) (E : XK) (t : TE) (f : Slots → S → R (List D)) : Prop := ∀ V H σ ρ s Q, Wd Z.T V H s → Rep K Z V H σ ρ s → AnsL K Z E (f ρ s) s V H Q → t σ H Q
def mkL (f : Slots → S → R (List D)) (ρ : Slots) (s : S) : R D := (f ρ s).bind fun ds s => .ok (.lst ds) s
def setW (i : Nat) (f : Slots → S → R (List D)) (ρ : Slots) (s : S) : R Fl := (f ρ s).bind fun ds s => .ok (.nx (ρ.set i (.ow (.ls ds)))) s
def litL (f : Slots → S → R (List D)) (ρ : Slots) (s : S) : R (List D) := (f ρ s).bind fun ds s => if fits ds.length = true then .ok ds s else .un
section
variable {K : PySem.W.Frag} {Z : Zn} {E : XK} {te : TE} {f : Slots → S → R (List D)} {ua : TA} {s s' : S} {V H V' H' : Hp}
theorem AnsL.of {r : R (List D)} {Q : VK} (a : Ans K Z E (Dv K Z) (r.bind fun ds s => .ok (.lst ds) s) s V H Q) : AnsL K Z E r s V H Q := by
  induction r with
  | ok ds s1 => exact fun q vs V1 H1 n w1 h0 v0 i h1 hs => a (.ref q) (upd V1 q (.lst vs)) H1 (n.freeze h0 v0) (w1.freeze h1 (fun _ z => by cases z) i) (.lst upd_same (DvA.mono (Same.new v0) _ _ hs))
  | ex e s1 => exact a
  | un => exact a
  | dr t k ih => exact fun i h0 h1 => ih i (a i h0 h1)
  | an P k ih => exact fun d s2 hp => ih d s2 (a d s2 hp)
theorem c_mkL (h : CmpL K Z E te f) : Cmp K Z E te (mkL f) := fun V H σ ρ s Q w p a => h V H σ ρ s Q w p (AnsL.of a)
theorem AnsL.ofS {r : R (List D)} {i : Nat} {s0 : S} {G0 H0 G : Hp} {σ : L2.St} {ρ : Slots} {D : Ends} (F : RepF K Z s0 G0 H0 G H σ ρ s) (a : AnsS K Z E (r.bind fun ds s => .ok (.nx (ρ.set i (.ow (.ls ds)))) s) s0 G0 H0 G D) : AnsL K Z E r s G H (fun v H' => gName i v σ H' D.nx) := by
  induction r with
  | ok ds s1 => exact fun q vs V1 H1 n w1 h0 v0 is h1 hs => a _ V1 H1 n.g ((F.on n w1).own h1 (.ls hs) v0 is (F.nx.k q h0) fun j o ej ef => (F.fr h0 ej ef).elim)
  | ex e s1 => exact fun cls dd V2 H2 n w q => a cls dd V2 H2 (F.nx.trans n) w q
  | un => exact a
  | dr t k ih => exact fun i h0 h1 => ih i (a i h0 h1)
  | an P k ih => exact fun d s2 hp => ih d s2 (a d s2 hp)
theorem cs_setW (i : Nat) (h : CmpL K Z E te f) : CmpS K Z E (tAsg te (gName i)) (setW i f) := fun s0 G0 H0 G H σ ρ s D r a => h G H σ ρ s _ r.w r.p (AnsL.ofS r a)
theorem AnsL.new {ds : List D} {vs : List L2.V} {Q : VK} (w : Wd Z.T V H s) (hs : DvA K Z V vs ds) (a : AnsL K Z E (.ok ds s) s V H Q) : ∀ p, H p = none → Q (.ref p) (upd H p (.lst vs)) := fun p hp =>
  a p vs V _ (Nx.up hp) (w.up hp) (.inl hp) (w.sv.free hp) (fun y => w.mr.inH y hp) upd_same hs
theorem AnsL.later {r : R (List D)} {Q : VK} (x : Nx s s' V H V' H') (h : AnsL K Z E r s V H Q) : AnsL K Z E r s' V' H' Q := by
  induction r with
  | ok d s2 => exact fun q vs V2 H2 n w h0 v0 i h1 hs => h q vs V2 H2 (x.trans n) w (x.k q h0) v0 i h1 hs
  | ex e s2 => exact fun cls dd V2 H2 n w q => h cls dd V2 H2 (x.trans n) w q
  | un => exact h
  | dr t k ih => exact fun i h0 h1 => ih i (h i h0 h1)
  | an P k ih => exact fun d s2 hp => ih d s2 (h d s2 hp)
theorem AnsL.bind {α β : Type} {Rl : Hp → β → α → Prop} {r : R α} {k : α → S → R (List D)} {Q : VK} {Q1 : β → Hp → Prop} (h : AnsL K Z E (r.bind k) s V H Q)
    (c : ∀ d s' v V' H', Nx s s' V H V' H' → Wd Z.T V' H' s' → Rl V' v d → AnsL K Z E (k d s') s' V' H' Q → Q1 v H') : Ans K Z E Rl r s V H Q1 := by
  induction r with
  | ok d s2 => exact fun v V2 H2 n w q => c d s2 v V2 H2 n w q (AnsL.later n h)
  | ex e s2 => exact h
  | un => exact h
  | dr t k ih => exact fun i h0 h1 => ih i (h i h0 h1)
  | an P k ih => exact fun d s2 hp => ih d s2 (h d s2 hp)
/-- .. later on, what is wanted told from the beginning -/
theorem AnsL.bindAt {α β : Type} {Rl : Hp → β → α → Prop} {r : R α} {k : α → S → R (List D)} {Q : VK} {Q1 : β → Hp → Prop} (n : Nx s s' V H V' H') (h : AnsL K Z E (r.bind k) s V H Q)
    (c : ∀ d s2 v V2 H2, Nx s' s2 V' H' V2 H2 → Wd Z.T V2 H2 s2 → Rl V2 v d → AnsL K Z E (k d s2) s V H Q → Q1 v H2) : Ans K Z E Rl r s' V' H' Q1 := by
  induction r with
  | ok d s2 => exact fun v V2 H2 m w q => c d s2 v V2 H2 m w q h
  | ex e s2 => exact fun cls dd V2 H2 m w q => h cls dd V2 H2 (n.trans m) w q
  | un => exact h
  | dr t k ih => exact fun i h0 h1 => ih i (h i h0 h1)
  | an P k ih => exact fun d s2 hp => ih d s2 (h d s2 hp)
theorem AnsL.bindL {r : R (List D)} {k : List D → S → R (List D)} {Q Q1 : VK} (h : AnsL K Z E (r.bind k) s V H Q)
    (c : ∀ ds s' p vs V' H', Nx s s' V H V' H' → Wd Z.T V' H' s' → Fre H p → V' p = none → ¬ inS s' p → H' p = some (.lst vs) → DvA K Z V' vs ds → AnsL K Z E (k ds s') s' V' H' Q → Q1 (.ref p) H') : AnsL K Z E r s V H Q1 := by
  induction r with
  | ok d s2 => exact fun p vs V2 H2 n w h0 v0 i h1 hs => c d s2 p vs V2 H2 n w h0 v0 i h1 hs (AnsL.later n h)
  | ex e s2 => exact h
  | un => exact h
  | dr t k ih => exact fun i h0 h1 => ih i (h i h0 h1)
  | an P k ih => exact fun d s2 hp => ih d s2 (h d s2 hp)
theorem cl_lit (h : CmpA K Z E ua f) : CmpL K Z E (tLst ua) (litL f) := fun V H σ ρ s Q w p a =>
  h V H σ ρ s _ w p (AnsL.bind a fun ds s1 vs V1 H1 n1 w1 e a1 => by
    by_cases z : fits ds.length = true
    · rw [if_pos z] at a1
      exact ⟨by rw [e.len]; exact fits_le z, AnsL.new w1 e a1⟩
    · rw [if_neg z] at a1
      exact a1.elim)
/-- [..] * n -/
def repL (f : Slots → S → R (List D)) (g : Slots → S → R D) (ρ : Slots) (s : S) : R (List D) := (f ρ s).bind fun ds s => (g ρ s).bind fun y s => match y with
  | .int k => if (decide (k ≤ 1000) && fits (ds.length * k.toNat) && decide (-(2 ^ 63) ≤ k)) = true then .ok (List.replicate k.toNat ds).flatten s else .un
  | _ => .un
theorem DvA.rep {G : Hp} {vs : List L2.V} {ds : List D} (h : DvA K Z G vs ds) : ∀ n, DvA K Z G (List.replicate n vs).flatten (List.replicate n ds).flatten
  | 0 => .nil
  | n + 1 => by
    rw [List.replicate_succ, List.replicate_succ, List.flatten_cons, List.flatten_cons]
    exact h.app (DvA.rep h n)
theorem cl_rep {tb : TE} {g : Slots → S → R D} (h : CmpL K Z E te f) (hb : Cmp K Z E tb g) : CmpL K Z E (tOp rRep te tb) (repL f g) := fun V H σ ρ s Q w p a =>
  h V H σ ρ s _ w p (AnsL.bindL a fun ds s1 q vs V1 H1 n w1 h0 v0 i h1 hs a1 => hb V1 H1 σ ρ s1 _ w1 (p.later n) (AnsL.bind a1 fun d s2 v V2 H2 n2 w2 e2 a2 => by
    cases e2 with
    | int k =>
      replace a2 : AnsL K Z E (if (decide (k ≤ 1000) && fits (ds.length * k.toNat) && decide (-(2 ^ 63) ≤ k)) = true then .ok (List.replicate k.toNat ds).flatten s2 else .un) s2 V2 H2 Q := a2
      by_cases z : (decide (k ≤ 1000) && fits (ds.length * k.toNat) && decide (-(2 ^ 63) ≤ k)) = true
      · rw [if_pos z] at a2
        have z1 := Bool.and_eq_true_iff.mp z
        have z2 := Bool.and_eq_true_iff.mp z1.1
        have k1 := of_decide_eq_true z2.1
        have k2 := of_decide_eq_true z1.2
        exact ⟨q, k, vs, rfl, rfl, n2.h q _ h1 (fun _ z => by cases z) i, k2, by omega, by rw [hs.len]; exact fits_le z2.2, AnsL.new w2 ((DvA.mono n2.g _ _ hs).rep _) a2⟩
      · rw [if_neg z] at a2
        exact a2.elim
    | _ => exact a2.elim))
end
/-! ### comprehensions -/
def noex {α : Type} : R α → R α
  | .ok a s => .ok a s
  | .ex _ _ => .un
  | .un => .un
  | .dr t k => .dr t fun i => noex (k i)
  | .an P k => .an P fun d s => noex (k d s)
def wipeS (ρ : Slots) : List Nat → Slots
  | [] => ρ
  | v :: vs => (wipeS ρ vs).set v .no
def lcL (g : D → Slots → Option Slots) (p : Slots → S → R Bool) (f : Slots → S → R D) (ρ : Slots) : List D → S → R (List D)
  | [], s => .ok [] s
  | d :: ds, s => match g d ρ with
    | none => .un
    | some ρ1 => (noex (p ρ1 s)).bind fun b s => if b = true then (noex (f ρ1 s)).bind fun y s => (lcL g p f ρ ds s).bind fun ys s => .ok (y :: ys) s else lcL g p f ρ ds s
def lcF (fi : Slots → S → R (List D)) (g : D → Slots → Option Slots) (p : Slots → S → R Bool) (f : Slots → S → R D) (vs : List Nat) (ρ : Slots) (s : S) : R (List D) := (fi ρ s).bind fun ds s => if fits ds.length = true then lcL g p f (wipeS ρ vs) ds s else .un
def yesT (_ : Slots) (s : S) : R Bool := .ok true s
theorem c_yes {K : PySem.W.Frag} {Z : Zn} {E : XK} : CmpT K Z E tYes yesT := fun V H σ ρ s Q w p a => Ans.pure w rfl a
theorem wipe_set {σ : L2.St} {i : Nat} {x : Option V} : ∀ {vs : List Nat}, i ∈ vs → wipe (σ.set i x) vs = wipe σ vs
  | v :: vs, h => by
    unfold wipe
    by_cases z : i ∈ vs
    · rw [wipe_set z]
    · have e : i = v := by
        rcases List.mem_cons.mp h with e | e
        · exact e
        · exact absurd e z
      subst e
      have o : ∀ {ws : List Nat}, i ∉ ws → wipe (σ.set i x) ws = (wipe σ ws).set i x := by
        intro ws
        induction ws with
        | nil => exact fun _ => rfl
        | cons w ws ih =>
          intro hn
          unfold wipe
          rw [ih fun m => hn (List.mem_cons_of_mem _ m), List.set_comm _ _ (fun e => hn (by rw [e]; exact List.mem_cons_self))]
      rw [o z, List.set_set]
theorem wipe_wipe (σ : L2.St) (vs : List Nat) : ∀ ws : List Nat, (∀ i ∈ ws, i ∈ vs) → wipe (wipe σ ws) vs = wipe σ vs
  | [], _ => rfl
  | w :: ws, h => by
    show wipe ((wipe σ ws).set w none) vs = _
    rw [wipe_set (h w List.mem_cons_self), wipe_wipe σ vs ws fun i hi => h i (List.mem_cons_of_mem _ hi)]
section
variable {K : PySem.W.Frag} {Z : Zn} {E : XK} {s s' : S} {V H V' H' : Hp} {σ : L2.St} {ρ : Slots}
theorem Rep.set (p : Rep K Z V H σ ρ s) {i : Nat} {v : L2.V} {d : D} (h : Dv K Z V v d) : Rep K Z V H (σ.set i (some v)) (ρ.set i (.fz d)) s := by
  have l := p.ln
  have old : ∀ {j : Nat} {x : Sl}, (ρ.set i (.fz d))[j]? = some x → (j = i ∧ x = .fz d ∧ i < ρ.length) ∨ (j ≠ i ∧ ρ[j]? = some x) := fun {j x} e => by
    by_cases z : j = i
    · subst z
      by_cases l : j < ρ.length
      · rw [List.getElem?_set_self l] at e
        exact .inl ⟨rfl, (Option.some.inj e).symm, l⟩
      · rw [List.getElem?_eq_none (by rw [List.length_set]; omega)] at e
        cases e
    · rw [List.getElem?_set_ne (Ne.symm z)] at e
      exact .inr ⟨z, e⟩
  have σo : ∀ {j : Nat}, j ≠ i → (σ.set i (some v))[j]? = σ[j]? := fun {j} z => List.getElem?_set_ne (Ne.symm z)
  refine ⟨fun j x e => ?_, fun j o e => ?_, by rw [List.length_set, List.length_set]; exact l⟩
  · rcases old e with ⟨rfl, y, l2⟩ | ⟨z, e⟩
    · cases y
      exact ⟨v, List.getElem?_set_self (by rw [l]; exact l2), h⟩
    · rw [σo z]
      exact p.fz j x e
  · rcases old e with ⟨rfl, y, l2⟩ | ⟨z, e⟩
    · cases y
    · rw [σo z]
      exact p.ow j o e
theorem Rep.wipe (p : Rep K Z V H σ ρ s) : ∀ vs : List Nat, Rep K Z V H (L2.wipe σ vs) (wipeS ρ vs) s
  | [] => p
  | v :: vs => by
    have q := Rep.wipe p vs
    have old : ∀ {j : Nat} {x : Sl}, ((wipeS ρ vs).set v .no)[j]? = some x → x ≠ .no → j ≠ v ∧ (wipeS ρ vs)[j]? = some x := fun {j x} e n => by
      by_cases z : j = v
      · subst z
        by_cases l : j < (wipeS ρ vs).length
        · rw [List.getElem?_set_self l] at e
          exact absurd (Option.some.inj e).symm n
        · rw [List.getElem?_eq_none (by rw [List.length_set]; omega)] at e
          cases e
      · rw [List.getElem?_set_ne (Ne.symm z)] at e
        exact ⟨z, e⟩
    refine ⟨fun j x e => ?_, fun j o e => ?_, ?_⟩
    · obtain ⟨z, e⟩ := old e (by simp)
      show ∃ v_1, ((L2.wipe σ vs).set v none)[j]? = some (some v_1) ∧ _
      rw [List.getElem?_set_ne (Ne.symm z)]
      exact q.fz j x e
    · obtain ⟨z, e⟩ := old e (by simp)
      show ∃ a u, ((L2.wipe σ vs).set v none)[j]? = some (some (.ref a)) ∧ _
      rw [List.getElem?_set_ne (Ne.symm z)]
      exact q.ow j o e
    · show ((L2.wipe σ vs).set v none).length = ((wipeS ρ vs).set v .no).length
      rw [List.length_set, List.length_set]
      exact q.ln
theorem Ans.noex {α β : Type} {Rl : Hp → β → α → Prop} {r : R α} {Q : β → Hp → Prop} (h : Ans K Z E Rl (Pp.noex r) s V H Q) {E' : XK} : Ans K Z E' Rl r s V H Q := by
  induction r with
  | ok d s2 => exact h
  | ex e s2 => exact h.elim
  | un => exact h
  | dr t k ih => exact fun i h0 h1 => ih i (h i h0 h1)
  | an P k ih => exact fun d s2 hp => ih d s2 (h d s2 hp)
theorem AnsL.app {r : R (List D)} {es : List D} {Q : VK} (h : AnsL K Z E r s V H Q) (e : es = []) : AnsL K Z E (r.bind fun ys s => .ok (es ++ ys) s) s V H Q := by
  subst e
  induction r with
  | ok d s2 => exact h
  | ex e s2 => exact h
  | un => exact h
  | dr t k ih => exact fun i h0 h1 => ih i (h i h0 h1)
  | an P k ih => exact fun d s2 hp => ih d s2 (h d s2 hp)
theorem bind_assoc' {α β γ : Type} (r : R α) (f : α → S → R β) (g : β → S → R γ) : (r.bind f).bind g = r.bind fun a s => (f a s).bind g := by
  induction r with
  | ok d s2 => rfl
  | ex e s2 => rfl
  | un => rfl
  | dr t k ih =>
    show R.dr t _ = R.dr t _
    congr 1
    funext i
    exact ih i
  | an P k ih =>
    show R.an P _ = R.an P _
    congr 1
    funext d s2
    exact ih d s2
variable {wi : TI} {g : TG} {gg : D → Slots → Option Slots} {is vs : List Nat} {tt : TT} {p : Slots → S → R Bool} {te : TE} {f : Slots → S → R D} {fi : Slots → S → R (List D)}
theorem cl_lc (hi : CmpI K Z E wi fi) (hg : CmpG g gg is K Z) (his : ∀ i ∈ is, i ∈ vs) (hp : CmpT K Z E0 tt p) (hf : Cmp K Z E0 te f) : CmpL K Z E (tLc wi g tt te vs) (lcF fi gg p f vs) := by
  intro V H σ ρ s Q w q a
  refine hi V H σ ρ s _ w q (AnsL.bind a fun ds s1 J V1 H1 n1 w1 it a1 => ?_)
  by_cases fz : fits ds.length = true
  case neg =>
    rw [if_neg fz] at a1
    exact a1.elim
  rw [if_pos fz] at a1
  intro L hL
  have gL : V1 L = none := w1.sv.free hL
  have iL : ¬ inS s1 L := fun y => w1.mr.inH y hL
  have q1 := q.later n1
  -- behind i turns
  refine ⟨fun i m H2 => m = ds.length - i ∧ i ≤ ds.length ∧ ∃ V2 s2 acc es, Nx s1 s2 V1 H1 V2 H2 ∧ Wd Z.T V2 H2 s2 ∧ V2 L = none ∧ H2 L = some (.lst acc) ∧ DvA K Z V2 acc es ∧ es.length ≤ i ∧
    AnsL K Z E ((lcL gg p f (wipeS ρ vs) (ds.drop i) s2).bind fun ys s => .ok (es ++ ys) s) s1 V1 H1 Q, ⟨ds.length, by simp, Nat.zero_le _, V1, s1, [], [], Nx.up hL, w1.up hL, gL, upd_same, .nil, Nat.zero_le _, ?_⟩, ?_⟩
  · rw [List.drop_zero]
    exact AnsL.app a1 rfl
  rintro i m H2 ⟨rfl, hi2, V2, s2, acc, es, n2, w2, v2, h2, d2, l2, a2⟩
  by_cases l : i < ds.length
  · refine .inr ⟨it.go i V2 H2 n2.g w2.sv l, fun H3 => ∃ V2 s2 acc es, Nx s1 s2 V1 H1 V2 H3 ∧ Wd Z.T V2 H3 s2 ∧ V2 L = none ∧ H3 L = some (.lst acc) ∧ DvA K Z V2 acc es ∧ es.length ≤ i + 1 ∧
      AnsL K Z E ((lcL gg p f (wipeS ρ vs) (ds.drop (i + 1)) s2).bind fun ys s => .ok (es ++ ys) s) s1 V1 H1 Q, fun H3 y => ⟨ds.length - (i + 1), by omega, rfl, l, y⟩, fun x H3 y => ?_⟩
    obtain ⟨d, ed, y⟩ := it.yld i V2 H2 x H3 n2.g w2.sv l y
    have dd : ds.drop i = d :: ds.drop (i + 1) := by
      rw [List.drop_eq_getElem_cons l]
      rw [List.getElem?_eq_getElem l] at ed
      rw [Option.some.inj ed]
    rw [dd] at a2
    have iL2 : ¬ inS s2 L := by rw [inS_of n2.a]; exact iL
    -- the turn, from any view that knows the item
    have go : ∀ V3, Nx s2 s2 V2 H2 V3 H3 → Wd Z.T V3 H3 s2 → Dv K Z V3 x d → V3 L = none → H3 L = some (.lst acc) → g x (wipe σ vs) H3 fun σ2 H2 => wipe σ2 vs = wipe σ vs ∧ tt σ2 H2 fun b H3 =>
        if b = true then te σ2 H3 fun y H4 => ∃ acc, H4 L = some (.lst acc) ∧ acc.length < sizeLine ∧ (∃ V2 s2 acc' es, Nx s1 s2 V1 H1 V2 (upd H4 L (.lst (acc ++ [y]))) ∧ Wd Z.T V2 (upd H4 L (.lst (acc ++ [y]))) s2 ∧ V2 L = none ∧ (upd H4 L (.lst (acc ++ [y]))) L = some (.lst acc') ∧ DvA K Z V2 acc' es ∧ es.length ≤ i + 1 ∧
          AnsL K Z E ((lcL gg p f (wipeS ρ vs) (ds.drop (i + 1)) s2).bind fun ys s => .ok (es ++ ys) s) s1 V1 H1 Q) else (∃ V2 s2 acc es, Nx s1 s2 V1 H1 V2 H3 ∧ Wd Z.T V2 H3 s2 ∧ V2 L = none ∧ H3 L = some (.lst acc) ∧ DvA K Z V2 acc es ∧ es.length ≤ i + 1 ∧
          AnsL K Z E ((lcL gg p f (wipeS ρ vs) (ds.drop (i + 1)) s2).bind fun ys s => .ok (es ++ ys) s) s1 V1 H1 Q) := by
      intro V3 n3 w3 hd v3 h3
      have q3 := (q1.later n2).later n3
      have qw := q3.wipe vs
      refine hg (fun σ' ρ' => Rep K Z V3 H3 σ' ρ' s2 ∧ wipe σ' vs = wipe σ vs) V3 H3 w3.sv (fun σ' ρ' j v d' hj ⟨y1, y2⟩ hd' => ⟨y1.set hd', by rw [wipe_set (his j hj)]; exact y2⟩) (wipe σ vs) (wipeS ρ vs) x d _ ⟨qw, wipe_wipe σ vs vs fun _ h => h⟩ hd ?_
      unfold lcL at a2
      cases eg : gg d (wipeS ρ vs) with
      | none =>
        rw [eg] at a2
        exact a2
      | some ρ4 =>
        rw [eg] at a2
        intro σ4 ⟨q4, e4⟩
        refine ⟨e4, ?_⟩
        replace a2 : AnsL K Z E (((noex (p ρ4 s2)).bind fun b s => if b = true then (noex (f ρ4 s)).bind fun y s => (lcL gg p f (wipeS ρ vs) (ds.drop (i + 1)) s).bind fun ys s => .ok (y :: ys) s else lcL gg p f (wipeS ρ vs) (ds.drop (i + 1)) s).bind fun ys s => .ok (es ++ ys) s) s1 V1 H1 Q := a2
        rw [bind_assoc'] at a2
        refine hp V3 H3 σ4 ρ4 s2 _ w3 q4 (Ans.noex (AnsL.bindAt (n2.trans n3) a2 fun b s5 c V5 H5 n5 w5 ec a2 => ?_))
        subst ec
        have n25 := n3.trans n5
        have h5 := n5.h L _ h3 (fun _ z => by cases z) iL2
        have v5 := n5.not v3 h3 (fun _ z => by cases z)
        by_cases hb : c = true
        · rw [if_pos hb] at a2 ⊢
          rw [bind_assoc'] at a2
          refine hf V5 H5 σ4 ρ4 s5 _ w5 (q4.later n5) (Ans.noex (AnsL.bindAt (n2.trans n25) a2 fun yd s6 yv V6 H6 n6 w6 hy a2 => ?_))
          have iL5 : ¬ inS s5 L := by rw [inS_of n5.a]; exact iL2
          have h6 := n6.h L _ h5 (fun _ z => by cases z) iL5
          have v6 := n6.not v5 h5 (fun _ z => by cases z)
          have iL6 : ¬ inS s6 L := by rw [inS_of n6.a]; exact iL5
          have n16 := (n2.trans n25).trans n6
          refine ⟨acc, h6, ?_, V6, s6, _, es ++ [yd], n16.mut (.inl hL), w6.mut h6 v6 iL6 (fun _ z => by cases z) (fun _ z => by cases z), v6, upd_same, (DvA.mono (n25.g.trans n6.g) _ _ d2).snoc hy, by rw [List.length_append]; show es.length + 1 ≤ i + 1; omega, ?_⟩
          · rw [d2.len]
            exact Nat.lt_of_lt_of_le (Nat.lt_of_le_of_lt l2 l) (fits_le fz)
          · rw [bind_assoc'] at a2
            have e9 : (fun (a : List D) (s : S) => (R.ok (yd :: a) s).bind fun ys s => R.ok (es ++ ys) s) = fun (ys : List D) (s : S) => R.ok ((es ++ [yd]) ++ ys) s := by
              funext ys s
              show R.ok (es ++ yd :: ys) s = _
              rw [show es ++ yd :: ys = (es ++ [yd]) ++ ys by simp]
            rw [e9] at a2
            exact a2
        · rw [if_neg hb] at a2 ⊢
          exact ⟨V5, s5, acc, es, n2.trans n25, w5, v5, h5, DvA.mono n25.g _ _ d2, by omega, a2⟩
    rcases y with ⟨rfl, hd⟩ | ⟨T, xs, rfl, nT, rfl, hd⟩
    · exact go V2 (Nx.refl _ _ _) w2 hd v2 h2
    · have ne : L ≠ T := ne_of_none h2 nT
      exact go _ (Nx.new w2 nT) (w2.new nT fun _ z => by cases z) hd (by rw [upd_ne ne]; exact v2) (by rw [upd_ne ne]; exact h2)
  · have e : i = ds.length := by omega
    subst e
    rw [List.drop_length] at a2
    refine .inl ⟨it.stop V2 H2 n2.g w2.sv, ?_⟩
    have a3 : AnsL K Z E (.ok (es ++ []) s2) s1 V1 H1 Q := a2
    rw [List.append_nil] at a3
    exact a3 L acc V2 H2 n2 w2 (.inl hL) v2 (by rw [inS_of n2.a]; exact iL) h2 d2
end
end Pp

/-! Pp5: defs, calls, methods, attributes, properties, instances made. -/
namespace Pp
open PySem PySem.Spec PyProof.Rows L2 Pg Pf LamX
def st0 (n : Nat) (ds : List D) : Slots := ds.map Sl.fz ++ List.replicate (n - ds.length) Sl.no
def endF (fl : Fl) (s : S) : R D := match fl with
  | .rt d => .ok d s
  | .nx _ => .ok .non s
  | _ => .un
def runS (F : Slots → S → R Fl) (n : Nat) (ds : List D) (s : S) : R D := (F (st0 n ds) s).bind endF
/-- a def that computes F -/
def spD (K : PySem.W.Frag) (Z : Zn) (n : Nat) (F : List D → S → R D) : Sp := fun vs H Q E => vs.length = n ∧ ∃ V ds s, Wd Z.T V H s ∧ DvA K Z V vs ds ∧ Ans K Z E (Dv K Z) (F ds s) s V H Q
section
variable {K : PySem.W.Frag} {Z : Zn} {n : Nat} {F F' : List D → S → R D} {vs : List V} {H V : Hp} {s : S} {ds : List D}
/-- F' says what F does, or nothing -/
def Le (F' F : List D → S → R D) : Prop := ∀ ds s, F' ds s = .un ∨ F ds s = F' ds s
theorem spD_imp (h : Le F' F) : ∀ vs H Q E, spD K Z n F' vs H Q E → spD K Z n F vs H Q E := by
  rintro vs H Q E ⟨l, V, ds, s, w, r, a⟩
  refine ⟨l, V, ds, s, w, r, ?_⟩
  rcases h ds s with e | e
  · rw [e] at a
    exact a.elim
  · rw [e]
    exact a
theorem start_rep {N : List Str} {vs : List L2.V} (w : Wd Z.T V H s) (r : DvA K Z V vs ds) (hl : vs.length ≤ N.length) : RepF K Z s V H V H (L2.start N vs) (st0 N.length ds) s := by
  have len : (L2.start N vs).length = (st0 N.length ds).length := by
    unfold L2.start st0
    rw [List.length_append, List.length_append, List.length_map, List.length_map, List.length_replicate, List.length_replicate, r.len]
  have no : ∀ (i : Nat) (o : OD), (st0 N.length ds)[i]? ≠ some (.ow o) := fun i o e => by
    have m := List.mem_of_getElem? e
    unfold st0 at m
    rcases List.mem_append.mp m with m | m
    · obtain ⟨d, _, z⟩ := List.mem_map.mp m
      cases z
    · cases (List.mem_replicate.mp m).2
  refine ⟨Nx.refl _ _ _, w, ⟨fun i d e => ?_, fun i o e => (no i o e).elim, len⟩, fun i o a e _ => (no i o e).elim, fun i j o u a _ e _ _ _ => (no i o e).elim, len⟩
  have hd : ds[i]? = some d := by
    unfold st0 at e
    by_cases l : i < (ds.map Sl.fz).length
    · rw [List.getElem?_append_left l, List.getElem?_map] at e
      cases q : ds[i]? with
      | none =>
        rw [q] at e
        cases e
      | some y =>
        rw [q] at e
        cases e
        rfl
    · have m := List.mem_of_getElem? (by rw [List.getElem?_append_right (by omega)] at e; exact e)
      cases (List.mem_replicate.mp m).2
  obtain ⟨v, h1, h2⟩ := r.at hd
  refine ⟨v, ?_, h2⟩
  unfold L2.start
  have l : i < (vs.map some).length := by
    rw [List.length_map]
    exact (List.getElem?_eq_some_iff.mp h1).1
  rw [List.getElem?_append_left l, List.getElem?_map, h1]
  rfl
theorem run_ans {E : XK} {Q : VK} {Fb : Slots → S → R Fl} {m : Nat} (a : Ans K Z E (Dv K Z) (runS Fb m ds s) s V H Q) : AnsS K Z E (Fb (st0 m ds) s) s V H V { nx := fun _ H' => Q .non H', rt := Q } := by
  unfold runS at a
  generalize Fb (st0 m ds) s = r at a
  induction r with
  | ok fl s1 =>
    cases fl with
    | rt d => exact a
    | nx ρ => exact fun σ G' H' _ r => a .non G' H' r.nx r.w .non
    | bk ρ => exact a.elim
    | ct ρ => exact a.elim
  | ex e s1 => exact a
  | un => exact a
  | dr t k ih => exact fun i h0 h1 => ih i (a i h0 h1)
  | an P k ih => exact fun d s2 hp => ih d s2 (a d s2 hp)
end
/-- a block that computes -/
structure PPS (X : Cx) (Z : Zn) (E : XK) (sts : List Stmt) (t : TS) (F : Slots → S → R Fl) : Prop where
  pe : PSs X sts t
  cm : CmpS X.K Z E t F
section
variable {P : Program} {w : World} {K : PySem.W.Frag} {mg : Str → Option Value} {base : Heap} {k : Nat} {f : Addr} {fd : FuncData} {N ps : List Str} {x qual : Str} {st : Stmt} {Z : Zn} {Fb : Slots → S → R Fl}
theorem fnO (Fu : Fun K x qual st f fd) (S : FnScope N ps (defScope st)) (hl : ps.length ≤ N.length)
    (hb : ∀ (cdv : Value) (A : Around) (outer : List PySem.Env) (s : Shared) (H : Hp) (E : XK), Room k (A.deeper (envOfC qual (defScope st) s.heap.objs.size f cdv)) → ∃ t, PPS (cxOf (L2.CX P w) P w K mg base N qual (defScope st) f cdv A outer s H E) Z E (defBody st) t Fb) :
    FnOk P w K mg base (L2.CX P w) (k + 1) f fd ps (spD K Z ps.length (runS Fb N.length)) := by
  refine Fu.okX S (fun vs H Q E h => h.1) (fun cdv A outer s H vs Q E hr h => ?_)
  obtain ⟨l, V, ds, s1, w1, r, a⟩ := h
  obtain ⟨t, h1, h2⟩ := hb cdv A outer s H E hr
  exact ⟨t, h1, h2 s1 V H V H _ _ s1 _ (start_rep w1 r (by omega)) (run_ans a)⟩
end
/-- a def of the module that computes F, called by its name -/
structure CalD (P : Program) (w : World) (K : PySem.W.Frag) (mg : Str → Option Value) (base : Heap) (Z : Zn) (k : Nat) (x : Str) (n : Nat) (F : List D → S → R D) : Prop where
  ex : ∃ (f : Addr) (fd : FuncData) (ps : List Str), FnOk P w K mg base (L2.CX P w) k f fd ps (spD K Z n F) ∧ mg x = some (.ref f) ∧ PySem.W.keepIn K (.ref f) = true ∧ Binds K fd ps []
/-- a method of class c -/
structure MetD (P : Program) (w : World) (K : PySem.W.Frag) (mg : Str → Option Value) (base : Heap) (Z : Zn) (k : Nat) (c : Nat) (x : Str) (n : Nat) (F : List D → S → R D) : Prop where
  ex : ∃ (f : Addr) (fd : FuncData) (ps : List Str), FnOk P w K mg base (L2.CX P w) k f fd ps (spD K Z n F) ∧ Meth K (Z.cl c) x f ∧ Binds K fd ps []
  cl : Cls K (Z.cl c)
  na : x ∉ nm c
/-- how many, then F -/
def nF (n : Nat) (F : List D → S → R D) (ds : List D) (s : S) : R D := if ds.length = n then F ds s else .un
def metF (c n : Nat) (F : List D → S → R D) (f : Slots → S → R D) (fa : Slots → S → R (List D)) (ρ : Slots) (s : S) : R D := (f ρ s).bind fun d s => match d with
  | .obj c' es => if c' = c then (fa ρ s).bind fun xs s => nF n F (.obj c' es :: xs) s else .un
  | _ => .un
def fldF (c i : Nat) (d : D) (s : S) : R D := match d with
  | .obj c' es => if c' = c then (match es[i]? with
    | some d => .ok d s
    | none => .un) else .un
  | _ => .un
section
variable {K : PySem.W.Frag} {Z : Zn} {E : XK} {n c : Nat} {F : List D → S → R D} {ua : TA} {fa : Slots → S → R (List D)} {te : TE} {f : Slots → S → R D}
theorem c_call' (ha : CmpA K Z E ua fa) : Cmp K Z E (tCall (spD K Z n F) [] E ua) (bC (nF n F) fa) := fun V H σ ρ s Q w p a =>
  ha V H σ ρ s _ w p (Ans.bind a fun ds s1 vs V1 H1 n1 w1 r1 a1 => by
    unfold nF at a1
    by_cases l : ds.length = n
    · rw [if_pos l] at a1
      exact ⟨by rw [List.append_nil, r1.len]; exact l, V1, ds, s1, w1, by rw [List.append_nil]; exact r1, a1⟩
    · rw [if_neg l] at a1
      exact a1.elim)
theorem lookup_not {x : Str} : ∀ {fs : List (Str × V)} {ns : List Str}, fs.map Prod.fst = ns → x ∉ ns → fs.lookup x = none
  | [], _, _, _ => rfl
  | (y, v) :: fs, _, h, hn => by
    subst h
    rw [List.lookup_cons]
    have : (x == y) = false := by
      apply Bool.eq_false_iff.mpr
      intro z
      exact hn (by rw [eq_of_beq z]; exact List.mem_cons_self)
    rw [this]
    exact lookup_not rfl fun m => hn (List.mem_cons_of_mem _ m)
theorem c_meth {x : Str} (na : x ∉ nm c) (he : Cmp K Z E te f) (ha : CmpA K Z E ua fa) : Cmp K Z E (tMeth (Z.cl c) x (spD K Z n F) [] E te ua) (metF c n F f fa) := fun V H σ ρ s Q w p a =>
  he V H σ ρ s _ w p (Ans.bind a fun d s1 v V1 H1 n1 w1 r1 a1 => by
    cases r1 with
    | @obj b c' dx fs es h hn hs =>
      replace a1 : Ans K Z E (Dv K Z) (if c' = c then (fa ρ s1).bind fun xs s => nF n F (.obj c' es :: xs) s else .un) s1 V1 H1 Q := a1
      by_cases ec : c' = c
      · rw [if_pos ec] at a1
        subst ec
        refine ⟨b, dx, fs, rfl, w1.sv _ _ h, lookup_not hn na, ?_⟩
        refine ha V1 H1 σ ρ s1 _ w1 (p.later n1) (Ans.bind a1 fun ds s2 vs V2 H2 n2 w2 r2 a2 => ?_)
        unfold nF at a2
        by_cases l : (D.obj c' es :: ds).length = n
        · rw [if_pos l] at a2
          refine ⟨?_, V2, .obj c' es :: ds, s2, w2, ?_, a2⟩
          · rw [List.append_nil, List.length_cons, r2.len]
            exact l
          · rw [List.append_nil]
            exact .cons (.obj (n2.g _ _ h) hn (DvA.mono n2.g _ _ hs)) r2
        · rw [if_neg l] at a2
          exact a2.elim
      · rw [if_neg ec] at a1
        exact a1.elim
    | _ => exact a1.elim)
theorem lookup_at {f : Str} : ∀ {fs : List (Str × V)} {ns : List Str} {i : Nat} {v : V}, fs.map Prod.fst = ns → ns.Nodup → ns[i]? = some f → (fs.map Prod.snd)[i]? = some v → fs.lookup f = some v
  | [], _, i, _, h, _, hi, _ => by
    subst h
    simp at hi
  | (y, u) :: fs, _, 0, v, h, _, hi, hv => by
    subst h
    simp at hi hv
    rw [List.lookup_cons, hi, hv]
    simp
  | (y, u) :: fs, _, i + 1, v, h, nd, hi, hv => by
    subst h
    simp only [List.map_cons, List.getElem?_cons_succ] at hi hv
    rw [List.map_cons, List.nodup_cons] at nd
    rw [List.lookup_cons]
    have : (f == y) = false := by
      apply Bool.eq_false_iff.mpr
      intro z
      apply nd.1
      rw [← eq_of_beq z]
      exact List.mem_of_getElem? hi
    rw [this]
    exact lookup_at rfl nd.2 hi hv
theorem c_fld {x : Str} {i : Nat} (cl : Cls K (Z.cl c)) (no : NoAttr K (Z.cl c) x) (nd : (nm c).Nodup) (hi : (nm c)[i]? = some x) (he : Cmp K Z E te f) : Cmp K Z E (tFld K te x) (b1 (fldF c i) f) := fun V H σ ρ s Q w p a =>
  he V H σ ρ s _ w p (Ans.bind a fun d s1 v V1 H1 n1 w1 r1 a1 => by
    cases r1 with
    | @obj b c' dx fs es h hn hs =>
      replace a1 : Ans K Z E (Dv K Z) (if c' = c then (match es[i]? with | some d => .ok d s1 | none => .un) else .un) s1 V1 H1 Q := a1
      by_cases ec : c' = c
      · rw [if_pos ec] at a1
        subst ec
        cases e : es[i]? with
        | none =>
          rw [e] at a1
          exact a1.elim
        | some d =>
          rw [e] at a1
          obtain ⟨v, h1, h2⟩ := hs.at e
          exact ⟨b, Z.cl c', dx, fs, v, rfl, w1.sv _ _ h, cl, no, lookup_at hn nd hi h1, Ans.pure w1 h2 a1⟩
      · rw [if_neg ec] at a1
        exact a1.elim
    | _ => exact a1.elim)
/-- a property that hands back an attribute -/
theorem c_prop {x : Str} {i : Nat} {E' : XK} (nd : (nm c).Nodup) (hi : (nm c)[i]? = some x) (he : Cmp K Z E te f) : Cmp K Z E (tProp (Z.cl c) (getSp (Z.cl c) x) [] E' te) (b1 (fldF c i) f) := fun V H σ ρ s Q w p a =>
  he V H σ ρ s _ w p (Ans.bind a fun d s1 v V1 H1 n1 w1 r1 a1 => by
    cases r1 with
    | @obj b c' dx fs es h hn hs =>
      replace a1 : Ans K Z E (Dv K Z) (if c' = c then (match es[i]? with | some d => .ok d s1 | none => .un) else .un) s1 V1 H1 Q := a1
      by_cases ec : c' = c
      · rw [if_pos ec] at a1
        subst ec
        cases e : es[i]? with
        | none =>
          rw [e] at a1
          exact a1.elim
        | some d =>
          rw [e] at a1
          obtain ⟨v, h1, h2⟩ := hs.at e
          exact ⟨b, dx, fs, rfl, w1.sv _ _ h, b, dx, fs, v, rfl, w1.sv _ _ h, lookup_at hn nd hi h1, Ans.pure w1 h2 a1⟩
      · rw [if_neg ec] at a1
        exact a1.elim
    | _ => exact a1.elim)
/-- C(..) by what its __init__ promises -/
def CmpM (K : PySem.W.Frag) (Z : Zn) (C : Addr) (sp : Sp) (F : List D → S → R D) : Prop := ∀ V H s xs ds Q E a dx, Wd Z.T V H s → DvA K Z V xs ds → H a = none → H dx = none → dx ≠ a → Ans K Z E (Dv K Z) (F ds s) s V H Q →
  sp (.ref a :: xs) (upd (upd H dx (.own a)) a (.ins C dx [])) (fun v H2 => v = .non ∧ Q (.ref a) H2) E
theorem c_make {C : Addr} {sp : Sp} (hm : CmpM K Z C sp F) (ha : CmpA K Z E ua fa) : Cmp K Z E (tMake C sp [] E ua) (bC F fa) := fun V H σ ρ s Q w p a =>
  ha V H σ ρ s _ w p (Ans.bind a fun ds s1 vs V1 H1 n1 w1 r1 a1 => fun x dx h1 h2 h3 => by
    rw [List.append_nil]
    exact hm V1 H1 s1 vs ds Q E x dx w1 r1 h1 h2 h3 a1)
end
/-! ### the rules as they are written -/
section
variable {X : Cx} {Z : Zn} {E : XK} {j k n c : Nat} {x p : Str} {np pos apos : Pos} {o e : Expr} {es : List Expr} {ta : TE} {t : TA} {f : Slots → S → R D} {fa : Slots → S → R (List D)} {F : List D → S → R D}
theorem pp_call (cd : CalD X.prog X.w X.K X.mg X.base Z k x n F) (hr : Room j X.A) (hk : k ≤ j) (hx : Passes (L2.CX X.prog X.w) X E) (hg : Gl X x) (ha : PPA X Z E (e :: es) t fa)
    (hdb : (x == ("__debug__" : Str)) = false := by decide) (he : starEach (e :: es) X.env = (false, eval e X.env) :: starEach es X.env := by rfl) (hpl : (backTo pos (starEach es X.env)).any (·.1) = false := by rfl) :
    PP X Z E (.Call (.Name x np) (e :: es) [] pos) (tCall (spD X.K Z n F) [] E t) (bC (nF n F) fa) := by
  obtain ⟨g, fd, ps, Fn, hm, kp, b⟩ := cd.ex
  exact ⟨pe_call Fn (hr.mono hk) hg hm kp b .nil hx ha.pe hdb he hpl, c_call' ha.cm⟩
theorem pp_call0 (cd : CalD X.prog X.w X.K X.mg X.base Z k x n F) (hr : Room j X.A) (hk : k ≤ j) (hx : Passes (L2.CX X.prog X.w) X E) (hg : Gl X x) (hdb : (x == ("__debug__" : Str)) = false := by decide) :
    PP X Z E (.Call (.Name x np) [] [] pos) (tCall (spD X.K Z n F) [] E tNil) (bC (nF n F) nilA) := by
  obtain ⟨g, fd, ps, Fn, hm, kp, b⟩ := cd.ex
  exact ⟨pe_call0 Fn (hr.mono hk) hg hm kp b .nil hx hdb, c_call' c_nil⟩
theorem pp_meth {pl : Sem Bool} (cd : MetD X.prog X.w X.K X.mg X.base Z k c x n F) (hr : Room j X.A) (hk : k ≤ j) (hx : Passes (L2.CX X.prog X.w) X E) (ho : PP X Z E o ta f) (ha : PPA X Z E (e :: es) t fa)
    (hst : starEach (e :: es) X.env = (false, eval e X.env) :: starEach es X.env := by rfl) (hpl : (backTo pos (starEach es X.env)).any (·.1) = false := by rfl)
    (ht : eval (.Call (.Attribute o x apos) (e :: es) [] pos) X.env = (do
      let ov ← eval o X.env
      standAt apos.atName
      let (f, first) ← holding [ov] (getMethod ov x pl)
      callWith pos f first (backTo pos (starEach (e :: es) X.env)) (backToKw pos (keywordEach [] X.env))) := by rfl) :
    PP X Z E (.Call (.Attribute o x apos) (e :: es) [] pos) (tMeth (Z.cl c) x (spD X.K Z n F) [] E ta t) (metF c n F f fa) := by
  obtain ⟨g, fd, ps, Fn, hm, b⟩ := cd.ex
  exact ⟨pe_meth ho.pe cd.cl hm Fn (hr.mono hk) b .nil hx ha.pe hst hpl ht, c_meth cd.na ho.cm ha.cm⟩
theorem pp_meth0 {pl : Sem Bool} (cd : MetD X.prog X.w X.K X.mg X.base Z k c x n F) (hr : Room j X.A) (hk : k ≤ j) (hx : Passes (L2.CX X.prog X.w) X E) (ho : PP X Z E o ta f)
    (ht : eval (.Call (.Attribute o x apos) [] [] pos) X.env = (do
      let ov ← eval o X.env
      standAt apos.atName
      let (f, first) ← holding [ov] (getMethod ov x pl)
      callWith pos f first (backTo pos (starEach [] X.env)) (backToKw pos (keywordEach [] X.env))) := by rfl) :
    PP X Z E (.Call (.Attribute o x apos) [] [] pos) (tMeth (Z.cl c) x (spD X.K Z n F) [] E ta tNil) (metF c n F f nilA) := by
  obtain ⟨g, fd, ps, Fn, hm, b⟩ := cd.ex
  exact ⟨pe_meth0 ho.pe cd.cl hm Fn (hr.mono hk) b .nil hx ht, c_meth cd.na ho.cm c_nil⟩
end
end Pp

/-! Pp6: defs that let nothing out, called where nothing is being shown. -/
namespace Pp
open PySem PySem.Spec PyProof.Rows L2 Pg Pf LamX
def spG (K : PySem.W.Frag) (Z : Zn) (n : Nat) (F : List D → S → R D) : Sp := fun vs H Q _ => vs.length = n ∧ ∃ V ds s, Wd Z.T V H s ∧ DvA K Z V vs ds ∧ Ans K Z E0 (Dv K Z) (F ds s) s V H Q
def neF (F : List D → S → R D) (ds : List D) (s : S) : R D := noex (F ds s)
section
variable {P : Program} {w : World} {K : PySem.W.Frag} {mg : Str → Option Value} {base : Heap} {k n : Nat} {f : Addr} {fd : FuncData} {N ps : List Str} {x qual : Str} {st : Stmt} {Z : Zn} {Fb : Slots → S → R Fl} {sp sp' : Sp} {F F' : List D → S → R D}
theorem FnG.imp (Fu : FnG P w K mg base k f fd ps sp) (h : ∀ vs H Q E, sp' vs H Q E → sp vs H Q E) : FnG P w K mg base k f fd ps sp' :=
  ⟨fun vs H Q E q => Fu.len vs H Q E (h _ _ _ _ q), fun A outer s H args us vs Q E hr hg he hb hv hs => Fu.run A outer s H args us vs Q E hr hg he hb hv (h _ _ _ _ hs)⟩
theorem CalG.imp (c : CalG P w K mg base k x sp) (h : ∀ vs H Q E, sp' vs H Q E → sp vs H Q E) : CalG P w K mg base k x sp' := by
  obtain ⟨f, fd, ps, F, r⟩ := c.ex
  exact ⟨f, fd, ps, FnG.imp F h, r⟩
theorem spG_imp (h : Le F' F) : ∀ vs H Q E, spG K Z n F' vs H Q E → spG K Z n F vs H Q E := by
  rintro vs H Q E ⟨l, V, ds, s, w, r, a⟩
  refine ⟨l, V, ds, s, w, r, ?_⟩
  rcases h ds s with e | e
  · rw [e] at a
    exact a.elim
  · rw [e]
    exact a
theorem fnGd (Fu : Fun K x qual st f fd) (S : FnScope N ps (defScope st)) (hl : ps.length ≤ N.length)
    (hb : ∀ (cdv : Value) (A : Around) (outer : List PySem.Env) (s : Shared) (H : Hp) (E : XK), Room k (A.deeper (envOfC qual (defScope st) s.heap.objs.size f cdv)) → (A.deeper (envOfC qual (defScope st) s.heap.objs.size f cdv)).guards = some [] → ∃ t, PPS (cxOf CX0 P w K mg base N qual (defScope st) f cdv A outer s H E).nox Z E0 (defBody st) t Fb) :
    FnG P w K mg base (k + 1) f fd ps (spG K Z ps.length (runS Fb N.length)) := by
  refine okG Fu S (fun vs H Q E h => h.1) (fun cdv A outer s H vs Q E hr hg h => ?_)
  obtain ⟨l, V, ds, s1, w1, r, a⟩ := h
  obtain ⟨t, h1, h2⟩ := hb cdv A outer s H E hr hg
  exact ⟨t, h1, h2 s1 V H V H _ _ s1 _ (start_rep w1 r (by omega)) (run_ans a)⟩
theorem c_callG {E : XK} {ua : TA} {fa : Slots → S → R (List D)} (ha : CmpA K Z E ua fa) : Cmp K Z E (tCallG (spG K Z n F) ua) (bC (nF n (neF F)) fa) := fun V H σ ρ s Q w p a =>
  ha V H σ ρ s _ w p (Ans.bind a fun ds s1 vs V1 H1 n1 w1 r1 a1 => by
    unfold nF at a1
    by_cases l : ds.length = n
    · rw [if_pos l] at a1
      exact ⟨by rw [r1.len]; exact l, V1, ds, s1, w1, r1, Ans.noex a1⟩
    · rw [if_neg l] at a1
      exact a1.elim)
end
section
variable {X : Cx} {k j : Nat} {x : Str} {sp : Sp} {p pos : Pos}
/-- a call with no arguments -/
theorem pe_cG0 (c : CalG X.prog X.w X.K X.mg X.base k x sp) (hr : Room j X.A) (hk : k ≤ j) (hgd : X.A.guards = some []) (hg : Gl X x) (hdb : (x == ("__debug__" : Str)) = false := by decide) : PE X (.Call (.Name x p) [] [] pos) (tCallG sp tNil) := by
  obtain ⟨f, fd, ps, F, hm, kp, b⟩ := c.ex
  refine ⟨fun pins s σ H Q I h => ?_⟩
  refine wpAny_Call_Name_kw (ld_glob I hg hm ?_ hdb)
  exact PySem.W.callWith_K0 I.kIn kp (run_fnG (us := []) F (hr.mono hk) hgd b I .nil h)
end
/-! ### more operations -/
section
variable {K : PySem.W.Frag} {Z : Zn} {E : XK}
def powF (x y : D) (s : S) : R D := match x, y with
  | .int i, .int j => if (decide (0 ≤ j) && decide (j ≤ 1000000) && decide (i.natAbs < 2 ^ 64)) = true then .ok (.int (i ^ j.toNat)) s else .un
  | _, _ => .un
theorem c2_pow : Cmp2 K Z E (rI CPow fun i j => .int (i ^ j.toNat)) powF := fun V H s x y dx dy Q w rx ry a => by
  cases rx with
  | int i =>
    cases ry with
    | int j =>
      change Ans K Z E (Dv K Z) (if _ then _ else _) s V H Q at a
      split at a
      case isTrue e =>
        have e1 := Bool.and_eq_true_iff.mp e
        have e2 := Bool.and_eq_true_iff.mp e1.1
        exact ⟨i, j, rfl, rfl, ⟨of_decide_eq_true e2.1, of_decide_eq_true e2.2, of_decide_eq_true e1.2⟩, Ans.pure w (.int _) a⟩
      case isFalse => exact a.elim
    | _ => exact a.elim
  | _ => exact a.elim
/-! ### data as PyData -/
mutual
def D.py : D → PyData
  | .non => .none
  | .bl b => .bool b
  | .int i => .int i
  | .str x => .str x
  | .tup ds => .tuple (pyA ds)
  | .lst ds => .list (pyA ds)
  | .rls ds => .list (pyA ds)
  | .obj _ _ => .none
  | .adr _ => .none
  | .emp => .none
def pyA : List D → List PyData
  | [] => []
  | d :: ds => d.py :: pyA ds
end
mutual
def D.isPy : D → Bool
  | .non => true
  | .bl _ => true
  | .int _ => true
  | .str _ => true
  | .tup ds => isPyA ds
  | .lst ds => isPyA ds
  | .rls ds => isPyA ds
  | .obj _ _ => false
  | .adr _ => false
  | .emp => false
def isPyA : List D → Bool
  | [] => true
  | d :: ds => d.isPy && isPyA ds
end
mutual
theorem Dv.dp {G : Hp} : ∀ (d : D) (v : V), Dv K Z G v d → d.isPy = true → Dp K G v d.py
  | .non, _, h, _ => by cases h; exact .non
  | .bl _, _, h, _ => by cases h; exact .bl _
  | .int _, _, h, _ => by cases h; exact .int _
  | .str _, _, h, _ => by cases h; exact .str _
  | .tup ds, _, h, e => by
    cases h with
    | tup a b => exact .tup a (DvA.dp ds _ b e)
  | .lst ds, _, h, e => by
    cases h with
    | lst a b => exact .lst (SqL.of a) (DvA.dp ds _ b e)
  | .rls ds, _, h, e => by
    cases h with
    | rls a b => exact .lst a (DvA.dp ds _ b e)
  | .obj _ _, _, _, e => by cases e
  | .adr _, _, _, e => by cases e
  | .emp, _, _, e => by cases e
theorem DvA.dp {G : Hp} : ∀ (ds : List D) (vs : List V), DvA K Z G vs ds → isPyA ds = true → DpAll K G vs (pyA ds)
  | [], _, h, _ => by cases h; exact .nil
  | d :: ds, _, h, e => by
    cases h with
    | cons a b =>
      have e := Bool.and_eq_true_iff.mp e
      exact .cons (Dv.dp d _ a e.1) (DvA.dp ds _ b e.2)
end
def eqOk (x y : D) : Bool := x.isPy && y.isPy && SeqAt.shaped x.py && SeqAt.shaped y.py
def eqF (x y : D) (s : S) : R D := if eqOk x y = true then .ok (.bl (PyData.eqv x.py y.py)) s else .un
def neqF (x y : D) (s : S) : R D := if eqOk x y = true then .ok (.bl (!PyData.eqv x.py y.py)) s else .un
theorem eqOk_of {x y : D} (h : eqOk x y = true) : x.isPy = true ∧ y.isPy = true ∧ SeqAt.shaped x.py = true ∧ SeqAt.shaped y.py = true := by
  have e1 := Bool.and_eq_true_iff.mp h
  have e2 := Bool.and_eq_true_iff.mp e1.1
  have e3 := Bool.and_eq_true_iff.mp e2.1
  exact ⟨e3.1, e3.2, e2.2, e1.2⟩
theorem c2_eqD : Cmp2 K Z E (rEqD K) eqF := fun V H s x y dx dy Q w rx ry a => by
  unfold eqF at a
  split at a
  case isTrue e =>
    obtain ⟨e1, e2, e3, e4⟩ := eqOk_of e
    exact ⟨dx.py, dy.py, Dp.mono w.sv _ _ (Dv.dp dx x rx e1), Dp.mono w.sv _ _ (Dv.dp dy y ry e2), e3, e4, Ans.pure w (.bl _) a⟩
  case isFalse => exact a.elim
theorem c2_neD : Cmp2 K Z E (rNeD K) neqF := fun V H s x y dx dy Q w rx ry a => by
  unfold neqF at a
  split at a
  case isTrue e =>
    obtain ⟨e1, e2, e3, e4⟩ := eqOk_of e
    exact ⟨dx.py, dy.py, Dp.mono w.sv _ _ (Dv.dp dx x rx e1), Dp.mono w.sv _ _ (Dv.dp dy y ry e2), e3, e4, Ans.pure w (.bl _) a⟩
  case isFalse => exact a.elim
/-- {} -/
theorem c_emp : Cmp K Z E tDNewK (kst .emp) := fun V H σ ρ s Q w p a d hd => a (.ref d) (upd V d (.dK [])) _ (Nx.new w hd) (w.new hd fun _ z => by cases z) (.emp upd_same)
/-- an int constant of a class, read by the class, by an instance -/
theorem c_cval {C : Addr} {mc u : Value} {x : Str} {i : Int} (r : ClX.CRead K C mc) (v : ClX.CVal K C mc x (.int i) u) : Cmp K Z E (ClX.tCVal K (tC (.ref C)) x) (kst (.int i)) := fun V H σ ρ s Q w p a => ⟨C, mc, .int i, u, rfl, r, v, Ans.pure w (.int _) a⟩
def conF (c : Nat) (y : D) (d : D) (s : S) : R D := match d with
  | .obj c' _ => if c' = c then .ok y s else .un
  | _ => .un
theorem c_con {te : TE} {f : Slots → S → R D} {c : Nat} {x : Str} {i : Int} {u : Value} (cl : Cls K (Z.cl c)) (k : Con K (Z.cl c) x (.int i) u) (na : x ∉ nm c) (he : Cmp K Z E te f) : Cmp K Z E (tCon K te x) (b1 (conF c (.int i)) f) := fun V H σ ρ s Q w p a =>
  he V H σ ρ s _ w p (Ans.bind a fun d s1 v V1 H1 n1 w1 r1 a1 => by
    cases r1 with
    | @obj b c' dx fs es h hn hs =>
      replace a1 : Ans K Z E (Dv K Z) (if c' = c then .ok (.int i) s1 else .un) s1 V1 H1 Q := a1
      by_cases ec : c' = c
      · rw [if_pos ec] at a1
        subst ec
        exact ⟨b, Z.cl c', dx, fs, .int i, u, rfl, w1.sv _ _ h, cl, k, lookup_not hn na, Ans.pure w1 (.int _) a1⟩
      · rw [if_neg ec] at a1
        exact a1.elim
    | _ => exact a1.elim)
/-- a, b = x, y -/
def parS (i j : Nat) (fa : Slots → S → R (List D)) (ρ : Slots) (s : S) : R Fl := (fa ρ s).bind fun ds s => match ds with
  | [d, e] => .ok (.nx ((ρ.set i (.fz d)).set j (.fz e))) s
  | _ => .un
theorem cs_par {ua : TA} {fa : Slots → S → R (List D)} (i j : Nat) (h : CmpA K Z E ua fa) : CmpS K Z E (tPar i j ua) (parS i j fa) := fun s0 G0 H0 G H σ ρ s D r a =>
  h G H σ ρ s _ r.w r.p (AnsS.bindF r a fun ds s1 vs V1 H1 n1 w1 e a1 => by
    match ds, e, a1 with
    | [d, d2], .cons (v := v) h1 (.cons (v := v2) h2 .nil), a1 => exact ⟨v, v2, rfl, a1 _ V1 H1 (Same.refl _) (((r.on n1 w1).set h1).set h2)⟩
    | [], _, a1 => exact a1.elim
    | [_], _, a1 => exact a1.elim
    | _ :: _ :: _ :: _, _, a1 => exact a1.elim)
end
end Pp

/-! Pp7: own exceptions raised; slices; in; attributes set. -/
namespace Pp
open PySem PySem.Spec PyProof.Rows L2 Pg Pf LamX
/-- what a new exception's making leaves of the heap: its dict -/
theorem xd_heap {H : Hp} {a d : Addr} {C : Addr} {fs : List (Str × V)} (ha : H a = none) (hd : d ≠ a) : upd (del (upd (upd (upd H a (exo a C none)) d (exd d fs)) a (exo a C (some d))) a) d (.xd fs) = upd H d (.xd fs) := by
  funext b
  by_cases z : b = d
  · rw [z, upd_same, upd_same]
  · rw [upd_ne z, upd_ne z]
    by_cases z2 : b = a
    · rw [z2, del_same, ha]
    · rw [del_ne z2, upd_ne z2, upd_ne z, upd_ne z2]
/-- __init__ of an own exception that keeps one value -/
def spX1 (C : Addr) (fld : Str) : Sp := fun vs H Q _ => ∃ (a : Addr) (y : V), vs = [.ref a, y] ∧ H a = some (exo a C none) ∧ ∀ dx, H dx = none → dx ≠ a → Q .non (upd (upd H dx (exd dx [(fld, y)])) a (exo a C (some dx)))
/-- the exception class number c: its name in the module, its one field -/
structure OeD (P : Program) (w : World) (K : PySem.W.Frag) (mg : Str → Option Value) (base : Heap) (Z : Zn) (c : Nat) (x fld : Str) : Prop where
  oex : OexC K (Z.cl c)
  gl : mg x = some (.ref (Z.cl c))
  ex : ∃ (fI : Addr) (fd : FuncData) (ps : List Str), PySem.W.findIn K (.ref (Z.cl c)) "__init__" = some (some (.ref fI)) ∧ PySem.W.typeIn K (.ref fI) = some (.type "function") ∧ FnOk P w K mg base CX0 1 fI fd ps (spX1 (Z.cl c) fld) ∧ Binds K fd ps []
/-- raise x(e) -/
def rseS (c : Nat) (fld : Str) (fa : Slots → S → R (List D)) (ρ : Slots) (s : S) : R Fl := (fa (allS ρ) s).bind fun ds s => match ds with
  | [d] => .ex ⟨c, [fld], [d]⟩ s
  | _ => .un
def tRse (C : Addr) (fld : Str) (ua : TA) (E : XK) : TS := fun _ σ H => tMkO C (spX1 C fld) [] ua σ H fun cls d H' => E cls d H'
section
variable {K : PySem.W.Frag} {Z : Zn} {E : XK} {ua : TA} {fa : Slots → S → R (List D)} {c : Nat} {fld : Str}
theorem cs_rse (h : CmpA K Z E ua fa) : CmpS K Z E (tRse (Z.cl c) fld ua E) (rseS c fld fa) := fun s0 G0 H0 G H σ ρ s D r a =>
  h _ H σ (allS ρ) s _ r.hW r.hP (AnsS.bindH r a fun ds s1 vs V1 H1 n1 w1 e a1 => by
    match ds, e, a1 with
    | [d], .cons (v := v) hv .nil, a1 =>
      refine ⟨by show 1 ≤ 1000; decide, fun p hp => ⟨p, v, rfl, upd_same, fun dx h1 h2 => ⟨rfl, dx, [(fld, v)], upd_same, by rw [upd_ne h2, upd_same], ?_, ?_⟩⟩⟩
      · rw [upd_ne h2] at h1
        exact h1
      · rw [upd_ne h2] at h1
        rw [xd_heap hp h2]
        exact a1 _ _ (upd V1 dx (.xd [(fld, v)])) _ ((r.out n1).trans (Nx.new w1 h1)) (w1.new h1 fun _ z => by cases z)
          ⟨rfl, dx, [(fld, v)], rfl, upd_same, rfl, .cons (Dv.mono (Same.new (w1.sv.free h1)) _ _ hv) .nil⟩
    | [], _, a1 => exact a1.elim
    | _ :: _ :: _, _, a1 => exact a1.elim)
end
section
variable {X : Cx} {Z : Zn} {E : XK} {j c : Nat} {x fld : Str} {np pos pos2 : Pos} {e : Expr} {es : List Expr} {t : TA}
theorem ps_rse (oe : OeD X.prog X.w X.K X.mg X.base Z c x fld) (hr : Room j X.A) (hk : 2 ≤ j) (hc : X.calm = true) (tk : Takes X fun cls d _ H' => E cls d H') (hg : Gl X x) (ha : PA X (e :: es) t)
    (hx0 : Passes CX0 X E0) (hdb : (x == ("__debug__" : Str)) = false := by decide) (he : starEach (e :: es) X.env = (false, eval e X.env) :: starEach es X.env := by rfl) (hpl : (backTo pos (starEach es X.env)).any (·.1) = false := by rfl) :
    PS X (.Raise (some (.Call (.Name x np) (e :: es) [] pos)) none pos2) (tRse (Z.cl c) fld t E) := by
  obtain ⟨fI, fd, ps, i1, i2, Fn, b⟩ := oe.ex
  exact ps_raise hc tk (pmk_oex oe.oex i1 i2 Fn (hr.mono hk) b .nil hx0 hg oe.gl ha hdb he hpl)
end
end Pp

set_option maxHeartbeats 2000000
/-! Rul: further rules. -/
namespace Rul
open PySem PySem.Spec PyProof.Rows L2
theorem tup_mul1 (l : Addr) (items : Array Value) (n : Nat) (dd : Option Addr) (sl : Array (Option Value)) (u : Tok) (c1 : (items.isEmpty || (1 : Int) == 1) = true) :
    Meets (Builtin.«tuple.__mul__» ⟨[.ref l, .int 1 u], []⟩) (fun _ R s => s.heap.get? l = some { cls := .type "tuple", dict := dd, data := .seq items n, slots := sl } ∧ R (.ok (.ret (Value.ref l))) s) :=
  .of_wp fun prog w A R s h => by
    obtain ⟨hp, g, d, tk, os⟩ := s
    obtain ⟨hl, h⟩ := h
    have f1 := AutoSeq1.idx_int
    wp_walk using wpAny_loadPart' hl
    exact ⟨_, rfl, h⟩
def rRepA (K : PySem.W.Frag) : R2 := fun x y H Q => ∃ l k xs, x = .ref l ∧ y = .int k ∧ SqT K H l xs ∧ xs ≠ [] ∧ 1 ≤ k ∧ k ≤ 1000 ∧ xs.length ≤ 1000 ∧ (k = 1 → Q (.ref l) H) ∧ (k ≠ 1 → ∀ p, H p = none → Q (.ref p) (upd H p (.tup (List.replicate k.toNat xs).flatten)))
section
variable {X : Cx}
theorem op_rep1 : OpR X (binaryOp .Mult) (fun x y H Q => ∃ l xs, x = .ref l ∧ y = .int 1 ∧ SqT X.K H l xs ∧ Q (.ref l) H) := by
  intro pins s σ H x y v u Q I rx ry h
  obtain ⟨l, xs, rfl, rfl, hT, q⟩ := h
  cases rx
  obtain ⟨t, rfl⟩ := ry
  obtain ⟨its, r, ⟨⟨cls, dd, data, sl⟩, ho, hc, n, hd⟩, hs⟩ := I.tuple hT
  simp only at hc hd
  subst hc hd
  have c1 : (its.toArray.isEmpty || (1 : Int) == 1) = true := by
    rw [show ((1 : Int) == 1) = true from rfl, Bool.or_true]
  exact wpAny_binaryOp_repeat_ref (T := "tuple") (U := "int") (by decide) ⟨_, ho, rfl⟩ (fun s' => typeIs_int s' 1 t) noFill_tuple_mul F.fills_int_mul F.slot_int_rmul repeat_tuple F.slot_int_index.lookup
    (call_meets F.slot_int_rmul (typeIs_int s 1 t) F.entry_int_rmul (F.args_int_rmul_2 _ _) (int_rmul_tuple 1 t l its.toArray n dd sl)
      ⟨ho, rfl, ⟨_, ho, rfl⟩, call_meets F.slot_tuple_mul ⟨_, ho, rfl⟩ F.entry_tuple_mul (F.args_tuple_mul_2 _ _) (tup_mul1 l its.toArray n dd sl t c1) ⟨ho, ⟨.ref l, H, I, rfl, q⟩⟩⟩)
theorem op_repA : OpR X (binaryOp .Mult) (rRepA X.K) := by
  intro pins s σ H x y v u Q I rx ry h
  obtain ⟨l, k, xs, rfl, rfl, hT, hne, h1, h2, hz, q1, q2⟩ := h
  by_cases e : k = 1
  · subst e
    exact op_rep1 pins s σ H _ _ v u Q I rx ry ⟨l, xs, rfl, rfl, hT, q1 rfl⟩
  · exact op_repT pins s σ H _ _ v u Q I rx ry ⟨l, k, xs, rfl, rfl, hT, hne, by omega, h2, hz, q2 e⟩
end
end Rul

set_option maxHeartbeats 1000000
/-! Pp8: slices, in, a tuple times a number. -/
namespace Pp
open PySem PySem.Spec PyProof.Rows L2 Pg Pf LamX Rul
section
variable {K : PySem.W.Frag} {Z : Zn} {E : XK} {te : TE} {f : Slots → S → R D}
/-- a part of a slice -/
def CmpO (K : PySem.W.Frag) (Z : Zn) (E : XK) (t : TO) (f : Slots → S → R (Option Int)) : Prop := ∀ V H σ ρ s Q, Wd Z.T V H s → Rep K Z V H σ ρ s → Ans K Z E (fun _ b c => b = c) (f ρ s) s V H Q → t σ H Q
def noO (_ : Slots) (s : S) : R (Option Int) := .ok none s
def soO (f : Slots → S → R D) (ρ : Slots) (s : S) : R (Option Int) := (f ρ s).bind fun d s => match d with
  | .int i => .ok (some i) s
  | _ => .un
theorem co_no : CmpO K Z E tNoPart noO := fun V H σ ρ s Q w p a => Ans.pure w rfl a
theorem co_so (h : Cmp K Z E te f) : CmpO K Z E (tPart te) (soO f) := fun V H σ ρ s Q w p a =>
  h V H σ ρ s _ w p (Ans.bind a fun d s1 v V1 H1 n1 w1 r1 a1 => by
    cases r1 with
    | int i => exact ⟨i, rfl, Ans.pure w1 rfl a1⟩
    | _ => exact a1.elim)
def cutD {α : Type} (xs : List α) (lo hi : Option Int) : List α := (xs.drop (HT.sIx xs.length 0 lo)).take (HT.sIx xs.length xs.length hi - HT.sIx xs.length 0 lo)
theorem DvA.cut {G : Hp} {vs : List L2.V} {ds : List D} (h : DvA K Z G vs ds) (lo hi : Option Int) : DvA K Z G (cutV vs lo hi) (cutD ds lo hi) := by
  unfold cutV cutD
  rw [h.len]
  exact (h.drop _).take _
theorem cut_all (vs : List L2.V) (lo hi : Option Int) (h : HT.sIx vs.length 0 lo = 0 ∧ HT.sIx vs.length vs.length hi = vs.length) : cutV vs lo hi = vs := by
  unfold cutV
  rw [h.1, h.2, List.drop_zero, Nat.sub_zero, List.take_length]
/-- x[lo:hi] of a tuple -/
def slF (d : D) (lo hi : Option Int) (s : S) : R D := match d with
  | .tup ds => .ok (.tup (cutD ds lo hi)) s
  | _ => .un
def slX (f : Slots → S → R D) (g h : Slots → S → R (Option Int)) (ρ : Slots) (s : S) : R D := (f ρ s).bind fun d s => (g ρ s).bind fun lo s => (h ρ s).bind fun hi s => slF d lo hi s
theorem c_sl {tl th : TO} {g h : Slots → S → R (Option Int)} (he : Cmp K Z E te f) (hl : CmpO K Z E tl g) (hh : CmpO K Z E th h) : Cmp K Z E (L2.tSl (rSlA K) te tl th) (slX f g h) := fun V H σ ρ s Q w p a =>
  he V H σ ρ s _ w p (Ans.bind a fun d s1 v V1 H1 n1 w1 r1 a1 =>
    hl V1 H1 σ ρ s1 _ w1 (p.later n1) (Ans.bind a1 fun lo s2 o2 V2 H2 n2 w2 e2 a2 =>
      hh V2 H2 σ ρ s2 _ w2 ((p.later n1).later n2) (Ans.bind a2 fun hi s3 o3 V3 H3 n3 w3 e3 a3 => by
        subst e2 e3
        replace r1 := Dv.mono (n2.g.trans n3.g) _ _ r1
        cases r1 with
        | @tup b vs ds hx hs =>
          refine ⟨b, vs, rfl, Evl.ex_t w3.sv hx, fun e => ?_, fun _ => new_tup w3 (hs.cut o2 o3) a3⟩
          refine Ans.pure w3 ?_ a3
          have hc := hs.cut o2 o3
          rw [cut_all vs o2 o3 e] at hc
          exact .tup hx hc
        | _ => exact a3.elim)))
/-- flat data as a value -/
def flD : D → Option L2.V
  | .non => some .non
  | .bl b => some (.bl b)
  | .int i => some (.int i)
  | .str x => some (.str x)
  | _ => none
def flA : List D → Option (List L2.V)
  | [] => some []
  | d :: ds => match flD d, flA ds with
    | some v, some vs => some (v :: vs)
    | _, _ => none
theorem flD_of {G : Hp} {v u : L2.V} {d : D} (h : Dv K Z G v d) (e : flD d = some u) : v = u ∧ flatV v = true := by
  cases h <;> first | (cases e; exact ⟨rfl, rfl⟩) | cases e
theorem flA_of {G : Hp} : ∀ {vs us : List L2.V} {ds : List D}, DvA K Z G vs ds → flA ds = some us → vs = us ∧ vs.all flatV = true
  | _, _, _, .nil, e => by
    cases e
    exact ⟨rfl, rfl⟩
  | _, _, _, .cons (d := d) (ds := ds) a b, e => by
    unfold flA at e
    cases e1 : flD d with
    | none =>
      rw [e1] at e
      cases e
    | some v =>
      cases e2 : flA ds with
      | none =>
        rw [e1, e2] at e
        cases e
      | some vs =>
        rw [e1, e2] at e
        cases e
        obtain ⟨rfl, f1⟩ := flD_of a e1
        obtain ⟨rfl, f2⟩ := flA_of b e2
        exact ⟨rfl, by rw [List.all_cons, f1, f2]; rfl⟩
def itsD : D → Option (List D)
  | .tup ds => some ds
  | .lst ds => some ds
  | .rls ds => some ds
  | _ => none
/-- x in y, x not in y -/
def inF (neg : Bool) (x y : D) (s : S) : R D := match flD x, itsD y with
  | some v, some ds => match flA ds with
    | some vs => .ok (.bl (if neg then !inV v vs else inV v vs)) s
    | none => .un
  | _, _ => .un
theorem c2_in (neg : Bool) : Cmp2 K Z E (rIn K neg) (inF neg) := fun V H s x y dx dy Q w rx ry a => by
  unfold inF at a
  cases e1 : flD dx with
  | none =>
    rw [e1] at a
    exact a.elim
  | some v =>
    cases e2 : itsD dy with
    | none =>
      rw [e1, e2] at a
      exact a.elim
    | some ds =>
      rw [e1, e2] at a
      replace a : Ans K Z E (Dv K Z) (match flA ds with | some vs => .ok (.bl (if neg then !inV v vs else inV v vs)) s | none => .un) s V H Q := a
      cases e3 : flA ds with
      | none =>
        rw [e3] at a
        exact a.elim
      | some vs =>
        rw [e3] at a
        obtain ⟨rfl, f1⟩ := flD_of rx e1
        have go : ∀ {p : Addr} {us : List L2.V}, DvA K Z V us ds → (SqL K H p us ∨ SqT K H p us) → rIn K neg x (.ref p) H Q := fun {p us} hs hp => by
          obtain ⟨rfl, f2⟩ := flA_of hs e3
          exact ⟨p, us, rfl, hp, f1, f2, Ans.pure w (.bl _) a⟩
        cases ry with
        | tup h hs =>
          cases e2
          exact go hs (.inr (Evl.ex_t w.sv h))
        | lst h hs =>
          cases e2
          exact go hs (.inl (SqL.of (w.sv _ _ h)))
        | rls h hs =>
          cases e2
          exact go hs (.inl (Evl.ex_l w.sv h))
        | _ => cases e2
/-- a tuple times a number from 1 on -/
def repT (x y : D) (s : S) : R D := match x, y with
  | .tup ds, .int k => if ds ≠ [] ∧ 1 ≤ k ∧ k ≤ 1000 ∧ ds.length ≤ 1000 then .ok (.tup (List.replicate k.toNat ds).flatten) s else .un
  | _, _ => .un
theorem c2_repT : Cmp2 K Z E (rRepA K) repT := fun V H s x y dx dy Q w rx ry a => by
  cases rx with
  | @tup b vs ds hx hs =>
    cases ry with
    | int k =>
      replace a : Ans K Z E (Dv K Z) (if ds ≠ [] ∧ 1 ≤ k ∧ k ≤ 1000 ∧ ds.length ≤ 1000 then .ok (.tup (List.replicate k.toNat ds).flatten) s else .un) s V H Q := a
      by_cases e : ds ≠ [] ∧ 1 ≤ k ∧ k ≤ 1000 ∧ ds.length ≤ 1000
      · rw [if_pos e] at a
        obtain ⟨e1, e2, e3, e4⟩ := e
        refine ⟨b, k, vs, rfl, rfl, Evl.ex_t w.sv hx, fun z => ?_, e2, e3, by rw [hs.len]; exact e4, fun z => ?_, fun _ => new_tup w (hs.rep _) a⟩
        · subst z
          cases hs
          exact e1 rfl
        · subst z
          refine Ans.pure w ?_ a
          have hr := hs.rep (1 : Int).toNat
          have one : ∀ {α : Type} (l : List α), (List.replicate (1 : Int).toNat l).flatten = l := fun l => by
            show (List.replicate 1 l).flatten = l
            simp
          rw [one] at hr
          rw [one] at hr ⊢
          exact .tup hx hr
      · rw [if_neg e] at a
        exact a.elim
    | _ => exact a.elim
  | _ => exact a.elim
end
end Pp

/-! PpS: methods with *more and keyword-only parameters, called with names. -/
namespace Pp
open PySem PySem.Spec PyProof.Rows L2 Pg Pf LamX
/-- t looks names up in the dict at D, then goes on as u -/
def KwT {α : Type} (D : Addr) : List (Str × Value) → Sem α → Sem α → Prop
  | [], t, u => t = u
  | q :: l, t, u => ∃ (β γ : Type) (k1 : Option Value → Sem β) (k2 : β → Sem γ) (k3 : γ → Sem α) (a : β), t = ((nsGet D q.1 >>= k1) >>= k2) >>= k3 ∧ k1 (some q.2) = pure a ∧ KwT D l (k2 a >>= k3) u
theorem KwT.wp {α : Type} {M : Model} {A : Around} {Q : α → Shared → Prop} {E : Value → Shared → Prop} {s : Shared} {K : PySem.W.Frag} {D : Addr} (X : K.In s.heap) : ∀ {l : List (Str × Value)} {t u : Sem α}, (∀ q ∈ l, PySem.W.nsIn K D q.1 = some (some q.2)) → KwT D l t u → wpAny M A u Q E s → wpAny M A t Q E s
  | [], t, u, _, e, h => by
    have e' : t = u := e
    rw [e']
    exact h
  | q :: l, t, u, hl, e, h => by
    obtain ⟨β, γ, k1, k2, k3, a, e1, e2, e3⟩ := e
    have ih := KwT.wp X (fun p hp => hl p (List.mem_cons_of_mem _ hp)) e3 h
    rw [e1, bind_assoc]
    refine wpAny_bind (wpAny_bind ?_)
    refine PySem.W.looks_nsIn (M := M) X (hl q (List.mem_cons_self ..)) A _ E s (fun _ _ z => z) ?_
    rw [e2]
    exact wpAny_pure ih
/-- the def of the method x of class number c, by what it does once its parameters are bound -/
structure MetS (P : Program) (w : World) (K : PySem.W.Frag) (mg : Str → Option Value) (base : Heap) (Z : Zn) (k c : Nat) (x : Str) (ps : List Str) (F : List D → S → R D) (f : Addr) (fd : FuncData) : Prop where
  cl : Cls K (Z.cl c)
  me : Meth K (Z.cl c) x f
  na : x ∉ nm c
  go : ∀ (A : Around) (outer : List PySem.Env) (s : Shared) (H : Hp) (args : Args) (Q : VK) (E : XK) (G : List V → Hp → Prop), Room k A → Env0 P w K mg base A outer s H → StX.Bnd (L2.CX P w) P w K mg base fd args ps A outer s H E G →
    (∀ vs H2, G vs H2 → spD K Z ps.length F vs H2 Q E) → codeAny (model P w) A (.call (.ref f) args) (CR (L2.CX P w) outer P w H s Q E) s
section
variable {P : Program} {w : World} {K : PySem.W.Frag} {mg : Str → Option Value} {base : Heap} {k c : Nat} {f : Addr} {fd : FuncData} {N ps : List Str} {x qual : Str} {st : Stmt} {Z : Zn} {Fb : Slots → S → R Fl}
/-- such a def from its body -/
theorem metS {oc dV kV doc pm cdv ct : Value} {od an : Option Addr} {osl : Array (Option Value)} (lk : K.lookup f = some ⟨oc, od, .func (PySem.W.fnOf x qual (defArgs st) (defBody st) (defScope st) dV kV doc pm an cdv ct), osl⟩) (hcd : PySem.W.codeIn K cdv qual = true)
    (cl : Cls K (Z.cl c)) (me : Meth K (Z.cl c) x f) (na : x ∉ nm c) (Sc : FnScope N ps (defScope st)) (hl : ps.length ≤ N.length)
    (hb : ∀ (A : Around) (outer : List PySem.Env) (s : Shared) (H : Hp) (E : XK), Room k (A.deeper (envOfC qual (defScope st) s.heap.objs.size f cdv)) → ∃ t, PPS (cxOf (L2.CX P w) P w K mg base N qual (defScope st) f cdv A outer s H E) Z E (defBody st) t Fb) :
    MetS P w K mg base Z (k + 1) c x ps (runS Fb N.length) f (PySem.W.fnOf x qual (defArgs st) (defBody st) (defScope st) dV kV doc pm an cdv ct) := by
  refine ⟨cl, me, na, fun A outer s H args Q E G hr e0 bd hs => ?_⟩
  refine StX.run_bnd lk hcd Sc hr e0 bd fun s2 H2 vs g hr' => ?_
  obtain ⟨l, V, ds, s1, w1, r, a⟩ := hs vs H2 g
  obtain ⟨t, h1, h2⟩ := hb A outer s2 H2 E hr'
  exact ⟨t, h1, h2 s1 V H2 V H2 _ _ s1 _ (start_rep w1 r (by omega)) (run_ans a)⟩
end
/-- o.x(e, .., k=e, ..): self, what gV makes of the values, the tuple of the rest -/
def tStar (C : Addr) (x : Str) (sp : Sp) (E : XK) (gV : List V → List V → List V) (m nk np : Nat) (ta : TE) (t tk : TA) : TE := fun σ H Q => ta σ H fun y H1 => ∃ a dx fs, y = .ref a ∧ H1 a = some (.ins C dx fs) ∧ fs.lookup x = none ∧
  t σ H1 fun vs H2 => vs.length = m ∧ tk σ H2 fun zs H3 => zs.length = nk ∧ vs.length ≤ 1000 ∧ ∀ p, H3 p = none → sp (.ref a :: (gV vs zs ++ [.ref p])) (upd H3 p (.tup (vs.drop np))) Q E
section
variable {X : Cx} {Z : Zn} {j k c np : Nat} {x star : Str} {ps ks : List Str} {F : List D → S → R D} {f : Addr} {fd : FuncData} {E : XK} {pos apos : Pos} {o : Expr} {es : List Expr} {kw : List Keyword} {ta : TE} {t tk : TA} {g : List Value → List Value → List Value} {gV : List V → List V → List V} {Dk : Addr} {miss : List (Str × Value)}
/-- how such a call binds -/
structure BdS (K : PySem.W.Frag) (fd : FuncData) (ps ks : List Str) (m np : Nat) (star : Str) (g : List Value → List Value → List Value) (gV : List V → List V → List V) (Dk : Addr) (miss : List (Str × Value)) : Prop where
  nk : ∀ q ∈ miss, PySem.W.nsIn K Dk q.1 = some (some q.2)
  eq : ∀ (u0 : Value) (us ws : List Value), us.length = m → ws.length = ks.length → KwT Dk miss (bindArgs fd ⟨u0 :: us, ks.zip ws⟩) (newTuple (us.drop np) >>= fun t => pure (ps.zip (u0 :: (g us ws ++ [t]))))
  rel : ∀ {vs zs : List V} {us ws : List Value}, vs.length = m → zs.length = ks.length → Vals vs us → Vals zs ws → Vals (gV vs zs) (g us ws)
  len : ∀ (vs zs : List V), vs.length = m → zs.length = ks.length → (gV vs zs).length + 2 = ps.length
theorem vals_drop : ∀ (n : Nat) {vs : List V} {us : List Value}, Vals vs us → Vals (vs.drop n) (us.drop n)
  | 0, _, _, h => h
  | n + 1, _, _, .nil => .nil
  | n + 1, _, _, .cons a b => vals_drop n b
theorem bnd_star {P : Program} {w : World} {K : PySem.W.Frag} {mg : Str → Option Value} {base : Heap} {m : Nat} {A : Around} {outer : List PySem.Env} {s : Shared} {H : Hp} {E : XK} {a : Addr} {vs zs : List V} {us ws : List Value} (b : BdS K fd ps ks m np star g gV Dk miss) (e0 : Env0 P w K mg base A outer s H)
    (hm : vs.length = m) (hk : zs.length = ks.length) (r : Vals vs us) (rz : Vals zs ws) (h1 : vs.length ≤ 1000) :
    StX.Bnd (L2.CX P w) P w K mg base fd ⟨.ref a :: us, ks.zip ws⟩ ps A outer s H E (fun xs H2 => ∃ p, H p = none ∧ xs = .ref a :: (gV vs zs ++ [.ref p]) ∧ H2 = upd H p (.tup (vs.drop np))) := by
  intro A' Ex Q' h
  have hn : H s.heap.objs.size = Option.none := e0.hok.fresh (Nat.le_refl _)
  have KX : K.In s.heap := e0.mod.kin.keeps fun b o e => (e0.bs b o e).1
  refine KwT.wp KX b.nk (b.eq (.ref a) us ws (by rw [← r.length]; exact hm) (by rw [← rz.length]; exact hk)) ?_
  have dl : (vs.drop np).length ≤ sizeLine := Nat.le_trans (by rw [List.length_drop]; omega) (by decide : 1000 ≤ sizeLine)
  have ld := (vals_drop np r).length
  refine wpAny_bind (wpAny_newTuple (wpAny_pure ?_) (by rw [← ld]; exact dl))
  have new : ObjOk P w (upd H s.heap.objs.size (.tup (vs.drop np))) (s.heap.push ({ cls := .type "tuple", data := .seq (us.drop np).toArray } : Obj)) s.heap.objs.size (.tup (vs.drop np)) := ⟨dl, us.drop np, vals_drop np r, ⟨_, Heap.get?_push_size _ rfl, rfl, _, rfl⟩⟩
  have un := StX.un_laid (fs := frs outer) (s := s) (o := ({ cls := .type "tuple", data := .seq (us.drop np).toArray } : Obj)) (u := .tup (vs.drop np)) hn
  refine h _ _ (.ref a :: (gV vs zs ++ [V.ref s.heap.objs.size])) (Value.ref a :: (g us ws ++ [Value.ref s.heap.objs.size])) (StX.env0_laid e0 new) un rfl (fun e s' z => ?_) (.cons rfl ((b.rel hm hk r rz).append (.cons rfl .nil))) ?_ ⟨_, hn, rfl, rfl⟩
  · exact StX.cxUp outer s H { s with heap := s.heap.push ({ cls := .type "tuple", data := .seq (us.drop np).toArray } : Obj) } _ E e s' un (fun b o e => Heap.get?_push_of_some _ e) rfl z
  · have := b.len vs zs hm hk
    rw [List.length_cons, List.length_append, List.length_singleton]
    omega
theorem run_star {pins : List (Addr × Obj)} {σ : L2.St} {H : Hp} {s : Shared} {Q : VK} {a : Addr} {vs zs : List V} {us ws : List Value} {m : Nat} (M : MetS X.prog X.w X.K X.mg X.base Z k c x ps F f fd) (b : BdS X.K fd ps ks m np star g gV Dk miss) (hr : Room k X.A) (hx : Passes (L2.CX X.prog X.w) X E)
    (I : Inv X pins σ H s) (hm : vs.length = m) (hk : zs.length = ks.length) (r : Vals vs us) (rz : Vals zs ws) (h1 : vs.length ≤ 1000)
    (q : ∀ p, H p = none → spD X.K Z ps.length F (.ref a :: (gV vs zs ++ [.ref p])) (upd H p (.tup (vs.drop np))) Q E) : wpAny (model X.prog X.w) X.A (call (.ref f) (.ref a :: us) (ks.zip ws)) (EP X pins σ Q) X.xe s := by
  refine wpAny_call (codeAny_mono (M.go X.A X.stack s H ⟨.ref a :: us, ks.zip ws⟩ Q E _ hr I.env0 (bnd_star b I.env0 hm hk r rz h1) (fun xs H2 ⟨p, hp, ex, eH⟩ => by
    rw [ex, eH]
    exact q p hp)) fun r s' hq => ?_)
  cases r with
  | error e => exact hx pins σ H s e s' I hq
  | ok fl =>
    cases fl with
    | ret u => exact I.after hq
    | next => exact False.elim hq
    | brk => exact False.elim hq
    | cont => exact False.elim hq
theorem pe_star {pl : Sem Bool} {e : Expr} {m : Nat} (M : MetS X.prog X.w X.K X.mg X.base Z k c x ps F f fd) (b : BdS X.K fd ps ks m np star g gV Dk miss) (hr : Room j X.A) (hk : k ≤ j) (hx : Passes (L2.CX X.prog X.w) X E)
    (ho : PE X o ta) (ha : PA X (e :: es) t) (hw : PK X kw tk)
    (hnm : (backToKw pos (keywordEach kw X.env)).filterMap (·.1) = ks := by rfl)
    (hst : starEach (e :: es) X.env = (false, eval e X.env) :: starEach es X.env := by rfl)
    (hpl : ((backTo pos (starEach (e :: es) X.env)).any (·.1) || (backToKw pos (keywordEach kw X.env)).any (·.1.isNone)) = false := by rfl)
    (hall : (backToKw pos (keywordEach kw X.env)).all (·.1.isSome) = true := by rfl)
    (ht : eval (.Call (.Attribute o x apos) (e :: es) kw pos) X.env = (do
      let ov ← eval o X.env
      standAt apos.atName
      let (f, first) ← holding [ov] (getMethod ov x pl)
      callWith pos f first (backTo pos (starEach (e :: es) X.env)) (backToKw pos (keywordEach kw X.env))) := by rfl) :
    PE X (.Call (.Attribute o x apos) (e :: es) kw pos) (tStar (Z.cl c) x (spD X.K Z ps.length F) E gV m ks.length np ta t tk) := by
  refine ⟨fun pins s σ H Q I h => ?_⟩
  refine PySem.W.methodCall_KW (pl := pl) (thn (ho.run pins s σ H _ I h) fun u s1 ⟨y, H1, I1, ry, a, dx, fs, ey, ea, l, q⟩ => ?_) ht
  subst ey
  obtain rfl : u = Value.ref a := ry
  refine getmeth_ok I1 ea M.cl M.me l ?_
  refine PySem.W.callWith_KW (first := [.ref a]) (h₀ := X.base) I1.ok.mod.kin M.me.kp hall (thn (ha.run pos pins s1 σ H1 _ I1 q) fun us s2 ⟨vs, H2, I2, r, hm, q2⟩ => ?_) hpl hst
  refine thn (hw.run pos pins s2 σ H2 _ I2 q2) fun ws s3 ⟨zs, H3, I3, rz, hz, h1, q3⟩ => ⟨I3.kIn, ?_⟩
  rw [hnm]
  exact run_star M b (hr.mono hk) hx I3 hm hz r rz h1 q3
theorem pe_star0 {pl : Sem Bool} {e : Expr} {q1 : Pos} {k1 : Option Str} {kws : List Keyword} (M : MetS X.prog X.w X.K X.mg X.base Z k c x ps F f fd) (b : BdS X.K fd ps ks 0 np star g gV Dk miss) (hr : Room j X.A) (hk : k ≤ j) (hx : Passes (L2.CX X.prog X.w) X E)
    (ho : PE X o ta) (hw : PK X (⟨k1, e, q1⟩ :: kws) tk)
    (hnm : (backToKw pos (keywordEach (⟨k1, e, q1⟩ :: kws) X.env)).filterMap (·.1) = ks := by rfl)
    (hpl : ((backTo pos (starEach [] X.env)).any (·.1) || (backToKw pos (keywordEach (⟨k1, e, q1⟩ :: kws) X.env)).any (·.1.isNone)) = false := by rfl)
    (hall : (backToKw pos (keywordEach (⟨k1, e, q1⟩ :: kws) X.env)).all (·.1.isSome) = true := by rfl)
    (ht : eval (.Call (.Attribute o x apos) [] (⟨k1, e, q1⟩ :: kws) pos) X.env = (do
      let ov ← eval o X.env
      standAt apos.atName
      let (f, first) ← holding [ov] (getMethod ov x pl)
      callWith pos f first (backTo pos (starEach [] X.env)) (backToKw pos (keywordEach (⟨k1, e, q1⟩ :: kws) X.env))) := by rfl) :
    PE X (.Call (.Attribute o x apos) [] (⟨k1, e, q1⟩ :: kws) pos) (tStar (Z.cl c) x (spD X.K Z ps.length F) E gV 0 ks.length np ta tNil tk) := by
  refine ⟨fun pins s σ H Q I h => ?_⟩
  refine PySem.W.methodCall_KW (pl := pl) (thn (ho.run pins s σ H _ I h) fun u s1 ⟨y, H1, I1, ry, a, dx, fs, ey, ea, l, q⟩ => ?_) ht
  subst ey
  obtain rfl : u = Value.ref a := ry
  refine getmeth_ok I1 ea M.cl M.me l ?_
  refine PySem.W.callWith_KW0 (first := [.ref a]) (h₀ := X.base) I1.ok.mod.kin M.me.kp hall ?_ hpl
  refine thn (hw.run pos pins s1 σ H1 _ I1 q.2) fun ws s3 ⟨zs, H3, I3, rz, hz, h1, q3⟩ => ⟨I3.kIn, ?_⟩
  rw [hnm]
  exact run_star M b (hr.mono hk) hx I3 rfl hz .nil rz h1 q3
/-- .. with nothing at all -/
theorem pe_star00 {pl : Sem Bool} (M : MetS X.prog X.w X.K X.mg X.base Z k c x ps F f fd) (b : BdS X.K fd ps [] 0 np star g gV Dk miss) (hr : Room j X.A) (hk : k ≤ j) (hx : Passes (L2.CX X.prog X.w) X E) (ho : PE X o ta)
    (ht : eval (.Call (.Attribute o x apos) [] [] pos) X.env = (do
      let ov ← eval o X.env
      standAt apos.atName
      let (f, first) ← holding [ov] (getMethod ov x pl)
      callWith pos f first (backTo pos (starEach [] X.env)) (backToKw pos (keywordEach [] X.env))) := by rfl) :
    PE X (.Call (.Attribute o x apos) [] [] pos) (tStar (Z.cl c) x (spD X.K Z ps.length F) E gV 0 0 np ta tNil tNil) := by
  refine ⟨fun pins s σ H Q I h => ?_⟩
  refine PySem.W.methodCall_KW (pl := pl) (thn (ho.run pins s σ H _ I h) fun u s1 ⟨y, H1, I1, ry, a, dx, fs, ey, ea, l, q⟩ => ?_) ht
  subst ey
  obtain rfl : u = Value.ref a := ry
  obtain ⟨_, _, h1, q3⟩ := q
  refine getmeth_ok I1 ea M.cl M.me l ?_
  exact PySem.W.callWith_K0 (first := [.ref a]) I1.kIn M.me.kp (run_star (ks := []) (ws := []) (zs := []) M b (hr.mono hk) hx I1 rfl rfl .nil .nil h1 q3)
end
/-! ### what it computes -/
def starF (c n m nk np : Nat) (gD : List D → List D → List D) (F : List D → S → R D) (fo : Slots → S → R D) (fa fk : Slots → S → R (List D)) (ρ : Slots) (s : S) : R D := (fo ρ s).bind fun d s => match d with
  | .obj c' es => if c' = c then (fa ρ s).bind fun ds s => if ds.length = m then (fk ρ s).bind fun zs s => if zs.length = nk ∧ m ≤ 1000 ∧ (gD ds zs).length + 2 = n then F (.obj c' es :: (gD ds zs ++ [.tup (ds.drop np)])) s else .un else .un else .un
  | _ => .un
section
variable {K : PySem.W.Frag} {Z : Zn} {E : XK} {n m nk np c : Nat} {x : Str} {F : List D → S → R D} {te : TE} {fo : Slots → S → R D} {ta tk : TA} {fa fk : Slots → S → R (List D)} {gV : List V → List V → List V} {gD : List D → List D → List D}
theorem c_star (na : x ∉ nm c) (hg : ∀ {G : Hp} {vs zs : List V} {ds es : List D}, DvA K Z G vs ds → DvA K Z G zs es → DvA K Z G (gV vs zs) (gD ds es)) (ho : Cmp K Z E te fo) (ha : CmpA K Z E ta fa) (hk : CmpA K Z E tk fk) :
    Cmp K Z E (tStar (Z.cl c) x (spD K Z n F) E gV m nk np te ta tk) (starF c n m nk np gD F fo fa fk) := fun V H σ ρ s Q w p a =>
  ho V H σ ρ s _ w p (Ans.bind a fun d s1 v V1 H1 n1 w1 r1 a1 => by
    cases r1 with
    | @obj b c' dx fs es h hn hs =>
      replace a1 : Ans K Z E (Dv K Z) (if c' = c then (fa ρ s1).bind fun ds s => if ds.length = m then (fk ρ s).bind fun zs s => if zs.length = nk ∧ m ≤ 1000 ∧ (gD ds zs).length + 2 = n then F (.obj c' es :: (gD ds zs ++ [.tup (ds.drop np)])) s else .un else .un else .un) s1 V1 H1 Q := a1
      by_cases ec : c' = c
      · rw [if_pos ec] at a1
        subst ec
        refine ⟨b, dx, fs, rfl, w1.sv _ _ h, lookup_not hn na, ?_⟩
        refine ha V1 H1 σ ρ s1 _ w1 (p.later n1) (Ans.bind a1 fun ds s2 vs V2 H2 n2 w2 r2 a2 => ?_)
        by_cases e1 : ds.length = m
        · rw [if_pos e1] at a2
          refine ⟨by rw [r2.len]; exact e1, hk V2 H2 σ ρ s2 _ w2 ((p.later n1).later n2) (Ans.bind a2 fun zs s3 ws V3 H3 n3 w3 r3 a3 => ?_)⟩
          by_cases e : zs.length = nk ∧ m ≤ 1000 ∧ (gD ds zs).length + 2 = n
          · rw [if_pos e] at a3
            obtain ⟨e2, e3, e4⟩ := e
            have r2' := DvA.mono n3.g _ _ r2
            refine ⟨by rw [r3.len]; exact e2, by rw [r2.len]; omega, fun q hq => ?_⟩
            have sm : Same V3 (upd V3 q (.tup (vs.drop np))) := Same.new (w3.sv.free hq)
            have gg := hg r2' r3
            refine ⟨?_, upd V3 q (.tup (vs.drop np)), .obj c' es :: (gD ds zs ++ [.tup (ds.drop np)]), s3, w3.new hq (fun _ z => by cases z), ?_, Ans.later (Nx.new w3 hq) a3⟩
            · rw [List.length_cons, List.length_append, List.length_singleton, gg.len]
              omega
            · exact .cons (.obj (sm _ _ (n3.g _ _ (n2.g _ _ h))) hn (DvA.mono (n2.g.trans (n3.g.trans sm)) _ _ hs)) ((DvA.mono sm _ _ gg).app (.cons (.tup (SqT.of upd_same) (DvA.mono sm _ _ (r2'.drop np))) .nil))
          · rw [if_neg e] at a3
            exact a3.elim
        · rw [if_neg e1] at a2
          exact a2.elim
      · rw [if_neg ec] at a1
        exact a1.elim
    | _ => exact a1.elim)
end
end Pp

/-! Pp9: repr, data in data, slices of lists. -/
namespace Pp
open PySem PySem.Spec PyProof.Rows L2 Pg Pf LamX Rul
section
variable {K : PySem.W.Frag} {Z : Zn} {E : XK}
/-- repr(x) of a list, a tuple -/
def rReprD (K : PySem.W.Frag) : List V → Hp → VK → Prop := fun xs H Q => ∃ a d, xs = [.ref a] ∧ Dp K H (.ref a) d ∧ d.showable = true ∧ d.hasDict = false ∧ d.depth ≤ 60 ∧ d.shown.length ≤ sizeLine ∧ Q (.str d.shown) H
def isSq : D → Bool
  | .tup _ => true
  | .lst _ => true
  | .rls _ => true
  | _ => false
def reprOk (d : D) : Prop := d.isPy = true ∧ isSq d = true ∧ d.py.showable = true ∧ d.py.hasDict = false ∧ d.py.depth ≤ 60 ∧ d.py.shown.length ≤ sizeLine
open Classical in
noncomputable def reprF (ds : List D) (s : S) : R D := match ds with
  | [d] => if reprOk d then .ok (.str d.py.shown) s else .un
  | _ => .un
theorem sq_ref {G : Hp} {v : V} {d : D} (h : Dv K Z G v d) (e : isSq d = true) : ∃ a, v = .ref a := by
  cases h <;> first | exact ⟨_, rfl⟩ | cases e
theorem cC_repr : CmpC K Z E (rReprD K) reprF := fun V H s xs ds Q w r a => by
  match ds, r, a with
  | [d], .cons (v := v) h .nil, a =>
    by_cases e : reprOk d
    · have ee : reprF [d] s = .ok (.str d.py.shown) s := if_pos e
      rw [ee] at a
      obtain ⟨e1, e2, e3, e4, e5, e6⟩ := e
      obtain ⟨b, rfl⟩ := sq_ref h e2
      exact ⟨b, d.py, rfl, Dp.mono w.sv _ _ (Dv.dp _ _ h e1), e3, e4, e5, e6, Ans.pure w (.str _) a⟩
    · have ee : reprF [d] s = .un := if_neg e
      rw [ee] at a
      exact a.elim
  | [], _, a => exact a.elim
  | _ :: _ :: _, _, a => exact a.elim
/-- x in a tuple, any data -/
def rInT (K : PySem.W.Frag) : R2 := fun x y H Q => ∃ d ds, Dp K H x d ∧ Dp K H y (.tuple ds) ∧ SeqAt.shaped d = true ∧ SeqAt.shaped (.tuple ds) = true ∧ Q (.bl (ds.any fun z => PyData.eqv z d)) H
theorem op_inT {X : Cx} (hu : X.A.units + 65 < cLine) : OpR X (compareOp .In) (rInT X.K) := by
  intro pins s σ H x y v u Q I rx ry h
  obtain ⟨d, ds, hd, he, sd, se, q⟩ := h
  obtain ⟨as, r1⟩ := Dp.reads I d x v hd rx
  obtain ⟨bs, r2⟩ := Dp.reads I (.tuple ds) y u he ry
  exact SeqAt.in_tuple_reads r2 r1 (SeqAt.canLay_of_shaped se) (SeqAt.canLay_of_shaped sd) (room_in_shaped sd hu) ⟨.bl _, H, I, rfl, q⟩
def inTF (x y : D) (s : S) : R D := match y with
  | .tup ds => if (x.isPy && isPyA ds && SeqAt.shaped x.py && SeqAt.shaped (.tuple (pyA ds))) = true then .ok (.bl ((pyA ds).any fun z => PyData.eqv z x.py)) s else .un
  | _ => .un
theorem c2_inT : Cmp2 K Z E (rInT K) inTF := fun V H s x y dx dy Q w rx ry a => by
  cases ry with
  | @tup b vs ds hx hs =>
    replace a : Ans K Z E (Dv K Z) (if (dx.isPy && isPyA ds && SeqAt.shaped dx.py && SeqAt.shaped (.tuple (pyA ds))) = true then .ok (.bl ((pyA ds).any fun z => PyData.eqv z dx.py)) s else .un) s V H Q := a
    by_cases e : (dx.isPy && isPyA ds && SeqAt.shaped dx.py && SeqAt.shaped (.tuple (pyA ds))) = true
    · rw [if_pos e] at a
      have e1 := Bool.and_eq_true_iff.mp e
      have e2 := Bool.and_eq_true_iff.mp e1.1
      have e3 := Bool.and_eq_true_iff.mp e2.1
      exact ⟨dx.py, pyA ds, Dp.mono w.sv _ _ (Dv.dp _ _ rx e3.1), Dp.mono w.sv _ _ (.tup hx (DvA.dp _ _ hs e3.2)), e2.2, e1.2, Ans.pure w (.bl _) a⟩
    · rw [if_neg e] at a
      exact a.elim
  | _ => exact a.elim
/-- x[lo:hi] of a list -/
def slLF (d : D) (lo hi : Option Int) (s : S) : R D := match d with
  | .lst ds => .ok (.lst (cutD ds lo hi)) s
  | .rls ds => .ok (.lst (cutD ds lo hi)) s
  | _ => .un
def slLX (f : Slots → S → R D) (g h : Slots → S → R (Option Int)) (ρ : Slots) (s : S) : R D := (f ρ s).bind fun d s => (g ρ s).bind fun lo s => (h ρ s).bind fun hi s => slLF d lo hi s
theorem c_slL {te : TE} {f : Slots → S → R D} {tl th : TO} {g h : Slots → S → R (Option Int)} (he : Cmp K Z E te f) (hl : CmpO K Z E tl g) (hh : CmpO K Z E th h) : Cmp K Z E (L2.tSl (rSlL K) te tl th) (slLX f g h) := fun V H σ ρ s Q w p a =>
  he V H σ ρ s _ w p (Ans.bind a fun d s1 v V1 H1 n1 w1 r1 a1 =>
    hl V1 H1 σ ρ s1 _ w1 (p.later n1) (Ans.bind a1 fun lo s2 o2 V2 H2 n2 w2 e2 a2 =>
      hh V2 H2 σ ρ s2 _ w2 ((p.later n1).later n2) (Ans.bind a2 fun hi s3 o3 V3 H3 n3 w3 e3 a3 => by
        subst e2 e3
        replace r1 := Dv.mono (n2.g.trans n3.g) _ _ r1
        cases r1 with
        | @lst b vs ds hx hs => exact ⟨b, vs, rfl, SqL.of (w3.sv _ _ hx), new_lst w3 (hs.cut o2 o3) a3⟩
        | @rls b vs ds hx hs => exact ⟨b, vs, rfl, Evl.ex_l w3.sv hx, new_lst w3 (hs.cut o2 o3) a3⟩
        | _ => exact a3.elim)))
/-- tuple(x), len(x) of a list of one's own -/
def tupO (i : Nat) (ρ : Slots) (s : S) : R D := match ρ[i]? with
  | some (.ow (.ls ds)) => .ok (.tup ds) s
  | _ => .un
theorem c_tupO (i : Nat) : Cmp K Z E (tCB (fun xs H Q => ∃ p ys, xs = [.ref p] ∧ ((SqL K H p ys ∧ ∀ l, H l = none → Q (.ref l) (upd H l (.tup ys))) ∨ (SqT K H p ys ∧ Q (.ref p) H))) (tCons (tVar i) tNil)) (tupO i) := fun V H σ ρ s Q w p a => by
  unfold tupO at a
  cases e : ρ[i]? with
  | none =>
    rw [e] at a
    exact a.elim
  | some x =>
    cases x with
    | ow o =>
      cases o with
      | ls ds =>
        rw [e] at a
        obtain ⟨b, u, h1, h2, h3, _⟩ := p.ow i (.ls ds) e
        cases h3 with
        | @ls vs _ hs => exact ⟨.ref b, h1, b, vs, rfl, .inl ⟨SqL.of h2, new_tup w hs a⟩⟩
      | is c ns ds =>
        rw [e] at a
        exact a.elim
    | no =>
      rw [e] at a
      exact a.elim
    | fz d =>
      rw [e] at a
      exact a.elim
def lenO (i : Nat) (ρ : Slots) (s : S) : R D := match ρ[i]? with
  | some (.ow (.ls ds)) => .ok (.int ds.length) s
  | _ => .un
theorem c_lenO (i : Nat) : Cmp K Z E (tCB (fun xs H Q => ∃ p ys, xs = [.ref p] ∧ (SqL K H p ys ∨ SqT K H p ys) ∧ Q (.int ys.length) H) (tCons (tVar i) tNil)) (lenO i) := fun V H σ ρ s Q w p a => by
  unfold lenO at a
  cases e : ρ[i]? with
  | none =>
    rw [e] at a
    exact a.elim
  | some x =>
    cases x with
    | ow o =>
      cases o with
      | ls ds =>
        rw [e] at a
        obtain ⟨b, u, h1, h2, h3, _⟩ := p.ow i (.ls ds) e
        cases h3 with
        | @ls vs _ hs => exact ⟨.ref b, h1, b, vs, rfl, .inl (SqL.of h2), by rw [hs.len]; exact Ans.pure w (.int _) a⟩
      | is c ns ds =>
        rw [e] at a
        exact a.elim
    | no =>
      rw [e] at a
      exact a.elim
    | fz d =>
      rw [e] at a
      exact a.elim
/-- == and != of texts -/
def strF (neg : Bool) (x y : D) (s : S) : R D := match x, y with
  | .str a, .str b => .ok (.bl (if neg = true then !decide (a = b) else decide (a = b))) s
  | _, _ => .un
theorem dec_strs (a b : Str) : decide (V.str a = V.str b) = decide (a = b) := by
  rw [Bool.eq_iff_iff, decide_eq_true_eq, decide_eq_true_eq]
  exact ⟨fun h => by injection h, fun h => by rw [h]⟩
theorem c2_eqS : Cmp2 K Z E rEq (strF false) := fun V H s x y dx dy Q w rx ry a => by
  cases rx with
  | str a1 =>
    cases ry with
    | str b1 => exact ⟨rfl, by rw [dec_strs]; exact Ans.pure w (.bl _) a⟩
    | _ => exact a.elim
  | _ => exact a.elim
theorem c2_neS : Cmp2 K Z E rNe (strF true) := fun V H s x y dx dy Q w rx ry a => by
  cases rx with
  | str a1 =>
    cases ry with
    | str b1 => exact ⟨rfl, by rw [dec_strs]; exact Ans.pure w (.bl _) a⟩
    | _ => exact a.elim
  | _ => exact a.elim
end
end Pp

/-! GpA: generators that compute: what they yield as a list of data. -/
namespace Pp
open PySem PySem.Spec PyProof.Rows L2 Pg Pf LamX Gn
section
variable {K : PySem.W.Frag} {Z : Zn}
theorem tabs_less {T : List (Addr × Str)} {H H' : Hp} (h : Less H H') (t : Tabs T H) : Tabs T H' := fun p hp => by
  obtain ⟨ps, h1, h2, h3⟩ := t p hp
  have keep : ∀ b o, H b = some o → (∀ x, o ≠ .frz x (.ext fun _ => True)) → H' b = some o := fun b o e n => by
    rcases h b with z | ⟨_, x, z⟩
    · rw [z]; exact e
    · rw [e] at z
      exact absurd (Option.some.inj z) (n x)
  refine ⟨ps, keep _ _ h1 (fun x z => by cases z), h2, fun pos cv hc => ?_⟩
  obtain ⟨c, e1, e2⟩ := h3 pos cv hc
  exact ⟨c, e1, keep _ _ e2 (fun x z => by cases z)⟩
/-- these data come -/
def pactD (K : PySem.W.Frag) (Z : Zn) (out : List D) : Pact where
  n := out.length
  item := fun j x G H => (∃ d, out[j]? = some d ∧ Dv K Z G x d) ∧ NoT G ∧ Tabs Z.T H
  fin := fun H => Tabs Z.T H
  on := fun H => Tabs Z.T H
  onS := fun H H' e t => t.ext e
  less := fun j x G H H' l _ q => ⟨q.1, q.2.1, tabs_less l q.2.2⟩
  lessF := fun H H' l q => tabs_less l q
def EndY (K : PySem.W.Frag) (Z : Zn) (j : Nat) (V : Hp) (fl : Fl) (D : GE) : Prop := match fl with
  | .nx ρ => ∀ w V' H' σ, Same V V' → RepF K Z none w.2 w.1 V' H' σ ρ none → D.nx w j σ H'
  | .bk ρ => ∀ w V' H' σ, Same V V' → RepF K Z none w.2 w.1 V' H' σ ρ none → D.bk w j σ H'
  | .ct ρ => ∀ w V' H' σ, Same V V' → RepF K Z none w.2 w.1 V' H' σ ρ none → D.ct w j σ H'
  | .rt d => ∀ w V' H' v, Nx none none w.2 w.1 V' H' → Wd Z.T V' H' none → Dv K Z V' v d → D.rt w j v H'
def AnsY (K : PySem.W.Frag) (Z : Zn) (out : List D) (r : Option (List D × Fl)) (j : Nat) (V : Hp) (D : GE) : Prop := match r with
  | none => False
  | some (ys, fl) => (∃ rest, out.drop j = ys ++ rest) ∧ EndY K Z (j + ys.length) V fl D
def CmpY (K : PySem.W.Frag) (Z : Zn) (out : List D) (t : TGy) (f : Slots → Option (List D × Fl)) : Prop := ∀ (w : Hp × Hp) (j : Nat) (V H : Hp) (σ : L2.St) (ρ : Slots) (D : GE), RepF K Z none w.2 w.1 V H σ ρ none → AnsY K Z out (f ρ) j V D → t D w j σ H
theorem EndY.later {j : Nat} {V V1 : Hp} {fl : Fl} {D : GE} (e : Same V V1) (h : EndY K Z j V fl D) : EndY K Z j V1 fl D := by
  cases fl with
  | nx ρ => exact fun w V' H' σ q => h w V' H' σ (e.trans q)
  | bk ρ => exact fun w V' H' σ q => h w V' H' σ (e.trans q)
  | ct ρ => exact fun w V' H' σ q => h w V' H' σ (e.trans q)
  | rt d => exact h
theorem AnsY.later {out : List D} {r : Option (List D × Fl)} {j : Nat} {V V1 : Hp} {D : GE} (e : Same V V1) (h : AnsY K Z out r j V D) : AnsY K Z out r j V1 D := by
  cases r with
  | none => exact h
  | some p => exact ⟨h.1, h.2.later e⟩
/-- what a plain statement does -/
def plY (F : Slots → S → R Fl) (ρ : Slots) : Option (List D × Fl) := match F ρ none with
  | .ok fl none => some ([], fl)
  | _ => none
def yldY (f : Slots → S → R D) (ρ : Slots) : Option (List D × Fl) := match f (allS ρ) none with
  | .ok d none => some ([d], .nx (allS ρ))
  | _ => none
def nilY (ρ : Slots) : Option (List D × Fl) := some ([], .nx ρ)
def thenY (ys : List D) (r : Option (List D × Fl)) : Option (List D × Fl) := match r with
  | none => none
  | some (zs, fl) => some (ys ++ zs, fl)
def seqY (f g : Slots → Option (List D × Fl)) (ρ : Slots) : Option (List D × Fl) := match f ρ with
  | none => none
  | some (ys, .nx ρ') => thenY ys (g ρ')
  | some (ys, fl) => some (ys, fl)
def forYL (g : D → Slots → Option Slots) (F : Slots → Option (List D × Fl)) : List D → Slots → Option (List D × Fl)
  | [], ρ => some ([], .nx ρ)
  | d :: ds, ρ => match g d ρ with
    | none => none
    | some ρ1 => match F ρ1 with
      | none => none
      | some (ys, .nx ρ2) => thenY ys (forYL g F ds ρ2)
      | some (ys, .ct ρ2) => thenY ys (forYL g F ds ρ2)
      | some (ys, .bk ρ2) => some (ys, .nx ρ2)
      | some (ys, .rt d) => some (ys, .rt d)
def forY (fi : Slots → S → R (List D)) (g : D → Slots → Option Slots) (F : Slots → Option (List D × Fl)) (ρ : Slots) : Option (List D × Fl) := match fi ρ none with
  | .ok ds none => forYL g F ds ρ
  | _ => none
section
variable {out : List D} {t u : TGy} {f g : Slots → Option (List D × Fl)}
theorem cy_pl {t : TS} {F : Slots → S → R Fl} (h : CmpS K Z E0 t F) : CmpY K Z out (tPl t) (plY F) := fun w j V H σ ρ D r a => by
  refine h none w.2 w.1 V H σ ρ none (D.at w j) r ?_
  unfold plY at a
  split at a
  · rename_i fl e
    rw [e]
    obtain ⟨_, a⟩ := a
    cases fl with
    | nx ρ' => exact fun σ' V' H' q r' => a w V' H' σ' q r'
    | bk ρ' => exact fun σ' V' H' q r' => a w V' H' σ' q r'
    | ct ρ' => exact fun σ' V' H' q r' => a w V' H' σ' q r'
    | rt d => exact fun v V' H' n w' q => a w V' H' v n w' q
  · exact a.elim
theorem cy_yield {te : TE} {fe : Slots → S → R D} (h : Cmp K Z E0 te fe) : CmpY K Z out (tGy (pactD K Z out) te) (yldY fe) := fun w j V H σ ρ D r a => by
  refine h _ H σ (allS ρ) none _ r.hW r.hP ?_
  unfold yldY at a
  split at a
  · rename_i d e
    rw [e]
    obtain ⟨⟨rest, eo⟩, a⟩ := a
    refine fun v V' H' n w' q => ?_
    have n0 := r.out n
    have lt : j < out.length := by
      have := congrArg List.length eo
      rw [List.length_drop] at this
      simp at this
      omega
    have at_ : out[j]? = some d := by
      have : (out.drop j)[0]? = some d := by rw [eo]; rfl
      rw [List.getElem?_drop] at this
      simpa using this
    refine ⟨fun p o z nt => n0.h p o z nt (fun i => i.elim), lt, V', ⟨⟨d, at_, q⟩, w'.nt, w'.tb⟩, w'.sv, ⟨n0.g, n0.n⟩, fun H2 s2 on => ?_⟩
    refine a (H2, V') V' H2 σ (r.sub.trans n.g) ⟨Nx.refl _ _ _, ⟨s2, w'.nt, on, trivial⟩, ⟨fun i d e => (r.hP.later n).fz i d e, fun i o e => (allS_ow e).elim, (r.hP.later n).ln⟩, fun i o a e _ => (allS_ow e).elim, fun i k o u a _ e _ _ _ => (allS_ow e).elim, (r.hP.later n).ln⟩
  · exact a.elim
theorem cy_nil : CmpY K Z out tG0 nilY := fun w j V H σ ρ D r a => a.2 w V H σ (Same.refl _) r
theorem drop_app {ys zs rest : List D} {j : Nat} (h : out.drop j = (ys ++ zs) ++ rest) : out.drop (j + ys.length) = zs ++ rest := by
  rw [← List.drop_drop, h, List.append_assoc, List.drop_left]
theorem AnsY.then {ys : List D} {r : Option (List D × Fl)} {j : Nat} {V : Hp} {D : GE} (h : AnsY K Z out (thenY ys r) j V D) : (∃ rest, out.drop j = ys ++ rest) ∧ AnsY K Z out r (j + ys.length) V D := by
  cases r with
  | none => exact h.elim
  | some p =>
    obtain ⟨zs, fl⟩ := p
    obtain ⟨⟨rest, e⟩, h⟩ := h
    refine ⟨⟨zs ++ rest, by rw [e, List.append_assoc]⟩, ⟨rest, drop_app e⟩, ?_⟩
    have : j + (ys ++ zs).length = j + ys.length + zs.length := by rw [List.length_append]; omega
    rw [this] at h
    exact h
theorem cy_seq (h1 : CmpY K Z out t f) (h2 : CmpY K Z out u g) : CmpY K Z out (tGT t u) (seqY f g) := fun w j V H σ ρ D r a => by
  refine h1 w j V H σ ρ _ r ?_
  unfold seqY at a
  cases e : f ρ with
  | none => rw [e] at a; exact a
  | some p =>
    obtain ⟨ys, fl⟩ := p
    rw [e] at a
    cases fl with
    | nx ρ' =>
      obtain ⟨b, c⟩ := AnsY.then a
      exact ⟨b, fun w' V' H' σ' q r' => h2 w' _ V' H' σ' ρ' D r' (c.later q)⟩
    | bk ρ' => exact a
    | ct ρ' => exact a
    | rt d => exact a
theorem cy_for {wi : TI} {fi : Slots → S → R (List D)} {gt : TG} {tg : D → Slots → Option Slots} {is : List Nat} (hi : CmpI K Z E0 wi fi) (hg : CmpG gt tg is K Z) (hb : CmpY K Z out t f) : CmpY K Z out (tGFor wi gt t) (forY fi tg f) := fun w j V H σ ρ D r a => by
  unfold forY at a
  cases e : fi ρ none with
  | ok ds s1 =>
    cases s1 with
    | some _ => rw [e] at a; exact a.elim
    | none =>
      rw [e] at a
      have a : AnsY K Z out (forYL tg f ds ρ) j V D := a
      refine hi V H σ ρ none _ r.w r.p ?_
      rw [e]
      refine fun J V1 H1 n1 w1 it => ?_
      refine ⟨fun i m w j σ H => m = ds.length - i ∧ i ≤ ds.length ∧ ∃ V2 ρ2, RepF K Z none w.2 w.1 V2 H σ ρ2 none ∧ Same V1 V2 ∧ AnsY K Z out (forYL tg f (ds.drop i) ρ2) j V2 D, ⟨ds.length, by simp, Nat.zero_le _, V1, ρ, r.on n1 w1, Same.refl _, a.later n1.g⟩, ?_⟩
      rintro i m w j σ2 H2 ⟨rfl, hi2, V2, ρ2, r2, e2, a2⟩
      by_cases l : i < ds.length
      · refine .inr ⟨it.go i V2 H2 e2 r2.w.sv l, fun w3 j3 σ3 H3 => ∃ V3 ρ3, RepF K Z none w3.2 w3.1 V3 H3 σ3 ρ3 none ∧ Same V1 V3 ∧ AnsY K Z out (forYL tg f (ds.drop (i + 1)) ρ3) j3 V3 D, fun w3 j3 σ3 H3 q => ⟨ds.length - (i + 1), by omega, rfl, l, q⟩, fun x H3 y => ?_⟩
        obtain ⟨d, ed, y⟩ := it.yld i V2 H2 x H3 e2 r2.w.sv l y
        have dd : ds.drop i = d :: ds.drop (i + 1) := by
          rw [List.drop_eq_getElem_cons l]
          rw [List.getElem?_eq_getElem l] at ed
          rw [Option.some.inj ed]
        rw [dd] at a2
        have go : ∀ V3, Same V2 V3 → RepF K Z none w.2 w.1 V3 H3 σ2 ρ2 none → Dv K Z V3 x d → gt x σ2 H3 fun σ4 H4 => t { D with nx := fun w3 j3 σ3 H3 => ∃ V3 ρ3, RepF K Z none w3.2 w3.1 V3 H3 σ3 ρ3 none ∧ Same V1 V3 ∧ AnsY K Z out (forYL tg f (ds.drop (i + 1)) ρ3) j3 V3 D, ct := fun w3 j3 σ3 H3 => ∃ V3 ρ3, RepF K Z none w3.2 w3.1 V3 H3 σ3 ρ3 none ∧ Same V1 V3 ∧ AnsY K Z out (forYL tg f (ds.drop (i + 1)) ρ3) j3 V3 D, bk := D.nx } w j σ4 H4 := by
          intro V3 e3 r3 hd
          refine hg (fun σ ρ => RepF K Z none w.2 w.1 V3 H3 σ ρ none) V3 H3 r3.w.sv (fun σ ρ i v d _ q hd => q.set hd) σ2 ρ2 x d _ r3 hd ?_
          have a3 := AnsY.later e3 a2
          unfold forYL at a3
          cases eg : tg d ρ2 with
          | none => rw [eg] at a3; exact a3
          | some ρ4 =>
            rw [eg] at a3
            refine fun σ4 r4 => hb w j V3 H3 σ4 ρ4 _ r4 ?_
            cases ef : f ρ4 with
            | none => simp only [ef] at a3; exact a3
            | some p =>
              obtain ⟨ys, fl⟩ := p
              simp only [ef] at a3
              cases fl with
              | nx ρ5 =>
                obtain ⟨b, c⟩ := AnsY.then a3
                exact ⟨b, fun w' V' H' σ' q r' => ⟨V', ρ5, r', (e2.trans e3).trans q, c.later q⟩⟩
              | ct ρ5 =>
                obtain ⟨b, c⟩ := AnsY.then a3
                exact ⟨b, fun w' V' H' σ' q r' => ⟨V', ρ5, r', (e2.trans e3).trans q, c.later q⟩⟩
              | bk ρ5 => exact a3
              | rt d => exact a3
        rcases y with ⟨rfl, hd⟩ | ⟨T, xs, rfl, nT, rfl, hd⟩
        · exact go V2 (Same.refl _) r2 hd
        · exact go _ (Pf.Same.new (r2.w.sv.free nT)) (r2.on (Nx.new r2.w nT) (r2.w.new nT fun _ z => by cases z)) hd
      · have e : i = ds.length := by omega
        subst e
        rw [List.drop_length] at a2
        obtain ⟨_, a2⟩ := a2
        have a2 : ∀ w V' H' σ, Same V2 V' → RepF K Z none w.2 w.1 V' H' σ ρ2 none → D.nx w j σ H' := a2
        exact .inl ⟨it.stop V2 H2 e2 r2.w.sv, a2 w V2 H2 σ2 (Same.refl _) r2⟩
  | ex _ _ => rw [e] at a; exact a.elim
  | un => rw [e] at a; exact a.elim
  | dr _ _ => rw [e] at a; exact a.elim
  | an _ _ => rw [e] at a; exact a.elim
end
end
end Pp

/-! GpB: generator defs as functions on data; loops, list(..), comprehensions over them. -/
namespace Pp
open PySem PySem.Spec PyProof.Rows L2 Pg Pf LamX Gn
/-! ### a generator def by its body -/
def runY (f : Slots → Option (List D × Fl)) (n : Nat) (ds : List D) : Option (List D) := match f (st0 n ds) with
  | some (out, .nx _) => some out
  | some (out, .rt .non) => some out
  | _ => none
/-- a generator def that yields F -/
def spYD (K : PySem.W.Frag) (Z : Zn) (n : Nat) (F : List D → Option (List D)) : SpY := fun vs H T G => vs.length = n ∧ ∃ ds out, Same G H ∧ NoT G ∧ Tabs Z.T H ∧ DvA K Z G vs ds ∧ F ds = some out ∧ T = pactD K Z out
section
variable {P : Program} {w : World} {K : PySem.W.Frag} {mg : Str → Option Value} {base : Heap} {k : Nat} {f : Addr} {fd : FuncData} {N ps : List Str} {x qual : Str} {st : Stmt} {Z : Zn} {Fb : Slots → Option (List D × Fl)}
theorem room_any {A : Around} {e e' : PySem.Env} (h : Room k (A.deeper e)) : Room k (A.deeper e') := ⟨h.hd, h.dp, h.un⟩
theorem fnY (Fu : Fun K x qual st f fd) (S : GScope N ps (defScope st)) (pl : Plain (defScope st)) (cl : ∀ n, cellsFrom n (defScope st).names [] = []) (hl : ps.length ≤ N.length)
    (hb : ∀ (f : Addr) (cd : Value) (A : Around) (outer : List PySem.Env) (n0 : Nat) (a : Addr) (go : Obj) (os : OsState) (out : List D), (∀ e, Room k (A.deeper e)) → Fit ⟨P, w, K, mg, base, N, qual, defScope st, f, cd, A, outer, n0, a, go, os⟩ →
      ∃ t, Gn.GSs ⟨P, w, K, mg, base, N, qual, defScope st, f, cd, A, outer, n0, a, go, os⟩ (pactD K Z out) (defBody st) t ∧ CmpY K Z out t Fb) :
    GnOk P w K mg base (k + 1) f fd ps (spYD K Z ps.length (runY Fb N.length)) := by
  obtain ⟨oc, od, kV, doc, pm, an, cdv, ct, osl, rfl, lk, hcd⟩ := Fu.ex
  refine gnok_of lk hcd S pl cl (fun vs H T G h => ⟨h.1, let ⟨_, _, _, e, _⟩ := h; e⟩) fun g vs H T G e1 e2 e3 e4 e5 e6 e7 e8 hr ft hsp => ?_
  obtain ⟨l, ds, out, sm, nt, tb, rv, eF, rfl⟩ := hsp
  obtain ⟨gP, gw, gK, gmg, gbase, gN, gqual, gscope, gf, gcd, gA, gouter, gn0, ga, ggo, gos⟩ := g
  have e1' : P = gP := e1.symm
  have e2' : w = gw := e2.symm
  have e3' : K = gK := e3.symm
  have e4' : mg = gmg := e4.symm
  have e5' : base = gbase := e5.symm
  have e6' : N = gN := e6.symm
  have e7' : qual = gqual := e7.symm
  have e8' : defScope st = gscope := e8.symm
  subst e1' e2' e3' e4' e5' e6' e7' e8'
  obtain ⟨t, h1, h2⟩ := hb gf gcd gA gouter gn0 ga ggo gos out (fun e => room_any hr) ft
  refine ⟨t, h1, fun H2 sm2 on => h2 (H2, G) 0 G H2 _ (st0 N.length ds) _ (start_rep (s := none) ⟨sm2, nt, on, trivial⟩ rv (by omega)) ?_⟩
  have fin : ∀ (w : Hp × Hp) (V' H' : Hp), Nx none none w.2 w.1 V' H' → Wd Z.T V' H' none → ExtN w.1 H' ∧ Tabs Z.T H' := fun w V' H' n w' => ⟨fun p o z nt => n.h p o z nt (fun i => i.elim), w'.tb⟩
  unfold runY at eF
  split at eF
  · rename_i o ρ e
    have := Option.some.inj eF
    subst this
    rw [e]
    refine ⟨⟨[], by simp⟩, fun w V' H' σ q r' => ?_⟩
    obtain ⟨a1, a2⟩ := fin w V' H' r'.nx r'.w
    exact ⟨by show 0 + o.length = o.length; omega, a1, a2⟩
  · rename_i o e
    have := Option.some.inj eF
    subst this
    rw [e]
    refine ⟨⟨[], by simp⟩, fun w V' H' v n w' q => ?_⟩
    obtain ⟨a1, a2⟩ := fin w V' H' n w'
    cases q
    exact ⟨rfl, by show 0 + o.length = o.length; omega, a1, a2⟩
  · cases eF
end
/-! ### who consumes it -/
def CmpGn (K : PySem.W.Frag) (Z : Zn) (E : XK) (t : Gn.TGn) (f : Slots → S → R (List D)) : Prop := ∀ V H σ ρ s (Q : Pact → Hp → Hp → Prop), Wd Z.T V H s → Rep K Z V H σ ρ s → Ans K Z E (fun V' (x : Pact × Hp) ds => x = (pactD K Z ds, V')) (f ρ s) s V H (fun x H' => Q x.1 x.2 H') → t σ H Q
def yF (n : Nat) (F : List D → Option (List D)) (ds : List D) (s : S) : R (List D) := if ds.length = n then (match F ds with
  | some out => .ok out s
  | none => .un) else .un
section
variable {K : PySem.W.Frag} {Z : Zn} {E : XK} {s : S} {V H V1 H1 H' G G' : Hp} {T : List (Addr × Str)}
theorem c_callY {n : Nat} {F : List D → Option (List D)} {ua : TA} {fa : Slots → S → R (List D)} (ha : CmpA K Z E ua fa) : CmpGn K Z E (tGnC (spYD K Z n F) [] ua) (rgI (yF n F) fa) := fun V H σ ρ s Q w p a =>
  ha V H σ ρ s _ w p (Ans.bind a fun ds s1 vs V1 H1 n1 w1 r1 a1 => by
    unfold yF at a1
    by_cases l : ds.length = n
    · rw [if_pos l] at a1
      cases e : F ds with
      | none => rw [e] at a1; exact a1.elim
      | some out =>
        rw [e] at a1
        exact ⟨pactD K Z out, V1, ⟨by rw [List.append_nil, r1.len]; exact l, ds, out, w1.sv, w1.nt, w1.tb, by rw [List.append_nil]; exact r1, e, rfl⟩, Ans.pure (v := (pactD K Z out, V1)) w1 rfl a1⟩
    · rw [if_neg l] at a1
      exact a1.elim)
/-- keywords alone -/
theorem c_callYK {n m : Nat} {F : List D → Option (List D)} {ua : TA} {fa : Slots → S → R (List D)} (hn : n = m) (ha : CmpA K Z E ua fa) : CmpGn K Z E (fun σ H R => ua σ H fun zs H1 => zs.length = m ∧ ∃ T G, spYD K Z n F zs H1 T G ∧ R T G H1) (rgI (yF n F) fa) := fun V H σ ρ s Q w p a =>
  ha V H σ ρ s _ w p (Ans.bind a fun ds s1 vs V1 H1 n1 w1 r1 a1 => by
    unfold yF at a1
    by_cases l : ds.length = n
    · rw [if_pos l] at a1
      cases e : F ds with
      | none => rw [e] at a1; exact a1.elim
      | some out =>
        rw [e] at a1
        exact ⟨by rw [r1.len, l, hn], pactD K Z out, V1, ⟨by rw [r1.len]; exact l, ds, out, w1.sv, w1.nt, w1.tb, r1, e, rfl⟩, Ans.pure (v := (pactD K Z out, V1)) w1 rfl a1⟩
    · rw [if_neg l] at a1
      exact a1.elim)
theorem mr_ext (w : Wd T V H s) (ext : ExtN H H') {V' : Hp} (nV : ∀ p, V' p ≠ none → V p ≠ none ∨ Fre H p) : MR V' H' s := by
  have m := w.mr
  cases s with
  | none => exact trivial
  | some k =>
    obtain ⟨⟨n, a1, b1⟩, ⟨cs, a2, b2⟩, ⟨gs, a3, b3⟩, a4, a5, a6, a7⟩ := m
    have no : ∀ p o, H p = some o → (∀ ps, o ≠ .tbl ps) → V p = none → V' p = none := fun p o e nt v => by
      cases z : V' p with
      | none => rfl
      | some u =>
        rcases nV p (by rw [z]; simp) with y | y
        · exact absurd v y
        · exact absurd rfl (fre_ne e nt y)
    exact ⟨⟨n, ext _ _ a1 (fun _ z => by cases z), b1⟩, ⟨cs, ext _ _ a2 (fun _ z => by cases z), b2⟩, ⟨gs, ext _ _ a3 (fun _ z => by cases z), b3⟩, no _ _ a1 (fun _ z => by cases z) a4, no _ _ a2 (fun _ z => by cases z) a5, no _ _ a3 (fun _ z => by cases z) a6, a7⟩
theorem fre_ext (ext : ExtN H H') {p : Addr} (f : Fre H' p) : Fre H p := by
  cases q : H p with
  | none => exact .inl q
  | some o =>
    by_cases n : ∃ ps, o = .tbl ps
    · obtain ⟨ps, rfl⟩ := n
      exact .inr ⟨ps, q⟩
    · exact absurd rfl (fre_ne (ext p o q fun ps y => n ⟨ps, y⟩) (fun ps y => n ⟨ps, y⟩) f)
/-- behind a wake: one knows what one knew and what the generator builds upon -/
theorem stepG (w : Wd T V H s) (sg : Same G V) (ext : ExtN H H') (gr : Grow (H, G) G') (sm : Same G' H') (nt : NoT G') (tb : Tabs T H') : ∃ V3, Nx s s V H V3 H' ∧ Wd T V3 H' s ∧ Same G' V3 := by
  have vH : Same V H' := fun p o e => ext p o (w.sv p o e) fun ps z => w.nt p ps (z ▸ e)
  have nV : ∀ p, (match V p with | some o => some o | none => G' p) ≠ none → V p ≠ none ∨ Fre H p := fun p z => by
    cases e : V p with
    | some o => exact .inl (by simp)
    | none =>
      rw [e] at z
      rcases gr.2 p z with y | y | y
      · cases e2 : G p with
        | none => exact absurd e2 y
        | some u => rw [sg p u e2] at e; cases e
      · exact .inr (.inl y)
      · exact .inr (.inr y)
  refine ⟨fun p => match V p with | some o => some o | none => G' p, ⟨rfl, fun p o e => by simp only [e], fun p o e n _ => ext p o e n, nV, fun p f => fre_ext ext f⟩, ⟨fun p o e => ?_, fun p ps e => ?_, tb, mr_ext w ext nV⟩, fun p o e => ?_⟩
  · cases z : V p with
    | some u => simp only [z] at e; rw [← e]; exact vH p u z
    | none => simp only [z] at e; exact sm p o e
  · cases z : V p with
    | some u => simp only [z] at e; exact w.nt p ps (z.trans e)
    | none => simp only [z] at e; exact nt p ps e
  · cases z : V p with
    | some u =>
      have h1 := vH p u z
      rw [sm p o e] at h1
      simp only [z]
      exact h1.symm
    | none => simp only [z]; exact e
theorem stepF (w : Wd T V H s) (ext : ExtN H H') (tb : Tabs T H') : Nx s s V H V H' ∧ Wd T V H' s :=
  ⟨⟨rfl, Same.refl _, fun p o e n _ => ext p o e n, fun p e => .inl e, fun p f => fre_ext ext f⟩, ⟨fun p o e => ext p o (w.sv p o e) fun ps z => w.nt p ps (z ▸ e), w.nt, tb, mr_ext w ext fun p e => .inl e⟩⟩
variable {wg : Gn.TGn} {fi : Slots → S → R (List D)} {tg : TG} {g : D → Slots → Option Slots} {is vs : List Nat} {t : TS} {F : Slots → S → R Fl}
theorem cs_forG (hi : CmpGn K Z E wg fi) (hg : CmpG tg g is K Z) (hb : CmpS K Z E t F) : CmpS K Z E (tForG wg tg t) (forS fi g F) := fun s0 G0 H0 G H σ ρ s D r a => by
  refine hi G H σ ρ s _ r.w r.p (AnsS.bindF r a fun ds s1 x V1 H1 n1 w1 ex a1 => ?_)
  subst ex
  refine ⟨fun i G σ H => i ≤ ds.length ∧ ∃ G2 ρ2 s2, RepF K Z s0 G0 H0 G2 H σ ρ2 s2 ∧ Same G G2 ∧ AnsS K Z E (forL g F (ds.drop i) ρ2 s2) s0 G0 H0 G2 D, ⟨Nat.zero_le _, V1, ρ, s1, r.on n1 w1, Same.refl _, a1⟩, ?_⟩
  rintro i Gn σ2 H2 smn ⟨hi2, G2, ρ2, s2, r2, e2, a2⟩
  refine ⟨r2.w.tb, ?_⟩
  by_cases l : i < ds.length
  · refine .inr ⟨l, fun x G' H3 ext gr sm it => ?_⟩
    obtain ⟨⟨d, ed, dv⟩, nt, tb⟩ := it
    obtain ⟨G3, n3, w3, e3⟩ := stepG r2.w e2 ext gr sm nt tb
    have r3 := r2.on n3 w3
    have hd := Dv.mono e3 _ _ dv
    have dd : ds.drop i = d :: ds.drop (i + 1) := by
      rw [List.drop_eq_getElem_cons l]
      rw [List.getElem?_eq_getElem l] at ed
      rw [Option.some.inj ed]
    rw [dd] at a2
    refine hg (fun σ ρ => RepF K Z s0 G0 H0 G3 H3 σ ρ s2) G3 H3 r3.w.sv (fun σ ρ i v d _ q hd => q.set hd) σ2 ρ2 x d _ r3 hd ?_
    have a3 := AnsS.later n3.g a2
    unfold forL at a3
    cases eg : g d ρ2 with
    | none =>
      rw [eg] at a3
      exact a3
    | some ρ4 =>
      rw [eg] at a3
      refine fun σ4 r4 => hb s0 G0 H0 G3 H3 σ4 ρ4 s2 _ r4 ?_
      replace a3 : AnsS K Z E ((F ρ4 s2).bind (forK fun ρ s => forL g F (ds.drop (i + 1)) ρ s)) s0 G0 H0 G3 D := a3
      refine AnsS.bindS a3 fun fl s5 a3 => ?_
      cases fl with
      | nx ρ5 => exact fun σ5 G5 H5 q r5 => ⟨(e3.trans q).trans r5.w.sv, l, G5, ρ5, s5, r5, e3.trans q, AnsS.later q a3⟩
      | ct ρ5 => exact fun σ5 G5 H5 q r5 => ⟨(e3.trans q).trans r5.w.sv, l, G5, ρ5, s5, r5, e3.trans q, AnsS.later q a3⟩
      | bk ρ5 => exact a3
      | rt d => exact a3
  · have e : i = ds.length := by omega
    subst e
    rw [List.drop_length] at a2
    refine .inl ⟨rfl, fun H' ext fin => ?_⟩
    obtain ⟨n3, w3⟩ := stepF r2.w ext fin
    exact a2 σ2 G2 H' (Same.refl _) (r2.on n3 w3)
/-- list(..) of a generator -/
def gnL (f : Slots → S → R (List D)) (ρ : Slots) (s : S) : R (List D) := (f ρ s).bind fun ds s => if fits ds.length = true then .ok ds s else .un
theorem cl_listG (hi : CmpGn K Z E wg fi) : CmpL K Z E (tListGn wg) (gnL fi) := fun V H σ ρ s Q w p a => by
  refine hi V H σ ρ s _ w p (AnsL.bind a fun ds s1 x V1 H1 n1 w1 ex a1 => ?_)
  subst ex
  by_cases fz : fits ds.length = true
  case neg =>
    rw [if_neg fz] at a1
    exact a1.elim
  rw [if_pos fz] at a1
  intro L hL
  have gL : V1 L = none := w1.sv.free hL
  have iL : ¬ inS s1 L := fun y => w1.mr.inH y hL
  refine ⟨fun i xs G H => i ≤ ds.length ∧ ∃ V2, Nx s1 s1 V1 H1 V2 H ∧ Wd Z.T V2 H s1 ∧ Same G V2 ∧ V2 L = none ∧ DvA K Z V2 xs (ds.take i), fun H' => ∃ V2 xs, Nx s1 s1 V1 H1 V2 H' ∧ Wd Z.T V2 H' s1 ∧ V2 L = none ∧ H' L = some (.lst xs) ∧ DvA K Z V2 xs ds,
    ⟨Nat.zero_le _, V1, Nx.up hL, w1.up hL, Same.refl _, gL, .nil⟩, ?_, fun H' ⟨V2, xs, n2, w2, v2, h2, d2⟩ => a1 L xs V2 H' n2 w2 (.inl hL) v2 iL h2 d2⟩
  rintro i xs Gn H2 smn gS hS ⟨hi2, V2, n2, w2, e2, v2, d2⟩
  refine ⟨w2.tb, ?_⟩
  by_cases l : i < ds.length
  · refine .inr ⟨l, ?_, fun x G' H3 ext gr sm it => ?_⟩
    · rw [d2.len, List.length_take]
      exact Nat.lt_of_le_of_lt (Nat.min_le_left _ _) (Nat.lt_of_lt_of_le l (fits_le fz))
    · obtain ⟨⟨d, ed, dv⟩, nt, tb⟩ := it
      obtain ⟨V3, n3, w3, e3⟩ := stepG w2 e2 ext gr sm nt tb
      have h3 := ext L _ hS fun _ z => by cases z
      have v3 := n3.not v2 hS (fun _ z => by cases z)
      refine ⟨l, V3, (n2.trans n3).mut (.inl hL), w3.mut h3 v3 iL (fun _ z => by cases z) (fun _ z => by cases z), e3, v3, ?_⟩
      have et : ds.take (i + 1) = ds.take i ++ [d] := by
        rw [List.take_succ, ed]; rfl
      rw [et]
      exact (DvA.mono n3.g _ _ d2).snoc (Dv.mono e3 _ _ dv)
  · have e : i = ds.length := by omega
    subst e
    refine .inl ⟨rfl, fun H' ext fin => ?_⟩
    obtain ⟨n3, w3⟩ := stepF w2 ext fin
    rw [List.take_length] at d2
    exact ⟨V2, xs, n2.trans n3, w3, v2, ext L _ hS (fun _ z => by cases z), d2⟩
end
/-- a generator def of the module, called by its name -/
structure CalY (P : Program) (w : World) (K : PySem.W.Frag) (mg : Str → Option Value) (base : Heap) (Z : Zn) (k : Nat) (x : Str) (n : Nat) (F : List D → Option (List D)) : Prop where
  ex : ∃ (f : Addr) (fd : FuncData) (ps : List Str), GnOk P w K mg base k f fd ps (spYD K Z n F) ∧ mg x = some (.ref f) ∧ PySem.W.keepIn K (.ref f) = true ∧ Binds K fd ps []
/-- .. with keywords -/
structure CalYK (P : Program) (w : World) (K : PySem.W.Frag) (mg : Str → Option Value) (base : Heap) (Z : Zn) (k : Nat) (x : Str) (n : Nat) (ks : List Str) (F : List D → Option (List D)) : Prop where
  ex : ∃ (f : Addr) (fd : FuncData) (ps : List Str), GnOk P w K mg base k f fd ps (spYD K Z n F) ∧ mg x = some (.ref f) ∧ PySem.W.keepIn K (.ref f) = true ∧ KBn K fd ps 0 ks (fun _ ws => ws) (fun _ zs => zs)
section
variable {X : Cx} {Z : Zn} {k j n : Nat} {x : Str} {F : List D → Option (List D)} {p pos : Pos}
theorem pgn_c {e : Expr} {es : List Expr} {t : TA} (c : CalY X.prog X.w X.K X.mg X.base Z k x n F) (hr : Room j X.A) (hk : k ≤ j) (hg : Gl X x) (ha : PA X (e :: es) t) (hdb : (x == ("__debug__" : Str)) = false := by decide) (he : starEach (e :: es) X.env = (false, eval e X.env) :: starEach es X.env := by rfl) (hpl : (backTo pos (starEach es X.env)).any (·.1) = false := by rfl) :
    PGn X k (.Call (.Name x p) (e :: es) [] pos) (tGnC (spYD X.K Z n F) [] t) := by
  obtain ⟨f, fd, ps, G, hm, kp, hb⟩ := c.ex
  exact pgn_call G (hr.mono hk) hg hm kp hb .nil ha hdb he hpl
theorem pgn_cK {ks : List Str} {kws : List Keyword} {tk : TA} (c : CalYK X.prog X.w X.K X.mg X.base Z k x n ks F) (hr : Room j X.A) (hk : k ≤ j) (hg : Gl X x) (hw : PK X kws tk) (hnm : (backToKw pos (keywordEach kws X.env)).filterMap (·.1) = ks := by rfl) (hpl : ((backTo pos (starEach [] X.env)).any (·.1) || (backToKw pos (keywordEach kws X.env)).any (·.1.isNone)) = false := by rfl)
    (hall : (backToKw pos (keywordEach kws X.env)).all (·.1.isSome) = true := by rfl) (hdb : (x == ("__debug__" : Str)) = false := by decide) :
    PGn X k (.Call (.Name x p) [] kws pos) (fun σ H R => tk σ H fun zs H1 => zs.length = ks.length ∧ ∃ T G, spYD X.K Z n F zs H1 T G ∧ R T G H1) := by
  obtain ⟨f, fd, ps, G, hm, kp, hb⟩ := c.ex
  exact pgn_callK0 G (hr.mono hk) hg hm kp hb hw hnm hpl hall hdb
end
end Pp

/-! GpC: comprehensions over generators. -/
namespace Pp
open PySem PySem.Spec PyProof.Rows L2 Pg Pf LamX Gn
section
variable {K : PySem.W.Frag} {Z : Zn} {E : XK} {s : S} {V H : Hp} {wg : Gn.TGn} {fi : Slots → S → R (List D)} {g : TG} {gg : D → Slots → Option Slots} {is vs : List Nat} {tt : TT} {p : Slots → S → R Bool} {te : TE} {f : Slots → S → R D}
theorem cl_lcG (hi : CmpGn K Z E wg fi) (hg : CmpG g gg is K Z) (his : ∀ i ∈ is, i ∈ vs) (hp : CmpT K Z E0 tt p) (hf : Cmp K Z E0 te f) : CmpL K Z E (tLcG wg g tt te vs) (lcF fi gg p f vs) := by
  intro V H σ ρ s Q w q a
  refine hi V H σ ρ s _ w q (AnsL.bind a fun ds s1 x V1 H1 n1 w1 ex a1 => ?_)
  subst ex
  by_cases fz : fits ds.length = true
  case neg =>
    rw [if_neg fz] at a1
    exact a1.elim
  rw [if_pos fz] at a1
  intro L hL
  have gL : V1 L = none := w1.sv.free hL
  have iL : ¬ inS s1 L := fun y => w1.mr.inH y hL
  have q1 := q.later n1
  -- behind i turns
  refine ⟨fun i G H2 => i ≤ ds.length ∧ ∃ V2 s2 acc es, Nx s1 s2 V1 H1 V2 H2 ∧ Wd Z.T V2 H2 s2 ∧ Same G V2 ∧ V2 L = none ∧ H2 L = some (.lst acc) ∧ DvA K Z V2 acc es ∧ es.length ≤ i ∧
    AnsL K Z E ((lcL gg p f (wipeS ρ vs) (ds.drop i) s2).bind fun ys s => .ok (es ++ ys) s) s1 V1 H1 Q, ⟨Nat.zero_le _, V1, s1, [], [], Nx.up hL, w1.up hL, Same.refl _, gL, upd_same, .nil, Nat.zero_le _, ?_⟩, ?_⟩
  · rw [List.drop_zero]
    exact AnsL.app a1 rfl
  rintro i Gn H2 smn ⟨hi2, V2, s2, acc, es, n2, w2, e2, v2, h2, d2, l2, a2⟩
  refine ⟨w2.tb, ?_⟩
  by_cases l : i < ds.length
  · refine .inr ⟨l, fun x G' H3 ext gr sm it => ?_⟩
    obtain ⟨⟨d, ed, dv⟩, nt, tb⟩ := it
    obtain ⟨V3, n3, w3, e3⟩ := stepG w2 e2 ext gr sm nt tb
    have hd := Dv.mono e3 _ _ dv
    have v3 := n3.not v2 h2 (fun _ z => by cases z)
    have h3 := ext L _ h2 (fun _ z => by cases z)
    have dd : ds.drop i = d :: ds.drop (i + 1) := by
      rw [List.drop_eq_getElem_cons l]
      rw [List.getElem?_eq_getElem l] at ed
      rw [Option.some.inj ed]
    rw [dd] at a2
    have iL2 : ¬ inS s2 L := by rw [inS_of n2.a]; exact iL
    have q3 := (q1.later n2).later n3
    have qw := q3.wipe vs
    refine hg (fun σ' ρ' => Rep K Z V3 H3 σ' ρ' s2 ∧ wipe σ' vs = wipe σ vs) V3 H3 w3.sv (fun σ' ρ' j v d' hj ⟨y1, y2⟩ hd' => ⟨y1.set hd', by rw [wipe_set (his j hj)]; exact y2⟩) (wipe σ vs) (wipeS ρ vs) x d _ ⟨qw, wipe_wipe σ vs vs fun _ h => h⟩ hd ?_
    unfold lcL at a2
    cases eg : gg d (wipeS ρ vs) with
    | none =>
      rw [eg] at a2
      exact a2
    | some ρ4 =>
      rw [eg] at a2
      intro σ4 ⟨q4, e4⟩
      refine ⟨e4, ?_⟩
      replace a2 : AnsL K Z E (((noex (p ρ4 s2)).bind fun b s => if b = true then (noex (f ρ4 s)).bind fun y s => (lcL gg p f (wipeS ρ vs) (ds.drop (i + 1)) s).bind fun ys s => .ok (y :: ys) s else lcL gg p f (wipeS ρ vs) (ds.drop (i + 1)) s).bind fun ys s => .ok (es ++ ys) s) s1 V1 H1 Q := a2
      rw [bind_assoc'] at a2
      refine hp V3 H3 σ4 ρ4 s2 _ w3 q4 (Ans.noex (AnsL.bindAt (n2.trans n3) a2 fun b s5 c V5 H5 n5 w5 ec a2 => ?_))
      subst ec
      have n25 := n3.trans n5
      have h5 := n5.h L _ h3 (fun _ z => by cases z) iL2
      have v5 := n5.not v3 h3 (fun _ z => by cases z)
      by_cases hb : c = true
      · rw [if_pos hb] at a2 ⊢
        rw [bind_assoc'] at a2
        refine hf V5 H5 σ4 ρ4 s5 _ w5 (q4.later n5) (Ans.noex (AnsL.bindAt (n2.trans n25) a2 fun yd s6 yv V6 H6 n6 w6 hy a2 => ?_))
        have iL5 : ¬ inS s5 L := by rw [inS_of n5.a]; exact iL2
        have h6 := n6.h L _ h5 (fun _ z => by cases z) iL5
        have v6 := n6.not v5 h5 (fun _ z => by cases z)
        have iL6 : ¬ inS s6 L := by rw [inS_of n6.a]; exact iL5
        have n16 := (n2.trans n25).trans n6
        have w7 : Wd Z.T V6 (upd H6 L (.lst (acc ++ [yv]))) s6 := w6.mut h6 v6 iL6 (fun _ z => by cases z) (fun _ z => by cases z)
        have sm7 : Same G' V6 := (e3.trans n5.g).trans n6.g
        refine ⟨acc, h6, ?_, sm7.trans w7.sv, l, V6, s6, _, es ++ [yd], n16.mut (.inl hL), w7, sm7, v6, upd_same, (DvA.mono (n25.g.trans n6.g) _ _ d2).snoc hy, by rw [List.length_append]; show es.length + 1 ≤ i + 1; omega, ?_⟩
        · rw [d2.len]
          exact Nat.lt_of_lt_of_le (Nat.lt_of_le_of_lt l2 l) (fits_le fz)
        · rw [bind_assoc'] at a2
          have e9 : (fun (a : List D) (s : S) => (R.ok (yd :: a) s).bind fun ys s => R.ok (es ++ ys) s) = fun (ys : List D) (s : S) => R.ok ((es ++ [yd]) ++ ys) s := by
            funext ys s
            show R.ok (es ++ yd :: ys) s = _
            rw [show es ++ yd :: ys = (es ++ [yd]) ++ ys by simp]
          rw [e9] at a2
          exact a2
      · rw [if_neg hb] at a2 ⊢
        exact ⟨(e3.trans n5.g).trans w5.sv, l, V5, s5, acc, es, n2.trans n25, w5, e3.trans n5.g, v5, h5, DvA.mono n25.g _ _ d2, by omega, a2⟩
  · have e : i = ds.length := by omega
    subst e
    rw [List.drop_length] at a2
    refine .inl ⟨rfl, fun H' ext fin => ?_⟩
    obtain ⟨n3, w3⟩ := stepF w2 ext fin
    have a3 : AnsL K Z E (.ok (es ++ []) s2) s1 V1 H1 Q := a2
    rw [List.append_nil] at a3
    exact a3 L acc V2 H' (n2.trans n3) w3 (.inl hL) v2 (by rw [inS_of n2.a]; exact iL) (ext L _ h2 (fun _ z => by cases z)) d2
end
end Pp

/-! GpD: statements that read what is one's own and keep it. -/
namespace Pp
open PySem PySem.Spec PyProof.Rows L2 Pg Pf LamX
def isTupO : HO → Bool
  | .tup _ => true
  | .frz _ (.tup _) => true
  | _ => false
/-- what one knows, and all tuples that another knows -/
def tupG (G V : Hp) : Hp := fun p => match G p with
  | some o => some o
  | none => match V p with
    | some o => if isTupO o = true then some o else none
    | none => none
theorem tupG_old {G V : Hp} {p : Addr} {o : HO} (h : G p = some o) : tupG G V p = some o := by unfold tupG; rw [h]
theorem tupG_sub (G V : Hp) : Same G (tupG G V) := fun _ _ e => tupG_old e
theorem tupG_cases {G V : Hp} {p : Addr} {o : HO} (h : tupG G V p = some o) : G p = some o ∨ (G p = none ∧ V p = some o ∧ isTupO o = true) := by
  unfold tupG at h
  split at h
  · rename_i u e
    exact .inl (e.trans h)
  · rename_i e
    split at h
    · rename_i u e2
      split at h
      · rename_i t
        have := Option.some.inj h
        subst this
        exact .inr ⟨e, e2, t⟩
      · cases h
    · cases h
theorem tupG_tup {G V : Hp} {p : Addr} {o : HO} (s : Same G V) (h : V p = some o) (t : isTupO o = true) : tupG G V p = some o := by
  unfold tupG
  cases e : G p with
  | some u =>
    rw [s p u e] at h
    exact h
  | none => simp only [h]; rw [if_pos t]
theorem tupG_none {G V : Hp} {p : Addr} (h : G p = none) (h2 : V p = none) : tupG G V p = none := by unfold tupG; rw [h]; simp only [h2]
mutual
/-- numbers and the like, and tuples of such -/
def isTy : D → Bool
  | .non | .bl _ | .int _ | .str _ | .adr _ => true
  | .tup ds => isTyA ds
  | _ => false
def isTyA : List D → Bool
  | [] => true
  | d :: ds => isTy d && isTyA ds
end
section
variable {K : PySem.W.Frag} {Z : Zn} {E : XK} {s0 s s' : S} {G0 H0 G H G' H' V V' : Hp} {σ : L2.St} {ρ : Slots}
theorem ty_sq {a : Addr} {xs : List L2.V} (sg : Same G V) (h : SqT K V a xs) : SqT K (tupG G V) a xs := by
  rcases h with (h | ⟨o, h⟩) | h
  · exact .inl (.inl (tupG_tup sg h rfl))
  · exact .inl (.inr ⟨o, tupG_tup sg h rfl⟩)
  · exact .inr h
mutual
theorem Dv.ty (sg : Same G V) : ∀ (d : D) (v : L2.V), Dv K Z V v d → isTy d = true → Dv K Z (tupG G V) v d
  | .non, _, h, _ => by cases h; exact .non
  | .bl _, _, h, _ => by cases h; exact .bl _
  | .int _, _, h, _ => by cases h; exact .int _
  | .str _, _, h, _ => by cases h; exact .str _
  | .adr _, _, h, _ => by cases h; exact .adr _
  | .tup ds, _, h, t => by
    cases h with
    | tup a b => exact .tup (ty_sq sg a) (DvA.ty sg ds _ b t)
  | .lst _, _, _, t => by cases t
  | .obj _ _, _, _, t => by cases t
  | .emp, _, _, t => by cases t
  | .rls _, _, _, t => by cases t
theorem DvA.ty (sg : Same G V) : ∀ (ds : List D) (vs : List L2.V), DvA K Z V vs ds → isTyA ds = true → DvA K Z (tupG G V) vs ds
  | [], _, h, _ => by cases h; exact .nil
  | d :: ds, _, h, t => by
    have t := Bool.and_eq_true_iff.mp t
    cases h with
    | cons a b => exact .cons (Dv.ty sg d _ a t.1) (DvA.ty sg ds _ b t.2)
end
theorem RepF.tups (r : RepF K Z s0 G0 H0 G H σ ρ s) (n : Nx s s' (vw G0 H0 H s) H V' H') (w : Wd Z.T V' H' s') : Same G V' ∧ RepF K Z s0 G0 H0 (tupG G V') H' σ ρ s' := by
  have b := r.back n w
  have sg : Same G V' := r.sub.trans n.g
  have out := r.out n
  refine ⟨sg, ⟨⟨b.nx.a, b.nx.g.trans (tupG_sub _ _), b.nx.h, fun p hp => ?_, b.nx.k⟩, ⟨fun p o e => ?_, fun p ps e => ?_, w.tb, ?_⟩, ⟨fun i d e => ?_, fun i o e => ?_, b.p.ln⟩, b.new, b.dis, b.len⟩⟩
  · cases e : tupG G V' p with
    | none => exact absurd e hp
    | some o =>
      rcases tupG_cases e with e | ⟨_, e, _⟩
      · exact b.nx.n p (by rw [e]; simp)
      · exact out.n p (by rw [e]; simp)
  · rcases tupG_cases e with e | ⟨_, e, _⟩
    · exact b.w.sv _ _ e
    · exact w.sv _ _ e
  · rcases tupG_cases e with e | ⟨_, e, _⟩
    · exact b.w.nt _ _ e
    · exact w.nt _ _ e
  · have m := b.w.mr
    have m2 := w.mr
    cases s' with
    | none => exact trivial
    | some k =>
      obtain ⟨a1, a2, a3, a4, a5, a6, a7⟩ := m
      obtain ⟨_, _, _, b4, b5, b6, _⟩ := m2
      exact ⟨a1, a2, a3, tupG_none a4 b4, tupG_none a5 b5, tupG_none a6 b6, a7⟩
  · obtain ⟨v, h1, h2⟩ := b.p.fz i d e
    exact ⟨v, h1, Dv.mono (tupG_sub _ _) _ _ h2⟩
  · obtain ⟨a, u, h1, h2, h3, h4, h5⟩ := b.p.ow i o e
    refine ⟨a, u, h1, h2, h3.mono (tupG_sub _ _), ?_, h5⟩
    cases e2 : tupG G V' a with
    | none => rfl
    | some q =>
      rcases tupG_cases e2 with e2 | ⟨_, e2, t⟩
      · rw [h4] at e2; cases e2
      · have := w.sv _ _ e2
        rw [h2] at this
        have := Option.some.inj this
        subst this
        cases h3 <;> cases t
end
/-- x = e : it may read what is one's own; numbers, tuples -/
def setT (i : Nat) (f : Slots → S → R D) (ρ : Slots) (s : S) : R Fl := (f (allS ρ) s).bind fun d s => if isTy d = true then .ok (.nx (ρ.set i (.fz d))) s else .un
/-- a, b = e -/
def asgT (f : Slots → S → R D) (g : D → Slots → Option Slots) (ρ : Slots) (s : S) : R Fl := (f (allS ρ) s).bind fun d s => if isTy d = true then (match g d ρ with
  | some ρ => .ok (.nx ρ) s
  | none => .un) else .un
/-- x.append(e) -/
def appT (i : Nat) (f : Slots → S → R D) (ρ : Slots) (s : S) : R Fl := match ρ[i]? with
  | some (.ow (.ls ds)) => (f (allS ρ) s).bind fun d s => if (isTy d && fits (ds.length + 1)) = true then .ok (.nx (ρ.set i (.ow (.ls (ds ++ [d]))))) s else .un
  | _ => .un
/-- x = [.. for ..] : a list of one's own, of numbers and tuples -/
def setWT (i : Nat) (f : Slots → S → R (List D)) (ρ : Slots) (s : S) : R Fl := (f (allS ρ) s).bind fun ds s => if isTyA ds = true then .ok (.nx (ρ.set i (.ow (.ls ds)))) s else .un
section
variable {K : PySem.W.Frag} {Z : Zn} {E : XK} {t u : TS} {te : TE} {f : Slots → S → R D} {fl : Slots → S → R (List D)} {tg : TG} {g : D → Slots → Option Slots} {is : List Nat}
theorem cs_setT (i : Nat) (h : Cmp K Z E te f) : CmpS K Z E (tAsg te (gName i)) (setT i f) := fun s0 G0 H0 G H σ ρ s D r a =>
  h _ H σ (allS ρ) s _ r.hW r.hP (AnsS.bindH r a fun d s1 v V1 H1 n1 w1 e a1 => by
    by_cases z : isTy d = true
    · rw [if_pos z] at a1
      obtain ⟨sg, r1⟩ := r.tups n1 w1
      exact a1 _ _ H1 (tupG_sub _ _) (r1.set (Dv.ty sg d v e z))
    · rw [if_neg z] at a1
      exact a1.elim)
theorem cs_asgT (h : Cmp K Z E te f) (hg : CmpG tg g is K Z) : CmpS K Z E (tAsg te tg) (asgT f g) := fun s0 G0 H0 G H σ ρ s D r a =>
  h _ H σ (allS ρ) s _ r.hW r.hP (AnsS.bindH r a fun d s1 v V1 H1 n1 w1 e a1 => by
    by_cases z : isTy d = true
    · rw [if_pos z] at a1
      obtain ⟨sg, r1⟩ := r.tups n1 w1
      refine hg (fun σ ρ => RepF K Z s0 G0 H0 (tupG G V1) H1 σ ρ s1) _ H1 r1.w.sv (fun σ ρ i v d _ q hd => q.set hd) σ ρ v d _ r1 (Dv.ty sg d v e z) ?_
      cases e1 : g d ρ with
      | none =>
        rw [e1] at a1
        exact a1
      | some ρ1 =>
        rw [e1] at a1
        exact fun σ' q => a1 σ' _ H1 (tupG_sub _ _) q
    · rw [if_neg z] at a1
      exact a1.elim)
theorem cs_appT (i : Nat) (h : Cmp K Z E te f) : CmpS K Z E (tDrop (tBM K "list" rAppend (tVar i) (tCons te tNil))) (appT i f) := fun s0 G0 H0 G H σ ρ s D r a => by
  unfold appT at a
  match e : ρ[i]?, a with
  | some (.ow (.ls ds)), a =>
    obtain ⟨b, u, h1, h2, h3, h4, h5⟩ := r.p.ow i _ e
    cases h3 with
    | @ls vs _ hs =>
      refine ⟨.ref b, h1, .inl ⟨rfl, _, SqL.of h2⟩, ?_⟩
      refine h _ H σ (allS ρ) s _ r.hW r.hP (AnsS.bindH r a fun d s1 v V1 H1 n1 w1 q a1 => ?_)
      by_cases z : (isTy d && fits (ds.length + 1)) = true
      · rw [if_pos z] at a1
        have z := Bool.and_eq_true_iff.mp z
        obtain ⟨sg, r1⟩ := r.tups n1 w1
        have hb := n1.h b _ h2 (fun ps z => by cases z) h5
        refine ⟨b, vs, v, rfl, rfl, hb, ?_, ?_⟩
        · rw [hs.len]
          have := fits_lt z.2
          omega
        · exact a1 _ _ _ (tupG_sub _ _) (r1.mut e h1 (.ls ((DvA.mono (tupG_sub _ _) _ _ hs).snoc (Dv.ty sg d v q z.1))))
      · rw [if_neg z] at a1
        exact a1.elim
  | none, a => exact a.elim
  | some .no, a => exact a.elim
  | some (.fz d), a => exact a.elim
  | some (.ow (.is c ns ds)), a => exact a.elim
end
end Pp

/-! GpE: x += e, x[i] += 1, a list of one's own by a comprehension, loops over what is one's own. -/
namespace Pp
open PySem PySem.Spec PyProof.Rows L2 Pg Pf LamX
section
variable {X : Cx}
theorem get_list : PGet X (rIxL X.K) := by
  intro pins s σ H o i ov iv Q I ro ri h
  obtain ⟨p, xs, k, z, rfl, rfl, hq, he, q⟩ := h
  cases ro
  obtain ⟨t, rfl⟩ := ri
  obtain ⟨its, r, pl, hz⟩ := I.list hq
  obtain ⟨j, h1, h2, h3, h4, h5⟩ := atI_get he
  obtain ⟨w, ew, rw'⟩ := r.get h2
  have hl := r.length
  have hn := line63
  have fin : EP X pins σ Q w s := ⟨z, H, I, rw', q⟩
  by_cases h0 : 0 ≤ k
  · have hj : k.toNat = j := by
      rw [seqIndex_of h0 h5] at h1
      exact Option.some.inj h1
    exact wpAny_getItem_list pl.isList h0 (by omega) (by rw [hj]; simpa using ew) fin
  · have hj : (k + (its.toArray.size : Int)).toNat = j := by
      rw [seqIndex_neg (by omega) h4] at h1
      rw [List.size_toArray, ← hl]
      exact Option.some.inj h1
    exact wpAny_getItem_list_neg pl.isList (by omega) (by rw [List.size_toArray] <;> omega) (by omega) (by rw [hj]; simpa using ew) fin
end
/-- x += e of numbers -/
def augN (i : Nat) (op : Int → Int → Int) (f : Slots → S → R D) (ρ : Slots) (s : S) : R Fl := match ρ[i]? with
  | some (.fz (.int x)) => (f (allS ρ) s).bind fun d s => match d with
    | .int y => .ok (.nx (ρ.set i (.fz (.int (op x y))))) s
    | _ => .un
  | _ => .un
/-- x[i] += c of a list of one's own -/
def augO (i : Nat) (fi : Slots → S → R D) (op : Int → Int → Int) (c : Int) (ρ : Slots) (s : S) : R Fl := match ρ[i]? with
  | some (.ow (.ls ds)) => (fi (allS ρ) s).bind fun d s => match d with
    | .int k => (match ixN ds.length k with
      | some j => (match ds[j]? with
        | some (.int x) => .ok (.nx (ρ.set i (.ow (.ls (ds.set j (.int (op x c))))))) s
        | _ => .un)
      | none => .un)
    | _ => .un
  | _ => .un
/-- x.extend([..]) -/
def extW (i : Nat) (f : Slots → S → R (List D)) (ρ : Slots) (s : S) : R Fl := match ρ[i]? with
  | some (.ow (.ls ds)) => (f ρ s).bind fun es s => if fits (ds.length + es.length) = true then .ok (.nx (ρ.set i (.ow (.ls (ds ++ es))))) s else .un
  | _ => .un
section
variable {K : PySem.W.Frag} {Z : Zn} {E : XK} {s0 s : S} {G0 H0 G H : Hp} {σ : L2.St} {ρ : Slots} {t u : TS} {te ti : TE} {f fi : Slots → S → R D} {fl : Slots → S → R (List D)} {tg : TG} {g : D → Slots → Option Slots} {is : List Nat}
theorem AnsL.ofST {r : R (List D)} {i : Nat} {D : Ends} (F : RepF K Z s0 G0 H0 G H σ ρ s) (a : AnsS K Z E (r.bind fun ds s => if isTyA ds = true then .ok (.nx (ρ.set i (.ow (.ls ds)))) s else .un) s0 G0 H0 G D) : AnsL K Z E r s (vw G0 H0 H s) H (fun v H' => gName i v σ H' D.nx) := by
  induction r with
  | ok ds s1 =>
    exact fun q vs V1 H1 n w1 h0 v0 is h1 hs => by
      by_cases z : isTyA ds = true
      · have a : AnsS K Z E (if isTyA ds = true then .ok (.nx (ρ.set i (.ow (.ls ds)))) s1 else .un) s0 G0 H0 G D := a
        rw [if_pos z] at a
        obtain ⟨sg, r1⟩ := F.tups n w1
        have gq : G q = none := by
          cases e : G q with
          | none => rfl
          | some o => rw [sg q o e] at v0; cases v0
        exact a _ _ H1 (tupG_sub _ _) (r1.own h1 (.ls (DvA.ty sg ds vs hs z)) (tupG_none gq v0) is (F.nx.k q h0) fun j o ej ef => (F.fr h0 ej ef).elim)
      · have a : AnsS K Z E (if isTyA ds = true then .ok (.nx (ρ.set i (.ow (.ls ds)))) s1 else .un) s0 G0 H0 G D := a
        rw [if_neg z] at a
        exact a.elim
  | ex e s1 => exact fun cls dd V2 H2 n w q => a cls dd V2 H2 (F.out n) w q
  | un => exact a
  | dr t k ih => exact fun i h0 h1 => ih i (a i h0 h1)
  | an P k ih => exact fun d s2 hp => ih d s2 (a d s2 hp)
theorem cs_setWT (i : Nat) (h : CmpL K Z E te fl) : CmpS K Z E (tAsg te (gName i)) (setWT i fl) := fun s0 G0 H0 G H σ ρ s D r a => h _ H σ (allS ρ) s _ r.hW r.hP (AnsL.ofST r a)
theorem cs_augN (i : Nat) (op : Int → Int → Int) (h : Cmp K Z E te f) : CmpS K Z E (tAug i te (ipI op)) (augN i op f) := fun s0 G0 H0 G H σ ρ s D r a => by
  unfold augN at a
  match e : ρ[i]?, a with
  | some (.fz (.int x)), a =>
    obtain ⟨v, h1, h2⟩ := r.p.fz i _ e
    cases h2
    refine ⟨.int x, h1, h _ H σ (allS ρ) s _ r.hW r.hP (AnsS.bindH r a fun d s1 v V1 H1 n1 w1 q a1 => ?_)⟩
    cases q with
    | int y => exact ⟨x, y, rfl, rfl, a1 _ G H1 (Same.refl _) ((r.back n1 w1).set (.int _))⟩
    | _ => exact a1.elim
  | none, a => exact a.elim
  | some .no, a => exact a.elim
  | some (.ow _), a => exact a.elim
  | some (.fz .non), a | some (.fz (.bl _)), a | some (.fz (.str _)), a | some (.fz (.tup _)), a | some (.fz (.lst _)), a | some (.fz (.obj _ _)), a | some (.fz (.adr _)), a | some (.fz .emp), a | some (.fz (.rls _)), a => exact a.elim
theorem cs_augO (i : Nat) (op : Int → Int → Int) (c : Int) (h : Cmp K Z E ti fi) : CmpS K Z E (tAugS (tVar i) ti (tC (.int c)) (rIxL K) (ipI op) rSetL) (augO i fi op c) := fun s0 G0 H0 G H σ ρ s D r a => by
  unfold augO at a
  match e : ρ[i]?, a with
  | some (.ow (.ls ds)), a =>
    obtain ⟨b, u, h1, h2, h3, h4, h5⟩ := r.p.ow i _ e
    cases h3 with
    | @ls vs _ hs =>
      refine ⟨.ref b, h1, ?_⟩
      refine h _ H σ (allS ρ) s _ r.hW r.hP (AnsS.bindH r a fun d s1 v V1 H1 n1 w1 q a1 => ?_)
      cases q with
      | int k =>
        have a1 : AnsS K Z E (match ixN ds.length k with
          | some j => (match ds[j]? with
            | some (.int x) => .ok (.nx (ρ.set i (.ow (.ls (ds.set j (.int (op x c))))))) s1
            | _ => .un)
          | none => .un) s0 G0 H0 G D := a1
        cases ej : ixN ds.length k with
        | none => rw [ej] at a1; exact a1.elim
        | some j =>
          simp only [ej] at a1
          have r1 := r.back n1 w1
          have hb := n1.h b _ h2 (fun ps z => by cases z) h5
          split at a1
          · rename_i x ex
            obtain ⟨vx, e1, e2⟩ := hs.at ex
            cases e2
            have ej' : ixN vs.length k = some j := by rw [hs.len]; exact ej
            refine ⟨b, vs, k, .int x, rfl, rfl, SqL.of hb, (show L2.atI vs k = some (.int x) by unfold L2.atI; rw [ej']; exact e1), x, c, rfl, rfl, b, vs, k, j, rfl, rfl, hb, ej', ?_⟩
            exact a1 _ G _ (Same.refl _) (r1.mut e h1 (.ls (hs.set j (.int _))))
          · exact a1.elim
      | _ => exact a1.elim
  | none, a => exact a.elim
  | some .no, a => exact a.elim
  | some (.fz d), a => exact a.elim
  | some (.ow (.is c ns ds)), a => exact a.elim
theorem AnsL.ofX {r : R (List D)} {i : Nat} {ds : List D} {D0 : Ends} {b : Addr} {vs : List L2.V} (F : RepF K Z s0 G0 H0 G H σ ρ s) (e : ρ[i]? = some (.ow (.ls ds))) (h1 : σ[i]? = some (some (.ref b))) (h2 : H b = some (.lst vs)) (h5 : ¬ inS s b) (hs : DvA K Z G vs ds)
    (a : AnsS K Z E (r.bind fun es s => if fits (ds.length + es.length) = true then .ok (.nx (ρ.set i (.ow (.ls (ds ++ es))))) s else .un) s0 G0 H0 G D0) : AnsL K Z E r s G H (fun v H1 => rExtend (.ref b) [v] H1 fun _ H2 => D0.nx σ H2) := by
  induction r with
  | ok es s1 =>
    exact fun q ws V1 H1 n w1 h0 v0 is hq hw => by
      have a : AnsS K Z E (if fits (ds.length + es.length) = true then .ok (.nx (ρ.set i (.ow (.ls (ds ++ es))))) s1 else .un) s0 G0 H0 G D0 := a
      by_cases z : fits (ds.length + es.length) = true
      · rw [if_pos z] at a
        have hb := n.h b _ h2 (fun ps z => by cases z) h5
        refine ⟨b, q, vs, ws, rfl, rfl, hb, hq, ?_, ?_⟩
        · rw [hs.len, hw.len]
          exact fits_le z
        · exact a _ V1 _ n.g ((F.on n w1).mut e h1 (.ls ((DvA.mono n.g _ _ hs).app hw)))
      · rw [if_neg z] at a
        exact a.elim
  | ex e s1 => exact fun cls dd V2 H2 n w q => a cls dd V2 H2 (F.nx.trans n) w q
  | un => exact a
  | dr t k ih => exact fun i h0 h1 => ih i (a i h0 h1)
  | an P k ih => exact fun d s2 hp => ih d s2 (a d s2 hp)
theorem cs_extW (i : Nat) (h : CmpL K Z E te fl) : CmpS K Z E (tDrop (tBM K "list" rExtend (tVar i) (tCons te tNil))) (extW i fl) := fun s0 G0 H0 G H σ ρ s D r a => by
  unfold extW at a
  match e : ρ[i]?, a with
  | some (.ow (.ls ds)), a =>
    obtain ⟨b, u, h1, h2, h3, h4, h5⟩ := r.p.ow i _ e
    cases h3 with
    | @ls vs _ hs => exact ⟨.ref b, h1, .inl ⟨rfl, _, SqL.of h2⟩, h G H σ ρ s _ r.w r.p (AnsL.ofX r e h1 h2 h5 hs a)⟩
  | none, a => exact a.elim
  | some .no, a => exact a.elim
  | some (.fz d), a => exact a.elim
  | some (.ow (.is c ns ds)), a => exact a.elim
end
end Pp

/-! GpF: a for over what a call made of one's own, in which nothing of one's own changes. -/
namespace Pp
open PySem PySem.Spec PyProof.Rows L2 Pg Pf LamX
/-- all that stood stands -/
def Kp (s : S) (H H' : Hp) : Prop := ∀ p o, H p = some o → (∀ ps, o ≠ .tbl ps) → ¬ inS s p → H' p = some o
def AnsQ (K : PySem.W.Frag) (Z : Zn) (E : XK) (r : R Fl) (s0 : S) (G0 H0 G H : Hp) (s : S) (D : Ends) : Prop := match r with
  | .ok (.nx ρ) s1 => ∀ σ G' H', Same G G' → RepF K Z s0 G0 H0 G' H' σ ρ s1 → Kp s H H' → D.nx σ H'
  | .ok (.bk ρ) s1 => ∀ σ G' H', Same G G' → RepF K Z s0 G0 H0 G' H' σ ρ s1 → D.bk σ H'
  | .ok (.ct ρ) s1 => ∀ σ G' H', Same G G' → RepF K Z s0 G0 H0 G' H' σ ρ s1 → Kp s H H' → D.ct σ H'
  | .ok (.rt d) s1 => ∀ v V' H', Nx s0 s1 G0 H0 V' H' → Wd Z.T V' H' s1 → Dv K Z V' v d → D.rt v H'
  | .ex e s1 => ∀ cls dd V' H', Nx s0 s1 G0 H0 V' H' → Wd Z.T V' H' s1 → ExR K Z V' cls dd e → E cls dd H'
  | .un => False
  | .dr t k => ∀ i, 0 ≤ i → i < t → AnsQ K Z E (k i) s0 G0 H0 G H s D
  | .an P k => ∀ d s1, P d s1 → AnsQ K Z E (k d s1) s0 G0 H0 G H s D
/-- a statement that changes nothing of one's own -/
def CmpQ (K : PySem.W.Frag) (Z : Zn) (E : XK) (t : TS) (F : Slots → S → R Fl) : Prop := ∀ s0 G0 H0 G H σ ρ s D, RepF K Z s0 G0 H0 G H σ ρ s → AnsQ K Z E (F ρ s) s0 G0 H0 G H s D → t D σ H
def forQ (i : Nat) (fi : Slots → S → R (List D)) (F : Slots → S → R Fl) (ρ : Slots) (s : S) : R Fl := (fi (allS ρ) s).bind fun ds s => if ds.all isSc = true then forL (gN i) F ds ρ s else .un
section
variable {K : PySem.W.Frag} {Z : Zn} {E : XK} {s0 s s' : S} {G0 H0 G H H1 V' H' : Hp} {σ : L2.St} {ρ : Slots} {t u : TS} {F F1 F2 : Slots → S → R Fl} {te : TE} {f : Slots → S → R D} {tt : TT} {p : Slots → S → R Bool} {wi : TI} {fi : Slots → S → R (List D)}
theorem Kp.of (n : Nx s s' (vw G0 H0 H s) H V' H') : Kp s H H' := fun p o e nt i => n.h p o e nt i
theorem Kp.later (k : Kp s H H1) {D : Ends} {r : R Fl} (ha : adr s' = adr s) (h : AnsQ K Z E r s0 G0 H0 G H s D) : AnsQ K Z E r s0 G0 H0 G H1 s' D := by
  have go : ∀ {H2 : Hp}, Kp s' H1 H2 → Kp s H H2 := fun q p o e nt i => q p o (k p o e nt i) nt (by rw [inS_of ha]; exact i)
  induction r with
  | ok fl s1 =>
    cases fl with
    | nx ρ => exact fun σ G' H' e r q => h σ G' H' e r (go q)
    | ct ρ => exact fun σ G' H' e r q => h σ G' H' e r (go q)
    | bk ρ => exact h
    | rt d => exact h
  | ex e s1 => exact h
  | un => exact h
  | dr t k ih => exact fun i h0 h1 => ih i (h i h0 h1)
  | an P k ih => exact fun d s2 hp => ih d s2 (h d s2 hp)
theorem AnsQ.bindH {α β : Type} {Rl : Hp → β → α → Prop} {r : R α} {k : α → S → R Fl} {D : Ends} {Q1 : β → Hp → Prop} (F : RepF K Z s0 G0 H0 G H σ ρ s) (h : AnsQ K Z E (r.bind k) s0 G0 H0 G H s D)
    (c : ∀ d s' v V' H', Nx s s' (vw G0 H0 H s) H V' H' → Wd Z.T V' H' s' → Rl V' v d → AnsQ K Z E (k d s') s0 G0 H0 G H s D → Q1 v H') : Ans K Z E Rl r s (vw G0 H0 H s) H Q1 := by
  induction r with
  | ok d s2 => exact fun v V2 H2 n w q => c d s2 v V2 H2 n w q h
  | ex e s2 => exact fun cls dd V2 H2 n w q => h cls dd V2 H2 (F.out n) w q
  | un => exact h
  | dr t k ih => exact fun i h0 h1 => ih i (h i h0 h1)
  | an P k ih => exact fun d s2 hp => ih d s2 (h d s2 hp)
theorem cq_next : CmpQ K Z E tNext nxS := fun s0 G0 H0 G H σ ρ s D r a => a σ G H (Same.refl _) r fun _ _ e _ _ => e
theorem cq_if (hc : CmpT K Z E tt p) (h1 : CmpQ K Z E t F1) (h2 : CmpQ K Z E u F2) : CmpQ K Z E (tIfS tt t u) (ifS p F1 F2) := fun s0 G0 H0 G H σ ρ s D r a =>
  hc _ H σ (allS ρ) s _ r.hW r.hP (AnsQ.bindH r a fun b s1 c V1 H1 n1 w1 e a1 => by
    subst e
    by_cases hb : c = true
    · rw [if_pos hb] at a1 ⊢
      exact h1 s0 G0 H0 G H1 σ ρ s1 D (r.back n1 w1) ((Kp.of n1).later (ha := n1.a) a1)
    · rw [if_neg hb] at a1 ⊢
      exact h2 s0 G0 H0 G H1 σ ρ s1 D (r.back n1 w1) ((Kp.of n1).later (ha := n1.a) a1))
theorem cq_augN (i : Nat) (op : Int → Int → Int) (h : Cmp K Z E te f) : CmpQ K Z E (tAug i te (ipI op)) (augN i op f) := fun s0 G0 H0 G H σ ρ s D r a => by
  unfold augN at a
  match e : ρ[i]?, a with
  | some (.fz (.int x)), a =>
    obtain ⟨v, h1, h2⟩ := r.p.fz i _ e
    cases h2
    refine ⟨.int x, h1, h _ H σ (allS ρ) s _ r.hW r.hP (AnsQ.bindH r a fun d s1 v V1 H1 n1 w1 q a1 => ?_)⟩
    cases q with
    | int y => exact ⟨x, y, rfl, rfl, a1 _ G H1 (Same.refl _) ((r.back n1 w1).set (.int _)) (Kp.of n1)⟩
    | _ => exact a1.elim
  | none, a => exact a.elim
  | some .no, a => exact a.elim
  | some (.ow _), a => exact a.elim
  | some (.fz .non), a | some (.fz (.bl _)), a | some (.fz (.str _)), a | some (.fz (.tup _)), a | some (.fz (.lst _)), a | some (.fz (.obj _ _)), a | some (.fz (.adr _)), a | some (.fz .emp), a | some (.fz (.rls _)), a => exact a.elim
theorem AnsQ.bindS {r : R Fl} {k : Fl → S → R Fl} {D D' : Ends} (h : AnsS K Z E (r.bind k) s0 G0 H0 G D) (c : ∀ fl s1, AnsS K Z E (k fl s1) s0 G0 H0 G D → AnsQ K Z E (.ok fl s1) s0 G0 H0 G H s D') : AnsQ K Z E r s0 G0 H0 G H s D' := by
  induction r with
  | ok fl s1 => exact c fl s1 h
  | ex e s1 => exact h
  | un => exact h
  | dr t k ih => exact fun i h0 h1 => ih i (h i h0 h1)
  | an P k ih => exact fun d s2 hp => ih d s2 (h d s2 hp)
theorem cs_forQ (i : Nat) (hi : CmpI K Z E wi fi) (hb : CmpQ K Z E t F) : CmpS K Z E (tFor wi (gName i) t) (forQ i fi F) := fun s0 G0 H0 G H σ ρ s D r a => by
  refine hi _ H σ (allS ρ) s _ r.hW r.hP (AnsS.bindH r a fun ds s1 J V1 H1 n1 w1 it a1 => ?_)
  by_cases sc : ds.all isSc = true
  case neg =>
    rw [if_neg sc] at a1
    exact a1.elim
  rw [if_pos sc] at a1
  have nS : ∀ p, V1 p ≠ none → ¬ inS s1 p := fun p h i => h (w1.mr.inV i)
  refine ⟨fun j m σ H => m = ds.length - j ∧ j ≤ ds.length ∧ ∃ G2 ρ2 s2, RepF K Z s0 G0 H0 G2 H σ ρ2 s2 ∧ Same G G2 ∧ adr s2 = adr s1 ∧ Same V1 H ∧ AnsS K Z E (forL (gN i) F (ds.drop j) ρ2 s2) s0 G0 H0 G2 D, ⟨ds.length, by simp, Nat.zero_le _, G, ρ, s1, r.back n1 w1, Same.refl _, rfl, w1.sv, a1⟩, ?_⟩
  rintro j m σ2 H2 ⟨rfl, hi2, G2, ρ2, s2, r2, e2, ea, sv, a2⟩
  by_cases l : j < ds.length
  · refine .inr ⟨it.go j V1 H2 (Same.refl _) sv l, fun σ3 H3 => ∃ G3 ρ3 s3, RepF K Z s0 G0 H0 G3 H3 σ3 ρ3 s3 ∧ Same G G3 ∧ adr s3 = adr s1 ∧ Same V1 H3 ∧ AnsS K Z E (forL (gN i) F (ds.drop (j + 1)) ρ3 s3) s0 G0 H0 G3 D, fun σ3 H3 q => ⟨ds.length - (j + 1), by omega, rfl, l, q⟩, fun x H3 y => ?_⟩
    obtain ⟨d, ed, y⟩ := it.yld j V1 H2 x H3 (Same.refl _) sv l y
    have hsc : isSc d = true := List.all_eq_true.mp sc d (List.mem_of_getElem? ed)
    have dd : ds.drop j = d :: ds.drop (j + 1) := by
      rw [List.drop_eq_getElem_cons l]
      rw [List.getElem?_eq_getElem l] at ed
      rw [Option.some.inj ed]
    rw [dd] at a2
    have go : RepF K Z s0 G0 H0 G2 H3 σ2 ρ2 s2 → Same V1 H3 → Dv K Z G2 x d → gName i x σ2 H3 fun σ4 H4 => t { D with nx := fun σ3 H3 => ∃ G3 ρ3 s3, RepF K Z s0 G0 H0 G3 H3 σ3 ρ3 s3 ∧ Same G G3 ∧ adr s3 = adr s1 ∧ Same V1 H3 ∧ AnsS K Z E (forL (gN i) F (ds.drop (j + 1)) ρ3 s3) s0 G0 H0 G3 D, ct := fun σ3 H3 => ∃ G3 ρ3 s3, RepF K Z s0 G0 H0 G3 H3 σ3 ρ3 s3 ∧ Same G G3 ∧ adr s3 = adr s1 ∧ Same V1 H3 ∧ AnsS K Z E (forL (gN i) F (ds.drop (j + 1)) ρ3 s3) s0 G0 H0 G3 D, bk := D.nx } σ4 H4 := by
      intro r3 sv3 hd
      refine hb s0 G0 H0 G2 H3 (σ2.set i (some x)) (ρ2.set i (.fz d)) s2 _ (r3.set hd) ?_
      have a3 : AnsS K Z E ((F (ρ2.set i (.fz d)) s2).bind (forK fun ρ s => forL (gN i) F (ds.drop (j + 1)) ρ s)) s0 G0 H0 G2 D := a2
      refine AnsQ.bindS a3 fun fl s5 a3 => ?_
      have keep : ∀ {H5 : Hp}, Kp s2 H3 H5 → Same V1 H5 := fun k p o e => k p o (sv3 p o e) (fun ps z => w1.nt p ps (z ▸ e)) (by rw [inS_of ea]; exact nS p (by rw [e]; simp))
      have ad : ∀ {G5 H5 : Hp} {σ5 : L2.St} {ρ5 : Slots}, RepF K Z s0 G0 H0 G5 H5 σ5 ρ5 s5 → adr s5 = adr s1 := fun r5 => r5.nx.a.trans (r3.nx.a.symm.trans ea)
      cases fl with
      | nx ρ5 => exact fun σ5 G5 H5 q r5 k5 => ⟨G5, ρ5, s5, r5, e2.trans q, ad r5, keep k5, AnsS.later q a3⟩
      | ct ρ5 => exact fun σ5 G5 H5 q r5 k5 => ⟨G5, ρ5, s5, r5, e2.trans q, ad r5, keep k5, AnsS.later q a3⟩
      | bk ρ5 => exact a3
      | rt d => exact a3
    rcases y with ⟨rfl, hd⟩ | ⟨T, xs, rfl, nT, rfl, hd⟩
    · exact go r2 sv (sc_dv hd hsc)
    · cases hd with
      | adr a => cases hsc
      | tup _ _ => cases hsc
      | lst _ _ => cases hsc
      | obj _ _ _ => cases hsc
      | emp _ => cases hsc
      | rls _ _ => cases hsc
  · have e : j = ds.length := by omega
    subst e
    rw [List.drop_length] at a2
    exact .inl ⟨it.stop V1 H2 (Same.refl _) sv, a2 σ2 G2 H2 (Same.refl _) r2⟩
end
end Pp

/-! GpG: comprehensions with two fors. -/
namespace Pp
open PySem PySem.Spec PyProof.Rows L2 Pg Pf LamX
def lc2O (g : D → Slots → Option Slots) (fi1 : Slots → S → R (List D)) (g1 : D → Slots → Option Slots) (f : Slots → S → R D) (vs1 : List Nat) (ρ : Slots) : Nat → List D → S → R (List D)
  | _, [], s => .ok [] s
  | n, d :: ds, s => match g d ρ with
    | none => .un
    | some ρ1 => (noex (fi1 ρ1 s)).bind fun es s => if fits (n + es.length) = true then (lcL g1 yesT f (wipeS ρ1 vs1) es s).bind fun xs s => (lc2O g fi1 g1 f vs1 ρ (n + es.length) ds s).bind fun ys s => .ok (xs ++ ys) s else .un
def lc2F (fi : Slots → S → R (List D)) (g : D → Slots → Option Slots) (fi1 : Slots → S → R (List D)) (g1 : D → Slots → Option Slots) (f : Slots → S → R D) (vs vs1 : List Nat) (ρ : Slots) (s : S) : R (List D) := (fi ρ s).bind fun ds s => lc2O g fi1 g1 f vs1 (wipeS ρ vs) 0 ds s
section
variable {K : PySem.W.Frag} {Z : Zn} {E : XK} {s s' : S} {V H V' H' : Hp} {σ : L2.St} {ρ : Slots}
variable {wi wi1 : TI} {g g1 : TG} {gg gg1 : D → Slots → Option Slots} {is is1 vs vs1 : List Nat} {te : TE} {f : Slots → S → R D} {fi fi1 : Slots → S → R (List D)}
theorem AnsL.appB {r : R (List D)} {k : List D → S → R (List D)} {es : List D} {Q : VK} (h : AnsL K Z E (r.bind k) s V H Q) (e : es = []) : AnsL K Z E (r.bind fun ys s => k (es ++ ys) s) s V H Q := by
  subst e
  exact h
theorem tYes_of {σ : L2.St} {H : Hp} {A B : Hp → Prop} (h : A H) : tYes σ H (fun b H => if b = true then A H else B H) := h
theorem cl_lc2 (hi : CmpI K Z E wi fi) (hg : CmpG g gg is K Z) (his : ∀ i ∈ is, i ∈ vs) (hi1 : CmpI K Z E0 wi1 fi1) (hg1 : CmpG g1 gg1 is1 K Z) (his1 : ∀ i ∈ is1, i ∈ vs1) (hf : Cmp K Z E0 te f) :
    CmpL K Z E (tLc2 wi g tYes wi1 g1 tYes te vs vs1) (lc2F fi gg fi1 gg1 f vs vs1) := by
  intro V H σ ρ s Q w q a
  refine hi V H σ ρ s _ w q (AnsL.bind a fun ds s1 J V1 H1 n1 w1 it a1 => ?_)
  intro L hL
  have gL : V1 L = none := w1.sv.free hL
  have iL : ¬ inS s1 L := fun y => w1.mr.inH y hL
  have q1 := q.later n1
  refine ⟨fun i m H2 => m = ds.length - i ∧ i ≤ ds.length ∧ ∃ n V2 s2 acc es, Nx s1 s2 V1 H1 V2 H2 ∧ Wd Z.T V2 H2 s2 ∧ V2 L = none ∧ H2 L = some (.lst acc) ∧ DvA K Z V2 acc es ∧ es.length ≤ n ∧
    AnsL K Z E ((lc2O gg fi1 gg1 f vs1 (wipeS ρ vs) n (ds.drop i) s2).bind fun ys s => .ok (es ++ ys) s) s1 V1 H1 Q, ⟨ds.length, by simp, Nat.zero_le _, 0, V1, s1, [], [], Nx.up hL, w1.up hL, gL, upd_same, .nil, Nat.zero_le _, ?_⟩, ?_⟩
  · rw [List.drop_zero]
    exact AnsL.app a1 rfl
  rintro i m H2 ⟨rfl, hi2, n, V2, s2, acc, es, n2, w2, v2, h2, d2, l2, a2⟩
  by_cases l : i < ds.length
  · refine .inr ⟨it.go i V2 H2 n2.g w2.sv l, fun H3 => ∃ n V2 s2 acc es, Nx s1 s2 V1 H1 V2 H3 ∧ Wd Z.T V2 H3 s2 ∧ V2 L = none ∧ H3 L = some (.lst acc) ∧ DvA K Z V2 acc es ∧ es.length ≤ n ∧
      AnsL K Z E ((lc2O gg fi1 gg1 f vs1 (wipeS ρ vs) n (ds.drop (i + 1)) s2).bind fun ys s => .ok (es ++ ys) s) s1 V1 H1 Q, fun H3 y => ⟨ds.length - (i + 1), by omega, rfl, l, y⟩, fun x H3 y => ?_⟩
    obtain ⟨d, ed, y⟩ := it.yld i V2 H2 x H3 n2.g w2.sv l y
    have dd : ds.drop i = d :: ds.drop (i + 1) := by
      rw [List.drop_eq_getElem_cons l]
      rw [List.getElem?_eq_getElem l] at ed
      rw [Option.some.inj ed]
    rw [dd] at a2
    have iL2 : ¬ inS s2 L := by rw [inS_of n2.a]; exact iL
    have go : ∀ V3, Nx s2 s2 V2 H2 V3 H3 → Wd Z.T V3 H3 s2 → Dv K Z V3 x d → V3 L = none → H3 L = some (.lst acc) → g x (wipe σ vs) H3 fun σ2 H2 => wipe σ2 vs = wipe σ vs ∧ tYes σ2 H2 fun b H3 =>
        if b = true then wi1 σ2 H3 fun J1 H4 => ∃ W1 : Nat → Nat → Hp → Prop, (∃ m, W1 0 m H4) ∧ ∀ j k H, W1 j k H →
      (J1.stop j H ∧ ∃ n V2 s2 acc es, Nx s1 s2 V1 H1 V2 H ∧ Wd Z.T V2 H s2 ∧ V2 L = none ∧ H L = some (.lst acc) ∧ DvA K Z V2 acc es ∧ es.length ≤ n ∧
      AnsL K Z E ((lc2O gg fi1 gg1 f vs1 (wipeS ρ vs) n (ds.drop (i + 1)) s2).bind fun ys s => .ok (es ++ ys) s) s1 V1 H1 Q) ∨ (J1.go j H ∧ ∃ Nx1 : Hp → Prop, (∀ H', Nx1 H' → ∃ k', k' < k ∧ W1 (j + 1) k' H') ∧ ∀ x H', J1.yld j H x H' → g1 x (wipe σ2 vs1) H' fun σ3 H5 => wipe σ3 vs1 = wipe σ2 vs1 ∧ tYes σ3 H5 fun b H6 =>
        if b = true then te σ3 H6 fun y H7 => ∃ acc, H7 L = some (.lst acc) ∧ acc.length < sizeLine ∧ Nx1 (upd H7 L (.lst (acc ++ [y]))) else Nx1 H6)
        else (∃ n V2 s2 acc es, Nx s1 s2 V1 H1 V2 H3 ∧ Wd Z.T V2 H3 s2 ∧ V2 L = none ∧ H3 L = some (.lst acc) ∧ DvA K Z V2 acc es ∧ es.length ≤ n ∧
      AnsL K Z E ((lc2O gg fi1 gg1 f vs1 (wipeS ρ vs) n (ds.drop (i + 1)) s2).bind fun ys s => .ok (es ++ ys) s) s1 V1 H1 Q) := by
      intro V3 n3 w3 hd v3 h3
      have q3 := (q1.later n2).later n3
      have qw := q3.wipe vs
      have nL0 : ∀ (i : Nat) (o : OD) (a : Addr), (wipeS ρ vs)[i]? = some (.ow o) → (wipe σ vs)[i]? = some (some (.ref a)) → a ≠ L := fun i o a e f => by
        obtain ⟨a', u, x1, x2, _⟩ := (q1.wipe vs).ow i o e
        have := f.symm.trans x1
        injection this with this; injection this with this; injection this with this
        rw [this]
        exact ne_of_none x2 hL
      refine hg (fun σ' ρ' => Rep K Z V3 H3 σ' ρ' s2 ∧ wipe σ' vs = wipe σ vs ∧ ∀ (i : Nat) (o : OD) (a : Addr), ρ'[i]? = some (.ow o) → σ'[i]? = some (some (.ref a)) → a ≠ L) V3 H3 w3.sv (fun σ' ρ' j v d' hj ⟨y1, y2, y3⟩ hd' => ⟨y1.set hd', by rw [wipe_set (his j hj)]; exact y2, fun i o a e f => by
        by_cases z : i = j
        · subst z
          by_cases l : i < ρ'.length
          · rw [List.getElem?_set_self l] at e
            cases e
          · rw [List.getElem?_eq_none (by rw [List.length_set]; omega)] at e
            cases e
        · rw [List.getElem?_set_ne (Ne.symm z)] at e f
          exact y3 i o a e f⟩) (wipe σ vs) (wipeS ρ vs) x d _ ⟨qw, wipe_wipe σ vs vs fun _ h => h, nL0⟩ hd ?_
      unfold lc2O at a2
      cases eg : gg d (wipeS ρ vs) with
      | none =>
        rw [eg] at a2
        exact a2
      | some ρ4 =>
        rw [eg] at a2
        intro σ4 ⟨q4, e4, nL4⟩
        refine ⟨e4, tYes_of ?_⟩
        have a2 : AnsL K Z E (((noex (fi1 ρ4 s2)).bind fun xs s => if fits (n + xs.length) = true then (lcL gg1 yesT f (wipeS ρ4 vs1) xs s).bind fun xs2 s => (lc2O gg fi1 gg1 f vs1 (wipeS ρ vs) (n + xs.length) (ds.drop (i + 1)) s).bind fun ys s => .ok (xs2 ++ ys) s else .un).bind fun ys s => .ok (es ++ ys) s) s1 V1 H1 Q := a2
        rw [bind_assoc'] at a2
        refine hi1 V3 H3 σ4 ρ4 s2 _ w3 q4 (Ans.noex (AnsL.bindAt (n2.trans n3) a2 fun xs s5 J1 V5 H5 n5 w5 it1 a2 => ?_))
        by_cases fz : fits (n + xs.length) = true
        case neg =>
          rw [if_neg fz] at a2
          exact a2.elim
        rw [if_pos fz, bind_assoc'] at a2
        have n25 := n3.trans n5
        have h5 := n5.h L _ h3 (fun _ z => by cases z) iL2
        have v5 := n5.not v3 h3 (fun _ z => by cases z)
        have q5 := q4.later n5
        -- what is left to do behind this row
        obtain ⟨k, ek⟩ : ∃ k : List D → S → R (List D), k = fun all s => (lc2O gg fi1 gg1 f vs1 (wipeS ρ vs) (n + xs.length) (ds.drop (i + 1)) s).bind fun ys s => .ok (all ++ ys) s := ⟨_, rfl⟩
        have ea : (fun (a : List D) (s : S) => ((lc2O gg fi1 gg1 f vs1 (wipeS ρ vs) (n + xs.length) (ds.drop (i + 1)) s).bind fun ys s => R.ok (a ++ ys) s).bind fun ys s => R.ok (es ++ ys) s) = fun a s => k (es ++ a) s := by
          funext a s
          rw [ek, bind_assoc']
          show (R.bind _ fun ys s => R.ok (es ++ (a ++ ys)) s) = _
          congr 1
          funext ys s
          rw [List.append_assoc]
        rw [ea] at a2
        refine ⟨fun j m H2 => m = xs.length - j ∧ j ≤ xs.length ∧ ∃ V2 s2 acc es, Nx s1 s2 V1 H1 V2 H2 ∧ Same V5 V2 ∧ Wd Z.T V2 H2 s2 ∧ V2 L = none ∧ H2 L = some (.lst acc) ∧ Rep K Z V2 H2 σ4 ρ4 s2 ∧ DvA K Z V2 acc es ∧ es.length ≤ n + j ∧
          AnsL K Z E ((lcL gg1 yesT f (wipeS ρ4 vs1) (xs.drop j) s2).bind fun ys s => k (es ++ ys) s) s1 V1 H1 Q, ⟨xs.length, by simp, Nat.zero_le _, V5, s5, acc, es, n2.trans n25, Same.refl _, w5, v5, h5, q5, DvA.mono n25.g _ _ d2, by omega, ?_⟩, ?_⟩
        · rw [List.drop_zero]
          exact a2
        rintro j m H6 ⟨rfl, hj2, V6, s6, acc6, es6, n6, sv6, w6, v6, h6, q6, d6, l6, a6⟩
        by_cases lj : j < xs.length
        · refine .inr ⟨it1.go j V6 H6 sv6 w6.sv lj, fun H7 => ∃ V2 s2 acc es, Nx s1 s2 V1 H1 V2 H7 ∧ Same V5 V2 ∧ Wd Z.T V2 H7 s2 ∧ V2 L = none ∧ H7 L = some (.lst acc) ∧ Rep K Z V2 H7 σ4 ρ4 s2 ∧ DvA K Z V2 acc es ∧ es.length ≤ n + (j + 1) ∧
            AnsL K Z E ((lcL gg1 yesT f (wipeS ρ4 vs1) (xs.drop (j + 1)) s2).bind fun ys s => k (es ++ ys) s) s1 V1 H1 Q, fun H7 y => ⟨xs.length - (j + 1), by omega, rfl, lj, y⟩, fun x7 H7 y7 => ?_⟩
          obtain ⟨d7, ed7, y7⟩ := it1.yld j V6 H6 x7 H7 sv6 w6.sv lj y7
          have dd7 : xs.drop j = d7 :: xs.drop (j + 1) := by
            rw [List.drop_eq_getElem_cons lj]
            rw [List.getElem?_eq_getElem lj] at ed7
            rw [Option.some.inj ed7]
          rw [dd7] at a6
          have iL6 : ¬ inS s6 L := by rw [inS_of n6.a]; exact iL
          have go7 : ∀ V7, Nx s6 s6 V6 H6 V7 H7 → Wd Z.T V7 H7 s6 → Dv K Z V7 x7 d7 → V7 L = none → H7 L = some (.lst acc6) → g1 x7 (wipe σ4 vs1) H7 fun σ3 H5 => wipe σ3 vs1 = wipe σ4 vs1 ∧ tYes σ3 H5 fun b H6 =>
              if b = true then te σ3 H6 fun y H7 => ∃ acc, H7 L = some (.lst acc) ∧ acc.length < sizeLine ∧ (∃ V2 s2 acc' es, Nx s1 s2 V1 H1 V2 (upd H7 L (.lst (acc ++ [y]))) ∧ Same V5 V2 ∧ Wd Z.T V2 (upd H7 L (.lst (acc ++ [y]))) s2 ∧ V2 L = none ∧ (upd H7 L (.lst (acc ++ [y]))) L = some (.lst acc') ∧ Rep K Z V2 (upd H7 L (.lst (acc ++ [y]))) σ4 ρ4 s2 ∧ DvA K Z V2 acc' es ∧ es.length ≤ n + (j + 1) ∧
            AnsL K Z E ((lcL gg1 yesT f (wipeS ρ4 vs1) (xs.drop (j + 1)) s2).bind fun ys s => k (es ++ ys) s) s1 V1 H1 Q) else (∃ V2 s2 acc es, Nx s1 s2 V1 H1 V2 H6 ∧ Same V5 V2 ∧ Wd Z.T V2 H6 s2 ∧ V2 L = none ∧ H6 L = some (.lst acc) ∧ Rep K Z V2 H6 σ4 ρ4 s2 ∧ DvA K Z V2 acc es ∧ es.length ≤ n + (j + 1) ∧
            AnsL K Z E ((lcL gg1 yesT f (wipeS ρ4 vs1) (xs.drop (j + 1)) s2).bind fun ys s => k (es ++ ys) s) s1 V1 H1 Q) := by
            intro V7 n7 w7 hd7 v7 h7
            have q7 := q6.later n7
            have qw7 := q7.wipe vs1
            refine hg1 (fun σ' ρ' => Rep K Z V7 H7 σ' ρ' s6 ∧ wipe σ' vs1 = wipe σ4 vs1) V7 H7 w7.sv (fun σ' ρ' j v d' hj ⟨y1, y2⟩ hd' => ⟨y1.set hd', by rw [wipe_set (his1 j hj)]; exact y2⟩) (wipe σ4 vs1) (wipeS ρ4 vs1) x7 d7 _ ⟨qw7, wipe_wipe σ4 vs1 vs1 fun _ h => h⟩ hd7 ?_
            unfold lcL at a6
            cases eg7 : gg1 d7 (wipeS ρ4 vs1) with
            | none =>
              rw [eg7] at a6
              exact a6
            | some ρ8 =>
              rw [eg7] at a6
              intro σ8 ⟨q8, e8⟩
              refine ⟨e8, tYes_of ?_⟩
              have a6 : AnsL K Z E (((noex (f ρ8 s6)).bind fun y s => (lcL gg1 yesT f (wipeS ρ4 vs1) (xs.drop (j + 1)) s).bind fun ys s => .ok (y :: ys) s).bind fun ys s => k (es6 ++ ys) s) s1 V1 H1 Q := a6
              rw [bind_assoc'] at a6
              refine hf V7 H7 σ8 ρ8 s6 _ w7 q8 (Ans.noex (AnsL.bindAt (n6.trans n7) a6 fun yd s9 yv V9 H9 n9 w9 hy a9 => ?_))
              have h9 := n9.h L _ h7 (fun _ z => by cases z) iL6
              have v9 := n9.not v7 h7 (fun _ z => by cases z)
              have iL9 : ¬ inS s9 L := by rw [inS_of n9.a]; exact iL6
              have n19 := (n6.trans n7).trans n9
              have q9 : Rep K Z V9 H9 σ4 ρ4 s9 := q7.later n9
              have q9u : Rep K Z V9 (upd H9 L (.lst (acc6 ++ [yv]))) σ4 ρ4 s9 := by
                refine ⟨q9.fz, fun i o e => ?_, q9.ln⟩
                obtain ⟨a, u, x1, x2, x3, x4, x5⟩ := q9.ow i o e
                refine ⟨a, u, x1, ?_, x3, x4, x5⟩
                rw [upd_ne (nL4 i o a e x1)]
                exact x2
              rw [bind_assoc'] at a9
              have e9 : (fun (a : List D) (s : S) => (R.ok (yd :: a) s).bind fun ys s => k (es6 ++ ys) s) = fun (ys : List D) (s : S) => k ((es6 ++ [yd]) ++ ys) s := by
                funext ys s
                show k (es6 ++ yd :: ys) s = _
                rw [show es6 ++ yd :: ys = (es6 ++ [yd]) ++ ys by simp]
              rw [e9] at a9
              refine ⟨acc6, h9, ?_, V9, s9, _, es6 ++ [yd], n19.mut (.inl hL), (sv6.trans n7.g).trans n9.g, w9.mut h9 v9 iL9 (fun _ z => by cases z) (fun _ z => by cases z), v9, upd_same, q9u, (DvA.mono (n7.g.trans n9.g) _ _ d6).snoc hy, by rw [List.length_append]; show es6.length + 1 ≤ n + (j + 1); omega, a9⟩
              rw [d6.len]
              exact Nat.lt_of_lt_of_le (by omega) (fits_le fz)
          rcases y7 with ⟨rfl, hd7⟩ | ⟨T, xs7, rfl, nT, rfl, hd7⟩
          · exact go7 V6 (Nx.refl _ _ _) w6 hd7 v6 h6
          · have ne : L ≠ T := ne_of_none h6 nT
            exact go7 _ (Nx.new w6 nT) (w6.new nT fun _ z => by cases z) hd7 (by rw [upd_ne ne]; exact v6) (by rw [upd_ne ne]; exact h6)
        · have e : j = xs.length := by omega
          subst e
          rw [List.drop_length] at a6
          have a6 : AnsL K Z E (k (es6 ++ []) s6) s1 V1 H1 Q := a6
          rw [List.append_nil, ek] at a6
          exact .inl ⟨it1.stop V6 H6 sv6 w6.sv, n + xs.length, V6, s6, acc6, es6, n6, w6, v6, h6, d6, l6, a6⟩
    rcases y with ⟨rfl, hd⟩ | ⟨T, xs, rfl, nT, rfl, hd⟩
    · exact go V2 (Nx.refl _ _ _) w2 hd v2 h2
    · have ne : L ≠ T := ne_of_none h2 nT
      exact go _ (Nx.new w2 nT) (w2.new nT fun _ z => by cases z) hd (by rw [upd_ne ne]; exact v2) (by rw [upd_ne ne]; exact h2)
  · have e : i = ds.length := by omega
    subst e
    rw [List.drop_length] at a2
    refine .inl ⟨it.stop V2 H2 n2.g w2.sv, ?_⟩
    have a3 : AnsL K Z E (.ok (es ++ []) s2) s1 V1 H1 Q := a2
    rw [List.append_nil] at a3
    exact a3 L acc V2 H2 n2 w2 (.inl hL) v2 (by rw [inS_of n2.a]; exact iL) h2 d2
end
end Pp

/-! GnK: a while in a generator's body, with yields within. -/
namespace Gn
open PySem PySem.Spec PyProof.Rows L2 GenW LamX
open Sem (wp)
section
variable {g : Gd} {T : Pact}
def tGWhl (tc : TT) (tb : TGy) : TGy := fun D Hw j σ H => ∃ W : Nat → Hp × Hp → Nat → L2.St → Hp → Prop, (∃ m, W m Hw j σ H) ∧ ∀ m Hw j σ H, W m Hw j σ H → tc σ H fun b H1 => if b = true then
  ∃ N : Hp × Hp → Nat → L2.St → Hp → Prop, (∀ Hw' j' σ' H', N Hw' j' σ' H' → ∃ m', m' < m ∧ W m' Hw' j' σ' H') ∧ tb { D with nx := N, ct := N, bk := D.nx } Hw j σ H1 else D.nx Hw j σ H1
theorem gs_while {test : Expr} {body : List Stmt} {tc : TT} {tb : TGy} {pos : Pos} (ft : Fit g) (hc : ∀ wk, PT (g.X wk) test tc) (hb : GSs g T body tb) : GS g T (.While test body [] pos) (tGWhl tc tb) := by
  refine ⟨fun ip r wk j c fs K J gd lv s σ H D G hn k I ht => ?_⟩
  obtain ⟨W, ⟨m0, w0⟩, turn⟩ := ht
  rw [exec_While]
  refine sg_bind_wrap (wpAny_standAt ?_)
  refine sg_call fun p => ?_
  have gl := fun (kk : Result → Sem PySem.Fin) => gw_loop (k := kk) (c' := .whileLoop test body [] g.env) (l := lv []) (kp := []) (p := p) G rfl rfl
  have loop : ∀ (m r j : Nat) (wk : Wk) (s : Shared) (σ : L2.St) (H : Hp), r + j = T.n → W m wk.2 j σ H → Gi g wk ip σ H s →
      Sg (model g.P g.w) g.A (Fi g T r wk) (.whileLoop test body [] g.env) ((model g.P g.w).den (.whileLoop test body [] g.env))
        (.ret (fun r => ((match r with | .ok f => (.pure f : Sem Flow) | .error e => .raise e).onRaise (cameBack g.env)).wrap K J gd lv) none (gd false) (lv []) c p [] :: fs) s := by
    intro m
    induction m using Nat.strongRecOn with
    | ind m ih =>
      intro r j wk s σ H hn w I
      show Sg _ _ _ _ ((whileTurn test body [] g.env).onRaise (fun x => do noteFrame x g.env; theTreesLotGoes x)) _ _
      rw [Sem.onRaise_eq_wrap]
      unfold whileTurn
      refine sg_bind_wrap ?_
      rw [(gl _).over, ← g.AX I.sz, ← g.envX I.sz]
      refine wpAny_mono ((hc wk).run _ s σ H _ I.inv (turn m wk.2 j σ H w)) (fun b s' hb' => ?_) fun x s' hx => hx.elim
      obtain ⟨H2, I2, q2⟩ := hb'
      rw [g.envX I.sz]
      cases b with
      | true =>
        obtain ⟨N, hN, q2⟩ := q2
        show Sg _ _ _ _ (Sem.wrap _ _ _ _ (if true = true then _ else _)) _ _
        rw [if_pos rfl]
        rw [Sem.bind_eq_wrap', Sem.wrap_wrap]
        refine hb.run ip r wk j _ _ _ _ _ _ s' σ H2 _ (gl _) hn (fun r' wk' j' s7 f hn' hs => ?_) ⟨I.sz, I.yng, I2⟩ q2
        have again : ∀ {σ7 : L2.St} {H7 : Hp}, Gi g wk' ip σ7 H7 s7 → N wk'.2 j' σ7 H7 → Sg (model g.P g.w) g.A (Fi g T r' wk') (.whileLoop test body [] g.env) (.pure (.again (.whileLoop test body [] g.env)))
            (.ret (fun r => ((match r with | .ok f => (.pure f : Sem Flow) | .error e => .raise e).onRaise (cameBack g.env)).wrap K J gd lv) none (gd false) (lv []) c p [] :: fs) s7 := fun {σ7 H7} I7 n7 => by
          obtain ⟨m', hm, w7⟩ := hN wk'.2 j' σ7 H7 n7
          exact sg_again rfl (ih m' hm r' j' wk' s7 σ7 H7 hn' w7 I7)
        cases f with
        | next => obtain ⟨σ7, H7, I7, n7⟩ := hs; exact again I7 n7
        | cont => obtain ⟨σ7, H7, I7, n7⟩ := hs; exact again I7 n7
        | brk => exact sg_leaf (.ok .next) (k r' wk' j' s7 .next hn' hs)
        | ret v => exact sg_leaf (.ok (.ret v)) (k r' wk' j' s7 (.ret v) hn' hs)
      | false =>
        show Sg _ _ _ _ (Sem.wrap _ _ _ _ (if false = true then _ else _)) _ _
        rw [if_neg Bool.false_ne_true]
        rw [Sem.bind_eq_wrap', Sem.wrap_wrap]
        refine (gss_nil (g := g) (T := T)).run ip r wk j _ _ _ _ _ _ s' σ H2 { nx := D.nx, rt := fun _ _ _ _ => False } (gl _) hn (fun r' wk' j' s7 f hn' hs => ?_) ⟨I.sz, I.yng, I2⟩ q2
        cases f with
        | next => exact sg_leaf (.ok .next) (k r' wk' j' s7 .next hn' hs)
        | cont => obtain ⟨_, _, _, n7⟩ := hs; exact n7.elim
        | brk => obtain ⟨_, _, _, n7⟩ := hs; exact n7.elim
        | ret v => obtain ⟨_, _, _, _, _, n7⟩ := hs; exact n7.elim
  exact loop m0 r j wk s σ H hn w0 I
end
end Gn

/-! GpH: while with yields, reversed(range(..)), //, isinstance, calls with keywords. -/
namespace Pp
open PySem PySem.Spec PyProof.Rows L2 Pg Pf LamX Gn
def whlYL (p : Slots → S → R Bool) (F : Slots → Option (List D × Fl)) : Nat → Slots → Option (List D × Fl)
  | 0, _ => none
  | n + 1, ρ => match p (allS ρ) none with
    | .ok b none => if b = true then (match F ρ with
      | none => none
      | some (ys, .nx ρ2) => thenY ys (whlYL p F n ρ2)
      | some (ys, .ct ρ2) => thenY ys (whlYL p F n ρ2)
      | some (ys, .bk ρ2) => some (ys, .nx ρ2)
      | some (ys, .rt d) => some (ys, .rt d)) else some ([], .nx ρ)
    | _ => none
section
variable {K : PySem.W.Frag} {Z : Zn} {out : List D} {t : TGy} {f : Slots → Option (List D × Fl)} {tt : TT} {p : Slots → S → R Bool}
theorem cy_while (n : Nat) (hc : CmpT K Z E0 tt p) (hb : CmpY K Z out t f) : CmpY K Z out (tGWhl tt t) (whlYL p f n) := fun w j V H σ ρ D r a => by
  refine ⟨fun m w j σ H => ∃ V2 ρ2, RepF K Z none w.2 w.1 V2 H σ ρ2 none ∧ AnsY K Z out (whlYL p f m ρ2) j V2 D, ⟨n, V, ρ, r, a⟩, ?_⟩
  rintro m w j σ2 H2 ⟨V2, ρ2, r2, a2⟩
  cases m with
  | zero => exact a2.elim
  | succ m =>
    unfold whlYL at a2
    refine hc _ H2 σ2 (allS ρ2) none _ r2.hW r2.hP ?_
    cases e : p (allS ρ2) none with
    | ok b s1 =>
      cases s1 with
      | some _ => rw [e] at a2; exact a2.elim
      | none =>
        simp only [e] at a2
        refine fun c V3 H3 n3 w3 ec => ?_
        subst ec
        have r3 := r2.back n3 w3
        by_cases hb' : c = true
        · rw [if_pos hb'] at a2 ⊢
          refine ⟨fun w j σ H => ∃ V2 ρ2, RepF K Z none w.2 w.1 V2 H σ ρ2 none ∧ AnsY K Z out (whlYL p f m ρ2) j V2 D, fun w j σ H q => ⟨m, by omega, q⟩, hb w j V2 H3 σ2 ρ2 _ r3 ?_⟩
          cases ef : f ρ2 with
          | none => simp only [ef] at a2; exact a2
          | some q =>
            obtain ⟨ys, fl⟩ := q
            simp only [ef] at a2
            cases fl with
            | nx ρ5 =>
              obtain ⟨b, c⟩ := AnsY.then a2
              exact ⟨b, fun w' V' H' σ' q r' => ⟨V', ρ5, r', c.later q⟩⟩
            | ct ρ5 =>
              obtain ⟨b, c⟩ := AnsY.then a2
              exact ⟨b, fun w' V' H' σ' q r' => ⟨V', ρ5, r', c.later q⟩⟩
            | bk ρ5 => exact a2
            | rt d => exact a2
        · rw [if_neg hb'] at a2 ⊢
          obtain ⟨_, a2⟩ := a2
          have a2 : ∀ w V' H' σ, Same V2 V' → RepF K Z none w.2 w.1 V' H' σ ρ2 none → D.nx w j σ H' := a2
          exact a2 w V2 H3 σ2 (Same.refl _) r3
    | ex _ _ => rw [e] at a2; exact a2.elim
    | un => rw [e] at a2; exact a2.elim
    | dr _ _ => rw [e] at a2; exact a2.elim
    | an _ _ => rw [e] at a2; exact a2.elim
end
/-! ### reversed(range(n)) -/
def rvRF (d : D) (s : S) : R (List D) := match d with
  | .int j => if rgB j = true then .ok (rngD 0 j.toNat).reverse s else .un
  | _ => .un
def rvRI (f : Slots → S → R D) (ρ : Slots) (s : S) : R (List D) := (f ρ s).bind rvRF
section
variable {K : PySem.W.Frag} {Z : Zn} {E : XK} {te : TE} {f : Slots → S → R D} {ua : TA} {fa : Slots → S → R (List D)}
theorem itR_rvR {V : Hp} (n : Nat) : ItR K Z V (Itc (0 + ((n : Nat) : Int) - 1) (-1) n) (rngD 0 n).reverse := by
  have ln : (rngD 0 n).reverse.length = n := by rw [List.length_reverse, rngD_len]
  refine ⟨fun i V1 H1 e1 e2 l => by rw [ln] at l; exact l, fun V1 H1 e1 e2 => by rw [ln]; exact Nat.le_refl _, fun i V1 H1 x H2 e1 e2 l y => ?_⟩
  obtain ⟨rfl, rfl⟩ := y
  rw [ln] at l
  refine ⟨.int (0 + ((n - 1 - i : Nat) : Int)), ?_, .inl ⟨rfl, ?_⟩⟩
  · rw [List.getElem?_reverse (by rw [rngD_len]; exact l), rngD_len]
    unfold rngD
    rw [List.getElem?_map, List.getElem?_range (by omega)]
    rfl
  · have : (0 : Int) + ((n : Nat) : Int) - 1 + ((i : Nat) : Int) * (-1) = 0 + ((n - 1 - i : Nat) : Int) := by omega
    rw [this]
    exact .int _
theorem ci_rvR (h : Cmp K Z E te f) : CmpI K Z E (iRevR (tRg1 te)) (rvRI f) := fun V H σ ρ s Q w p a =>
  h V H σ ρ s _ w p (Ans.bind a fun d s1 v V1 H1 n1 w1 r1 a1 => by
    cases r1 with
    | int j =>
      have a1 : Ans K Z E (ItR K Z) (if rgB j = true then .ok (rngD 0 j.toNat).reverse s1 else .un) s1 V1 H1 Q := a1
      by_cases e : rgB j = true
      · rw [if_pos e] at a1
        have b := rgB_of e
        refine ⟨j, rfl, by decide, by decide, b.1, b.2, ?_⟩
        have e1 : (j - 0).toNat = j.toNat := by rw [Int.sub_zero]
        rw [e1]
        exact Ans.pure w1 (itR_rvR j.toNat) a1
      · rw [if_neg e] at a1
        exact a1.elim
    | _ => exact a1.elim)
/-! ### // -/
def fdvF (x y : D) (s : S) : R D := match x, y with
  | .int i, .int j => if (decide (0 < j) && decide (j < 1073741824)) = true then .ok (.int (i / j)) s else .un
  | _, _ => .un
theorem c2_fdv : Cmp2 K Z E (rI CDiv fun i j => .int (i / j)) fdvF := fun V H s x y dx dy Q w rx ry a => by
  cases rx with
  | int i =>
    cases ry with
    | int j =>
      have a : Ans K Z E (Dv K Z) (if (decide (0 < j) && decide (j < 1073741824)) = true then .ok (.int (i / j)) s else .un) s V H Q := a
      by_cases e : (decide (0 < j) && decide (j < 1073741824)) = true
      · rw [if_pos e] at a
        have e := Bool.and_eq_true_iff.mp e
        exact ⟨i, j, rfl, rfl, ⟨of_decide_eq_true e.1, of_decide_eq_true e.2⟩, Ans.pure w (.int _) a⟩
      · rw [if_neg e] at a
        exact a.elim
    | _ => exact a.elim
  | _ => exact a.elim
/-! ### isinstance -/
def isiT (d : D) (s : S) : R D := match d with
  | .tup _ => .ok (.bl true) s
  | _ => .un
def isiI (d : D) (s : S) : R D := match d with
  | .int _ => .ok (.bl true) s
  | _ => .un
def isiB (d : D) (s : S) : R D := match d with
  | .int _ => .ok (.bl false) s
  | _ => .un
theorem ty_tup {H : Hp} {a : Addr} {xs : List L2.V} (h : SqT K H a xs) : TyX K H (.ref a) (.type "tuple") := by
  rcases h with (h | ⟨o, h⟩) | ⟨o, its, n, e, c, _⟩
  · exact .base (.tup h)
  · exact .fTuple h
  · exact .kTuple e c
theorem c_isiT (h : Cmp K Z E te f) : Cmp K Z E (tCB (rIsi K) (tCons te (tCons (tC (.ty "tuple")) tNil))) (b1 isiT f) := fun V H σ ρ s Q w p a =>
  h V H σ ρ s _ w p (Ans.bind a fun d s1 v V1 H1 n1 w1 r1 a1 => by
    cases r1 with
    | tup hx hs => exact ⟨_, _, _, _, true, rfl, .ty _, ty_tup (Evl.ex_t w1.sv hx), kit_ty (by decide +kernel), Ans.pure w1 (.bl _) a1⟩
    | _ => exact a1.elim)
theorem c_isiI (h : Cmp K Z E te f) : Cmp K Z E (tCB (rIsi K) (tCons te (tCons (tC (.ty "int")) tNil))) (b1 isiI f) := fun V H σ ρ s Q w p a =>
  h V H σ ρ s _ w p (Ans.bind a fun d s1 v V1 H1 n1 w1 r1 a1 => by
    cases r1 with
    | int i => exact ⟨_, _, _, _, true, rfl, .ty _, .base (.int _), kit_ty (by decide +kernel), Ans.pure w1 (.bl _) a1⟩
    | _ => exact a1.elim)
theorem c_isiB (h : Cmp K Z E te f) : Cmp K Z E (tCB (rIsi K) (tCons te (tCons (tC (.ty "bool")) tNil))) (b1 isiB f) := fun V H σ ρ s Q w p a =>
  h V H σ ρ s _ w p (Ans.bind a fun d s1 v V1 H1 n1 w1 r1 a1 => by
    cases r1 with
    | int i => exact ⟨_, _, _, _, false, rfl, .ty _, .base (.int _), kit_ty (by decide +kernel), Ans.pure w1 (.bl _) a1⟩
    | _ => exact a1.elim)
/-! ### calls with keywords alone -/
/-- g puts the keywords' values in the parameters' order -/
def nkF (m : Nat) (g : {α : Type} → List α → List α) (F : List D → S → R D) (ds : List D) (s : S) : R D := if ds.length = m then F (g ds) s else .un
end
/-- a def called with keywords alone -/
structure CalDK (P : Program) (w : World) (K : PySem.W.Frag) (mg : Str → Option Value) (base : Heap) (Z : Zn) (k : Nat) (x : Str) (n : Nat) (ks : List Str) (g : {α : Type} → List α → List α) (F : List D → S → R D) : Prop where
  ex : ∃ (f : Addr) (fd : FuncData) (ps : List Str), FnOk P w K mg base (L2.CX P w) k f fd ps (spD K Z n F) ∧ mg x = some (.ref f) ∧ PySem.W.keepIn K (.ref f) = true ∧ KBn K fd ps 0 ks (fun _ ws => g ws) (fun _ zs => g zs)
def tCallK (m : Nat) (sp : Sp) (gV : List L2.V → List L2.V → List L2.V) (E : XK) (tk : TA) : TE := fun σ H Q => tk σ H fun zs H1 => zs.length = m ∧ sp (gV [] zs) H1 Q E
section
variable {X : Cx} {Z : Zn} {E : XK} {k j n : Nat} {x : Str} {F : List D → S → R D} {p pos : Pos} {ks : List Str} {kws : List Keyword} {tk : TA} {g : {α : Type} → List α → List α}
theorem pe_cK (c : CalDK X.prog X.w X.K X.mg X.base Z k x n ks g F) (hr : Room j X.A) (hk : k ≤ j) (hx : Passes (L2.CX X.prog X.w) X E) (hg : Gl X x) (hw : PK X kws tk) (hnm : (backToKw pos (keywordEach kws X.env)).filterMap (·.1) = ks := by rfl) (hpl : ((backTo pos (starEach [] X.env)).any (·.1) || (backToKw pos (keywordEach kws X.env)).any (·.1.isNone)) = false := by rfl)
    (hall : (backToKw pos (keywordEach kws X.env)).all (·.1.isSome) = true := by rfl) (hdb : (x == ("__debug__" : Str)) = false := by decide) :
    PE X (.Call (.Name x p) [] kws pos) (tCallK ks.length (spD X.K Z n F) (fun _ zs => g zs) E tk) := by
  obtain ⟨f, fd, ps, Fn, hm, kp, hb⟩ := c.ex
  refine ⟨fun pins s σ H Q I h => ?_⟩
  refine wpAny_Call_Name_kw (ld_glob I hg hm ?_ hdb)
  refine PySem.W.callWith_KW0 (first := []) (h₀ := X.base) I.ok.mod.kin kp hall ?_ hpl
  refine thn (hw.run pos pins s σ H _ I h) fun ws s1 ⟨zs, H1, I1, rz, l2, q2⟩ => ⟨I1.kIn, ?_⟩
  rw [hnm]
  exact run_fnN Fn (hr.mono hk) hb hx I1 .nil rz rfl l2 q2
end
section
variable {K : PySem.W.Frag} {Z : Zn} {E : XK} {ua : TA} {fa : Slots → S → R (List D)} {F : List D → S → R D} {n m : Nat} {g : {α : Type} → List α → List α}
theorem c_cK (gl : ∀ {α : Type} (l : List α), l.length = m → (g l).length = n) (gd : ∀ {G : Hp} {vs : List L2.V} {ds : List D}, DvA K Z G vs ds → DvA K Z G (g vs) (g ds)) (ha : CmpA K Z E ua fa) : Cmp K Z E (tCallK m (spD K Z n F) (fun _ zs => g zs) E ua) (bC (nkF m g F) fa) := fun V H σ ρ s Q w p a =>
  ha V H σ ρ s _ w p (Ans.bind a fun ds s1 vs V1 H1 n1 w1 r1 a1 => by
    unfold nkF at a1
    by_cases l : ds.length = m
    · rw [if_pos l] at a1
      exact ⟨by rw [r1.len, l], gl vs (by rw [r1.len, l]), V1, g ds, s1, w1, gd r1, a1⟩
    · rw [if_neg l] at a1
      exact a1.elim)
end
end Pp

/-! EnT: enumerate(x) of a tuple, walked. -/
namespace EnT
open PySem PySem.Spec PyProof.Rows L2
open Sem (wp)
theorem new_enum {v : Value} {o : Obj} {Hb : Heap → Prop} (B : Begins v o Hb) :
    Meets (Builtin.«enumerate.__new__» ⟨[.type "enumerate", v], []⟩) (fun _ R s => Hb s.heap ∧ R (.ok (.ret (.ref (s.heap.push o).objs.size))) { s with heap := (s.heap.push o).push { cls := .type "enumerate", data := .fields #[.none, .bool false, .ref s.heap.objs.size, rawInt 0, .none, .none] } }) :=
  .of_wp fun prog w A R s h => by
    obtain ⟨hp, gg, dd, tk, os⟩ := s; obtain ⟨hb, h⟩ := h
    have hsub := sub_enumerate
    have go : ∀ {A1 : Around} {E : Value → Shared → Prop} {Q : Value → Shared → Prop}, Q (.ref hp.objs.size) ⟨hp.push o, gg, dd, tk, os⟩ → wpAny (model prog w) A1 (pyIter v) Q E ⟨hp, gg, dd, tk, os⟩ := fun q => B.iter prog w _ _ ⟨hp, gg, dd, tk, os⟩ _ hb q
    wp_walk using go
    refine wpAny_stack_any fun st => wpAny_pure ?_
    split
    · rename_i c _ _ _ _ _
      cases (c == Value.type "enumerate") <;> (wp_walk using go; exact ⟨_, rfl, h⟩)
    · wp_walk using go
      exact ⟨_, rfl, h⟩
section
variable {prog : Program} {w : World} {A : Around} {E : Value → Shared → Prop} {s : Shared}
theorem call_enum {v : Value} {o : Obj} {Hb : Heap → Prop} {Q : Value → Shared → Prop} (B : Begins v o Hb) (hb : Hb s.heap)
    (h : ∀ h', IsEnum h' (s.heap.objs.size + 1) s.heap.objs.size 0 .none → h'.get? s.heap.objs.size = some o → (∀ b u, s.heap.get? b = some u → h'.get? b = some u) → Q (.ref (s.heap.objs.size + 1)) { s with heap := h' }) :
    wpAny (model prog w) A (call (.type "enumerate") [v]) Q E s := by
  refine callType_new F.called_enumerate (by decide) (F.typeCall_enumerate_1 _) (F.newCall_enumerate_1 _) (fun obj => F.args_object_init_2 obj _) F.entry_enumerate_new (new_enum B) ⟨hb, ?_⟩
  have hz : (s.heap.push o).objs.size = s.heap.objs.size + 1 := Heap.size_push ..
  have new := Heap.get?_push_size (s.heap.push o) (o := { cls := .type "enumerate", data := .fields #[.none, .bool false, .ref s.heap.objs.size, rawInt 0, .none, .none] }) rfl
  rw [hz] at new ⊢
  have old : ∀ b u, s.heap.get? b = some u → ((s.heap.push o).push { cls := .type "enumerate", data := .fields #[.none, .bool false, .ref s.heap.objs.size, rawInt 0, .none, .none] }).get? b = some u := fun b u x => Heap.get?_push_of_some _ (Heap.get?_push_of_some _ x)
  exact ⟨⟨_, new, rfl⟩, h _ new (Heap.get?_push_of_some _ (Heap.get?_push_size _ B.free)) old⟩
end
/-- the tuple at a, each item in a new pair -/
def IteT (K : PySem.W.Frag) (a : Addr) : It :=
  ⟨fun i H => ∃ (xs : List V) (x : V), SqT K H a xs ∧ xs[i]? = some x, fun i H v H' => ∃ T x, v = .ref T ∧ H T = none ∧ H' = upd H T (.tup [.int (i : Nat), x]) ∧ ∀ xs, SqT K H a xs → xs[i]? = some x, fun i H => ∃ xs : List V, SqT K H a xs ∧ xs.length ≤ i⟩
theorem sqt_inj {X : Cx} {pins : List (Addr × Obj)} {σ : L2.St} {H : Hp} {s : Shared} {a : Addr} {xs ys : List V} (I : Inv X pins σ H s) (h1 : SqT X.K H a xs) (h2 : SqT X.K H a ys) : xs = ys := I.tuple_inj h1 h2
theorem turnT {P : Program} {w : World} {K : PySem.W.Frag} {elts : List Expr} {kk : Nat} {tpos : Pos} (a e it : Addr) :
    Turn P w K (.Tuple elts kk tpos) (IteT K a) [e, it] e (fun i h => (∃ old, IsEnum h e it ((i : Nat) : Int) old) ∧ h.IsTupleIter it a i ∧ e ≠ it) where
  mem := List.mem_cons_self
  obj := fun i h st b hb => by
    obtain ⟨⟨old, he⟩, ⟨o, ho, hc, hd⟩, _⟩ := st
    rcases List.mem_cons.mp hb with z | z
    · rw [z]
      exact ⟨_, he, fun v q => nomatch q⟩
    · exact ⟨o, (List.mem_singleton.mp z) ▸ ho, fun v q => by rw [hd] at q; cases q⟩
  keep := fun i h h' st k => ⟨⟨_, k e List.mem_cons_self _ st.1.choose_spec⟩, st.2.1.at fun o q => k it (List.mem_cons_of_mem _ List.mem_cons_self) o q, st.2.2⟩
  item := by
    intro X hP hw hK hc i pins s σ H E I hf st hg
    subst hP hw hK
    obtain ⟨⟨old, he⟩, hit, hne⟩ := st
    obtain ⟨xs, x, hq, hx⟩ := hg
    obtain ⟨its, rv, pl, hz⟩ := I.tuple hq
    obtain ⟨u, hu, ru⟩ := rv.get hx
    have isT : s.heap.IsTuple a its.toArray := pl
    have ll : i < its.toArray.size := by
      have := (List.getElem?_eq_some_iff.mp hu).1
      simpa using this
    have ea : e ≠ a := fun z => by
      obtain ⟨o, ho, oc, _⟩ := isT
      rw [← z, he] at ho
      cases ho
      exact absurd (Value.type.inj oc) (by decide)
    have ia : a ≠ it := fun z => by
      obtain ⟨o, ho, oc, _⟩ := isT
      obtain ⟨o', ho', oc', _⟩ := hit
      rw [z, ho'] at ho
      cases ho
      rw [oc] at oc'
      exact absurd (Value.type.inj oc') (by decide)
    have hel : e < s.heap.objs.size := Heap.lt_size he
    have hil : it < s.heap.objs.size := let ⟨_, q, _⟩ := hit; Heap.lt_size q
    refine wpAny_pyNext_enum_itemD (Draws.tuple (A := X.A.in1) (I.ok.hd hc) it a ia its.toArray) he ⟨hit, isT⟩ ll hne (fun z => by
      rcases List.mem_cons.mp z with z | z
      · exact hne z
      · exact ea (List.mem_singleton.mp z)) fun y h' tk hP ho hs' hT hsz hk => ?_
    obtain rfl : u = y := by
      have : its.toArray[i]? = some u := by simpa using hu
      rw [this] at hP
      exact Option.some.inj hP
    refine ⟨_, rfl, wpAny_letOwnedTupleGo_enum (s := { s with heap := h', toks := tk + 1 }) ho fun h2 he' sb => ?_⟩
    have hT2 : h2.get? s.heap.objs.size = some { cls := .type "tuple", data := .seq #[.int i tk, u] } := (sb.2 _ (Nat.ne_of_gt hel)).trans hT
    have new : ObjOk X.prog X.w (upd H s.heap.objs.size (.tup [.int (i : Nat), x])) h2 s.heap.objs.size (.tup [.int (i : Nat), x]) := ⟨(by decide : 2 ≤ sizeLine), [.int i tk, u], .cons ⟨_, rfl⟩ (.cons ru .nil), ⟨_, hT2, rfl, _, rfl⟩⟩
    have I1 : Inv X pins σ (upd H s.heap.objs.size (.tup [.int (i : Nat), x])) { s with heap := h2, toks := tk + 1 } := I.turnedNew (ch := [e, it]) (fun b ob hb q => (sb.2 b (fun z => hb (by simp [z]))).trans (hk b ob (fun z => hb (by simp [z])) (fun z => hb (by simp [z])) q)) hf (Nat.le_refl _) new
    refine ⟨.ref s.heap.objs.size, _, I1, rfl, ⟨_, x, rfl, I.hok.fresh (Nat.le_refl _), rfl, fun ys hy => (sqt_inj I hy hq) ▸ hx⟩, ⟨⟨u, ?_⟩, hs'.1.at fun o q => (sb.2 it (Ne.symm hne)).trans q, hne⟩, fun b hb => ?_⟩
    · have ei : ((i + 1 : Nat) : Int) = (i : Int) + 1 := by omega
      rw [ei]; exact he'
    have lb : b < s.heap.objs.size := by
      rcases List.mem_cons.mp hb with z | z
      · exact z ▸ hel
      · exact (List.mem_singleton.mp z) ▸ hil
    rw [upd_ne (Nat.ne_of_lt lb)]
    exact (hf b hb).1
  done := by
    intro X hP hw hK hc i pins s σ H E I hf st hg
    subst hP hw hK
    obtain ⟨⟨old, he⟩, hit, hne⟩ := st
    obtain ⟨xs, hq, hx⟩ := hg
    obtain ⟨its, rv, pl, hz⟩ := I.tuple hq
    have isT : s.heap.IsTuple a its.toArray := pl
    obtain ⟨f0, f1, f2, f3, f4, f5⟩ := hf it (List.mem_cons_of_mem _ List.mem_cons_self)
    have hl := rv.length
    have hh : X.A.in1.handled = none := I.ok.hd hc
    have hT : s.TypeIs (.ref e) "enumerate" := ⟨_, he, rfl⟩
    unfold pyNext
    refine wpAny_bind (wpAny_attempt (wpAny_callSpecial?_slot (name := Str.ofString "__next__") hT F.slot_enumerate_next (wpAny_call_entry F.slot_enumerate_next hT F.entry_enumerate_next ?_ (F.args_enumerate_next_1 _))))
    show wpAny _ _ (field (.ref e) 2 >>= _) _ _ _
    refine wpAny_bind (wpAny_field he rfl (x := .ref it) rfl (wpAny_bind (wpAny_nextOf_tuple_end hh hit isT (by simp; omega) fun h' x he' hx' => ?_)))
    obtain ⟨o, ho, oc⟩ := hx'
    refine wpAny_bind (wpAny_isInstance (T := "StopIteration") (b := true) ⟨o, ho, oc⟩ isSubtype_stop (wpAny_pure ⟨rfl, I.turned (t' := s.toks) (fun b o hb q => he' b o hb q) f0 f1 f3 f4 f5⟩))
  self := fun A i s Q E st h => wpAny_pyIter_enum st.1.choose_spec h
def iEnumT (K : PySem.W.Frag) (ta : TA) : TI := fun σ H R => ta σ H fun vs H1 => ∃ a xs, vs = [.ref a] ∧ SqT K H1 a xs ∧ R (IteT K a) H1
theorem pi_enumT {X : Cx} {e : Expr} {ta : TA} {p pos tpos : Pos} {elts : List Expr} {kk : Nat} (hg : Gl X "enumerate") (hm : X.mg "enumerate" = none) (ha : PA X [e] ta) (hs : starEach [e] X.env = [(false, eval e X.env)] := by rfl) :
    PI X (.Tuple elts kk tpos) (.Call (.Name "enumerate" p) [e] [] pos) (iEnumT X.K ta) := by
  refine ⟨fun pins s σ H R I h => Call_ (ld_blt I hg hm boot_enumerate (PyProof.Rows.callWith_type1 (thn (ha.run pos pins s σ H _ I h) fun us s1 ⟨vs, H1, I1, r1, a, xs, ex, hq, q⟩ => ?_) hs rfl))⟩
  subst ex
  obtain ⟨u, rfl, ru⟩ := vals1 r1
  cases ru
  obtain ⟨its, rv, pl, hz⟩ := I1.tuple hq
  refine call_enum (begins_tuple a its.toArray) pl fun h' he hit hk => wpAny_pyIter_enum he ?_
  have I2 : Inv X pins σ H1 { s1 with heap := h' } := I1.kept (t' := s1.toks) hk
  refine ⟨s1.heap.objs.size + 1, [s1.heap.objs.size + 1, s1.heap.objs.size], _, _, H1, rfl, I2, turnT a (s1.heap.objs.size + 1) s1.heap.objs.size, ⟨⟨.none, he⟩, ⟨_, hit, rfl, rfl⟩, Nat.succ_ne_self _⟩, fun b hb => ?_, q⟩
  have hle : s1.heap.objs.size ≤ b := by
    rcases List.mem_cons.mp hb with z | z
    · rw [z]; exact Nat.le_add_right _ _
    · rw [List.mem_singleton.mp z]; exact Nat.le_refl _
  exact I1.fpOk hle (I1.hok.fresh hle)
end EnT

/-! GpI: enumerate of a tuple, not in, len of an own class, generator defs called with both. -/
namespace Pp
open PySem PySem.Spec PyProof.Rows L2 Pg Pf LamX Gn
def enuD (ds : List D) : List D := ds.zipIdx.map fun p => .tup [.int (p.2 : Nat), p.1]
def enuF (ds : List D) (s : S) : R (List D) := match ds with
  | [.tup xs] => .ok (enuD xs) s
  | _ => .un
section
variable {K : PySem.W.Frag} {Z : Zn} {E : XK} {te : TE} {f : Slots → S → R D} {ua : TA} {fa : Slots → S → R (List D)}
theorem enuD_len (ds : List D) : (enuD ds).length = ds.length := by unfold enuD; rw [List.length_map, List.length_zipIdx]
theorem itR_enuT {V : Hp} {a : Addr} {vs : List L2.V} {ds : List D} (h : SqT K V a vs) (hs : DvA K Z V vs ds) : ItR K Z V (EnT.IteT K a) (enuD ds) := by
  have st : ∀ {V1 H1 : Hp}, Same V V1 → Same V1 H1 → SqT K H1 a vs := fun e1 e2 => Evl.ex_t (e1.trans e2) h
  refine ⟨fun i V1 H1 e1 e2 l => ?_, fun V1 H1 e1 e2 => ⟨vs, st e1 e2, by rw [enuD_len, hs.len]; exact Nat.le_refl _⟩, fun i V1 H1 x H2 e1 e2 l y => ?_⟩
  · have l2 : i < vs.length := by rw [hs.len, ← enuD_len]; exact l
    exact ⟨vs, vs[i], st e1 e2, List.getElem?_eq_getElem l2⟩
  · obtain ⟨T, x0, rfl, hT, rfl, q⟩ := y
    obtain ⟨d, e, r⟩ := hs.at' (q vs (st e1 e2))
    refine ⟨.tup [.int (i : Nat), d], ?_, .inr ⟨T, _, rfl, hT, rfl, ?_⟩⟩
    · unfold enuD
      rw [List.getElem?_map, List.getElem?_zipIdx, e]
      simp
    · have nV : V1 T = none := by
        cases z : V1 T with
        | none => rfl
        | some o => rw [e2 T o z] at hT; cases hT
      have sm : Same V (upd V1 T (.tup [.int (i : Nat), x0])) := e1.trans (Pf.Same.new nV)
      exact .tup (.inl (.inl upd_same)) (.cons (.int _) (.cons (Dv.mono sm _ _ r) .nil))
theorem ci_enumT (h : CmpA K Z E ua fa) : CmpI K Z E (EnT.iEnumT K ua) (rgI enuF fa) := fun V H σ ρ s Q w p a =>
  h V H σ ρ s _ w p (Ans.bind a fun ds s1 vs V1 H1 n1 w1 r1 a1 => by
    unfold enuF at a1
    split at a1
    · rename_i xs
      cases r1 with
      | cons r rr =>
        cases rr
        cases r with
        | tup hx hs => exact ⟨_, _, rfl, Evl.ex_t w1.sv hx, Ans.pure w1 (itR_enuT hx hs) a1⟩
    · exact a1.elim)
/-! ### not in -/
def rNInT (K : PySem.W.Frag) : R2 := fun x y H Q => ∃ d ds, Dp K H x d ∧ Dp K H y (.tuple ds) ∧ SeqAt.shaped d = true ∧ SeqAt.shaped (.tuple ds) = true ∧ Q (.bl (!(ds.any fun z => PyData.eqv z d))) H
theorem op_ninT {X : Cx} (hu : X.A.units + 65 < cLine) : OpR X (compareOp .NotIn) (rNInT X.K) := by
  intro pins s σ H x y v u Q I rx ry h
  obtain ⟨d, ds, hd, he, sd, se, q⟩ := h
  obtain ⟨as, r1⟩ := Dp.reads I d x v hd rx
  obtain ⟨bs, r2⟩ := Dp.reads I (.tuple ds) y u he ry
  exact SeqAt.notIn_tuple_reads r2 r1 (SeqAt.canLay_of_shaped se) (SeqAt.canLay_of_shaped sd) (room_in_shaped sd hu) ⟨.bl _, H, I, rfl, q⟩
def ninTF (x y : D) (s : S) : R D := match y with
  | .tup ds => if (x.isPy && isPyA ds && SeqAt.shaped x.py && SeqAt.shaped (.tuple (pyA ds))) = true then .ok (.bl (!((pyA ds).any fun z => PyData.eqv z x.py))) s else .un
  | _ => .un
theorem c2_ninT : Cmp2 K Z E (rNInT K) ninTF := fun V H s x y dx dy Q w rx ry a => by
  cases ry with
  | @tup b vs ds hx hs =>
    have a : Ans K Z E (Dv K Z) (if (dx.isPy && isPyA ds && SeqAt.shaped dx.py && SeqAt.shaped (.tuple (pyA ds))) = true then .ok (.bl (!((pyA ds).any fun z => PyData.eqv z dx.py))) s else .un) s V H Q := a
    by_cases e : (dx.isPy && isPyA ds && SeqAt.shaped dx.py && SeqAt.shaped (.tuple (pyA ds))) = true
    · rw [if_pos e] at a
      have e1 := Bool.and_eq_true_iff.mp e
      have e2 := Bool.and_eq_true_iff.mp e1.1
      have e3 := Bool.and_eq_true_iff.mp e2.1
      exact ⟨dx.py, pyA ds, Dp.mono w.sv _ _ (Dv.dp _ _ rx e3.1), Dp.mono w.sv _ _ (.tup hx (DvA.dp _ _ hs e3.2)), e2.2, e1.2, Ans.pure w (.bl _) a⟩
    · rw [if_neg e] at a
      exact a.elim
  | _ => exact a.elim
/-! ### len(x) by the class's __len__ -/
end
structure LenD (P : Program) (w : World) (K : PySem.W.Frag) (mg : Str → Option Value) (base : Heap) (Z : Zn) (k c : Nat) (F : List D → S → R D) : Prop where
  ex : ∃ (f : Addr) (fd : FuncData), PySem.W.findIn K (.ref (Z.cl c)) "__len__" = some (some (.ref f)) ∧ PySem.W.isFn K (.ref f) = true ∧ FnOk P w K mg base (L2.CX P w) k f fd ["self"] (spD K Z 1 F) ∧ Binds K fd ["self"] []
def rLenD (K : PySem.W.Frag) (Z : Zn) (c : Nat) (F : List D → S → R D) (E : XK) : List L2.V → Hp → VK → Prop := fun xs H Q => ∃ a dx fs, xs = [.ref a] ∧ H a = some (.ins (Z.cl c) dx fs) ∧ spD K Z 1 F [.ref a] H (fun v H' => ∃ n : Int, v = .int n ∧ 0 ≤ n ∧ n < 2 ^ 63 ∧ Q (.int n) H') E
def lenOF (c : Nat) (F : List D → S → R D) (xs : List D) (s : S) : R D := match xs with
  | [.obj c' ds] => if c' = c then (F [.obj c' ds] s).bind fun d s => match d with
    | .int n => if (decide (0 ≤ n) && decide (n < 9223372036854775808)) = true then .ok (.int n) s else .un
    | _ => .un else .un
  | _ => .un
section
variable {K : PySem.W.Frag} {Z : Zn} {E : XK}
theorem cC_lenD {c : Nat} {F : List D → S → R D} : CmpC K Z E (rLenD K Z c F E) (lenOF c F) := fun V H s xs ds Q w r a => by
  unfold lenOF at a
  split at a
  · rename_i c' es
    by_cases ec : c' = c
    · rw [if_pos ec] at a
      subst ec
      cases r with
      | cons r1 rr =>
        cases rr
        cases r1 with
        | @obj b _ dx fs _ h hn hs =>
          refine ⟨b, dx, fs, rfl, w.sv _ _ h, rfl, V, [.obj c' es], s, w, .cons (.obj h hn hs) .nil, Ans.bind a fun d s1 v V1 H1 n1 w1 r1 a1 => ?_⟩
          cases r1 with
          | int n =>
            have a1 : Ans K Z E (Dv K Z) (if (decide (0 ≤ n) && decide (n < 9223372036854775808)) = true then .ok (.int n) s1 else .un) s1 V1 H1 Q := a1
            by_cases e : (decide (0 ≤ n) && decide (n < 9223372036854775808)) = true
            · rw [if_pos e] at a1
              have e := Bool.and_eq_true_iff.mp e
              exact ⟨n, rfl, of_decide_eq_true e.1, of_decide_eq_true e.2, Ans.pure w1 (.int _) a1⟩
            · rw [if_neg e] at a1
              exact a1.elim
          | _ => exact a1.elim
    · rw [if_neg ec] at a
      exact a.elim
  · exact a.elim
end
section
variable {X : Cx} {Z : Zn} {E : XK} {k j c : Nat} {F : List D → S → R D}
theorem call_lenD (l : LenD X.prog X.w X.K X.mg X.base Z k c F) (hr : Room j X.A) (hk : k + 1 ≤ j) (hx : Passes (L2.CX X.prog X.w) X E) : CallR X (.builtin "len") (rLenD X.K Z c F E) := by
  intro pins s σ H xs us Q I r h
  obtain ⟨a, dx, fs, rfl, ha, q⟩ := h
  obtain ⟨u, rfl, ru⟩ := vals1 r
  cases (show u = Value.ref a from ru)
  obtain ⟨f, fd, hs, hf, Fn, b⟩ := l.ex
  obtain ⟨mA, O, _⟩ := ins_get I.hok ha
  obtain ⟨od, J, _⟩ := O.look
  obtain ⟨m, hF⟩ := I.fr
  have hr1 : Room (k + 1) X.A := hr.mono hk
  refine PySem.W.len_K hF I.ok.mod.kin J hs hf ?_
  refine wpAny_call (codeAny_mono (Fn.run X.A.in1 X.stack s H ⟨[.ref a], []⟩ [.ref a] [.ref a] (fun v H' => ∃ n : Int, v = .int n ∧ 0 ≤ n ∧ n < 2 ^ 63 ∧ Q (.int n) H') E hr1.in1 I.env0.in1 (b s [.ref a] I.kIn rfl) (.cons rfl .nil) q) fun r s' hq => ?_)
  cases r with
  | error e => exact hx pins σ H s e s' I hq
  | ok fl =>
    cases fl with
    | ret w =>
      obtain ⟨z', H', I', rz, n, en, h0, h1, qz⟩ := I.after hq
      subst en
      obtain ⟨t, et⟩ := (show ∃ t, w = Value.int n t from rz)
      cases et
      exact ⟨⟨h0, h1⟩, .int n, H', I'.tok _, ⟨_, rfl⟩, qz⟩
    | next => exact False.elim hq
    | brk => exact False.elim hq
    | cont => exact False.elim hq
end
/-! ### a generator def called with values and keywords -/
structure CalYN (P : Program) (w : World) (K : PySem.W.Frag) (mg : Str → Option Value) (base : Heap) (Z : Zn) (k : Nat) (x : Str) (n m : Nat) (ks : List Str) (F : List D → Option (List D)) : Prop where
  ex : ∃ (f : Addr) (fd : FuncData) (ps : List Str), GnOk P w K mg base k f fd ps (spYD K Z n F) ∧ mg x = some (.ref f) ∧ PySem.W.keepIn K (.ref f) = true ∧ KBn K fd ps m ks (fun us ws => us ++ ws) (fun vs zs => vs ++ zs)
/-- a def with defaults behind the values -/
structure CalYD (P : Program) (w : World) (K : PySem.W.Frag) (mg : Str → Option Value) (base : Heap) (Z : Zn) (k : Nat) (x : Str) (n : Nat) (dd : List D) (F : List D → Option (List D)) : Prop where
  ex : ∃ (f : Addr) (fd : FuncData) (ps : List Str) (dvs : List L2.V) (dus : List Value), GnOk P w K mg base k f fd ps (spYD K Z n F) ∧ mg x = some (.ref f) ∧ PySem.W.keepIn K (.ref f) = true ∧ Binds K fd ps dus ∧ Vals dvs dus ∧ (∀ G, DvA K Z G dvs dd)
def tGnN (n m : Nat) (sp : SpY) (t tk : TA) : Gn.TGn := fun σ H R => t σ H fun vs H1 => tk σ H1 fun zs H2 => vs.length = n ∧ zs.length = m ∧ ∃ T G, sp (vs ++ zs) H2 T G ∧ R T G H2
section
variable {X : Cx} {Z : Zn} {k j n m : Nat} {x : Str} {F : List D → Option (List D)} {p pos : Pos} {e : Expr} {es : List Expr} {ks : List Str} {kws : List Keyword} {t tk : TA} {dd : List D}
theorem pgn_cN (c : CalYN X.prog X.w X.K X.mg X.base Z k x n m ks F) (hr : Room j X.A) (hk : k ≤ j) (hg : Gl X x) (ha : PA X (e :: es) t) (hw : PK X kws tk) (hnm : (backToKw pos (keywordEach kws X.env)).filterMap (·.1) = ks := by rfl) (hall : (backToKw pos (keywordEach kws X.env)).all (·.1.isSome) = true := by rfl)
    (hdb : (x == ("__debug__" : Str)) = false := by decide) (he : starEach (e :: es) X.env = (false, eval e X.env) :: starEach es X.env := by rfl) (hpl : ((backTo pos (starEach (e :: es) X.env)).any (·.1) || (backToKw pos (keywordEach kws X.env)).any (·.1.isNone)) = false := by rfl) :
    PGn X k (.Call (.Name x p) (e :: es) kws pos) (tGnN m ks.length (spYD X.K Z n F) t tk) := by
  obtain ⟨f, fd, ps, G, hm, kp, hb⟩ := c.ex
  refine ⟨fun pins s σ H R I h => ?_⟩
  refine wpAny_Call_Name_kw (ld_glob I hg hm ?_ hdb)
  refine PySem.W.callWith_KW (h₀ := X.base) I.ok.mod.kin kp hall (thn (ha.run pos pins s σ H _ I h) fun us s1 ⟨vs, H1, I1, r, q⟩ => ?_) hpl he
  refine thn (hw.run pos pins s1 σ H1 _ I1 q) fun ws s2 ⟨zs, H2, I2, rz, l1, l2, T, G2, q2, q3⟩ => ⟨I2.kIn, ?_⟩
  rw [hnm]
  exact run_gn G (hr.mono hk) I2 (hb.to s2 us ws I2.kIn (r.length.symm.trans l1) (rz.length.symm.trans l2)) (hb.rel r rz) q2 q3
theorem pgn_cD (c : CalYD X.prog X.w X.K X.mg X.base Z k x n dd F) (hr : Room j X.A) (hk : k ≤ j) (hg : Gl X x) (ha : PA X (e :: es) t) (hdb : (x == ("__debug__" : Str)) = false := by decide) (he : starEach (e :: es) X.env = (false, eval e X.env) :: starEach es X.env := by rfl) (hpl : (backTo pos (starEach es X.env)).any (·.1) = false := by rfl) :
    ∃ dvs, (∀ G, DvA X.K Z G dvs dd) ∧ PGn X k (.Call (.Name x p) (e :: es) [] pos) (tGnC (spYD X.K Z n F) dvs t) := by
  obtain ⟨f, fd, ps, dvs, dus, G, hm, kp, hb, hv, hd⟩ := c.ex
  exact ⟨dvs, hd, pgn_call G (hr.mono hk) hg hm kp hb hv ha hdb he hpl⟩
end
/-- values, then the defaults -/
def yDF (n : Nat) (dd : List D) (F : List D → Option (List D)) (ds : List D) (s : S) : R (List D) := yF n F (ds ++ dd) s
/-- m values, then keywords -/
def yNF (n m l : Nat) (F : List D → Option (List D)) (fa fk : Slots → S → R (List D)) (ρ : Slots) (s : S) : R (List D) := (fa ρ s).bind fun ds s => (fk ρ s).bind fun es s => if (ds.length == m && es.length == l) = true then yF n F (ds ++ es) s else .un
section
variable {K : PySem.W.Frag} {Z : Zn} {E : XK}
theorem c_callYD {n : Nat} {F : List D → Option (List D)} {ua : TA} {fa : Slots → S → R (List D)} {dvs : List L2.V} {dd : List D} (hd : ∀ G, DvA K Z G dvs dd) (ha : CmpA K Z E ua fa) : CmpGn K Z E (tGnC (spYD K Z n F) dvs ua) (rgI (yDF n dd F) fa) := fun V H σ ρ s Q w p a =>
  ha V H σ ρ s _ w p (Ans.bind a fun ds s1 vs V1 H1 n1 w1 r1 a1 => by
    unfold yDF yF at a1
    have r2 := r1.app (hd V1)
    by_cases l : (ds ++ dd).length = n
    · rw [if_pos l] at a1
      cases e : F (ds ++ dd) with
      | none => rw [e] at a1; exact a1.elim
      | some out =>
        rw [e] at a1
        exact ⟨pactD K Z out, V1, ⟨by rw [r2.len]; exact l, ds ++ dd, out, w1.sv, w1.nt, w1.tb, r2, e, rfl⟩, Ans.pure (v := (pactD K Z out, V1)) w1 rfl a1⟩
    · rw [if_neg l] at a1
      exact a1.elim)
theorem c_callYN {n m l : Nat} {F : List D → Option (List D)} {ua uk : TA} {fa fk : Slots → S → R (List D)} (ha : CmpA K Z E ua fa) (hk : CmpA K Z E uk fk) : CmpGn K Z E (tGnN m l (spYD K Z n F) ua uk) (yNF n m l F fa fk) := fun V H σ ρ s Q w p a =>
  ha V H σ ρ s _ w p (Ans.bind a fun ds s1 vs V1 H1 n1 w1 r1 a1 => hk V1 H1 σ ρ s1 _ w1 (p.later n1) (Ans.bind a1 fun es s2 zs V2 H2 n2 w2 r2 a2 => by
    by_cases q : (ds.length == m && es.length == l) = true
    · rw [if_pos q] at a2
      have q := Bool.and_eq_true_iff.mp q
      have q1 := eq_of_beq q.1
      have q2 := eq_of_beq q.2
      have r3 := (DvA.mono n2.g _ _ r1).app r2
      unfold yF at a2
      by_cases l : (ds ++ es).length = n
      · rw [if_pos l] at a2
        cases e : F (ds ++ es) with
        | none => rw [e] at a2; exact a2.elim
        | some out =>
          rw [e] at a2
          exact ⟨by rw [r1.len, q1], by rw [r2.len, q2], pactD K Z out, V2, ⟨by rw [r3.len]; exact l, ds ++ es, out, w2.sv, w2.nt, w2.tb, r3, e, rfl⟩, Ans.pure (v := (pactD K Z out, V2)) w2 rfl a2⟩
      · rw [if_neg l] at a2
        exact a2.elim
    · rw [if_neg q] at a2
      exact a2.elim))
end
end Pp

set_option maxHeartbeats 2000000
namespace W2
open PySem PySem.Spec PyProof.Rows L2 Pg Pf
def top (i : Nat) : Stmt := PySem.Challenge.pw_passplaces_k44_whole_orders_listed.main.body.getD i (.Pass ⟨0, 0, 0, 0⟩)
abbrev s__law_mixed : Stmt := top 34
abbrev N__law_mixed : List Str := ["_law_cell", "_law_n", "_law_turned"]
theorem sc__law_mixed : FnScope N__law_mixed ["_law_cell", "_law_n"] (defScope s__law_mixed) := ⟨rfl, rfl, rfl, by decide +kernel, rfl, by decide +kernel, by decide +kernel⟩
abbrev s__law_folded : Stmt := top 35
abbrev N__law_folded : List Str := ["_law_script", "_law_n", "_law_found", "_law_cell"]
theorem sc__law_folded : FnScope N__law_folded ["_law_script"] (defScope s__law_folded) := ⟨rfl, rfl, rfl, by decide +kernel, rfl, by decide +kernel, by decide +kernel⟩
/-- the built-in names that the text reads -/
structure Bt (mg : Str → Option Value) : Prop where
  range : mg "range" = none
  enumerate : mg "enumerate" = none
  len : mg "len" = none
  tuple : mg "tuple" = none
  max : mg "max" = none
  min : mg "min" = none
  repr : mg "repr" = none
  zip : mg "zip" = none
section
variable {P : Program} {w : World} {K : PySem.W.Frag} {mg : Str → Option Value} {base : Heap} {f : Addr} {fd : FuncData}
def spMixed : Sp := fun vs H Q _ => ∃ c n : Int, vs = [.int c, .int n] ∧ 0 ≤ n ∧ n < 2 ^ 60 ∧ ∀ r, Q (.int r) H
theorem ok_mixed (F : Fun K "_law_mixed" "_law_mixed" s__law_mixed f fd) : FnG P w K mg base 2 f fd ["_law_cell", "_law_n"] spMixed := by
  refine okG F sc__law_mixed (fun vs H Q E h => ?_) (fun cdv A outer s H vs Q E hr hgd h => ?_)
  · obtain ⟨c, n, rfl, _⟩ := h
    rfl
  · obtain ⟨c, n, rfl, h0, h1, k⟩ := h
    have nd := sc__law_mixed.nd
    refine ⟨_, (pss_cons (ps_set (i := 2) nd rfl (Or.inl rfl) (pe_op op_add (pe_op op_add (pe_op op_mod (pe_op op_mul (pe_op op_mul (pv 0) (pe_op op_add pe_int (pe_op op_mul pe_int (pv 1)))) pe_int) pe_int) (pe_op op_mul (pe_op op_mul pe_int (pv 1)) (pv 1))) (pe_op op_mul pe_int (pv 1))))
    (pss_one (ps_ret (pe_op op_fdiv (pe_op op_mod (pe_op op_mul (pv 2) pe_int) pe_int) pe_int)))), ?_⟩
    refine ⟨_, rfl, _, rfl, _, _, rfl, rfl, .inl (by decide), _, _, rfl, rfl, _, _, rfl, rfl, .inr (by constructor <;> omega), _, _, rfl, rfl, .inr (by decide), _, _, rfl, rfl, (by show (0 : Int) < 2147483647; decide), ?_⟩
    refine ⟨_, rfl, _, _, rfl, rfl, .inl (by decide), _, rfl, _, _, rfl, rfl, .inr (by constructor <;> omega), _, _, rfl, rfl, _, rfl, _, _, rfl, rfl, .inl (by decide), _, _, rfl, rfl, ?_⟩
    refine ⟨_, rfl, _, _, rfl, rfl, .inr (by decide), _, _, rfl, rfl, (by show (0 : Int) < 2147483629; decide), _, _, rfl, rfl, ⟨by decide, by decide⟩, k _⟩
def spFolded (K : PySem.W.Frag) : Sp := fun vs H Q _ => ∃ (a : Addr) (ns : List Int), vs = [.ref a] ∧ SqL K H a (ns.map V.int) ∧ ns.length ≤ 63 ∧
  ∀ (l : Addr) (cs : List Int) (H' : Hp), H l = none → Same H H' → H' l = some (.lst (cs.map V.int)) → cs.length = 64 → Q (.ref l) H'
theorem ok_folded (T : Bt mg) (F : Fun K "_law_folded" "_law_folded" s__law_folded f fd) : FnG P w K mg base 2 f fd ["_law_script"] (spFolded K) := by
  refine okG F sc__law_folded (fun vs H Q E h => ?_) (fun cdv A outer s H vs Q E hr hgd h => ?_)
  · obtain ⟨a, ns, rfl, _⟩ := h
    rfl
  · obtain ⟨a, ns, rfl, hS, hl, k⟩ := h
    have nd := sc__law_folded.nd
    refine ⟨_, (pss_cons (ps_setLc (i := 2) (own := [("_law_n", 1)]) rfl nd rfl rfl (sw_true rfl rfl rfl (by decide +kernel)) (pi_range1 rfl T.range (pa_cons pe_int pa_nil)) (blkOk_by (N := N__law_folded) (sc := defScope s__law_folded) (by decide +kernel)) (fun _ _ _ _ _ => (pg_name (i := 1) nd rfl (Or.inl rfl))) (fun _ _ _ _ _ => pts_nil) (fun _ _ _ _ _ => (pe_op op_add pe_int (pv 1))))
    (pss_cons (ps_for PassesOwn.never rfl (pi_enum (by rfl) T.enumerate (pa_cons (pv 0) pa_nil)) (pg_tup rfl (pgs_cons (pg_name (i := 1) nd rfl (Or.inl rfl)) (pgs_cons (pg_name (i := 3) nd rfl (Or.inl rfl)) pgs_nil)))
    (pss_one (ps_asg (pe_op op_mod (pe_op op_add (pe_op op_mul (pe_ix ix_list (pv 2) (pe_op op_mod (pv 1) pe_int) (fun _ _ => rfl)) pe_int) (pv 3)) pe_int) (pg_sub (pv 2) (pe_op op_mod (pv 1) pe_int) set_list))))
    (pss_cons (ps_for PassesOwn.never rfl (pi_range2 rfl T.range (pa_cons pe_int (pa_cons pe_int pa_nil))) (pg_name (i := 1) nd rfl (Or.inl rfl))
    (pss_one (ps_asg (pe_op op_mod (pe_op op_add (pe_ix ix_list (pv 2) (pv 1) (fun _ _ => rfl)) (pe_op op_mul (pe_ix ix_list (pv 2) (pe_op op_sub (pv 1) pe_int) (fun _ _ => rfl)) pe_int)) pe_int) (pg_sub (pv 2) (pv 1) set_list))))
    (pss_one (ps_ret (pv 2)))))), ?_⟩
    refine ⟨64, rfl, by decide, by decide, fun D hD => lc_range (lo := 0) (n := 64) (fun i H2 => ∃ acc : List Int, H2 D = some (.lst (acc.map V.int)) ∧ acc.length = i ∧ Same H H2) ⟨[], upd_same, rfl, Same.new hD⟩ ?_ ?_⟩
    · rintro i H2 hi ⟨acc, hA, ha, hs⟩
      refine ⟨rfl, ?_⟩
      refine ⟨_, rfl, _, _, rfl, rfl, _, hA, small1000 (by rw [List.length_map]; omega), acc ++ [17 + (0 + (i : Int))], ?_, by rw [List.length_append, ha] <;> rfl, Fut.mut hs hD⟩
      rw [upd_same, List.map_append]
      rfl
    · rintro H2 ⟨acc, hA, ha, hs⟩
      refine ⟨_, rfl, a, ns.map V.int, rfl, hs.seq hS, for_it walk_enum (fun i σ H3 => ∃ (cs : List Int) (v1 v3 : Option V), σ = [some (.ref a), v1, some (.ref D), v3] ∧ H3 D = some (.lst (cs.map V.int)) ∧ cs.length = 64 ∧ Same H H3)
        ⟨acc, none, none, rfl, hA, ha, hs⟩ (fun i σ H3 _ ⟨_, _, _, _, _, _, s3⟩ => s3.seq hS) ?_ ?_⟩
      · rintro i x σ H3 H4 hi ⟨cs, v1, v3, rfl, hC, hc, s3⟩ ⟨T', x1, y1, rfl, hT, rfl, e1, e2⟩
        obtain rfl := Option.some.inj e1
        replace e2 : (ns.map V.int)[i]? = some y1 := e2
        rw [List.getElem?_map] at e2
        obtain ⟨z, hz, rfl⟩ : ∃ z, ns[i]? = some z ∧ y1 = V.int z := by
          cases e : ns[i]? with
          | none =>
            rw [e] at e2
            cases e2
          | some z =>
            rw [e] at e2
            exact ⟨z, rfl, (Option.some.inj e2).symm⟩
        have hD4 : (upd H3 T' (.tup [V.int (i : Nat), V.int z])) D = some (.lst (cs.map V.int)) := by
          rw [upd_ne (ne_of_none hC hT)]
          exact hC
        have hi64 : i % 64 < cs.length := by omega
        obtain ⟨c0, hc0⟩ : ∃ c0, cs[i % 64]? = some c0 := ⟨_, List.getElem?_eq_getElem hi64⟩
        refine ⟨T', _, rfl, SqT.of upd_same, rfl, _, _, rfl, _, _, rfl, rfl, ?_⟩
        refine ⟨_, rfl, _, rfl, _, _, rfl, rfl, (by show (0 : Int) < 64; decide), D, _, _, V.int c0, rfl, rfl, SqL.of hD4, at_of (j := i % 64) (by omega) (by rw [List.getElem?_map, hc0] <;> rfl), _, _, rfl, rfl, .inr (by decide), _, rfl, _, _, rfl, rfl, _, _, rfl, rfl, (by show (0 : Int) < 2147483647; decide), ?_⟩
        refine ⟨_, rfl, _, rfl, _, _, rfl, rfl, (by show (0 : Int) < 64; decide), D, _, _, i % 64, rfl, rfl, hD4, ?_, ?_⟩
        · unfold ixN
          rw [if_pos (by omega), if_pos (by rw [List.length_map]; omega)]
          exact congrArg some (by omega)
        · refine ⟨cs.set (i % 64) ((c0 * 48271 + z) % 2147483647), _, _, rfl, ?_, by rw [List.length_set]; exact hc, ?_⟩
          · rw [upd_same, List.map_set]
          · exact Fut.mut (s3.trans (Same.new hT)) hD
      · rintro σ H3 ⟨cs, v1, v3, rfl, hC, hc, s3⟩
        refine ⟨1, 64, rfl, by decide, for_range (lo := 1) (n := 63) (fun i σ H4 => ∃ (cs : List Int) (v1 v3 : Option V), σ = [some (.ref a), v1, some (.ref D), v3] ∧ H4 D = some (.lst (cs.map V.int)) ∧ cs.length = 64 ∧ Same H H4) ⟨cs, v1, v3, rfl, hC, hc, s3⟩ ?_ ?_⟩
        · rintro i σ H4 hi ⟨cs, v1, v3, rfl, hC, hc, s4⟩
          obtain ⟨c1, hc1⟩ : ∃ c1, cs[i + 1]? = some c1 := ⟨_, List.getElem?_eq_getElem (by omega)⟩
          obtain ⟨c0, hc0⟩ : ∃ c0, cs[i]? = some c0 := ⟨_, List.getElem?_eq_getElem (by omega)⟩
          refine ⟨_, rfl, _, rfl, D, _, _, V.int c1, rfl, rfl, SqL.of hC, at_of (j := i + 1) (by omega) (by rw [List.getElem?_map, hc1] <;> rfl), _, rfl, _, rfl, _, _, rfl, rfl, D, _, _, V.int c0, rfl, rfl, SqL.of hC, at_of (j := i) (by omega) (by rw [List.getElem?_map, hc0] <;> rfl),
            _, _, rfl, rfl, .inr (by decide), _, _, rfl, rfl, _, _, rfl, rfl, (by show (0 : Int) < 2147483647; decide), ?_⟩
          refine ⟨_, rfl, _, rfl, D, _, _, i + 1, rfl, rfl, hC, ?_, ?_⟩
          · unfold ixN
            rw [if_pos (by omega), if_pos (by rw [List.length_map]; omega)]
            exact congrArg some (by omega)
          · refine ⟨cs.set (i + 1) ((c1 + c0 * 16807) % 2147483647), _, _, rfl, ?_, by rw [List.length_set]; exact hc, Fut.mut s4 hD⟩
            rw [upd_same, List.map_set]
        · rintro σ H4 ⟨cs, v1, v3, rfl, hC, hc, s4⟩
          exact ⟨_, rfl, k D cs H4 hD s4 hC hc⟩
theorem kcs : ¬ kc = ks := by decide
theorem kgs : ¬ kg = ks := by decide
theorem kcg : ¬ kc = kg := by decide
theorem ksg : ¬ ks = kg := by decide
theorem val_spot (c q : Addr) (n : V) : valV ([(kc, .ref c), (kg, .ref q), (ks, n)] : List (Key × V)) ks = some n := by
  rw [valV_neg kcs, valV_neg kgs, valV_pos rfl]
theorem val_great (c q : Addr) (n : V) : valV ([(kc, .ref c), (kg, .ref q), (ks, n)] : List (Key × V)) kg = some (.ref q) := by
  rw [valV_neg kcg, valV_pos rfl]
theorem val_cells (c q : Addr) (n : V) : valV ([(kc, .ref c), (kg, .ref q), (ks, n)] : List (Key × V)) kc = some (.ref c) := by
  rw [valV_pos rfl]
theorem put_spot (c q : Addr) (n z : V) : putK ([(kc, .ref c), (kg, .ref q), (ks, n)] : List (Key × V)) ks z = [(kc, .ref c), (kg, .ref q), (ks, z)] := by
  have e : (([(kc, .ref c), (kg, .ref q), (ks, n)] : List (Key × V)).any fun kv => decide (kv.1 = ks)) = true := by
    rw [valV_any, val_spot]
    rfl
  unfold putK
  rw [if_pos e]
  simp only [List.map_cons, List.map_nil, if_neg kcs, if_neg kgs, if_pos]
theorem put_great (c q : Addr) (n z : V) : putK ([(kc, .ref c), (kg, .ref q), (ks, n)] : List (Key × V)) kg z = [(kc, .ref c), (kg, z), (ks, n)] := by
  have e : (([(kc, .ref c), (kg, .ref q), (ks, n)] : List (Key × V)).any fun kv => decide (kv.1 = kg)) = true := by
    rw [valV_any, val_great]
    rfl
  unfold putK
  rw [if_pos e]
  simp only [List.map_cons, List.map_nil, if_neg kcg, if_neg ksg, if_pos]
theorem merge_m (c q : Addr) (n : V) : mergeK [] ([(kc, .ref c), (kg, .ref q), (ks, n)] : List (Key × V)) = [(kc, .ref c), (kg, .ref q), (ks, n)] := by
  have e1 : putK ([] : List (Key × V)) kc (.ref c) = [(kc, .ref c)] := putK_new _ rfl
  have e2 : putK ([(kc, .ref c)] : List (Key × V)) kg (.ref q) = [(kc, .ref c), (kg, .ref q)] := putK_new _ (by rw [valV_neg kcg]; rfl)
  have e3 : putK ([(kc, .ref c), (kg, .ref q)] : List (Key × V)) ks n = [(kc, .ref c), (kg, .ref q), (ks, n)] := putK_new _ (by rw [valV_neg kcs, valV_neg kgs]; rfl)
  show putK (putK (putK [] kc (.ref c)) kg (.ref q)) ks n = _
  rw [e1, e2, e3]
theorem dget {H : Hp} {a : Addr} {kvs : List (Key × V)} {k : Key} {v : V} (h : H a = some (.dK kvs)) (e : valV kvs k = some v) : DGet H a (kV k) (some v) := by
  have z := DGet.k (k := k) h
  rw [e] at z
  exact z
theorem eqv_nil (gs : List Int) : PyData.eqv (.list (gs.map PyData.int)) (.list []) = gs.isEmpty := by cases gs <;> rfl
theorem lay_ints : ∀ gs : List Int, PyData.canLayAll0 (gs.map PyData.int) = true
  | [] => rfl
  | g :: gs => by
    rw [List.map_cons]
    show (true && PyData.canLayAll0 (gs.map PyData.int)) = true
    rw [lay_ints gs]
    rfl
theorem depth_ints : ∀ gs : List Int, PyData.depthAll (gs.map PyData.int) = 0
  | [] => rfl
  | g :: gs => by
    rw [List.map_cons]
    show max 0 (PyData.depthAll (gs.map PyData.int)) = 0
    rw [depth_ints gs]
    rfl
theorem shaped_ints (gs : List Int) : SeqAt.shaped (.list (gs.map PyData.int)) = true := by
  show (PyData.canLayAll0 (gs.map PyData.int) && decide (PyData.depthAll (gs.map PyData.int) + 1 ≤ 64)) = true
  rw [lay_ints, depth_ints]
  rfl
/-- draw(m, top) -/
def spDraw : Sp := fun vs H Q _ => ∃ (G : Hp) (m c q : Addr) (b : Nat) (top : Int), vs = [.ref m, .int top] ∧ MAt G H m c q b ∧ b ≤ 1000000000 ∧ 1 ≤ top ∧ top ≤ 1000 ∧
  ∀ (r : Int) (H' : Hp), 0 ≤ r → r < top → FutM m q G H G H' → MAt G H' m c q (b + 1) → Q (.int r) H'
abbrev s__law_draw : Stmt := top 36
abbrev N__law_draw : List Str := ["_law_m", "_law_top", "_law_n", "_law_at", "_law_cell"]
theorem sc__law_draw : FnScope N__law_draw ["_law_m", "_law_top"] (defScope s__law_draw) := ⟨rfl, rfl, rfl, by decide +kernel, rfl, by decide +kernel, by decide +kernel⟩
section
variable {P : Program} {w : World} {K : PySem.W.Frag} {mg : Str → Option Value} {base : Heap} {f : Addr} {fd : FuncData}
theorem ok_draw (T : Bt mg) (cM : CalG P w K mg base 2 "_law_mixed" spMixed) (F : Fun K "_law_draw" "_law_draw" s__law_draw f fd) : FnG P w K mg base 3 f fd ["_law_m", "_law_top"] spDraw := by
  refine okG F sc__law_draw (fun vs H Q E h => ?_) (fun cdv A outer s H vs Q E hr hgd h => ?_)
  · obtain ⟨G, m, c, q, b, tp, rfl, _⟩ := h
    rfl
  · obtain ⟨G, m, c, q, b, tp, rfl, M, hb, ht1, ht2, k⟩ := h
    have nd := sc__law_draw.nd
    have hu := hu_of hr
    refine ⟨_, (pss_cons (ps_set (i := 2) nd rfl (Or.inl rfl) (pe_dget hu (pv 0) pe_str (fun _ _ => rfl)))
    (pss_cons (ps_dput hu (pv 0) pe_str (pe_op op_add (pv 2) pe_int) rfl)
    (pss_cons (ps_if (pt_cmpR (op_neD hr.units) (pe_dget hu (pv 0) pe_str (fun _ _ => rfl)) (pe_lst pa_nil) (nomark _)) (pss_cons (ps_set (i := 3) nd rfl (Or.inl rfl) (pe_op op_mod (pv 2) (pe_callB call_len_seq (by rfl) T.len PySem.boot_len (pa_cons (pe_dget hu (pv 0) pe_str (fun _ _ => rfl)) pa_nil))))
    (pss_cons (ps_set (i := 4) nd rfl (Or.inl rfl) (pe_ix ix_list (pe_dget hu (pv 0) pe_str (fun _ _ => rfl)) (pv 3) (fun _ _ => rfl)))
    (pss_one (ps_if (pt_cmpR op_gt (pv 4) pe_int (nomark _)) (pss_cons (ps_asg (pe_op op_fdiv (pv 4) (pv 1)) (pg_sub (pe_dget hu (pv 0) pe_str (fun _ _ => rfl)) (pv 3) set_list))
    (pss_one (ps_ret (pe_op op_mod (pv 4) (pv 1))))) pss_nil)))) pss_nil)
    (pss_one (ps_ret (pe_op op_mod (pe_cG cM hr (by decide) hgd rfl (pa_cons (pe_cG cM hr (by decide) hgd rfl (pa_cons (pe_op op_add (pe_ix ix_list (pe_dget hu (pv 0) pe_str (fun _ _ => rfl)) (pe_op op_mod (pv 2) pe_int) (fun _ _ => rfl)) (pe_op op_mul pe_int (pe_op op_fdiv (pv 2) pe_int))) (pa_cons (pv 2) pa_nil))) (pa_cons (pe_op op_add (pv 2) pe_int) pa_nil))) (pv 1))))))), ?_⟩
    obtain ⟨n, hm, hn0, hnb⟩ := M.ob
    obtain ⟨cs, hc, hcl⟩ := M.cs
    obtain ⟨gs, hg, hgl⟩ := M.gs
    have mc : c ≠ m := (ne_of hm hc (by intro z; cases z)).symm
    have mq : q ≠ m := (ne_of hm hg (by intro z; cases z)).symm
    refine ⟨_, rfl, m, _, rfl, dget (k := ks) hm (val_spot _ _ _), ?_⟩
    refine ⟨_, rfl, _, _, rfl, rfl, _, rfl, m, _, rfl, DPut.k (k := ks) hm (small1000 (by show 3 ≤ 1000; decide)), ?_⟩
    rw [put_spot]
    have M1 : MAt G (upd H m (.dK [(kc, .ref c), (kg, .ref q), (ks, .int (n + 1))])) m c q (b + 1) :=
      ⟨Fut.mut M.s M.gm, M.gm, M.gc, M.gq, ⟨n + 1, upd_same, by omega, by omega⟩, ⟨cs, by rw [upd_ne mc]; exact hc, hcl⟩, ⟨gs, by rw [upd_ne mq]; exact hg, hgl⟩, M.cq⟩
    have hm1 : (upd H m (.dK [(kc, .ref c), (kg, .ref q), (ks, .int (n + 1))])) m = some (.dK [(kc, .ref c), (kg, .ref q), (ks, .int (n + 1))]) := upd_same
    have hg1 : (upd H m (.dK [(kc, .ref c), (kg, .ref q), (ks, .int (n + 1))])) q = some (.lst (gs.map V.int)) := by rw [upd_ne mq]; exact hg
    have hc1 : (upd H m (.dK [(kc, .ref c), (kg, .ref q), (ks, .int (n + 1))])) c = some (.lst (cs.map V.int)) := by rw [upd_ne mc]; exact hc
    have F1 : FutM m q G H G (upd H m (.dK [(kc, .ref c), (kg, .ref q), (ks, .int (n + 1))])) :=
      ⟨Same.refl _, fun p o e h1 _ => by rw [upd_ne h1]; exact e, M1.s, fun p e => .inl e, fun p e => by
        by_cases z : p = m
        · rw [z, upd_same] at e
          cases e
        · rw [upd_ne z] at e
          exact e⟩
    show tSeq _ _ _ [some (.ref m), some (.int tp), some (.int n), none, none] (upd H m (.dK [(kc, .ref c), (kg, .ref q), (ks, .int (n + 1))]))
    generalize (upd H m (.dK [(kc, .ref c), (kg, .ref q), (ks, .int (n + 1))])) = H1 at M1 hm1 hg1 hc1 F1 ⊢
    refine ⟨_, rfl, m, _, rfl, dget (k := kg) hm1 (val_great _ _ _), (by show 0 ≤ sizeLine; decide), fun p hp => ⟨_, _, .lst (SqL.of (by rw [upd_ne (ne_of_none hg1 hp)]; exact hg1)) (DpAll.ints gs), .lst (SqL.of upd_same) .nil, shaped_ints gs, rfl, _, rfl, ?_⟩⟩
    have s2 : Same H1 (upd H1 p (.lst [])) := Same.new hp
    generalize (upd H1 p (.lst [])) = H2 at s2 ⊢
    have M2 := M1.fut (Fut.up M1.s s2)
    have F2 := F1.trans (Fut.up M1.s s2).m
    have hm2 := s2 _ _ hm1
    have hg2 := s2 _ _ hg1
    have hc2 := s2 _ _ hc1
    have hi : (n % 64).toNat < cs.length := by omega
    obtain ⟨c0, hc0⟩ : ∃ c0, cs[(n % 64).toNat]? = some c0 := ⟨_, List.getElem?_eq_getElem hi⟩
    rw [eqv_nil]
    cases gs with
    | nil =>
      refine iteF ?_
      refine ⟨_, rfl, m, _, rfl, dget (k := kc) hm2 (val_cells _ _ _), _, rfl, _, _, rfl, rfl, (by show (0 : Int) < 64; decide), c, _, _, V.int c0, rfl, rfl, SqL.of hc2, at_of (j := (n % 64).toNat) (by omega) (by rw [List.getElem?_map, hc0] <;> rfl), _, rfl, _, _, rfl, rfl, ⟨by decide, by decide⟩, _, _, rfl, rfl, .inl (by decide), _, _, rfl, rfl, _, rfl,
        _, _, rfl, hn0, by omega, fun r1 => ⟨_, rfl, _, _, rfl, rfl, _, _, rfl, by omega, by omega, fun r2 => ⟨_, rfl, _, _, rfl, rfl, (by show (0 : Int) < tp; omega), ?_⟩⟩⟩
      exact k _ _ (Int.emod_nonneg _ (by omega)) (Int.emod_lt_of_pos _ (by omega)) F2 M2
    | cons g0 gr =>
      refine iteT ?_
      have hpos : (0 : Int) < ((g0 :: gr).length : Nat) := by rw [List.length_cons]; omega
      have hlt := Int.emod_lt_of_pos n hpos
      have hge := Int.emod_nonneg n (Int.ne_of_gt hpos)
      generalize hgs : g0 :: gr = gs at hpos hlt hge hg2 hgl hg
      obtain ⟨g1, hg1'⟩ : ∃ g1, gs[(n % (gs.length : Nat)).toNat]? = some g1 := ⟨_, List.getElem?_eq_getElem (by omega)⟩
      refine ⟨_, rfl, _, rfl, m, _, rfl, dget (k := kg) hm2 (val_great _ _ _), q, _, rfl, .inl (SqL.of hg2), _, _, rfl, rfl, (by rw [List.length_map]; exact hpos), ?_⟩
      refine ⟨_, rfl, m, _, rfl, dget (k := kg) hm2 (val_great _ _ _), _, rfl, q, _, _, V.int g1, rfl, rfl, SqL.of hg2, at_of (j := (n % (gs.length : Nat)).toNat) (by rw [List.length_map]; omega) (by rw [List.getElem?_map, hg1'] <;> rfl), ?_⟩
      refine ⟨_, rfl, _, _, rfl, rfl, _, rfl, ?_⟩
      by_cases hpg : 0 < g1
      · rw [decide_eq_true hpg]
        refine iteT ?_
        refine ⟨_, rfl, _, rfl, _, _, rfl, rfl, ⟨by omega, by omega⟩, _, rfl, m, _, rfl, dget (k := kg) hm2 (val_great _ _ _), _, rfl, q, _, _, (n % (gs.length : Nat)).toNat, rfl, rfl, hg2, ?_, ?_⟩
        · unfold ixN
          rw [List.length_map, if_pos (by omega), if_pos (by omega)]
        · refine ⟨_, rfl, _, rfl, _, _, rfl, rfl, (by show (0 : Int) < tp; omega), ?_⟩
          have ncq : c ≠ q := M.cq
          have ek : (gs.map V.int).set (n % (gs.length : Nat)).toNat (V.int (g1 / tp)) = (gs.set (n % (gs.length : Nat)).toNat (g1 / tp)).map V.int := by rw [List.map_set]
          show Q (V.int (g1 % tp)) (upd H2 q (.lst ((gs.map V.int).set (n % (gs.length : Nat)).toNat (V.int (g1 / tp)))))
          rw [ek]
          have hqm : m ≠ q := mq.symm
          refine k _ _ (Int.emod_nonneg _ (by omega)) (Int.emod_lt_of_pos _ (by omega)) ?_ ?_
          · exact ⟨Same.refl _, fun p o e h1 h2 => by rw [upd_ne h2]; exact F2.h p o e h1 h2, Fut.mut M2.s M2.gq, fun p e => .inl e, fun p e => by
              by_cases z : p = q
              · rw [z, upd_same] at e
                cases e
              · rw [upd_ne z] at e
                exact F2.k p e⟩
          · obtain ⟨n2, a2, b2, d2⟩ := M2.ob
            exact ⟨Fut.mut M2.s M2.gq, M2.gm, M2.gc, M2.gq, ⟨n2, by rw [upd_ne hqm]; exact a2, b2, d2⟩, ⟨cs, by rw [upd_ne ncq]; exact hc2, hcl⟩, ⟨_, upd_same, by rw [List.length_set]; exact hgl⟩, ncq⟩
      · rw [decide_eq_false hpg]
        refine iteF ?_
        refine ⟨_, rfl, m, _, rfl, dget (k := kc) hm2 (val_cells _ _ _), _, rfl, _, _, rfl, rfl, (by show (0 : Int) < 64; decide), c, _, _, V.int c0, rfl, rfl, SqL.of hc2, at_of (j := (n % 64).toNat) (by omega) (by rw [List.getElem?_map, hc0] <;> rfl), _, rfl, _, _, rfl, rfl, ⟨by decide, by decide⟩, _, _, rfl, rfl, .inl (by decide), _, _, rfl, rfl, _, rfl,
          _, _, rfl, hn0, by omega, fun r1 => ⟨_, rfl, _, _, rfl, rfl, _, _, rfl, by omega, by omega, fun r2 => ⟨_, rfl, _, _, rfl, rfl, (by show (0 : Int) < tp; omega), ?_⟩⟩⟩
        exact k _ _ (Int.emod_nonneg _ (by omega)) (Int.emod_lt_of_pos _ (by omega)) F2 M2
end
/-- begun(script) -/
def spBegun (K : PySem.W.Frag) : Sp := fun vs H Q _ => ∃ (a : Addr) (ns : List Int), vs = [.ref a] ∧ SqL K H a (ns.map V.int) ∧ ns.length ≤ 63 ∧
  ∀ (m c q : Addr) (H' : Hp), Same H H' → MAt H H' m c q 0 → Q (.ref m) H'
abbrev s__law_begun : Stmt := top 37
abbrev N__law_begun : List Str := ["_law_script", "_law_m", "_law_cell"]
theorem sc__law_begun : FnScope N__law_begun ["_law_script"] (defScope s__law_begun) := ⟨rfl, rfl, rfl, by decide +kernel, rfl, by decide +kernel, by decide +kernel⟩
section
variable {P : Program} {w : World} {K : PySem.W.Frag} {mg : Str → Option Value} {base : Heap} {f : Addr} {fd : FuncData}
theorem ok_begun (T : Bt mg) (cF : CalG P w K mg base 2 "_law_folded" (spFolded K)) (F : Fun K "_law_begun" "_law_begun" s__law_begun f fd) : FnG P w K mg base 3 f fd ["_law_script"] (spBegun K) := by
  refine okG F sc__law_begun (fun vs H Q E h => ?_) (fun cdv A outer s H vs Q E hr hgd h => ?_)
  · obtain ⟨a, ns, rfl, _⟩ := h
    rfl
  · obtain ⟨a, ns, rfl, hS, hl, k⟩ := h
    have nd := sc__law_begun.nd
    have hu := hu_of hr
    refine ⟨_, (pss_cons (ps_set (i := 1) nd rfl (Or.inl rfl) (pe_disp (pps_cons pe_str (pe_cG cF hr (by decide) hgd rfl (pa_cons (pv 0) pa_nil)) (pps_cons pe_str (pe_lst pa_nil) (pps_cons pe_str pe_int pps_nil))) (by rfl) (by rfl) (fun z => by cases z) (by decide)))
    (pss_cons (ps_dput hu (pv 1) pe_str (pe_lc (own := [("_law_cell", 2)]) rfl nd (pi_list (pv 0)) (blkOk_by (N := N__law_begun) (sc := defScope s__law_begun) (by decide +kernel)) (fun _ _ _ _ _ => (pg_name (i := 2) nd rfl (Or.inl rfl))) (fun _ _ _ _ _ => pts_nil) (fun _ _ _ _ _ => (pe_ifExp (pt_cmpR op_ge (pv 2) (pe_op op_pow pe_int pe_int) (nomark _)) (pv 2) pe_int))) rfl)
    (pss_one (ps_ret (pv 1))))), ?_⟩
    intro m nm
    have s0 : Same H (upd H m (.dK [])) := Same.new nm
    refine ⟨_, rfl, a, ns, rfl, s0.seq hS, hl, fun c cs H1 nc s1 hc hcl => ?_⟩
    refine ⟨(by show 0 ≤ sizeLine; decide), fun q0 nq0 => ?_⟩
    have s2 : Same H1 (upd H1 q0 (.lst [])) := Same.new nq0
    have hm2 : (upd H1 q0 (.lst [])) m = some (.dK []) := s2 _ _ (s1 _ _ upd_same)
    refine ⟨hm2, [(kc, .ref c), (kg, .ref q0), (ks, .int 0)], rfl, (by show 3 ≤ 15; decide), ?_⟩
    rw [merge_m]
    show tSeq _ _ _ [some (.ref a), some (.ref m), none] _
    have nmc : c ≠ m := fun z => by
      rw [z, upd_same] at nc
      cases nc
    have hc2 := s2 _ _ hc
    have s3 : Same H (upd (upd H1 q0 (.lst [])) m (.dK [(kc, .ref c), (kg, .ref q0), (ks, .int 0)])) := Fut.mut ((s0.trans s1).trans s2) nm
    have hm3 : (upd (upd H1 q0 (.lst [])) m (.dK [(kc, .ref c), (kg, .ref q0), (ks, .int 0)])) m = some (.dK [(kc, .ref c), (kg, .ref q0), (ks, .int 0)]) := upd_same
    have hc3 : (upd (upd H1 q0 (.lst [])) m (.dK [(kc, .ref c), (kg, .ref q0), (ks, .int 0)])) c = some (.lst (cs.map V.int)) := by rw [upd_ne nmc]; exact hc2
    generalize (upd (upd H1 q0 (.lst [])) m (.dK [(kc, .ref c), (kg, .ref q0), (ks, .int 0)])) = H3 at s3 hm3 hc3 ⊢
    refine ⟨_, rfl, a, rfl, ⟨_, s3.seq hS⟩, fun D hD => lc_it walk_list (fun i H4 => ∃ acc : List Int, H4 D = some (.lst (acc.map V.int)) ∧ acc.length = i ∧ Same H3 H4) ⟨[], upd_same, rfl, Same.new hD⟩ (fun i H4 _ ⟨_, _, _, s4⟩ => (s3.trans s4).seq hS) ?_ ?_⟩
    · rintro i x H4 H5 hi ⟨acc, hA, ha, s4⟩ ⟨rfl, hx⟩
      rw [List.length_map] at hi
      obtain ⟨z, hz, rfl⟩ : ∃ z, ns[i]? = some z ∧ x = V.int z := by
        rw [List.getElem?_map] at hx
        cases e : ns[i]? with
        | none =>
          rw [e] at hx
          cases hx
        | some z =>
          rw [e] at hx
          exact ⟨z, rfl, (Option.some.inj hx).symm⟩
      refine ⟨rfl, _, rfl, _, _, rfl, rfl, ⟨by decide, by decide, by decide⟩, _, _, rfl, rfl, _, rfl, ?_⟩
      have nl : (acc.map V.int).length < sizeLine := small1000 (by rw [List.length_map]; omega)
      refine ite2 (fun _ => ?_) (fun _ => ?_)
      · exact ⟨_, rfl, _, hA, nl, acc ++ [z], by rw [upd_same, List.map_append] <;> rfl, by rw [List.length_append, ha] <;> rfl, Fut.mut s4 hD⟩
      · exact ⟨_, hA, nl, acc ++ [0], by rw [upd_same, List.map_append] <;> rfl, by rw [List.length_append, ha] <;> rfl, Fut.mut s4 hD⟩
    · rintro H4 ⟨acc, hA, ha, s4⟩
      refine ⟨_, rfl, m, _, rfl, DPut.k (k := kg) (s4 _ _ hm3) (small1000 (by show 3 ≤ 1000; decide)), ?_⟩
      rw [put_great]
      rw [List.length_map] at ha
      have sF := Fut.mut (s3.trans s4) nm (o := .dK [(kc, .ref c), (kg, .ref D), (ks, .int 0)])
      have nD : D ≠ m := fun z => by
        rw [z, hm3] at hD
        cases hD
      refine ⟨_, rfl, k m c D _ sF ⟨sF, nm, s0.free nc, s3.free hD, ⟨0, upd_same, by decide, by decide⟩, ⟨cs, by rw [upd_ne nmc]; exact s4 _ _ hc3, hcl⟩, ⟨acc, by rw [upd_ne nD]; exact hA, by omega⟩, fun z => ?_⟩⟩
      rw [← z, hc3] at hD
      cases hD
end
end
end W2

namespace W2
open PySem PySem.Spec PyProof.Rows L2 Pg Pf
theorem FutM.mut {m q D : Addr} {G H G' H' : Hp} {o : HO} (f : FutM m q G H G' H') (hD : H D = none) (hG : G' D = none) : FutM m q G H G' (upd H' D o) :=
  ⟨f.g, fun p u e h1 h2 => by rw [upd_ne (ne_of_none e hD)]; exact f.h p u e h1 h2, Fut.mut f.s hG, f.n, fun p e => by
    by_cases z : p = D
    · rw [z]
      exact hD
    · rw [upd_ne z] at e
      exact f.k p e⟩
theorem MAt.ne {G H : Hp} {m c q D : Addr} {b : Nat} (M : MAt G H m c q b) (hD : H D = none) : D ≠ m ∧ D ≠ c ∧ D ≠ q := by
  obtain ⟨n, h1, _⟩ := M.ob
  obtain ⟨cs, h2, _⟩ := M.cs
  obtain ⟨gs, h3, _⟩ := M.gs
  exact ⟨(ne_of_none h1 hD).symm, (ne_of_none h2 hD).symm, (ne_of_none h3 hD).symm⟩
theorem MAt.mut {G H : Hp} {m c q D : Addr} {b : Nat} {o : HO} (M : MAt G H m c q b) (n : D ≠ m ∧ D ≠ c ∧ D ≠ q) (hG : G D = none) : MAt G (upd H D o) m c q b := by
  obtain ⟨n1, n2, n3⟩ := n
  obtain ⟨x, h1, h1'⟩ := M.ob
  obtain ⟨cs, h2, h2'⟩ := M.cs
  obtain ⟨gs, h3, h3'⟩ := M.gs
  exact ⟨Fut.mut M.s hG, M.gm, M.gc, M.gq, ⟨x, by rw [upd_ne n1.symm]; exact h1, h1'⟩, ⟨cs, by rw [upd_ne n2.symm]; exact h2, h2'⟩, ⟨gs, by rw [upd_ne n3.symm]; exact h3, h3'⟩, M.cq⟩
theorem FutM.fresh {m q D : Addr} {G H G' H' : Hp} (f : FutM m q G H G' H') (s : Same G H) (hD : H D ≠ none) (hG : G D = none) : G' D = none := by
  cases e : G' D with
  | none => rfl
  | some o =>
    rcases f.n D (by rw [e]; simp) with z | z
    · exact absurd hG z
    · exact absurd z hD
/-- an ascending, nonempty list of places below many -/
def Cell (many : Int) (ns : List Int) : Prop := ns ≠ [] ∧ ns.Pairwise (· < ·) ∧ ∀ x ∈ ns, 0 ≤ x ∧ x < many
/-- some(m, many, sparse) -/
def spSome : Sp := fun vs H Q _ => ∃ (G : Hp) (m c q : Addr) (b : Nat) (many sparse : Int), vs = [.ref m, .int many, .int sparse] ∧ MAt G H m c q b ∧ b ≤ 900000000 ∧ 1 ≤ many ∧ many ≤ 12 ∧
  ∀ (t : Addr) (ns : List Int) (G' H' : Hp), Cell many ns → FutM m q G H G' H' → MAt G' H' m c q (b + 13) → G' t = some (.tup (ns.map V.int)) → Q (.ref t) H'
abbrev s__law_some : Stmt := top 38
abbrev N__law_some : List Str := ["_law_m", "_law_many", "_law_sparse", "_law_found", "_law_spot"]
theorem sc__law_some : FnScope N__law_some ["_law_m", "_law_many", "_law_sparse"] (defScope s__law_some) := ⟨rfl, rfl, rfl, by decide +kernel, rfl, by decide +kernel, by decide +kernel⟩
section
variable {P : Program} {w : World} {K : PySem.W.Frag} {mg : Str → Option Value} {base : Heap} {f : Addr} {fd : FuncData}
theorem ok_some (T : Bt mg) (cD : CalG P w K mg base 3 "_law_draw" spDraw) (F : Fun K "_law_some" "_law_some" s__law_some f fd) : FnG P w K mg base 4 f fd ["_law_m", "_law_many", "_law_sparse"] spSome := by
  refine okG F sc__law_some (fun vs H Q E h => ?_) (fun cdv A outer s H vs Q E hr hgd h => ?_)
  · obtain ⟨G, m, c, q, b, many, sparse, rfl, _⟩ := h
    rfl
  · obtain ⟨G, m, c, q, b, many, sparse, rfl, M, hb, h1, h2, k⟩ := h
    have nd := sc__law_some.nd
    refine ⟨_, (pss_cons (ps_setLc (i := 3) (own := [("_law_spot", 4)]) rfl nd rfl rfl (sw_true rfl rfl rfl (by decide +kernel)) (pi_range1 rfl T.range (pa_cons (pv 1) pa_nil)) (blkOk_by (N := N__law_some) (sc := defScope s__law_some) (by decide +kernel)) (fun _ _ _ _ _ => (pg_name (i := 4) nd rfl (Or.inl rfl))) (fun _ _ _ _ _ => pts_one (pt_cmpR op_ge (pe_cG cD hr (by decide) hgd rfl (pa_cons (pv 0) (pa_cons pe_int pa_nil))) (pv 2) (nomark _))) (fun _ _ _ _ _ => (pv 4)))
    (pss_one (ps_ret (pe_ifExp (pt_cmpR (op_neD hr.units) (pv 3) (pe_lst pa_nil) (nomark _)) (pe_callTy call_tuple_of (by rfl) T.tuple (by decide +kernel) (pa_cons (pv 3) pa_nil)) (pe_tup (pa_cons (pe_cG cD hr (by decide) hgd rfl (pa_cons (pv 0) (pa_cons (pv 1) pa_nil))) pa_nil)))))), ?_⟩
    refine ⟨_, rfl, many, rfl, by omega, by omega, fun D hD => ?_⟩
    have nD := MAt.ne M hD
    have gD : G D = none := M.s.free hD
    refine lc_range (lo := 0) (n := many.toNat) (fun i H4 => ∃ acc : List Int, H4 D = some (.lst (acc.map V.int)) ∧ acc.Pairwise (· < ·) ∧ (∀ x ∈ acc, 0 ≤ x ∧ x < (i : Int)) ∧ acc.length ≤ i ∧ FutM m q G H G H4 ∧ MAt G H4 m c q (b + i)) ⟨[], upd_same, List.Pairwise.nil, by simp, by simp, FutM.mut (FutM.refl M.s) hD gD, MAt.mut M nD gD⟩ ?_ ?_
    · rintro i H4 hi ⟨acc, hA, ha1, ha2, ha3, f4, M4⟩
      refine ⟨rfl, ?_⟩
      refine ⟨_, rfl, G, m, c, q, b + i, 4, rfl, M4, by omega, by decide, by decide, fun r H5 r0 r1 f5 M5 => ?_⟩
      refine ⟨_, rfl, _, _, rfl, rfl, _, rfl, ?_⟩
      have hA5 := f5.h D _ hA nD.1 nD.2.2
      refine ite2 (fun _ => ?_) (fun _ => ?_)
      · refine ⟨_, rfl, _, hA5, small1000 (by rw [List.length_map]; omega), acc ++ [(0 + (i : Int))], by rw [upd_same, List.map_append] <;> rfl, ?_, ?_, by rw [List.length_append]; show acc.length + 1 ≤ i + 1; omega, FutM.mut (f4.trans f5) hD gD, MAt.mut M5 nD gD⟩
        · rw [List.pairwise_append]
          refine ⟨ha1, by simp, fun x hx y hy => ?_⟩
          rw [List.mem_singleton] at hy
          have := ha2 x hx
          omega
        · intro x hx
          rcases List.mem_append.mp hx with z | z
          · have := ha2 x z
            omega
          · rw [List.mem_singleton] at z
            omega
      · exact ⟨acc, hA5, ha1, fun x hx => by have := ha2 x hx; omega, by omega, f4.trans f5, M5⟩
    · rintro H4 ⟨acc, hA, ha1, ha2, ha3, f4, M4⟩
      refine ⟨_, rfl, (by show 0 ≤ sizeLine; decide), fun p hp => ⟨_, _, .lst (SqL.of (by rw [upd_ne (ne_of_none hA hp)]; exact hA)) (DpAll.ints acc), .lst (SqL.of upd_same) .nil, shaped_ints acc, rfl, _, rfl, ?_⟩⟩
      rw [eqv_nil]
      have f5 := f4.trans (Fut.up M4.s (Same.new (o := .lst []) hp)).m
      have M5 := M4.fut (Fut.up M4.s (Same.new (o := .lst []) hp))
      have hA5 : (upd H4 p (.lst [])) D = some (.lst (acc.map V.int)) := by rw [upd_ne (ne_of_none hA hp)]; exact hA
      generalize (upd H4 p (.lst [])) = H5 at f5 M5 hA5 ⊢
      cases acc with
      | nil =>
        refine iteF ?_
        refine ⟨_, rfl, _, rfl, G, m, c, q, b + many.toNat, many, rfl, M5, by omega, by omega, by omega, fun r H6 r0 r1 f6 M6 => ⟨(by show 1 ≤ sizeLine; decide), fun t ht => ?_⟩⟩
        have fn := Fut.new (o := .tup [V.int r]) M6.s ht
        exact k t [r] _ _ ⟨by simp, by simp, fun x hx => by rw [List.mem_singleton] at hx; omega⟩ ((f5.trans f6).trans fn.m) ((M6.fut fn).mono (by omega)) upd_same
      | cons a0 ar =>
        refine iteT ?_
        refine ⟨_, rfl, D, _, rfl, .inl ⟨SqL.of hA5, fun t ht => ?_⟩⟩
        have fn := Fut.new (o := .tup ((a0 :: ar).map V.int)) M5.s ht
        exact k t (a0 :: ar) _ _ ⟨by simp, ha1, fun x hx => by have := ha2 x hx; omega⟩ (f5.trans fn.m) ((M5.fut fn).mono (by omega)) upd_same
end
end W2

namespace W2
open PySem PySem.Spec PyProof.Rows L2 Pg Pf
/-! ### nets as data -/
def cellD (c : List Int) : PyData := .tuple (c.map PyData.int)
def rowL (r : List (List Int)) : PyData := .list (r.map cellD)
def rowT (r : List (List Int)) : PyData := .tuple (r.map cellD)
def tabL (T : List (List (List Int))) : PyData := .list (T.map rowL)
def tabT (T : List (List (List Int))) : PyData := .tuple (T.map rowT)
def netD (e w k : Int) (T : List (List (List Int))) : PyData := .tuple [.int e, .int w, .int k, tabL T]
structure Net (most many e w k : Int) (T : List (List (List Int))) : Prop where
  e1 : 1 ≤ e
  e2 : e ≤ most
  w1 : 1 ≤ w
  w2 : w ≤ most
  k1 : 1 ≤ k
  k2 : k ≤ many
  len : (T.length : Int) = e
  row : ∀ r ∈ T, (r.length : Int) = w ∧ ∀ c ∈ r, Cell k c
theorem dp_cell {K : PySem.W.Frag} {H : Hp} {t : Addr} {ns : List Int} (h : H t = some (.tup (ns.map V.int))) : Dp K H (.ref t) (cellD ns) := .tup (Evl.st_of h) (DpAll.ints ns)
def rangeI (k : Int) : List Int := (List.range k.toNat).map fun i => (0 : Int) + (i : Nat)
theorem rangeI_V (k : Int) : rgV 0 k = (rangeI k).map V.int := by
  unfold rgV rangeI
  rw [List.map_map, Int.sub_zero]
  rfl
theorem cell_range {k : Int} (h : 1 ≤ k) : Cell k (rangeI k) := by
  unfold rangeI
  refine ⟨fun z => ?_, ?_, fun x hx => ?_⟩
  · have := congrArg List.length z
    rw [List.length_map, List.length_range] at this
    simp at this
    omega
  · rw [List.pairwise_map]
    exact List.pairwise_lt_range.imp fun h => by omega
  · obtain ⟨i, hi, rfl⟩ := List.mem_map.mp hx
    rw [List.mem_range] at hi
    omega
/-- what stands at D, new since H, is known for good from now on -/
theorem FutM.freeze {m q D : Addr} {G H G' H' : Hp} {o : HO} (f : FutM m q G H G' H') (hD : H D = none) (hG : G' D = none) (hd : H' D = some o) : FutM m q G H (upd G' D o) H' :=
  ⟨f.g.trans (Same.new hG), f.h, fun b u e => by
    by_cases z : b = D
    · rw [z, upd_same] at e
      rw [z, hd]
      exact e
    · rw [upd_ne z] at e
      exact f.s _ _ e, fun p e => by
    by_cases z : p = D
    · exact .inr (z ▸ hD)
    · rw [upd_ne z] at e
      exact f.n p e, f.k⟩
theorem MAt.freeze {G H : Hp} {m c q D : Addr} {b : Nat} {o : HO} (M : MAt G H m c q b) (n : D ≠ m ∧ D ≠ c ∧ D ≠ q) (hd : H D = some o) : MAt (upd G D o) H m c q b := by
  obtain ⟨n1, n2, n3⟩ := n
  exact ⟨fun b u e => by
    by_cases z : b = D
    · rw [z, upd_same] at e
      rw [z, hd]
      exact e
    · rw [upd_ne z] at e
      exact M.s _ _ e, by rw [upd_ne n1.symm]; exact M.gm, by rw [upd_ne n2.symm]; exact M.gc, by rw [upd_ne n3.symm]; exact M.gq, M.ob, M.cs, M.gs, M.cq⟩
def spNet (K : PySem.W.Frag) : Sp := fun vs H Q _ => ∃ (G : Hp) (m c q : Addr) (b : Nat) (most many : Int), vs = [.ref m, .int most, .int many] ∧ MAt G H m c q b ∧ b ≤ 800000000 ∧ 1 ≤ most ∧ most ≤ 6 ∧ 1 ≤ many ∧ many ≤ 12 ∧
  ∀ (t : Addr) (e w k : Int) (R : List (List (List Int))) (G' H' : Hp), Net most many e w k R → FutM m q G H G' H' → MAt G' H' m c q (b + 600) → Dp K G' (.ref t) (netD e w k R) → Q (.ref t) H'
abbrev s__law_net : Stmt := top 39
abbrev N__law_net : List Str := ["_law_m", "_law_most", "_law_many", "_law_east", "_law_west", "_law_sparse", "_law_spots", "_law_rows", "_law_n", "_law_k"]
theorem sc__law_net : FnScope N__law_net ["_law_m", "_law_most", "_law_many"] (defScope s__law_net) := ⟨rfl, rfl, rfl, by decide +kernel, rfl, by decide +kernel, by decide +kernel⟩
section
variable {P : Program} {w : World} {K : PySem.W.Frag} {mg : Str → Option Value} {base : Heap} {f : Addr} {fd : FuncData}
theorem ok_net (T : Bt mg) (cD : CalG P w K mg base 3 "_law_draw" spDraw) (cS : CalG P w K mg base 4 "_law_some" spSome) (F : Fun K "_law_net" "_law_net" s__law_net f fd) : FnG P w K mg base 5 f fd ["_law_m", "_law_most", "_law_many"] (spNet K) := by
  refine okG F sc__law_net (fun vs H Q E h => ?_) (fun cdv A outer s H vs Q E hr hgd h => ?_)
  · obtain ⟨G, m, c, q, b, most, many, rfl, _⟩ := h
    rfl
  · obtain ⟨G, m, c, q, b, most, many, rfl, M, hb, h1, h2, h3, h4, k⟩ := h
    have nd := sc__law_net.nd
    refine ⟨_, (pss_cons (ps_asg (pe_tup (pa_cons (pe_op op_add pe_int (pe_cG cD hr (by decide) hgd rfl (pa_cons (pv 0) (pa_cons (pv 1) pa_nil)))) (pa_cons (pe_op op_add pe_int (pe_cG cD hr (by decide) hgd rfl (pa_cons (pv 0) (pa_cons (pv 1) pa_nil)))) (pa_cons (pe_cG cD hr (by decide) hgd rfl (pa_cons (pv 0) (pa_cons pe_int pa_nil))) pa_nil)))) (pg_tup rfl (pgs_cons (pg_name (i := 3) nd rfl (Or.inl rfl)) (pgs_cons (pg_name (i := 4) nd rfl (Or.inl rfl)) (pgs_cons (pg_name (i := 5) nd rfl (Or.inr rfl)) pgs_nil)))))
    (pss_cons (ps_set (i := 6) nd rfl (Or.inr rfl) (pe_callB (call_max2 rfl) (by rfl) T.max (by decide +kernel) (pa_cons pe_int (pa_cons (pe_callB (call_min2 rfl) (by rfl) T.min (by decide +kernel) (pa_cons (pv 2) (pa_cons (pe_op op_sub (pe_op op_add (pe_callB (call_min2 rfl) (by rfl) T.min (by decide +kernel) (pa_cons (pv 3) (pa_cons (pv 4) pa_nil))) (pe_cG cD hr (by decide) hgd rfl (pa_cons (pv 0) (pa_cons pe_int pa_nil)))) pe_int) pa_nil))) pa_nil))))
    (pss_cons (ps_set (i := 7) nd rfl (Or.inl rfl) (pe_lst pa_nil))
    (pss_cons (ps_for PassesOwn.never rfl (pi_range1 rfl T.range (pa_cons (pv 3) pa_nil)) (pg_name (i := 8) nd rfl (Or.inl rfl))
    (pss_one (ps_expr (pe_bm PySem.F.plainAttrs_list PySem.F.slot_list_append PySem.F.type_list_append mt_append (pv 7) (pa_cons (pe_lc (own := [("_law_k", 9)]) rfl nd (pi_range1 rfl T.range (pa_cons (pv 4) pa_nil)) (blkOk_by (N := N__law_net) (sc := defScope s__law_net) (by decide +kernel)) (fun _ _ _ _ _ => (pg_name (i := 9) nd rfl (Or.inl rfl))) (fun _ _ _ _ _ => pts_nil) (fun _ _ _ _ _ => (pe_ifExp (pt_cmpR op_gt (pe_cG cD hr (by decide) hgd rfl (pa_cons (pv 0) (pa_cons pe_int pa_nil))) pe_int (nomark _)) (pe_cG cS hr (by decide) hgd rfl (pa_cons (pv 0) (pa_cons (pv 6) (pa_cons (pv 5) pa_nil)))) (pe_tupRg rfl (by rfl) T.tuple (prg_1 (by rfl) T.range (pv 6)))))) pa_nil)))))
    (pss_one (ps_ret (pe_tup (pa_cons (pv 3) (pa_cons (pv 4) (pa_cons (pv 6) (pa_cons (pv 7) pa_nil))))))))))), ?_⟩
    refine ⟨_, rfl, _, rfl, G, m, c, q, b, most, rfl, M, by omega, by omega, by omega, fun r1 H1 a0 a1 f1 M1 => ⟨_, _, rfl, rfl, _, rfl, _, rfl, G, m, c, q, _, most, rfl, M1, by omega, by omega, by omega, fun r2 H2 b0 b1 f2 M2 =>
      ⟨_, _, rfl, rfl, _, rfl, G, m, c, q, _, 4, rfl, M2, by omega, by decide, by decide, fun r3 H3 c0 c1 f3 M3 => ⟨(by show 3 ≤ sizeLine; decide), fun p hp => ?_⟩⟩⟩⟩
    refine ⟨p, _, rfl, SqT.of upd_same, rfl, _, _, rfl, _, _, rfl, _, _, rfl, rfl, ?_⟩
    have f4 := ((f1.trans f2).trans f3).trans (Fut.up M3.s (Same.new (o := .tup [V.int (1 + r1), V.int (1 + r2), V.int r3]) hp)).m
    have M4 := M3.fut (Fut.up M3.s (Same.new (o := .tup [V.int (1 + r1), V.int (1 + r2), V.int r3]) hp))
    show tSeq _ _ _ [some (.ref m), some (.int most), some (.int many), some (.int (1 + r1)), some (.int (1 + r2)), some (.int r3), none, none, none, none] (upd H3 p (.tup [V.int (1 + r1), V.int (1 + r2), V.int r3]))
    generalize (upd H3 p (.tup [V.int (1 + r1), V.int (1 + r2), V.int r3])) = H4 at f4 M4 ⊢
    have e1 : 1 ≤ 1 + r1 := by omega
    have e2 : 1 + r1 ≤ most := by omega
    have w1 : 1 ≤ 1 + r2 := by omega
    have w2 : 1 + r2 ≤ most := by omega
    generalize 1 + r1 = e at e1 e2 ⊢
    generalize 1 + r2 = wd at w1 w2 ⊢
    refine ⟨_, rfl, _, rfl, _, rfl, _, _, rfl, _, rfl, G, m, c, q, _, 5, rfl, M4, by omega, by decide, by decide, fun r4 H5 d0 d1 f5 M5 => ⟨_, _, rfl, rfl, _, _, rfl, rfl, _, _, rfl, _, _, rfl, ?_⟩⟩
    have f6 := f4.trans f5
    obtain ⟨sp, hsp, sp1, sp2⟩ : ∃ sp : Int, (if (if (if wd < e then wd else e) + r4 - 1 < many then (if wd < e then wd else e) + r4 - 1 else many) > 1 then (if (if wd < e then wd else e) + r4 - 1 < many then (if wd < e then wd else e) + r4 - 1 else many) else 1) = sp ∧ 1 ≤ sp ∧ sp ≤ many := ⟨_, rfl, by
      split <;> omega, by
      split
      · split <;> omega
      · omega⟩
    show tSeq _ _ _ [some (.ref m), some (.int most), some (.int many), some (.int e), some (.int wd), some (.int r3), some (.int (if (if (if wd < e then wd else e) + r4 - 1 < many then (if wd < e then wd else e) + r4 - 1 else many) > 1 then (if (if wd < e then wd else e) + r4 - 1 < many then (if wd < e then wd else e) + r4 - 1 else many) else 1)), none, none, none] H5
    rw [hsp]
    refine ⟨(by show 0 ≤ sizeLine; decide), fun L hL => ?_⟩
    have nL := MAt.ne M5 hL
    have gL : G L = none := M5.s.free hL
    have hL0 : H L = none := f6.k L hL
    refine ⟨_, rfl, e, rfl, by omega, by omega, for_range (lo := 0) (n := e.toNat) (fun i σ H6 => ∃ (G6 : Hp) (R : List (List (List Int))) (vs : List V) (v8 : Option V), σ = [some (.ref m), some (.int most), some (.int many), some (.int e), some (.int wd), some (.int r3), some (.int sp), some (.ref L), v8, none] ∧
        H6 L = some (.lst vs) ∧ DpAll K G6 vs (R.map rowL) ∧ R.length = i ∧ (∀ r ∈ R, (r.length : Int) = wd ∧ ∀ c ∈ r, Cell sp c) ∧ FutM m q G H G6 H6 ∧ MAt G6 H6 m c q (b + 4 + 90 * i) ∧ G6 L = none)
      ⟨G, [], [], none, rfl, upd_same, .nil, rfl, by simp, FutM.mut f6 hL0 gL, (MAt.mut M5 nL gL).mono (by omega), gL⟩ ?_ ?_⟩
    · rintro i σ H6 hi ⟨G6, R, vs, v8, rfl, hl6, hd6, hR1, hR2, f7, M7, g7⟩
      refine ⟨_, rfl, .inl ⟨rfl, _, SqL.of hl6⟩, ?_⟩
      refine ⟨_, rfl, wd, rfl, by omega, by omega, fun D hD => ?_⟩
      have nD := MAt.ne M7 hD
      have gD : G6 D = none := M7.s.free hD
      have hD0 : H D = none := f7.k D hD
      have nDL : L ≠ D := ne_of_none hl6 hD
      refine lc_range (lo := 0) (n := wd.toNat) (fun j H8 => ∃ (G8 : Hp) (r : List (List Int)) (ws : List V), H8 D = some (.lst ws) ∧ DpAll K G8 ws (r.map cellD) ∧ r.length = j ∧ (∀ c ∈ r, Cell sp c) ∧ Same G6 G8 ∧ FutM m q G H G8 H8 ∧ MAt G8 H8 m c q (b + 4 + 90 * i + 14 * j) ∧ G8 D = none ∧ G8 L = none ∧ H8 L = some (.lst vs))
        ⟨G6, [], [], upd_same, .nil, rfl, by simp, Same.refl _, FutM.mut f7 hD0 gD, MAt.mut M7 nD gD, gD, g7, by rw [upd_ne nDL]; exact hl6⟩ ?_ ?_
      · rintro j H8 hj ⟨G8, r, ws, h8, hd8, hr1, hr2, s8, f8, M8, gD8, gL8, hl8⟩
        refine ⟨rfl, ?_⟩
        refine ⟨_, rfl, G8, m, c, q, _, 3, rfl, M8, by omega, by decide, by decide, fun r5 H9 x0 x1 f9 M9 => ⟨_, _, rfl, rfl, _, rfl, ?_⟩⟩
        have h9 := f9.h D _ h8 nD.1 nD.2.2
        have hl9 := f9.h L _ hl8 nL.1 nL.2.2
        have wl : ws.length < sizeLine := small1000 (by rw [DpAll.len hd8, List.length_map]; omega)
        refine ite2 (fun _ => ?_) (fun _ => ?_)
        · refine ⟨_, rfl, _, rfl, _, rfl, G8, m, c, q, _, sp, r3, rfl, M9, by omega, by omega, by omega, fun t ns G10 H10 hc f10 M10 ht => ?_⟩
          have gD10 : G10 D = none := FutM.fresh f10 M9.s (by rw [h9]; simp) gD8
          have gL10 : G10 L = none := FutM.fresh f10 M9.s (by rw [hl9]; simp) gL8
          have h10 := f10.h D _ h9 nD.1 nD.2.2
          refine ⟨_, h10, wl, G10, r ++ [ns], _, upd_same, ?_, by rw [List.length_append, hr1] <;> rfl, ?_, s8.trans f10.g, FutM.mut ((f8.trans f9).trans f10) hD0 gD10, (MAt.mut M10 nD gD10).mono (by omega), gD10, gL10, by rw [upd_ne nDL]; exact f10.h L _ hl9 nL.1 nL.2.2⟩
          · rw [List.map_append]
            exact DpAll.snoc (DpAll.mono f10.g _ _ hd8) (dp_cell ht)
          · intro x hx
            rcases List.mem_append.mp hx with z | z
            · exact hr2 x z
            · rw [List.mem_singleton] at z
              exact z ▸ hc
        · refine ⟨_, rfl, _, rfl, RgOk.of_le (by decide) (by omega) (by decide) (by omega), fun t ht => ?_⟩
          rw [rangeI_V]
          have fn := Fut.new (o := .tup ((rangeI sp).map V.int)) M9.s ht
          have nt : D ≠ t := ne_of_none h9 ht
          have nt2 : L ≠ t := ne_of_none hl9 ht
          have gD10 : (upd G8 t (.tup ((rangeI sp).map V.int))) D = none := by rw [upd_ne nt]; exact gD8
          have gL10 : (upd G8 t (.tup ((rangeI sp).map V.int))) L = none := by rw [upd_ne nt2]; exact gL8
          refine ⟨_, by rw [upd_ne nt]; exact h9, wl, _, r ++ [rangeI sp], _, upd_same, ?_, by rw [List.length_append, hr1] <;> rfl, ?_, s8.trans fn.g, FutM.mut ((f8.trans f9).trans fn.m) hD0 gD10, (MAt.mut (M9.fut fn) nD gD10).mono (by omega), gD10, gL10, by rw [upd_ne nDL, upd_ne nt2]; exact hl9⟩
          · rw [List.map_append]
            exact DpAll.snoc (DpAll.mono fn.g _ _ hd8) (dp_cell upd_same)
          · intro x hx
            rcases List.mem_append.mp hx with z | z
            · exact hr2 x z
            · rw [List.mem_singleton] at z
              exact z ▸ cell_range sp1
      · rintro H8 ⟨G8, r, ws, h8, hd8, hr1, hr2, s8, f8, M8, gD8, gL8, hl8⟩
        refine ⟨L, vs, _, rfl, rfl, hl8, small1000 (by rw [DpAll.len hd6, List.length_map]; omega), ?_⟩
        have g9 : (upd G8 D (.lst ws)) L = none := by rw [upd_ne nDL]; exact gL8
        have f9 := FutM.freeze f8 hD0 gD8 h8
        have M9 := MAt.freeze M8 nD h8
        have sN : Same G8 (upd G8 D (.lst ws)) := Same.new gD8
        refine ⟨_, R ++ [r], _, _, rfl, upd_same, ?_, by rw [List.length_append, hR1] <;> rfl, ?_, FutM.mut f9 hL0 g9, (MAt.mut M9 nL g9).mono (by omega), g9⟩
        · rw [List.map_append]
          exact DpAll.snoc (DpAll.mono (s8.trans sN) _ _ hd6) (.lst (SqL.of upd_same) (DpAll.mono sN _ _ hd8))
        · intro x hx
          rcases List.mem_append.mp hx with z | z
          · exact hR2 x z
          · rw [List.mem_singleton] at z
            rw [z]
            exact ⟨by omega, hr2⟩
    · rintro σ H6 ⟨G6, R, vs, v8, rfl, hl6, hd6, hR1, hR2, f7, M7, g7⟩
      refine ⟨_, rfl, _, rfl, _, rfl, _, rfl, (by show 4 ≤ sizeLine; decide), fun t ht => ?_⟩
      have f8 := FutM.freeze f7 hL0 g7 hl6
      have M8 := MAt.freeze M7 nL hl6
      have fn := Fut.new (o := .tup [.int e, .int wd, .int sp, .ref L]) M8.s ht
      refine k t e wd sp R _ _ ⟨e1, e2, w1, w2, sp1, sp2, by omega, hR2⟩ (f8.trans fn.m) ((M8.fut fn).mono (by omega)) ?_
      refine .tup (Evl.st_of upd_same) (.cons (.int _) (.cons (.int _) (.cons (.int _) (.cons ?_ .nil))))
      exact .lst (Same.seq fn.g (SqL.of upd_same)) (DpAll.mono ((Same.new g7).trans fn.g) _ _ hd6)
end
end W2

/-! Tab: tables as functions of the pair; tuples cut and joined. -/
namespace Tab
open PySem PySem.Spec PyProof.Rows L2 Pg Pf Rul W2
theorem slA {K : PySem.W.Frag} {G H : Hp} {a : Addr} {xs : List V} {lo hi : Option Int} {Q : VK} (s : Same G H) (h : SqT K G a xs)
    (k : ∀ p G' H', Fut G H G' H' → SqT K G' p (cutV xs lo hi) → Q (.ref p) H') : rSlA K (.ref a) lo hi H Q := by
  refine ⟨a, xs, rfl, Evl.ex_t s h, fun ⟨e1, e2⟩ => ?_, fun _ p hp => ?_⟩
  · have e : cutV xs lo hi = xs := by
      unfold cutV
      rw [e1, e2, List.drop_zero, Nat.sub_zero, List.take_length]
    exact k a G H (Fut.refl s) (by rw [e]; exact h)
  · exact k p _ _ (Fut.new s hp) (Evl.st_of upd_same)
theorem catA {K : PySem.W.Frag} {G H : Hp} {a b : Addr} {xs ys : List V} {Q : VK} (s : Same G H) (h1 : SqT K G a xs) (h2 : SqT K G b ys) (hl : xs.length + ys.length ≤ 1000)
    (k : ∀ p G' H', Fut G H G' H' → SqT K G' p (xs ++ ys) → Q (.ref p) H') : rCatA K (.ref a) (.ref b) H Q := by
  refine ⟨a, b, xs, ys, rfl, rfl, Evl.ex_t s h1, Evl.ex_t s h2, Nat.le_of_lt (small1000 hl), fun e => ?_, fun _ e => ?_, fun _ _ p hp => ?_⟩
  · exact k b G H (Fut.refl s) (by rw [e]; exact h2)
  · exact k a G H (Fut.refl s) (by rw [e, List.append_nil]; exact h1)
  · exact k p _ _ (Fut.new s hp) (Evl.st_of upd_same)
theorem repA {K : PySem.W.Frag} {G H : Hp} {a : Addr} {xs : List V} {n : Int} {Q : VK} (s : Same G H) (h : SqT K G a xs) (hx : xs ≠ []) (h1 : 1 ≤ n) (h2 : n ≤ 1000) (h3 : xs.length ≤ 1000)
    (k : ∀ p G' H', Fut G H G' H' → SqT K G' p (List.replicate n.toNat xs).flatten → Q (.ref p) H') : rRepA K (.ref a) (.int n) H Q := by
  refine ⟨a, n, xs, rfl, rfl, Evl.ex_t s h, hx, h1, h2, h3, fun e => ?_, fun _ p hp => ?_⟩
  · refine k a G H (Fut.refl s) ?_
    have e : (List.replicate n.toNat xs).flatten = xs := by
      subst e
      show (List.replicate 1 xs).flatten = xs
      simp
    rw [e]
    exact h
  · exact k p _ _ (Fut.new s hp) (Evl.st_of upd_same)
theorem cut_to (xs : List V) (j : Nat) (h : j ≤ xs.length) : cutV xs none (some (j : Int)) = xs.take j := by
  unfold cutV
  rw [HT.sIx_none, HT.sIx_nat, List.drop_zero, Nat.sub_zero, Nat.min_eq_left h]
theorem cut_from (xs : List V) (j : Nat) (h : j ≤ xs.length) : cutV xs (some (j : Int)) none = xs.drop j := by
  unfold cutV
  rw [HT.sIx_none, HT.sIx_nat, Nat.min_eq_left h]
  exact List.take_of_length_le (by rw [List.length_drop]; exact Nat.le_refl _)
theorem set_cut {α : Type} (xs : List α) (j : Nat) (v : α) (h : j < xs.length) : xs.take j ++ [v] ++ xs.drop (j + 1) = xs.set j v := by
  rw [List.set_eq_take_append_cons_drop, if_pos h, List.append_assoc]
  rfl
/-- a table by its entries -/
def tabF (r l : Nat) (c : Nat → Nat → List Int) : List (List (List Int)) := (List.range r).map fun i => (List.range l).map fun j => c i j
theorem tabF_len (r l : Nat) (c : Nat → Nat → List Int) : (tabF r l c).length = r := by unfold tabF; rw [List.length_map, List.length_range]
theorem tabF_at {r l : Nat} {c : Nat → Nat → List Int} {i : Nat} (h : i < r) : (tabF r l c)[i]? = some ((List.range l).map fun j => c i j) := by
  unfold tabF
  rw [List.getElem?_map, List.getElem?_range h]
  rfl
theorem rowF_at {l : Nat} {f : Nat → List Int} {j : Nat} (h : j < l) : ((List.range l).map f)[j]? = some (f j) := by
  rw [List.getElem?_map, List.getElem?_range h]
  rfl
def put2 (c : Nat → Nat → List Int) (i j : Nat) (v : List Int) : Nat → Nat → List Int := fun i' j' => if i' = i ∧ j' = j then v else c i' j'
theorem map_set_range {α : Type} (n i : Nat) (f : Nat → α) (v : α) : ((List.range n).map f).set i v = (List.range n).map fun k => if k = i then v else f k := by
  apply List.ext_getElem?
  intro k
  rw [List.getElem?_set, List.getElem?_map, List.getElem?_map, List.length_map, List.length_range]
  by_cases hk : k < n
  · rw [List.getElem?_range hk]
    by_cases e : i = k
    · subst e
      simp [hk]
    · rw [if_neg e]
      have e' : ¬ k = i := fun z => e z.symm
      simp [e']
  · have hn : (List.range n)[k]? = none := by
      rw [List.getElem?_eq_none_iff, List.length_range]
      omega
    rw [hn]
    by_cases e : i = k
    · subst e
      simp [hk]
    · rw [if_neg e]
      rfl
theorem tabF_put (r l : Nat) (c : Nat → Nat → List Int) (i j : Nat) (v : List Int) : (tabF r l c).set i (((List.range l).map fun j => c i j).set j v) = tabF r l (put2 c i j v) := by
  unfold tabF
  rw [map_set_range, map_set_range]
  apply List.map_congr_left
  intro a _
  by_cases e : a = i
  · subst e
    rw [if_pos rfl]
    apply List.map_congr_left
    intro b _
    unfold put2
    by_cases e2 : b = j
    · rw [if_pos e2, if_pos ⟨rfl, e2⟩]
    · rw [if_neg e2, if_neg (fun z => e2 z.2)]
  · rw [if_neg e]
    apply List.map_congr_left
    intro b _
    unfold put2
    rw [if_neg (fun z => e z.1)]
theorem DpAll.set {K : PySem.W.Frag} {H : Hp} : ∀ {vs : List V} {ds : List PyData} {j : Nat} {v : V} {d : PyData}, DpAll K H vs ds → Dp K H v d → DpAll K H (vs.set j v) (ds.set j d)
  | _, _, _, _, _, .nil, _ => .nil
  | _, _, 0, _, _, .cons _ b, h => .cons h b
  | _, _, j + 1, _, _, .cons a b, h => .cons a (DpAll.set (j := j) b h)
end Tab

namespace W2
open PySem PySem.Spec PyProof.Rows L2 Pg Pf Rul Tab
/-- the built-in names that the class's text reads -/
structure Bw (mg : Str → Option Value) : Prop where
  isinstance : mg "isinstance" = none
  bool : mg "bool" = none
  int : mg "int" = none
abbrev s_is_int : Stmt := top 9
theorem sc_is_int : FnScope ["value"] ["value"] (defScope s_is_int) := ⟨rfl, rfl, rfl, by decide +kernel, rfl, by decide +kernel, by decide +kernel⟩
abbrev s_is_number : Stmt := top 10
abbrev N_is_number : List Str := ["value", "low", "high"]
theorem sc_is_number : FnScope N_is_number ["value", "low", "high"] (defScope s_is_number) := ⟨rfl, rfl, rfl, by decide +kernel, rfl, by decide +kernel, by decide +kernel⟩
abbrev s_check_walker : Stmt := top 11
abbrev N_check_walker : List Str := ["value", "walkers"]
theorem sc_check_walker : FnScope N_check_walker ["value", "walkers"] (defScope s_check_walker) := ⟨rfl, rfl, rfl, by decide +kernel, rfl, by decide +kernel, by decide +kernel⟩
abbrev s_with_cell : Stmt := top 16
abbrev N_with_cell : List Str := ["table", "right", "left", "cell", "row"]
theorem sc_with_cell : FnScope N_with_cell ["table", "right", "left", "cell"] (defScope s_with_cell) := ⟨rfl, rfl, rfl, by decide +kernel, rfl, by decide +kernel, by decide +kernel⟩
def spInt : Sp := fun vs H Q _ => ∃ v : Int, vs = [.int v] ∧ Q (.bl true) H
def spNum : Sp := fun vs H Q _ => ∃ v lo hi : Int, vs = [.int v, .int lo, .int hi] ∧ Q (.bl (decide (lo ≤ v) && decide (v ≤ hi))) H
def spChk : Sp := fun vs H Q _ => ∃ v n : Int, vs = [.int v, .int n] ∧ 0 ≤ v ∧ v < n ∧ Q .non H
/-- with_cell(table, right, left, cell) -/
def spCell (K : PySem.W.Frag) : Sp := fun vs H Q _ => ∃ (G : Hp) (t x : Addr) (r l i j : Nat) (c : Nat → Nat → List Int) (v : List Int), vs = [.ref t, .int (i : Nat), .int (j : Nat), .ref x] ∧ Same G H ∧ Dp K G (.ref t) (tabT (tabF r l c)) ∧ i < r ∧ j < l ∧ r ≤ 6 ∧ l ≤ 6 ∧ Dp K G (.ref x) (cellD v) ∧
  ∀ (p : Addr) (G' H' : Hp), Fut G H G' H' → Dp K G' (.ref p) (tabT (tabF r l (put2 c i j v))) → Q (.ref p) H'
section
variable {P : Program} {w : World} {K : PySem.W.Frag} {mg : Str → Option Value} {base : Heap} {f : Addr} {fd : FuncData}
theorem ok_is_int (T : Bw mg) (F : Fun K "is_int" "is_int" s_is_int f fd) : FnOk P w K mg base CX0 1 f fd ["value"] spInt := by
  refine F.ok sc_is_int (fun vs H Q E h => ?_) (fun cdv A outer s H vs Q E hr h => ?_)
  · obtain ⟨v, rfl, _⟩ := h
    rfl
  · obtain ⟨v, rfl, k⟩ := h
    refine ⟨_, (pss_one (ps_ret (pe_and (pe_callB call_isi (by rfl) T.isinstance (by decide +kernel) (pa_cons (pv 0) (pa_cons (pe_bltn (v := .ty "int") (by rfl) T.int (by decide +kernel) rfl) pa_nil))) (pe_one (pe_not (pe_callB call_isi (by rfl) T.isinstance (by decide +kernel) (pa_cons (pv 0) (pa_cons (pe_bltn (v := .ty "bool") (by rfl) T.bool (by decide +kernel) rfl) pa_nil)))))))), ?_⟩
    refine ⟨_, rfl, _, _, _, _, true, rfl, .ty _, .base (.int _), kit_ty (by decide +kernel), _, rfl, ?_⟩
    refine iteT ?_
    refine ⟨_, rfl, _, _, _, _, false, rfl, .ty _, .base (.int _), kit_ty (by decide +kernel), _, rfl, ?_⟩
    exact k
theorem ok_is_number (cI : CalO P w K mg base 1 "is_int" spInt) (F : Fun K "is_number" "is_number" s_is_number f fd) : FnOk P w K mg base CX0 2 f fd ["value", "low", "high"] spNum := by
  refine F.ok sc_is_number (fun vs H Q E h => ?_) (fun cdv A outer s H vs Q E hr h => ?_)
  · obtain ⟨v, lo, hi, rfl, _⟩ := h
    rfl
  · obtain ⟨v, lo, hi, rfl, k⟩ := h
    refine ⟨_, (pss_one (ps_ret (pe_and (pe_cO cI hr (by decide) rfl (pa_cons (pv 0) pa_nil)) (pe_one (pe_chain op_le op_le (pv 1) (pv 0) (pv 2)))))), ?_⟩
    refine ⟨_, rfl, v, rfl, _, rfl, ?_⟩
    refine iteT ?_
    refine ⟨_, rfl, _, rfl, _, _, rfl, rfl, _, rfl, ?_⟩
    by_cases h1 : lo ≤ v
    · rw [decide_eq_true h1] at k ⊢
      refine iteT ?_
      refine ⟨_, rfl, _, _, rfl, rfl, ?_⟩
      rw [Bool.true_and] at k
      exact k
    · rw [decide_eq_false h1] at k ⊢
      refine iteF ?_
      exact k
theorem ok_check_walker (cN : CalO P w K mg base 2 "is_number" spNum) (F : Fun K "check_walker" "check_walker" s_check_walker f fd) : FnOk P w K mg base CX0 3 f fd ["value", "walkers"] spChk := by
  refine F.ok sc_check_walker (fun vs H Q E h => ?_) (fun cdv A outer s H vs Q E hr h => ?_)
  · obtain ⟨v, n, rfl, _⟩ := h
    rfl
  · obtain ⟨v, n, rfl, h1, h2, k⟩ := h
    refine ⟨_, (pss_one (ps_if (pt_not (pt_val (pe_cO cN hr (by decide) rfl (pa_cons (pv 0) (pa_cons pe_int (pa_cons (pe_op op_sub (pv 1) pe_int) pa_nil)))))) (pss_one ps_never) pss_nil)), ?_⟩
    refine ⟨_, rfl, _, rfl, _, _, rfl, rfl, v, 0, n - 1, rfl, _, rfl, ?_⟩
    rw [decide_eq_true h1, decide_eq_true (show v ≤ n - 1 by omega)]
    refine iteF ?_
    exact k
theorem ok_with_cell (F : Fun K "with_cell" "with_cell" s_with_cell f fd) : FnOk P w K mg base CX0 2 f fd ["table", "right", "left", "cell"] (spCell K) := by
  refine F.ok sc_with_cell (fun vs H Q E h => ?_) (fun cdv A outer s H vs Q E hr h => ?_)
  · obtain ⟨G, t, x, r, l, i, j, c, v, rfl, _⟩ := h
    rfl
  · obtain ⟨G, t, x, r, l, i, j, c, v, rfl, sG, hd, hi, hj, hr6, hl6, hx, k⟩ := h
    have nd := sc_with_cell.nd
    refine ⟨_, (pss_cons (ps_set (i := 4) nd rfl (Or.inl rfl) (pe_op op_catA (pe_op op_catA (pe_slice sl_tupA (pe_ix ix_tup (pv 0) (pv 1) (fun _ _ => rfl)) po_none (po_some (pv 2))) (pe_tup (pa_cons (pv 3) pa_nil))) (pe_slice sl_tupA (pe_ix ix_tup (pv 0) (pv 1) (fun _ _ => rfl)) (po_some (pe_op op_add (pv 2) pe_int)) po_none)))
      (pss_one (ps_ret (pe_op op_catA (pe_op op_catA (pe_slice sl_tupA (pv 0) po_none (po_some (pv 1))) (pe_tup (pa_cons (pv 4) pa_nil))) (pe_slice sl_tupA (pv 0) (po_some (pe_op op_add (pv 1) pe_int)) po_none))))), ?_⟩
    obtain ⟨xs, hS, hA⟩ : ∃ xs, SqT K G t xs ∧ DpAll K G xs ((tabF r l c).map rowT) := by
      cases hd with
      | tup a b => exact ⟨_, a, b⟩
    obtain ⟨y, hy, hdy⟩ := DpAll.at hA (i := i) (d := rowT ((List.range l).map fun j => c i j)) (by rw [List.getElem?_map, tabF_at hi] <;> rfl)
    obtain ⟨ty, rfl, ys, hS2, hA2⟩ : ∃ ty, y = .ref ty ∧ ∃ ys, SqT K G ty ys ∧ DpAll K G ys (((List.range l).map fun j => c i j).map cellD) := by
      cases hdy with
      | tup a b => exact ⟨_, rfl, _, a, b⟩
    have lx : xs.length = r := by rw [DpAll.len hA, List.length_map, tabF_len]
    have ly : ys.length = l := by rw [DpAll.len hA2, List.length_map, List.length_map, List.length_range]
    -- row = table[right][:left] + (cell,) + table[right][left + 1:]
    refine ⟨_, rfl, _, rfl, t, _, _, _, rfl, rfl, Evl.ex_t sG hS, atI_nat hy, _, rfl, _, rfl, slA sG hS2 fun p1 G1 H1 f1 h1 => ?_⟩
    rw [cut_to _ _ (by omega)] at h1
    refine ⟨_, rfl, (by show 1 ≤ sizeLine; decide), fun q1 n1 => ?_⟩
    have f2 := f1.trans (Fut.new (o := .tup [.ref x]) f1.s n1)
    refine catA f2.s (Evl.ex_t (Fut.new (o := .tup [.ref x]) f1.s n1).g h1) (Evl.st_of upd_same) (by rw [List.length_take]; show _ + 1 ≤ 1000; omega) fun p2 G2 H2 f3 h2 => ?_
    have g2 := f2.trans f3
    refine ⟨_, rfl, _, rfl, t, _, _, _, rfl, rfl, Evl.ex_t (g2.g.trans g2.s) hS, atI_nat hy, _, rfl, _, _, rfl, rfl, _, rfl, ?_⟩
    dsimp only [tNoPart]
    refine slA (lo := some (((j : Nat) : Int) + 1)) (hi := none) g2.s (Evl.ex_t g2.g hS2) fun p3 G3 H3 f4 h3 => ?_
    rw [show ((j : Nat) : Int) + 1 = ((j + 1 : Nat) : Int) by omega, cut_from _ _ (by omega)] at h3
    refine catA f4.s (Evl.ex_t f4.g h2) h3 (by rw [List.length_append, List.length_take, List.length_drop]; show _ + 1 + _ ≤ 1000; omega) fun p4 G4 H4 f5 h4 => ?_
    rw [set_cut _ _ _ (by omega)] at h4
    have g4 := (g2.trans f4).trans f5
    -- the table
    refine ⟨_, rfl, _, rfl, _, rfl, slA g4.s (Evl.ex_t g4.g hS) fun p5 G5 H5 f6 h5 => ?_⟩
    rw [cut_to _ _ (by omega)] at h5
    refine ⟨_, rfl, (by show 1 ≤ sizeLine; decide), fun q2 n2 => ?_⟩
    have f7 := f6.trans (Fut.new (o := .tup [.ref p4]) f6.s n2)
    refine catA f7.s (Evl.ex_t (Fut.new (o := .tup [.ref p4]) f6.s n2).g h5) (Evl.st_of upd_same) (by rw [List.length_take]; show _ + 1 ≤ 1000; omega) fun p6 G6 H6 f8 h6 => ?_
    have g6 := (g4.trans f7).trans f8
    refine ⟨_, rfl, _, rfl, _, _, rfl, rfl, _, rfl, ?_⟩
    dsimp only [tNoPart]
    refine slA (lo := some (((i : Nat) : Int) + 1)) (hi := none) g6.s (Evl.ex_t g6.g hS) fun p7 G7 H7 f9 h7 => ?_
    rw [show ((i : Nat) : Int) + 1 = ((i + 1 : Nat) : Int) by omega, cut_from _ _ (by omega)] at h7
    refine catA f9.s (Evl.ex_t f9.g h6) h7 (by rw [List.length_append, List.length_take, List.length_drop]; show _ + 1 + _ ≤ 1000; omega) fun p8 G8 H8 f10 h8 => ?_
    rw [set_cut _ _ _ (by omega)] at h8
    have g8 := (g6.trans f9).trans f10
    have e48 : Same G4 G8 := ((f7.g.trans f8.g).trans f9.g).trans f10.g
    refine k p8 G8 H8 g8 ?_
    unfold tabT
    rw [← tabF_put, List.map_set]
    refine .tup h8 (DpAll.set (DpAll.mono g8.g _ _ hA) ?_)
    unfold rowT
    rw [List.map_set]
    exact .tup (Evl.ex_t e48 h4) (DpAll.mono e48 _ _ (DpAll.set (DpAll.mono g4.g _ _ hA2) (Dp.mono g4.g _ _ hx)))
end
end W2

namespace W2
open PySem PySem.Spec PyProof.Rows L2 Pg Pf Rul Tab
/-- the class Way as the top has made it -/
structure Wt (K : PySem.W.Frag) (mg : Str → Option Value) (C : Addr) : Prop where
  cl : Cls K C
  nR : NoAttr K C "_rights"
  nL : NoAttr K C "_lefts"
  nP : NoAttr K C "_places"
  nT : NoAttr K C "_table"
  mgC : mg "Way" = some (.ref C)
  rd : ∃ mc t6 t12, ClX.CRead K C mc ∧ ClX.CVal K C mc "MAX_WALKERS" (.int 6) (.int 6 t6) ∧ ClX.CVal K C mc "MAX_PLACES" (.int 12) (.int 12 t12)
theorem nrl : ¬ (("_rights" : Str) = "_lefts") := by decide +kernel
theorem nrp : ¬ (("_rights" : Str) = "_places") := by decide +kernel
theorem nrt : ¬ (("_rights" : Str) = "_table") := by decide +kernel
theorem nlp : ¬ (("_lefts" : Str) = "_places") := by decide +kernel
theorem nlt : ¬ (("_lefts" : Str) = "_table") := by decide +kernel
theorem npt : ¬ (("_places" : Str) = "_table") := by decide +kernel
/-- its attributes, in the order in which they are stored -/
def wf (r l k : V) (t : V) : List (Str × V) := putF "_table" t (putF "_places" k (putF "_lefts" l (putF "_rights" r [])))
theorem wf_eq (r l k t : V) : wf r l k t = ([("_rights", r), ("_lefts", l), ("_places", k), ("_table", t)] : List (Str × V)) := by
  unfold wf
  simp only [putF, if_neg nrl, if_neg nrp, if_neg nrt, if_neg nlp, if_neg nlt, if_neg npt]
theorem wf_r (r l k t : V) : (wf r l k t).lookup ("_rights" : Str) = some r := by
  unfold wf
  rw [lookup_putF, if_neg nrt, lookup_putF, if_neg nrp, lookup_putF, if_neg nrl, lookup_putF, if_pos rfl]
theorem wf_l (r l k t : V) : (wf r l k t).lookup ("_lefts" : Str) = some l := by
  unfold wf
  rw [lookup_putF, if_neg nlt, lookup_putF, if_neg nlp, lookup_putF, if_pos rfl]
theorem wf_k (r l k t : V) : (wf r l k t).lookup ("_places" : Str) = some k := by
  unfold wf
  rw [lookup_putF, if_neg npt, lookup_putF, if_pos rfl]
theorem wf_t (r l k t : V) : (wf r l k t).lookup ("_table" : Str) = some t := by
  unfold wf
  rw [lookup_putF, if_pos rfl]
theorem wf_no (r l k t : V) {m : Str} (h1 : ¬ m = "_table") (h2 : ¬ m = "_places") (h3 : ¬ m = "_lefts") (h4 : ¬ m = "_rights") : (wf r l k t).lookup m = none := by
  unfold wf
  rw [lookup_putF, if_neg h1, lookup_putF, if_neg h2, lookup_putF, if_neg h3, lookup_putF, if_neg h4]
  rfl
theorem wf_put (r l k t t' : V) : putF "_table" t' (wf r l k t) = wf r l k t' := by
  rw [wf_eq, wf_eq]
  simp only [putF, if_neg nrt, if_neg nlt, if_neg npt, if_pos]
/-- a way stands at a: its numbers, its allowed places -/
structure WayAt (K : PySem.W.Frag) (C : Addr) (G : Hp) (a : Addr) (r l k : Nat) (c : Nat → Nat → List Int) : Prop where
  ob : ∃ dx t, G a = some (.ins C dx (wf (.int (r : Nat)) (.int (l : Nat)) (.int (k : Nat)) (.ref t))) ∧ Dp K G (.ref t) (tabT (tabF r l c))
  r1 : 1 ≤ r
  r2 : r ≤ 6
  l1 : 1 ≤ l
  l2 : l ≤ 6
  k1 : 1 ≤ k
  k2 : k ≤ 12
  ok : ∀ i j, i < r → j < l → Cell (k : Int) (c i j)
theorem WayAt.mono {K : PySem.W.Frag} {C : Addr} {G G' : Hp} {a : Addr} {r l k : Nat} {c : Nat → Nat → List Int} (W : WayAt K C G a r l k c) (e : Same G G') : WayAt K C G' a r l k c :=
  ⟨let ⟨dx, t, h, d⟩ := W.ob; ⟨dx, t, e _ _ h, Dp.mono e _ _ d⟩, W.r1, W.r2, W.l1, W.l2, W.k1, W.k2, W.ok⟩
abbrev s_wrong_part : Stmt := top 14
abbrev N_wrong_part : List Str := ["rights", "lefts", "places"]
theorem sc_wrong_part : FnScope N_wrong_part ["rights", "lefts", "places"] (defScope s_wrong_part) := ⟨rfl, rfl, rfl, by decide +kernel, rfl, by decide +kernel, by decide +kernel⟩
abbrev s_Way_init : Stmt := inClass (top 13) 2
abbrev N_Way_init : List Str := ["self", "rights", "lefts", "places", "part"]
theorem sc_Way_init : FnScope N_Way_init ["self", "rights", "lefts", "places"] (defScope s_Way_init) := ⟨rfl, rfl, rfl, by decide +kernel, rfl, by decide +kernel, by decide +kernel⟩
def spWrong : Sp := fun vs H Q _ => ∃ r l k : Nat, vs = [.int (r : Nat), .int (l : Nat), .int (k : Nat)] ∧ 1 ≤ r ∧ r ≤ 6 ∧ 1 ≤ l ∧ l ≤ 6 ∧ 1 ≤ k ∧ k ≤ 12 ∧ Q .non H
/-- __init__ of a way: all places are allowed; G: what is known for good, without the new object -/
def spInit (K : PySem.W.Frag) (C : Addr) : Sp := fun vs H Q _ => ∃ (G : Hp) (a dx : Addr) (r l k : Nat), vs = [.ref a, .int (r : Nat), .int (l : Nat), .int (k : Nat)] ∧ Same G H ∧ G a = none ∧ H a = some (.ins C dx []) ∧ 1 ≤ r ∧ r ≤ 6 ∧ 1 ≤ l ∧ l ≤ 6 ∧ 1 ≤ k ∧ k ≤ 12 ∧
  ∀ (t : Addr) (G' H' : Hp), Same G G' → Same G' H' → (∀ p o, H p = some o → p ≠ a → H' p = some o) → (∀ p, G' p ≠ none → G p ≠ none ∨ H p = none) → G' a = none →
    H' a = some (.ins C dx (wf (.int (r : Nat)) (.int (l : Nat)) (.int (k : Nat)) (.ref t))) → Dp K G' (.ref t) (tabT (tabF r l fun _ _ => rangeI k)) → Q .non H'
section
variable {P : Program} {w : World} {K : PySem.W.Frag} {mg : Str → Option Value} {base : Heap} {f C : Addr} {fd : FuncData}
theorem ok_wrong (T : Wt K mg C) (cN : CalO P w K mg base 2 "is_number" spNum) (F : Fun K "wrong_part" "wrong_part" s_wrong_part f fd) : FnOk P w K mg base CX0 3 f fd ["rights", "lefts", "places"] spWrong := by
  refine F.ok sc_wrong_part (fun vs H Q E h => ?_) (fun cdv A outer s H vs Q E hr h => ?_)
  · obtain ⟨r, l, k, rfl, _⟩ := h
    rfl
  · obtain ⟨r, l, k, rfl, r1, r2, l1, l2, k1, k2, q⟩ := h
    obtain ⟨mc, t6, t12, hrd, hw, hp⟩ := T.rd
    refine ⟨_, (pss_cons (ps_if (pt_not (pt_val (pe_cO cN hr (by decide) rfl (pa_cons (pv 0) (pa_cons pe_int (pa_cons (ClX.pe_cval (pe_glob (v := .ref C) (by rfl) T.mgC rfl)) pa_nil)))))) (pss_one (ps_ret pe_str)) pss_nil)
      (pss_cons (ps_if (pt_not (pt_val (pe_cO cN hr (by decide) rfl (pa_cons (pv 1) (pa_cons pe_int (pa_cons (ClX.pe_cval (pe_glob (v := .ref C) (by rfl) T.mgC rfl)) pa_nil)))))) (pss_one (ps_ret pe_str)) pss_nil)
      (pss_cons (ps_if (pt_not (pt_val (pe_cO cN hr (by decide) rfl (pa_cons (pv 2) (pa_cons pe_int (pa_cons (ClX.pe_cval (pe_glob (v := .ref C) (by rfl) T.mgC rfl)) pa_nil)))))) (pss_one (ps_ret pe_str)) pss_nil)
      (pss_one (ps_ret pe_non))))), ?_⟩
    refine ⟨_, rfl, C, mc, _, _, rfl, hrd, hw, _, _, _, rfl, _, rfl, ?_⟩
    rw [decide_eq_true (show (1 : Int) ≤ (r : Nat) by omega), decide_eq_true (show ((r : Nat) : Int) ≤ 6 by omega)]
    refine iteF ?_
    refine ⟨_, rfl, C, mc, _, _, rfl, hrd, hw, _, _, _, rfl, _, rfl, ?_⟩
    rw [decide_eq_true (show (1 : Int) ≤ (l : Nat) by omega), decide_eq_true (show ((l : Nat) : Int) ≤ 6 by omega)]
    refine iteF ?_
    refine ⟨_, rfl, C, mc, _, _, rfl, hrd, hp, _, _, _, rfl, _, rfl, ?_⟩
    rw [decide_eq_true (show (1 : Int) ≤ (k : Nat) by omega), decide_eq_true (show ((k : Nat) : Int) ≤ 12 by omega)]
    refine iteF ?_
    exact q
theorem rep_one {α : Type} (n : Nat) (x : α) : (List.replicate n [x]).flatten = List.replicate n x := by
  induction n with
  | zero => rfl
  | succ n ih =>
    rw [List.replicate_succ, List.flatten_cons, ih]
    rfl
theorem DpAll.rep {K : PySem.W.Frag} {H : Hp} {v : V} {d : PyData} (h : Dp K H v d) : ∀ n, DpAll K H (List.replicate n v) (List.replicate n d)
  | 0 => .nil
  | n + 1 => .cons h (DpAll.rep h n)
theorem map_range_rep {α : Type} (n : Nat) (x : α) : (List.range n).map (fun _ => x) = List.replicate n x := by
  apply List.ext_getElem?
  intro i
  rw [List.getElem?_map, List.getElem?_replicate]
  by_cases h : i < n
  · rw [List.getElem?_range h, if_pos h]
    rfl
  · rw [if_neg h, List.getElem?_eq_none_iff.mpr (by rw [List.length_range]; omega)]
    rfl
theorem ok_init (B : Bt mg) (T : Wt K mg C) (cW : CalO P w K mg base 3 "wrong_part" spWrong) (F : Fun K "__init__" "Way.__init__" s_Way_init f fd) : FnOk P w K mg base CX0 4 f fd ["self", "rights", "lefts", "places"] (spInit K C) := by
  refine F.ok sc_Way_init (fun vs H Q E h => ?_) (fun cdv A outer s H vs Q E hr h => ?_)
  · obtain ⟨G, a, dx, r, l, k, rfl, _⟩ := h
    rfl
  · obtain ⟨G, a, dx, r, l, k, rfl, sG, ga, ha, r1, r2, l1, l2, k1, k2, q⟩ := h
    have nd := sc_Way_init.nd
    refine ⟨_, (pss_cons (ps_set (i := 4) nd rfl (Or.inl rfl) (pe_cO cW hr (by decide) rfl (pa_cons (pv 1) (pa_cons (pv 2) (pa_cons (pv 3) pa_nil)))))
    (pss_cons (ps_if (pt_cmpR op_notN (pv 4) pe_non (nomark _)) (pss_one ps_never) pss_nil)
    (pss_cons (ps_fld (pv 0) (pv 1) rfl)
    (pss_cons (ps_fld (pv 0) (pv 2) rfl)
    (pss_cons (ps_fld (pv 0) (pv 3) rfl)
    (pss_one (ps_fld (pv 0) (pe_op op_repA (pe_tup (pa_cons (pe_op op_repA (pe_tup (pa_cons (pe_tupRg rfl (by rfl) B.tuple (prg_1 (by rfl) B.range (pv 3))) pa_nil)) (pv 2)) pa_nil)) (pv 1)) rfl))))))), ?_⟩
    refine ⟨_, rfl, _, rfl, _, rfl, r, l, k, rfl, r1, r2, l1, l2, k1, k2, ?_⟩
    refine ⟨_, rfl, rfl, _, rfl, ?_⟩
    refine iteF ?_
    refine ⟨_, rfl, _, rfl, a, C, dx, _, rfl, ha, T.cl, T.nR, (by show 0 < 1000; decide), ?_⟩
    refine ⟨_, rfl, _, rfl, a, C, dx, _, rfl, upd_same, T.cl, T.nL, (by show 1 < 1000; decide), ?_⟩
    refine ⟨_, rfl, _, rfl, a, C, dx, _, rfl, upd_same, T.cl, T.nP, (by simp only [putF, if_neg nrl]; show 2 < 1000; decide), ?_⟩
    rw [upd_upd, upd_upd]
    have hn : ∀ p, (upd H a (.ins C dx (putF "_places" (.int (k : Nat)) (putF "_lefts" (.int (l : Nat)) (putF "_rights" (.int (r : Nat)) []))))) p = none → H p = none := fun p e => by
      by_cases z : p = a
      · rw [z, upd_same] at e
        cases e
      · rw [upd_ne z] at e
        exact e
    have hk : ∀ p o, H p = some o → p ≠ a → (upd H a (.ins C dx (putF "_places" (.int (k : Nat)) (putF "_lefts" (.int (l : Nat)) (putF "_rights" (.int (r : Nat)) []))))) p = some o := fun p o e z => by rw [upd_ne z]; exact e
    have sG3 : Same G (upd H a (.ins C dx (putF "_places" (.int (k : Nat)) (putF "_lefts" (.int (l : Nat)) (putF "_rights" (.int (r : Nat)) []))))) := Fut.mut sG ga
    have ha3 : (upd H a (.ins C dx (putF "_places" (.int (k : Nat)) (putF "_lefts" (.int (l : Nat)) (putF "_rights" (.int (r : Nat)) []))))) a = some (.ins C dx (putF "_places" (.int (k : Nat)) (putF "_lefts" (.int (l : Nat)) (putF "_rights" (.int (r : Nat)) [])))) := upd_same
    generalize (upd H a (.ins C dx (putF "_places" (.int (k : Nat)) (putF "_lefts" (.int (l : Nat)) (putF "_rights" (.int (r : Nat)) []))))) = H3 at hn hk sG3 ha3 ⊢
    refine ⟨_, rfl, _, rfl, RgOk.of_le (by decide) (by omega) (by decide) (by omega), fun t1 n1 => ?_⟩
    rw [rangeI_V]
    have f1 := Fut.new (o := .tup ((rangeI (k : Nat)).map V.int)) sG3 n1
    have d1 : Dp K (upd G t1 (.tup ((rangeI (k : Nat)).map V.int))) (.ref t1) (cellD (rangeI (k : Nat))) := dp_cell upd_same
    refine ⟨(by show 1 ≤ sizeLine; decide), fun t2 n2 => ⟨_, rfl, ?_⟩⟩
    have f2 := Fut.new (o := .tup [.ref t1]) f1.s n2
    refine repA f2.s (Evl.st_of upd_same) (by simp) (by omega) (by omega) (by show 1 ≤ 1000; decide) fun t3 G3 H5 f3 s3 => ?_
    rw [rep_one, show ((l : Nat) : Int).toNat = l by omega] at s3
    have d3 : Dp K G3 (.ref t3) (rowT (List.replicate l (rangeI (k : Nat)))) := by
      unfold rowT
      rw [List.map_replicate]
      exact .tup s3 (DpAll.rep (Dp.mono (f2.g.trans f3.g) _ _ d1) l)
    refine ⟨(by show 1 ≤ sizeLine; decide), fun t4 n4 => ⟨_, rfl, ?_⟩⟩
    have f4 := Fut.new (o := .tup [.ref t3]) f3.s n4
    refine repA f4.s (Evl.st_of upd_same) (by simp) (by omega) (by omega) (by show 1 ≤ 1000; decide) fun t5 G5 H6 f5 s5 => ?_
    rw [rep_one, show ((r : Nat) : Int).toNat = r by omega] at s5
    have d5 : Dp K G5 (.ref t5) (tabT (tabF r l fun _ _ => rangeI (k : Nat))) := by
      unfold tabF
      rw [map_range_rep, map_range_rep]
      unfold tabT
      rw [List.map_replicate]
      exact .tup s5 (DpAll.rep (Dp.mono (f4.g.trans f5.g) _ _ d3) r)
    have fA := (((f1.trans f2).trans f3).trans f4).trans f5
    have gA : G5 a = none := by
      cases e : G5 a with
      | none => rfl
      | some o =>
        rcases fA.n a (by rw [e]; simp) with z | z
        · exact absurd ga z
        · rw [ha3] at z
          cases z
    refine ⟨_, rfl, a, C, dx, _, rfl, fA.h _ _ ha3, T.cl, T.nT, (by simp only [putF, if_neg nrl, if_neg nrp, if_neg nlp]; show 3 < 1000; decide), ?_⟩
    exact q t5 G5 _ fA.g (Fut.mut fA.s gA) (fun p o e z => by rw [upd_ne z]; exact fA.h _ _ (hk p o e z)) (fun p e => (fA.n p e).imp id (hn p)) gA upd_same d5
end
end W2

namespace W2
open PySem PySem.Spec PyProof.Rows L2 Pg Pf Rul Tab
/-- the property of the class at C that hands back the attribute fld -/
structure Pr (P : Program) (w : World) (K : PySem.W.Frag) (mg : Str → Option Value) (base : Heap) (C : Addr) (f fld : Str) : Prop where
  ex : ∃ (p g : Addr) (fd : FuncData), Cls K C ∧ PropOf K C f p g ∧ FnOk P w K mg base CX0 1 g fd ["self"] (getSp C fld) ∧ Binds K fd ["self"] []
theorem pe_pr {X : Cx} {j : Nat} {C : Addr} {f fld : Str} {e : Expr} {ta : TE} {pos : Pos} (c : Pr X.prog X.w X.K X.mg X.base C f fld) (hr : Room j X.A) (hk : 2 ≤ j) (he : PE X e ta) (hab : attributeBase e f X.env (eval e X.env) = eval e X.env := by rfl) :
    PE X (.Attribute e f pos) (tProp C (getSp C fld) [] E0 ta) := by
  obtain ⟨p, g, fd, cl, hp, F, b⟩ := c.ex
  exact pe_prop he cl hp F (hr.mono hk) b .nil pass0 hab
/-- reading a property of a way -/
theorem rd_pr {C a dx : Addr} {fld : Str} {fs : List (Str × V)} {H : Hp} {v : V} {Q : VK} {E : XK} (h : H a = some (.ins C dx fs)) (l : fs.lookup fld = some v) (q : Q v H) : ∃ a' dx' fs', V.ref a = .ref a' ∧ H a' = some (.ins C dx' fs') ∧ getSp C fld (.ref a' :: []) H Q E :=
  ⟨a, dx, fs, rfl, h, a, dx, fs, v, rfl, h, l, q⟩
def pairD (p : Nat × Nat) : PyData := .tuple [.int (p.1 : Nat), .int (p.2 : Nat)]
def pairsL (r l : Nat) : List (Nat × Nat) := (List.range r).flatMap fun i => (List.range l).map fun j => (i, j)
theorem pairs_step (r l : Nat) : pairsL (r + 1) l = pairsL r l ++ (List.range l).map fun j => (r, j) := by
  unfold pairsL
  rw [List.range_succ, List.flatMap_append]
  simp
theorem pairs_len (r l : Nat) : (pairsL r l).length = r * l := by
  induction r with
  | zero => simp [pairsL]
  | succ r ih =>
    rw [pairs_step, List.length_append, ih, List.length_map, List.length_range, Nat.succ_mul]
theorem dp0 {K : PySem.W.Frag} {H : Hp} (z : Int) : Dp K H (.int (0 + z)) (.int z) := by
  rw [Int.zero_add]
  exact .int _
abbrev s_pairs_of : Stmt := top 17
abbrev N_pairs_of : List Str := ["way", "right", "left"]
theorem sc_pairs_of : FnScope N_pairs_of ["way"] (defScope s_pairs_of) := ⟨rfl, rfl, rfl, by decide +kernel, rfl, by decide +kernel, by decide +kernel⟩
def spPairs (K : PySem.W.Frag) (C : Addr) : Sp := fun vs H Q _ => ∃ (G : Hp) (a : Addr) (r l k : Nat) (c : Nat → Nat → List Int), vs = [.ref a] ∧ Same G H ∧ WayAt K C G a r l k c ∧
  ∀ (p : Addr) (G' H' : Hp), Fut G H G' H' → Dp K G' (.ref p) (.list ((pairsL r l).map pairD)) → Q (.ref p) H'
section
variable {P : Program} {w : World} {K : PySem.W.Frag} {mg : Str → Option Value} {base : Heap} {f C : Addr} {fd : FuncData}
theorem ok_pairs (B : Bt mg) (pR : Pr P w K mg base C "rights" "_rights") (pL : Pr P w K mg base C "lefts" "_lefts") (F : Fun K "pairs_of" "pairs_of" s_pairs_of f fd) : FnOk P w K mg base CX0 4 f fd ["way"] (spPairs K C) := by
  refine F.ok sc_pairs_of (fun vs H Q E h => ?_) (fun cdv A outer s H vs Q E hr h => ?_)
  · obtain ⟨G, a, r, l, k, c, rfl, _⟩ := h
    rfl
  · obtain ⟨G, a, r, l, k, c, rfl, sG, W, q⟩ := h
    have nd := sc_pairs_of.nd
    refine ⟨_, (pss_one (ps_ret (pe_lc2 (own := [("right", 1), ("left", 2)]) (vs1 := [2]) rfl nd (pi_range1 rfl B.range (pa_cons (pe_pr pR hr (by decide) (pv 0)) pa_nil)) (blkOk_by (N := N_pairs_of) (sc := defScope s_pairs_of) (by decide +kernel)) (by decide)
      (fun _ _ _ _ _ => (pg_name (i := 1) nd rfl (Or.inl rfl))) (fun _ _ _ _ _ => pts_nil) (fun _ _ _ _ _ => pi_range1 rfl B.range (pa_cons (pe_pr pL hr (by decide) (pv 0)) pa_nil)) (fun _ _ _ _ _ => (pg_name (i := 2) nd rfl (Or.inl rfl))) (fun _ _ _ _ _ => pts_nil) (fun _ _ _ _ _ => (pe_tup (pa_cons (pv 1) (pa_cons (pv 2) pa_nil))))))), ?_⟩
    obtain ⟨dx, t, ha, hd⟩ := W.ob
    have r2 := W.r2
    have l2 := W.l2
    refine ⟨_, rfl, rd_pr (sG _ _ ha) (wf_r _ _ _ _) ⟨(r : Nat), rfl, by omega, by omega, fun D hD => ?_⟩⟩
    have gD : G D = none := sG.free hD
    rw [show ((r : Nat) : Int).toNat = r by omega]
    refine ⟨fun i m H2 => m = r - i ∧ i ≤ r ∧ ∃ (G2 : Hp) (vs : List V), H2 D = some (.lst vs) ∧ DpAll K G2 vs ((pairsL i l).map pairD) ∧ Same G G2 ∧ Same G2 H2 ∧ Same H H2 ∧ (∀ p, G2 p ≠ none → G p ≠ none ∨ H p = none) ∧ G2 D = none,
      ⟨r, by simp, Nat.zero_le _, G, [], upd_same, .nil, Same.refl _, Fut.mut sG gD, Same.new hD, fun p e => .inl e, gD⟩, ?_⟩
    rintro i m H2 ⟨rfl, hi, G2, vs, h2, d2, gg, gh, hh, gn, g2D⟩
    by_cases hir : i < r
    · refine .inr ⟨hir, fun H3 => i + 1 ≤ r ∧ ∃ (G2 : Hp) (vs : List V), H3 D = some (.lst vs) ∧ DpAll K G2 vs ((pairsL (i + 1) l).map pairD) ∧ Same G G2 ∧ Same G2 H3 ∧ Same H H3 ∧ (∀ p, G2 p ≠ none → G p ≠ none ∨ H p = none) ∧ G2 D = none, fun H3 h => ⟨r - (i + 1), by omega, rfl, h⟩, ?_⟩
      rintro x H3 ⟨rfl, rfl⟩
      refine ⟨rfl, ?_⟩
      refine ⟨_, rfl, rd_pr (hh _ _ (sG _ _ ha)) (wf_l _ _ _ _) ⟨(l : Nat), rfl, by omega, by omega, ?_⟩⟩
      rw [show ((l : Nat) : Int).toNat = l by omega]
      refine ⟨fun j m H2 => m = l - j ∧ j ≤ l ∧ ∃ (G2 : Hp) (vs : List V), H2 D = some (.lst vs) ∧ DpAll K G2 vs ((pairsL i l ++ (List.range j).map fun j => (i, j)).map pairD) ∧ Same G G2 ∧ Same G2 H2 ∧ Same H H2 ∧ (∀ p, G2 p ≠ none → G p ≠ none ∨ H p = none) ∧ G2 D = none,
        ⟨l, by simp, Nat.zero_le _, G2, vs, h2, by simpa using d2, gg, gh, hh, gn, g2D⟩, ?_⟩
      rintro j m H4 ⟨rfl, hj, G4, ws, h4, d4, gg4, gh4, hh4, gn4, g4D⟩
      by_cases hjl : j < l
      · refine .inr ⟨hjl, fun H3 => j + 1 ≤ l ∧ ∃ (G2 : Hp) (vs : List V), H3 D = some (.lst vs) ∧ DpAll K G2 vs ((pairsL i l ++ (List.range (j + 1)).map fun j => (i, j)).map pairD) ∧ Same G G2 ∧ Same G2 H3 ∧ Same H H3 ∧ (∀ p, G2 p ≠ none → G p ≠ none ∨ H p = none) ∧ G2 D = none, fun H3 h => ⟨l - (j + 1), by omega, rfl, h⟩, ?_⟩
        rintro x H5 ⟨rfl, rfl⟩
        refine ⟨rfl, ?_⟩
        refine ⟨_, rfl, _, rfl, (by show 2 ≤ sizeLine; decide), fun p hp => ?_⟩
        have fn := Fut.new (o := .tup [.int (0 + (i : Nat)), .int (0 + (j : Nat))]) gh4 hp
        have npD : D ≠ p := ne_of_none h4 hp
        have wl : ws.length ≤ 1000 := by
          rw [DpAll.len d4, List.length_map, List.length_append, pairs_len, List.length_map, List.length_range]
          have := Nat.mul_le_mul (show i ≤ 6 by omega) (show l ≤ 6 by omega)
          omega
        have g5D : (upd G4 p (.tup [.int (0 + (i : Nat)), .int (0 + (j : Nat))])) D = none := by rw [upd_ne npD]; exact g4D
        refine ⟨ws, by rw [upd_ne npD]; exact h4, small1000 wl, by omega, _, _, upd_same, ?_, gg4.trans fn.g, Fut.mut fn.s g5D, Fut.mut (hh4.trans fn.h) hD, fun p' e => ?_, g5D⟩
        · have e : (pairsL i l ++ (List.range (j + 1)).map fun j => (i, j)).map pairD = (pairsL i l ++ (List.range j).map fun j => (i, j)).map pairD ++ [pairD (i, j)] := by simp [List.range_succ]
          rw [e]
          refine DpAll.snoc (DpAll.mono fn.g _ _ d4) ?_
          show Dp K _ _ (.tuple [.int (i : Nat), .int (j : Nat)])
          refine .tup (Evl.st_of upd_same) (.cons (dp0 _) (.cons (dp0 _) .nil))
        · rcases fn.n p' e with z | z
          · exact gn4 p' z
          · exact .inr (hh4.free z)
      · refine .inl ⟨Nat.le_of_not_lt hjl, by omega, G4, ws, h4, ?_, gg4, gh4, hh4, gn4, g4D⟩
        rw [pairs_step]
        have e : j = l := by omega
        rw [← e]
        rw [e] at d4 ⊢
        exact d4
    · refine .inl ⟨Nat.le_of_not_lt hir, ?_⟩
      have e : i = r := by omega
      subst e
      have hD0 : H D = none := hD
      refine q D (upd G2 D (.lst vs)) H2 ⟨gg.trans (Same.new g2D), hh, fun b u e => ?_, fun p e => ?_⟩ (.lst (SqL.of upd_same) (DpAll.mono (Same.new g2D) _ _ d2))
      · by_cases z : b = D
        · rw [z, upd_same] at e
          rw [z, h2]
          exact e
        · rw [upd_ne z] at e
          exact gh _ _ e
      · by_cases z : p = D
        · exact .inr (z ▸ hD0)
        · rw [upd_ne z] at e
          exact gn p e
end
end W2

namespace W2
open PySem PySem.Spec PyProof.Rows L2 Pg Pf Rul Tab
/-- C(..) as a new object at any free place: what its __init__ promises -/
def mkAt (C : Addr) (sp : Sp) (Q : VK) (vs : List V) (H : Hp) : Prop :=
  ∀ x dx, H x = none → H dx = none → dx ≠ x → sp (.ref x :: (vs ++ [])) (upd (upd H dx (.own x)) x (.ins C dx [])) (fun v H2 => v = .non ∧ Q (.ref x) H2) E0
def tMk (C : Addr) (sp : Sp) (t : TA) : TE := fun σ H Q => t σ H fun vs H1 => mkAt C sp Q vs H1
/-- a way is being made: what stands behind its __init__ -/
theorem mk_raw {K : PySem.W.Frag} {C : Addr} {G H : Hp} {r l k : Nat} {Q : VK} (s : Same G H) (r1 : 1 ≤ r) (r2 : r ≤ 6) (l1 : 1 ≤ l) (l2 : l ≤ 6) (k1 : 1 ≤ k) (k2 : k ≤ 12)
    (q : ∀ (x dx t : Addr) (G' H' : Hp), H x = none → Same G G' → Same G' H' → Same H H' → (∀ p, G' p ≠ none → G p ≠ none ∨ H p = none) → G' x = none → H' x = some (.ins C dx (wf (.int (r : Nat)) (.int (l : Nat)) (.int (k : Nat)) (.ref t))) →
      Dp K G' (.ref t) (tabT (tabF r l fun _ _ => rangeI k)) → Q (.ref x) H')  :
    mkAt C (spInit K C) Q [.int (r : Nat), .int (l : Nat), .int (k : Nat)] H := by
  intro x dx nx ndx ne
  have s2 : Same H (upd (upd H dx (.own x)) x (.ins C dx [])) := fun b o e => by
    rw [upd_ne (ne_of_none e nx), upd_ne (ne_of_none e ndx)]
    exact e
  refine ⟨G, x, dx, r, l, k, rfl, s.trans s2, s.free nx, upd_same, r1, r2, l1, l2, k1, k2, fun t G' H' a1 a2 a3 a4 a5 a6 a7 => ⟨rfl, q x dx t G' H' nx a1 a2 (fun p o e => a3 p o (s2 p o e) (ne_of_none e nx)) (fun p e => (a4 p e).imp id fun z => ?_) a5 a6 a7⟩⟩
  exact s2.free z
/-- G, grown by an object that stands in H since it was new -/
theorem fut_add {G H G' H' : Hp} {x : Addr} {o : HO} (g : Same G G') (h : Same H H') (s : Same G' H') (n : ∀ p, G' p ≠ none → G p ≠ none ∨ H p = none) (nx : H x = none) (gx : G' x = none) (hx : H' x = some o) : Fut G H (upd G' x o) H' :=
  ⟨g.trans (Same.new gx), h, fun b u e => by
    by_cases z : b = x
    · rw [z, upd_same] at e
      rw [z, hx]
      exact e
    · rw [upd_ne z] at e
      exact s _ _ e, fun p e => by
    by_cases z : p = x
    · exact .inr (z ▸ nx)
    · rw [upd_ne z] at e
      exact n p e⟩
/-- .. with all places allowed -/
theorem mk_way {K : PySem.W.Frag} {C : Addr} {G H : Hp} {r l k : Nat} {Q : VK} (s : Same G H) (r1 : 1 ≤ r) (r2 : r ≤ 6) (l1 : 1 ≤ l) (l2 : l ≤ 6) (k1 : 1 ≤ k) (k2 : k ≤ 12)
    (q : ∀ (x : Addr) (G' H' : Hp), Fut G H G' H' → WayAt K C G' x r l k (fun _ _ => rangeI k) → Q (.ref x) H')  :
    mkAt C (spInit K C) Q [.int (r : Nat), .int (l : Nat), .int (k : Nat)] H :=
  mk_raw s r1 r2 l1 l2 k1 k2 fun x dx t G' H' nx a1 a2 a3 a4 a5 a6 a7 =>
    q x _ H' (fut_add a1 a3 a2 a4 nx a5 a6) ⟨⟨dx, t, upd_same, Dp.mono (Same.new a5) _ _ a7⟩, r1, r2, l1, l2, k1, k2, fun _ _ _ _ => cell_range (by omega)⟩
/-- a def of the class, called on an object -/
structure Mo (P : Program) (w : World) (K : PySem.W.Frag) (mg : Str → Option Value) (base : Heap) (k : Nat) (C : Addr) (m : Str) (sp : Sp) : Prop where
  ex : ∃ (f : Addr) (fd : FuncData) (ps : List Str), Cls K C ∧ Meth K C m f ∧ FnOk P w K mg base CX0 k f fd ps sp ∧ Binds K fd ps []
/-- the class, called -/
structure Ma (P : Program) (w : World) (K : PySem.W.Frag) (mg : Str → Option Value) (base : Heap) (k : Nat) (x : Str) (C : Addr) (sp : Sp) : Prop where
  ex : ∃ (f : Addr) (fd : FuncData) (ps : List Str), Mk K C f ∧ FnOk P w K mg base CX0 k f fd ps sp ∧ mg x = some (.ref C) ∧ Binds K fd ps []
section
variable {X : Cx} {k j : Nat} {C : Addr} {x m : Str} {sp : Sp} {p pos apos : Pos} {e o : Expr} {es : List Expr} {ta : TE} {t : TA}
theorem pe_ma (c : Ma X.prog X.w X.K X.mg X.base k x C sp) (hr : Room j X.A) (hk : k + 1 ≤ j) (hg : Gl X x) (ha : PA X (e :: es) t)
    (hdb : (x == ("__debug__" : Str)) = false := by decide) (he : starEach (e :: es) X.env = (false, eval e X.env) :: starEach es X.env := by rfl) (hpl : (backTo pos (starEach es X.env)).any (·.1) = false := by rfl) :
    PE X (.Call (.Name x p) (e :: es) [] pos) (tMk C sp t) := by
  obtain ⟨f, fd, ps, M, F, hm, b⟩ := c.ex
  exact pe_make M F (hr.mono hk) hg hm b .nil pass0 ha hdb he hpl
theorem pe_mo {pl : Sem Bool} (c : Mo X.prog X.w X.K X.mg X.base k C m sp) (hr : Room j X.A) (hk : k ≤ j) (he : PE X o ta) (ha : PA X (e :: es) t)
    (hst : starEach (e :: es) X.env = (false, eval e X.env) :: starEach es X.env := by rfl) (hpl : (backTo pos (starEach es X.env)).any (·.1) = false := by rfl)
    (ht : eval (.Call (.Attribute o m apos) (e :: es) [] pos) X.env = (do
      let ov ← eval o X.env
      standAt apos.atName
      let (f, first) ← holding [ov] (getMethod ov m pl)
      callWith pos f first (backTo pos (starEach (e :: es) X.env)) (backToKw pos (keywordEach [] X.env))) := by rfl) :
    PE X (.Call (.Attribute o m apos) (e :: es) [] pos) (tMeth C m sp [] E0 ta t) := by
  obtain ⟨f, fd, ps, cl, me, F, b⟩ := c.ex
  exact pe_meth he cl me F (hr.mono hk) b .nil pass0 ha hst hpl ht
end
abbrev s_way_with : Stmt := top 15
abbrev N_way_with : List Str := ["places", "table", "way"]
theorem sc_way_with : FnScope N_way_with ["places", "table"] (defScope s_way_with) := ⟨rfl, rfl, rfl, by decide +kernel, rfl, by decide +kernel, by decide +kernel⟩
abbrev s_allowed : Stmt := inClass (top 13) 11
abbrev N_allowed : List Str := ["self", "right", "left"]
theorem sc_allowed : FnScope N_allowed ["self", "right", "left"] (defScope s_allowed) := ⟨rfl, rfl, rfl, by decide +kernel, rfl, by decide +kernel, by decide +kernel⟩
abbrev s_checked : Stmt := inClass (top 13) 15
abbrev N_checked : List Str := ["self", "values", "value", "place"]
theorem sc_checked : FnScope N_checked ["self", "values"] (defScope s_checked) := ⟨rfl, rfl, rfl, by decide +kernel, rfl, by decide +kernel, by decide +kernel⟩
def spWith (K : PySem.W.Frag) (C : Addr) : Sp := fun vs H Q _ => ∃ (G : Hp) (t : Addr) (r l k : Nat) (c : Nat → Nat → List Int), vs = [.int (k : Nat), .ref t] ∧ Same G H ∧ Dp K G (.ref t) (tabT (tabF r l c)) ∧ 1 ≤ r ∧ r ≤ 6 ∧ 1 ≤ l ∧ l ≤ 6 ∧ 1 ≤ k ∧ k ≤ 12 ∧ (∀ i j, i < r → j < l → Cell (k : Int) (c i j)) ∧
  ∀ (a : Addr) (G' H' : Hp), Fut G H G' H' → WayAt K C G' a r l k c → Q (.ref a) H'
def spAllowed (K : PySem.W.Frag) (C : Addr) : Sp := fun vs H Q _ => ∃ (G : Hp) (a : Addr) (r l k i j : Nat) (c : Nat → Nat → List Int), vs = [.ref a, .int (i : Nat), .int (j : Nat)] ∧ Same G H ∧ WayAt K C G a r l k c ∧ i < r ∧ j < l ∧
  ∀ x : Addr, Dp K G (.ref x) (cellD (c i j)) → Q (.ref x) H
/-- the places that are given, ascending and each once -/
def spChecked (K : PySem.W.Frag) (C : Addr) : Sp := fun vs H Q _ => ∃ (G : Hp) (a t : Addr) (r l k : Nat) (c : Nat → Nat → List Int) (ns : List Int), vs = [.ref a, .ref t] ∧ Same G H ∧ WayAt K C G a r l k c ∧ SqT K G t (ns.map V.int) ∧ ns.length ≤ 1000 ∧ (∀ x ∈ ns, 0 ≤ x ∧ x < (k : Int)) ∧
  ∀ (p : Addr) (G' H' : Hp), Fut G H G' H' → SqT K G' p (((rangeI k).filter fun x => decide (x ∈ ns)).map V.int) → Q (.ref p) H'
section
variable {P : Program} {w : World} {K : PySem.W.Frag} {mg : Str → Option Value} {base : Heap} {f C : Addr} {fd : FuncData}
/-- the entry of a table -/
theorem tab_at {G : Hp} {t : Addr} {r l i j : Nat} {c : Nat → Nat → List Int} (hd : Dp K G (.ref t) (tabT (tabF r l c))) (hi : i < r) (hj : j < l) :
    ∃ (xs ys : List V) (ty x : Addr), SqT K G t xs ∧ xs.length = r ∧ xs[i]? = some (.ref ty) ∧ SqT K G ty ys ∧ ys.length = l ∧ ys[j]? = some (.ref x) ∧ Dp K G (.ref x) (cellD (c i j)) := by
  obtain ⟨xs, hS, hA⟩ : ∃ xs, SqT K G t xs ∧ DpAll K G xs ((tabF r l c).map rowT) := by
    cases hd with
    | tup a b => exact ⟨_, a, b⟩
  obtain ⟨y, hy, hdy⟩ := DpAll.at hA (i := i) (d := rowT ((List.range l).map fun j => c i j)) (by rw [List.getElem?_map, tabF_at hi] <;> rfl)
  obtain ⟨ty, rfl, ys, hS2, hA2⟩ : ∃ ty, y = .ref ty ∧ ∃ ys, SqT K G ty ys ∧ DpAll K G ys (((List.range l).map fun j => c i j).map cellD) := by
    cases hdy with
    | tup a b => exact ⟨_, rfl, _, a, b⟩
  obtain ⟨z, hz, hdz⟩ := DpAll.at hA2 (i := j) (d := cellD (c i j)) (by rw [List.getElem?_map, rowF_at hj] <;> rfl)
  obtain ⟨x, rfl⟩ : ∃ x, z = .ref x := by
    cases hdz with
    | tup a b => exact ⟨_, rfl⟩
  exact ⟨xs, ys, ty, x, hS, by rw [DpAll.len hA, List.length_map, tabF_len], hy, hS2, by rw [DpAll.len hA2, List.length_map, List.length_map, List.length_range], hz, hdz⟩
theorem ok_way_with (B : Bt mg) (T : Wt K mg C) (cM : Ma P w K mg base 4 "Way" C (spInit K C)) (F : Fun K "way_with" "way_with" s_way_with f fd) : FnOk P w K mg base CX0 6 f fd ["places", "table"] (spWith K C) := by
  refine F.ok sc_way_with (fun vs H Q E h => ?_) (fun cdv A outer s H vs Q E hr h => ?_)
  · obtain ⟨G, t, r, l, k, c, rfl, _⟩ := h
    rfl
  · obtain ⟨G, t, r, l, k, c, rfl, sG, hd, r1, r2, l1, l2, k1, k2, hok, q⟩ := h
    have nd := sc_way_with.nd
    refine ⟨_, (pss_cons (ps_set (i := 2) nd rfl (Or.inl rfl) (pe_ma cM hr (by decide) rfl (pa_cons (pe_callB call_len_seq (by rfl) B.len PySem.boot_len (pa_cons (pv 1) pa_nil)) (pa_cons (pe_callB call_len_seq (by rfl) B.len PySem.boot_len (pa_cons (pe_ix ix_tup (pv 1) pe_int (fun _ _ => rfl)) pa_nil)) (pa_cons (pv 0) pa_nil)))))
      (pss_cons (ps_fld (pv 2) (pv 1) rfl)
      (pss_one (ps_ret (pv 2))))), ?_⟩
    obtain ⟨xs, ys, ty, x0, h1, n1, h2, h3, n2, _⟩ := tab_at hd (i := 0) (j := 0) (by omega) (by omega)
    refine ⟨_, rfl, t, _, rfl, .inr (Evl.ex_t sG h1), _, rfl, t, _, _, _, rfl, rfl, Evl.ex_t sG h1, atI_nat h2, ty, _, rfl, .inr (Evl.ex_t sG h3), _, rfl, ?_⟩
    rw [n1, n2]
    dsimp only [tNil]
    refine mk_raw sG r1 r2 l1 l2 k1 k2 fun x dx t' G' H' nx a1 a2 a3 a4 a5 a6 a7 => ?_
    refine ⟨_, rfl, _, rfl, x, C, dx, _, rfl, a6, T.cl, T.nT, (by rw [wf_eq]; show 4 < 1000; decide), ?_⟩
    rw [wf_put]
    refine ⟨_, rfl, ?_⟩
    have nx' : ∀ p o, H p = some o → p ≠ x := fun p o e => ne_of_none e nx
    refine q x (upd G' x (.ins C dx (wf (.int (r : Nat)) (.int (l : Nat)) (.int (k : Nat)) (.ref t)))) _ (fut_add a1 (fun p o e => by rw [upd_ne (nx' p o e)]; exact a3 p o e) (Fut.mut a2 a5) a4 nx a5 upd_same) ⟨⟨dx, t, upd_same, Dp.mono (a1.trans (Same.new a5)) _ _ hd⟩, r1, r2, l1, l2, k1, k2, hok⟩
theorem ok_allowed (T : Wt K mg C) (cC : CalO P w K mg base 3 "check_walker" spChk) (F : Fun K "allowed" "Way.allowed" s_allowed f fd) : FnOk P w K mg base CX0 4 f fd ["self", "right", "left"] (spAllowed K C) := by
  refine F.ok sc_allowed (fun vs H Q E h => ?_) (fun cdv A outer s H vs Q E hr h => ?_)
  · obtain ⟨G, a, r, l, k, i, j, c, rfl, _⟩ := h
    rfl
  · obtain ⟨G, a, r, l, k, i, j, c, rfl, sG, W, hi, hj, q⟩ := h
    refine ⟨_, (pss_cons (ps_expr (pe_cO cC hr (by decide) rfl (pa_cons (pv 1) (pa_cons (pe_fld (pv 0) rfl) pa_nil))))
      (pss_cons (ps_expr (pe_cO cC hr (by decide) rfl (pa_cons (pv 2) (pa_cons (pe_fld (pv 0) rfl) pa_nil))))
      (pss_one (ps_ret (pe_ix ix_tup (pe_ix ix_tup (pe_fld (pv 0) rfl) (pv 1) (fun _ _ => rfl)) (pv 2) (fun _ _ => rfl)))))), ?_⟩
    obtain ⟨dx, t, ha, hd⟩ := W.ob
    obtain ⟨xs, ys, ty, x0, h1, n1, h2, h3, n2, h4, h5⟩ := tab_at hd hi hj
    have ha' := sG _ _ ha
    refine ⟨_, rfl, _, rfl, a, C, dx, _, _, rfl, ha', T.cl, T.nR, wf_r _ _ _ _, _, _, rfl, by omega, by omega, ?_⟩
    refine ⟨_, rfl, _, rfl, a, C, dx, _, _, rfl, ha', T.cl, T.nL, wf_l _ _ _ _, _, _, rfl, by omega, by omega, ?_⟩
    refine ⟨_, rfl, a, C, dx, _, _, rfl, ha', T.cl, T.nT, wf_t _ _ _ _, _, rfl, t, _, _, _, rfl, rfl, Evl.ex_t sG h1, atI_nat h2, _, rfl, ty, _, _, _, rfl, rfl, Evl.ex_t sG h3, atI_nat h4, ?_⟩
    exact q x0 h5
end
end W2

namespace W2
open PySem PySem.Spec PyProof.Rows L2 Pg Pf Rul Tab
theorem inV_ints (x : Int) : ∀ ns : List Int, inV (.int x) (ns.map V.int) = decide (x ∈ ns)
  | [] => rfl
  | n :: ns => by
    have ih := inV_ints x ns
    unfold inV at ih ⊢
    rw [List.map_cons, List.any_cons, ih]
    have e : eqV (.int n) (.int x) = decide (n = x) := by
      simp only [eqV]
      rw [Bool.eq_iff_iff]
      simp
    rw [e]
    by_cases h : n = x
    · subst h
      simp
    · have h' : ¬ x = n := fun z => h z.symm
      simp [h, h']
theorem flat_ints : ∀ ns : List Int, (ns.map V.int).all flatV = true
  | [] => rfl
  | n :: ns => by
    rw [List.map_cons, List.all_cons, flat_ints ns]
    rfl
theorem tabF_congr {r l : Nat} {f g : Nat → Nat → List Int} (h : ∀ i j, i < r → j < l → f i j = g i j) : tabF r l f = tabF r l g := by
  unfold tabF
  apply List.map_congr_left
  intro i hi
  apply List.map_congr_left
  intro j hj
  exact h i j (List.mem_range.mp hi) (List.mem_range.mp hj)
theorem pairs_at (l : Nat) (hl : 0 < l) : ∀ (r n : Nat), n < r * l → (pairsL r l)[n]? = some (n / l, n % l)
  | 0, n, h => by omega
  | r + 1, n, h => by
    rw [pairs_step]
    rw [Nat.succ_mul] at h
    by_cases hn : n < r * l
    · rw [List.getElem?_append_left (by rw [pairs_len]; exact hn)]
      exact pairs_at l hl r n hn
    · rw [List.getElem?_append_right (by rw [pairs_len]; omega), pairs_len, List.getElem?_map, List.getElem?_range (by omega)]
      have e1 : n = l * r + (n - r * l) := by rw [Nat.mul_comm l r]; omega
      have e2 : n / l = r := by
        rw [e1, Nat.mul_add_div hl, Nat.div_eq_of_lt (by omega), Nat.add_zero]
      have e3 : n % l = n - r * l := by
        rw [e1, Nat.mul_add_mod, Nat.mod_eq_of_lt (by omega), ← e1]
      rw [e2, e3]
      rfl
theorem idx_eq {l n i j : Nat} (hj : j < l) : i * l + j = n ↔ i = n / l ∧ j = n % l := by
  have hl : 0 < l := by omega
  constructor
  · intro h
    subst h
    rw [Nat.mul_comm i l]
    exact ⟨by rw [Nat.mul_add_div hl, Nat.div_eq_of_lt hj, Nat.add_zero], by rw [Nat.mul_add_mod, Nat.mod_eq_of_lt hj]⟩
  · rintro ⟨rfl, rfl⟩
    rw [Nat.mul_comm]
    exact Nat.div_add_mod n l
section
variable {P : Program} {w : World} {K : PySem.W.Frag} {mg : Str → Option Value} {base : Heap} {f C : Addr} {fd : FuncData}
theorem ok_checked (B : Bt mg) (T : Wt K mg C) (cN : CalO P w K mg base 2 "is_number" spNum) (F : Fun K "_checked_places" "Way._checked_places" s_checked f fd) : FnOk P w K mg base CX0 3 f fd ["self", "values"] (spChecked K C) := by
  refine F.ok sc_checked (fun vs H Q E h => ?_) (fun cdv A outer s H vs Q E hr h => ?_)
  · obtain ⟨G, a, t, r, l, k, c, ns, rfl, _⟩ := h
    rfl
  · obtain ⟨G, a, t, r, l, k, c, ns, rfl, sG, W, hT, hl, hns, q⟩ := h
    have nd := sc_checked.nd
    refine ⟨_, (pss_cons (ps_for PassesOwn.never rfl (pi_tup (pv 1)) (pg_name (i := 2) nd rfl (Or.inl rfl))
      (pss_one (ps_if (pt_not (pt_val (pe_cO cN hr (by decide) rfl (pa_cons (pv 2) (pa_cons pe_int (pa_cons (pe_op op_sub (pe_fld (pv 0) rfl) pe_int) pa_nil)))))) (pss_one ps_never) pss_nil)))
      (pss_one (ps_ret (pe_callTy call_tuple_of (by rfl) B.tuple (by decide +kernel) (pa_cons (pe_lc (own := [("place", 3)]) rfl nd (pi_range1 rfl B.range (pa_cons (pe_fld (pv 0) rfl) pa_nil)) (blkOk_by (N := N_checked) (sc := defScope s_checked) (by decide +kernel)) (fun _ _ _ _ _ => (pg_name (i := 3) nd rfl (Or.inl rfl))) (fun _ _ _ _ _ => pts_one (pt_cmpR (show OpR _ (compareOp .In) (rIn K false) from op_in_seq) (pv 3) (pv 1) (by rfl))) (fun _ _ _ _ _ => (pv 3))) pa_nil))))), ?_⟩
    obtain ⟨dx, t0, ha, hd⟩ := W.ob
    have ha' := sG _ _ ha
    have k2 := W.k2
    refine ⟨_, rfl, t, rfl, ⟨_, Evl.ex_t sG hT⟩, for_tup (K := K) (a := t) (xs := ns.map V.int) (fun i σ H2 => H2 = H ∧ ∃ v, σ = [some (.ref a), some (.ref t), v, none]) ⟨rfl, none, rfl⟩ (fun i σ H2 _ ⟨e, _⟩ => by rw [e]; exact Evl.ex_t sG hT) ?_ ?_⟩
    · rintro i x σ H2 hx ⟨rfl, v, rfl⟩
      rw [List.getElem?_map] at hx
      obtain ⟨z, hz, rfl⟩ : ∃ z, ns[i]? = some z ∧ x = V.int z := by
        cases e : ns[i]? with
        | none =>
          rw [e] at hx
          cases hx
        | some z =>
          rw [e] at hx
          exact ⟨z, rfl, (Option.some.inj hx).symm⟩
      have hz' := hns z (List.mem_of_getElem? hz)
      refine ⟨_, rfl, _, rfl, a, C, dx, _, _, rfl, ha', T.cl, T.nP, wf_k _ _ _ _, _, _, rfl, rfl, z, 0, (k : Int) - 1, rfl, _, rfl, ?_⟩
      rw [decide_eq_true hz'.1, decide_eq_true (show z ≤ (k : Int) - 1 by omega)]
      refine iteF ?_
      exact ⟨rfl, _, rfl⟩
    · rintro σ H2 ⟨rfl, v, rfl⟩
      refine ⟨_, rfl, a, C, dx, _, _, rfl, ha', T.cl, T.nP, wf_k _ _ _ _, (k : Nat), rfl, by omega, by omega, fun D hD => ?_⟩
      rw [show ((k : Nat) : Int).toNat = k by omega]
      refine lc_range (lo := 0) (n := k) (fun i H3 => ∃ acc : List Int, H3 D = some (.lst (acc.map V.int)) ∧ Same H2 H3 ∧ acc.length ≤ i ∧ acc = (((List.range i).map fun i => (0 : Int) + (i : Nat)).filter fun x => decide (x ∈ ns))) ⟨[], upd_same, Same.new hD, by simp, rfl⟩ ?_ ?_
      · rintro i H3 hi ⟨acc, hA, s3, la, ea⟩
        refine ⟨rfl, ?_⟩
        refine ⟨_, rfl, _, rfl, t, _, rfl, .inr (Evl.ex_t (sG.trans s3) hT), rfl, flat_ints ns, _, rfl, ?_⟩
        rw [if_neg Bool.false_ne_true, inV_ints]
        have es : ((List.range (i + 1)).map fun i => (0 : Int) + (i : Nat)) = ((List.range i).map fun i => (0 : Int) + (i : Nat)) ++ [(0 : Int) + (i : Nat)] := by
          rw [List.range_succ, List.map_append]
          rfl
        by_cases hm : (0 : Int) + (i : Nat) ∈ ns
        · rw [decide_eq_true hm]
          refine iteT ?_
          refine ⟨_, rfl, _, hA, small1000 (by rw [List.length_map]; omega), acc ++ [(0 : Int) + (i : Nat)], by rw [upd_same, List.map_append] <;> rfl, Fut.mut s3 hD, by rw [List.length_append]; show acc.length + 1 ≤ i + 1; omega, ?_⟩
          rw [es, List.filter_append, ← ea, List.filter_cons_of_pos (by exact decide_eq_true hm), List.filter_nil]
        · rw [decide_eq_false hm]
          refine iteF ?_
          refine ⟨acc, hA, s3, by omega, ?_⟩
          rw [es, List.filter_append, ← ea, List.filter_cons_of_neg (by rw [decide_eq_false hm]; exact Bool.false_ne_true), List.filter_nil, List.append_nil]
      · rintro H3 ⟨acc, hA, s3, la, ea⟩
        refine ⟨D, _, rfl, .inl ⟨SqL.of hA, fun p hp => ?_⟩⟩
        have fn := (Fut.up sG s3).trans (Fut.new (o := .tup (acc.map V.int)) (sG.trans s3) hp)
        refine q p _ _ fn ?_
        have e : acc = ((rangeI (k : Nat)).filter fun x => decide (x ∈ ns)) := by
          rw [ea]
          unfold rangeI
          rw [show ((k : Nat) : Int).toNat = k by omega]
        rw [← e]
        exact Evl.st_of upd_same
end
abbrev s_closing : Stmt := inClass (top 13) 13
abbrev N_closing : List Str := ["self", "right", "left", "places", "closed", "table", "one", "two", "still", "place"]
theorem sc_closing : FnScope N_closing ["self", "right", "left", "places"] (defScope s_closing) := ⟨rfl, rfl, rfl, by decide +kernel, rfl, by decide +kernel, by decide +kernel⟩
/-- without these places -/
def less (c : Nat → Nat → List Int) (i j : Nat) (ns : List Int) : Nat → Nat → List Int := put2 c i j ((c i j).filter fun x => !decide (x ∈ ns))
/-- closing(*places, right=i, left=j) -/
def spClosing (K : PySem.W.Frag) (C : Addr) : Sp := fun vs H Q _ => ∃ (G : Hp) (a t : Addr) (r l k i j : Nat) (c : Nat → Nat → List Int) (ns : List Int), vs = [.ref a, .int (i : Nat), .int (j : Nat), .ref t] ∧ Same G H ∧ WayAt K C G a r l k c ∧ SqT K G t (ns.map V.int) ∧ ns.length ≤ 1000 ∧ (∀ x ∈ ns, 0 ≤ x ∧ x < (k : Int)) ∧
  i < r ∧ j < l ∧ ((c i j).filter fun x => !decide (x ∈ ns)) ≠ [] ∧ ∀ (b : Addr) (G' H' : Hp), Fut G H G' H' → WayAt K C G' b r l k (less c i j ns) → Q (.ref b) H'
section
variable {P : Program} {w : World} {K : PySem.W.Frag} {mg : Str → Option Value} {base : Heap} {f C : Addr} {fd : FuncData}
theorem dpall_ints {K : PySem.W.Frag} {H : Hp} : ∀ {vs : List V} {ns : List Int}, DpAll K H vs (ns.map PyData.int) → vs = ns.map V.int
  | _, [], .nil => rfl
  | _, n :: ns, .cons a b => by
    cases a with
    | int z => rw [dpall_ints b] <;> rfl
theorem cell_vals {K : PySem.W.Frag} {H : Hp} {x : Addr} {ns : List Int} (h : Dp K H (.ref x) (cellD ns)) : SqT K H x (ns.map V.int) := by
  cases h with
  | tup a b =>
    rw [dpall_ints b] at a
    exact a
theorem pair_vals {K : PySem.W.Frag} {H : Hp} {v : V} {p : Nat × Nat} (h : Dp K H v (pairD p)) : ∃ x, v = .ref x ∧ SqT K H x [.int (p.1 : Nat), .int (p.2 : Nat)] := by
  cases h with
  | tup a b =>
    cases b with
    | cons b1 b2 =>
      cases b2 with
      | cons b2 b3 =>
        cases b1
        cases b2
        cases b3
        exact ⟨_, rfl, a⟩
theorem dec_int (a b : Nat) : decide (V.int (a : Nat) = V.int (b : Nat)) = decide (a = b) := by
  by_cases h : a = b
  · rw [decide_eq_true h, decide_eq_true (by rw [h])]
  · rw [decide_eq_false h, decide_eq_false (fun z => h (by injection z with z; omega))]
/-- the table after n pairs -/
def cn (c : Nat → Nat → List Int) (l i j : Nat) (ns : List Int) (n : Nat) : Nat → Nat → List Int := fun i' j' => if i' * l + j' < n then less c i j ns i' j' else c i' j'
theorem less_cell {k : Int} {c : Nat → Nat → List Int} {i j : Nat} {ns : List Int} (h : ∀ x y, Cell k (c x y) ∨ True) (x y : Nat) (hc : Cell k (c x y)) (hne : ((c i j).filter fun x => !decide (x ∈ ns)) ≠ []) : Cell k (less c i j ns x y) := by
  unfold less put2
  by_cases e : x = i ∧ y = j
  · rw [if_pos e]
    obtain ⟨rfl, rfl⟩ := e
    exact ⟨hne, hc.2.1.filter _, fun z hz => hc.2.2 z (List.mem_filter.mp hz).1⟩
  · rw [if_neg e]
    exact hc
theorem mem_range {k z : Int} (h1 : 0 ≤ z) (h2 : z < k) : z ∈ rangeI k := by
  unfold rangeI
  exact List.mem_map.mpr ⟨z.toNat, List.mem_range.mpr (by omega), by omega⟩
theorem asc_len : ∀ {ns : List Int} {a b : Int}, ns.Pairwise (· < ·) → (∀ x ∈ ns, a ≤ x ∧ x < b) → a ≤ b → (ns.length : Int) ≤ b - a
  | [], a, b, _, _, h => by simp; omega
  | n :: ns, a, b, hp, hm, h => by
    rw [List.pairwise_cons] at hp
    have h0 := hm n List.mem_cons_self
    have ih := asc_len (ns := ns) (a := n + 1) (b := b) hp.2 (fun x hx => ⟨by have := hp.1 x hx; omega, (hm x (List.mem_cons_of_mem _ hx)).2⟩) (by omega)
    rw [List.length_cons]
    omega
theorem cell_len {k : Int} {ns : List Int} (h : Cell k ns) (hk : k ≤ 12) : ns.length ≤ 12 := by
  obtain ⟨h0, h1, h2⟩ := h
  have hk0 : 0 ≤ k := by
    cases ns with
    | nil => exact absurd rfl h0
    | cons a b =>
      have := h2 a List.mem_cons_self
      omega
  have := asc_len h1 h2 hk0
  omega
/-- the body of closing -/
theorem body_closing (B : Bt mg) (T : Wt K mg C) (cC : CalO P w K mg base 3 "check_walker" spChk) (cK : Mo P w K mg base 3 C "_checked_places" (spChecked K C)) (cP : CalO P w K mg base 4 "pairs_of" (spPairs K C)) (cW : CalO P w K mg base 2 "with_cell" (spCell K)) (cX : CalO P w K mg base 6 "way_with" (spWith K C))
    {cdv : Value} {A : Around} {outer : List Env} {s : Shared} {H : Hp} {vs : List V} {Q : VK} (hr : Room 6 (A.deeper (envOfC "Way.closing" (defScope s_closing) s.heap.objs.size f cdv))) (h : spClosing K C vs H Q E0) :
    ∃ t, PSs (cxOf CX0 P w K mg base N_closing "Way.closing" (defScope s_closing) f cdv A outer s H E0) (defBody s_closing) t ∧ t { nx := fun _ H' => Q .non H', rt := Q } (start N_closing vs) H := by
  obtain ⟨G, a, t, r, l, k, i, j, c, ns, rfl, sG, W, hT, hl, hns, hi, hj, hne, q⟩ := h
  have nd := sc_closing.nd
  refine ⟨_, PSs.nox (pss_cons (ps_if (pt_cmpR op_notN (pv 1) pe_non (nomark _)) (pss_one (ps_expr (pe_cO cC hr (by decide) rfl (pa_cons (pv 1) (pa_cons (pe_fld (pv 0) rfl) pa_nil))))) pss_nil)
    (pss_cons (ps_if (pt_cmpR op_notN (pv 2) pe_non (nomark _)) (pss_one (ps_expr (pe_cO cC hr (by decide) rfl (pa_cons (pv 2) (pa_cons (pe_fld (pv 0) rfl) pa_nil))))) pss_nil)
    (pss_cons (ps_set (i := 4) nd rfl (Or.inr rfl) (pe_mo cK hr (by decide) (pv 0) (pa_cons (pv 3) pa_nil)))
    (pss_cons (ps_set (i := 5) nd rfl (Or.inl rfl) (pe_fld (pv 0) rfl))
    (pss_cons (ps_for PassesOwn.never rfl (pi_list (pe_cO cP hr (by decide) rfl (pa_cons (pv 0) pa_nil))) (pg_tup rfl (pgs_cons (pg_name (i := 6) nd rfl (Or.inl rfl)) (pgs_cons (pg_name (i := 7) nd rfl (Or.inl rfl)) pgs_nil)))
    (pss_one (ps_if (PW.pt (pw_and (PW.pt (pw_or (pt_cmpR op_isN (pv 1) pe_non (nomark _)) (pw_or1 (pt_cmpR op_eq (pv 1) (pv 6) (nomark _))))) (pw_and1 (PW.pt (pw_or (pt_cmpR op_isN (pv 2) pe_non (nomark _)) (pw_or1 (pt_cmpR op_eq (pv 2) (pv 7) (nomark _)))))))) (pss_cons (ps_set (i := 8) nd rfl (Or.inl rfl) (pe_callTy call_tuple_of (by rfl) B.tuple (by decide +kernel) (pa_cons (pe_lc (own := [("place", 9)]) rfl nd (pi_tup (pe_ix ix_tup (pe_ix ix_tup (pe_fld (pv 0) rfl) (pv 6) (fun _ _ => rfl)) (pv 7) (fun _ _ => rfl))) (blkOk_by (N := N_closing) (sc := defScope s_closing) (by decide +kernel)) (fun _ _ _ _ _ => (pg_name (i := 9) nd rfl (Or.inl rfl))) (fun _ _ _ _ _ => pts_one (pt_cmpR (show OpR _ (compareOp .NotIn) (rIn K true) from op_notIn_seq) (pv 9) (pv 4) (by rfl))) (fun _ _ _ _ _ => (pv 9))) pa_nil)))
    (pss_cons (ps_if (pt_cmpR op_eq (pe_callB call_len_seq (by rfl) B.len PySem.boot_len (pa_cons (pv 8) pa_nil)) pe_int (nomark _)) (pss_one ps_never) pss_nil)
    (pss_one (ps_set (i := 5) nd rfl (Or.inl rfl) (pe_cO cW hr (by decide) rfl (pa_cons (pv 5) (pa_cons (pv 6) (pa_cons (pv 7) (pa_cons (pv 8) pa_nil))))))))) pss_nil)))
    (pss_one (ps_ret (pe_cO cX hr (by decide) rfl (pa_cons (pe_fld (pv 0) rfl) (pa_cons (pv 5) pa_nil)))))))))), ?_⟩
  obtain ⟨dx, t0, ha, hd⟩ := W.ob
  have ha' := sG _ _ ha
  have r2 := W.r2
  have l2 := W.l2
  have k2 := W.k2
  refine ⟨_, rfl, rfl, _, rfl, ?_⟩
  refine iteT ?_
  refine ⟨_, rfl, _, rfl, a, C, dx, _, _, rfl, ha', T.cl, T.nR, wf_r _ _ _ _, _, _, rfl, by omega, by omega, ?_⟩
  refine ⟨_, rfl, rfl, _, rfl, ?_⟩
  refine iteT ?_
  refine ⟨_, rfl, _, rfl, a, C, dx, _, _, rfl, ha', T.cl, T.nL, wf_l _ _ _ _, _, _, rfl, by omega, by omega, ?_⟩
  refine ⟨_, rfl, a, dx, _, rfl, ha', wf_no _ _ _ _ (by decide +kernel) (by decide +kernel) (by decide +kernel) (by decide +kernel), _, rfl, G, a, t, r, l, k, c, ns, rfl, sG, W, hT, hl, hns, fun p1 G1 H1 f1 h1 => ?_⟩
  refine ⟨_, rfl, a, C, dx, _, _, rfl, f1.h _ _ ha', T.cl, T.nT, wf_t _ _ _ _, ?_⟩
  refine ⟨_, rfl, G1, a, r, l, k, c, rfl, f1.s, W.mono f1.g, fun p2 G2 H2 f2 d2 => ?_⟩
  obtain ⟨vp, hL, hP⟩ : ∃ vp, SqL K G2 p2 vp ∧ DpAll K G2 vp ((pairsL r l).map pairD) := by
    cases d2 with
    | lst a b => exact ⟨_, a, b⟩
  have lvp : vp.length = r * l := by rw [DpAll.len hP, List.length_map, pairs_len]
  have f12 := f1.trans f2
  have hl0 : 0 < l := by omega
  refine ⟨p2, rfl, ⟨_, Same.seq f2.s hL⟩, for_list (K := K) (a := p2) (xs := vp) (fun n σ H3 => ∃ (G3 : Hp) (t' : Addr) (v6 v7 v8 : Option V), σ = [some (.ref a), some (.int (i : Nat)), some (.int (j : Nat)), some (.ref t), some (.ref p1), some (.ref t'), v6, v7, v8, none] ∧
      Fut G H G3 H3 ∧ Same G2 G3 ∧ Dp K G3 (.ref t') (tabT (tabF r l (cn c l i j ns n))))
    ⟨G2, t0, none, none, none, rfl, f12, Same.refl _, ?_⟩ (fun n σ H3 _ ⟨G3, _, _, _, _, _, f3, g3, _⟩ => Same.seq (g3.trans f3.s) hL) ?_ ?_⟩
  · have e : tabF r l (cn c l i j ns 0) = tabF r l c := tabF_congr fun x y _ _ => by unfold cn; rw [if_neg (by omega)]
    rw [e]
    exact Dp.mono f12.g _ _ hd
  · rintro n x σ H3 hx ⟨G3, t', v6, v7, v8, rfl, f3, g3, d3⟩
    have hn : n < r * l := by
      rw [← lvp]
      exact (List.getElem?_eq_some_iff.mp hx).1
    obtain ⟨d, hd1, hd2⟩ := DpAll.at' hP hx
    rw [List.getElem?_map, pairs_at l hl0 r n hn] at hd1
    obtain rfl := Option.some.inj hd1
    obtain ⟨px, rfl, hpx⟩ := pair_vals hd2
    have hnr : n / l < r := Nat.div_lt_of_lt_mul (by rw [Nat.mul_comm]; exact hn)
    have hnl : n % l < l := Nat.mod_lt _ hl0
    have step : ∀ i' j', i' < r → j' < l → (¬ (i' = n / l ∧ j' = n % l) → cn c l i j ns (n + 1) i' j' = cn c l i j ns n i' j') := fun i' j' _ hj' h => by
      have h' : i' * l + j' ≠ n := fun z => h ((idx_eq hj').mp z)
      unfold cn
      by_cases z : i' * l + j' < n
      · rw [if_pos z, if_pos (by omega)]
      · rw [if_neg z, if_neg (by omega)]
    have at_n : cn c l i j ns (n + 1) (n / l) (n % l) = less c i j ns (n / l) (n % l) := by
      unfold cn
      rw [(idx_eq hnl).mpr ⟨rfl, rfl⟩, if_pos (Nat.lt_succ_self n)]
    have at_n0 : cn c l i j ns n (n / l) (n % l) = c (n / l) (n % l) := by
      unfold cn
      rw [(idx_eq hnl).mpr ⟨rfl, rfl⟩, if_neg (Nat.lt_irrefl n)]
    have same_if : less c i j ns (n / l) (n % l) = c (n / l) (n % l) → tabF r l (cn c l i j ns (n + 1)) = tabF r l (cn c l i j ns n) := fun h => tabF_congr fun i' j' h1 h2 => by
      by_cases z : i' = n / l ∧ j' = n % l
      · obtain ⟨rfl, rfl⟩ := z
        rw [at_n, at_n0, h]
      · exact step i' j' h1 h2 z
    refine ⟨px, _, rfl, Evl.ex_t (g3.trans f3.s) hpx, rfl, _, _, rfl, _, _, rfl, rfl, ?_⟩
    refine ⟨_, rfl, rfl, _, rfl, ?_⟩
    refine iteF ?_
    refine ⟨_, rfl, _, rfl, rfl, _, rfl, ?_⟩
    rw [dec_int]
    by_cases e1 : i = n / l
    · rw [decide_eq_true e1]
      refine iteT ?_
      refine ⟨_, rfl, rfl, _, rfl, ?_⟩
      refine iteF ?_
      refine ⟨_, rfl, _, rfl, rfl, _, rfl, ?_⟩
      rw [dec_int]
      by_cases e2 : j = n % l
      · rw [decide_eq_true e2]
        refine iteT ?_
        subst e1
        subst e2
        obtain ⟨xs, ys, ty, x0, b1, n1, b2, b3, n2, b4, b5⟩ := tab_at hd hi hj
        have g03 : Same G H3 := sG.trans f3.h
        refine ⟨_, rfl, a, C, dx, _, _, rfl, f3.h _ _ ha', T.cl, T.nT, wf_t _ _ _ _, _, rfl, t0, _, _, _, rfl, rfl, Evl.ex_t g03 b1, atI_nat b2, _, rfl, ty, _, _, _, rfl, rfl, Evl.ex_t g03 b3, atI_nat b4, x0, rfl, ⟨_, Evl.ex_t g03 (cell_vals b5)⟩, fun D hD => ?_⟩
        have hc := W.ok _ _ hi hj
        have lc12 : (c (n / l) (n % l)).length ≤ 1000 := by
          have h1 : (c (n / l) (n % l)).length ≤ 12 := cell_len hc (by omega)
          omega
        refine lc_it walk_tup (fun m H4 => ∃ acc : List Int, H4 D = some (.lst (acc.map V.int)) ∧ Same H3 H4 ∧ acc.length ≤ m ∧ acc = ((c (n / l) (n % l)).take m).filter fun x => !decide (x ∈ ns)) ⟨[], upd_same, Same.new hD, by simp, by simp⟩ (fun m H4 _ ⟨_, _, s4, _⟩ => Evl.ex_t (g03.trans s4) (cell_vals b5)) ?_ ?_
        · rintro m x H4 H5 hm ⟨acc, hA, s4, la, ea⟩ ⟨rfl, hx⟩
          rw [List.length_map] at hm
          obtain ⟨z, hz, rfl⟩ : ∃ z, (c (n / l) (n % l))[m]? = some z ∧ x = V.int z := by
            rw [List.getElem?_map] at hx
            cases e : (c (n / l) (n % l))[m]? with
            | none =>
              rw [e] at hx
              cases hx
            | some z =>
              rw [e] at hx
              exact ⟨z, rfl, (Option.some.inj hx).symm⟩
          have hz' := hc.2.2 z (List.mem_of_getElem? hz)
          have hin : (z ∈ ((rangeI (k : Nat)).filter fun x => decide (x ∈ ns))) ↔ z ∈ ns := by
            rw [List.mem_filter, decide_eq_true_eq]
            exact ⟨fun h => h.2, fun h => ⟨mem_range hz'.1 hz'.2, h⟩⟩
          have ht : (c (n / l) (n % l)).take (m + 1) = (c (n / l) (n % l)).take m ++ [z] := by rw [List.take_add_one, hz] <;> rfl
          refine ⟨rfl, ?_⟩
          refine ⟨_, rfl, _, rfl, p1, _, rfl, .inr (Evl.ex_t ((f2.g.trans g3).trans (f3.s.trans s4)) h1), rfl, flat_ints _, _, rfl, ?_⟩
          rw [if_pos rfl, inV_ints, decide_eq_decide.mpr hin]
          by_cases hm : z ∈ ns
          · rw [decide_eq_true hm]
            refine iteF ?_
            refine ⟨acc, hA, s4, by omega, ?_⟩
            rw [ht, List.filter_append, ← ea, List.filter_cons_of_neg (by rw [decide_eq_true hm]; exact Bool.false_ne_true), List.filter_nil, List.append_nil]
          · rw [decide_eq_false hm]
            refine iteT ?_
            refine ⟨_, rfl, _, hA, small1000 (by rw [List.length_map]; omega), acc ++ [z], by rw [upd_same, List.map_append] <;> rfl, Fut.mut s4 hD, by rw [List.length_append]; show acc.length + 1 ≤ m + 1; omega, ?_⟩
            rw [ht, List.filter_append, ← ea, List.filter_cons_of_pos (by rw [decide_eq_false hm]; rfl), List.filter_nil]
        · rintro H4 ⟨acc, hA, s4, la, ea⟩
          rw [List.length_map, List.take_length] at ea
          have f4 := f3.trans (Fut.up f3.s s4)
          refine ⟨D, _, rfl, .inl ⟨SqL.of hA, fun p3 hp3 => ?_⟩⟩
          have fn := Fut.new (o := .tup (acc.map V.int)) f4.s hp3
          have f5 := f4.trans fn
          refine ⟨_, rfl, p3, _, rfl, .inr (Evl.st_of upd_same), rfl, _, rfl, ?_⟩
          have nz : ¬ (V.int ((acc.map V.int).length : Nat) = V.int 0) := fun z => by
            injection z with z
            rw [List.length_map] at z
            exact hne (by rw [← ea]; exact List.eq_nil_of_length_eq_zero (by omega))
          rw [decide_eq_false nz]
          refine iteF ?_
          refine ⟨_, rfl, _, rfl, _, rfl, _, rfl, _, t', p3, r, l, n / l, n % l, cn c l (n / l) (n % l) ns n, acc, rfl, f5.s, Dp.mono fn.g _ _ d3, hnr, hnl, r2, l2, dp_cell upd_same, fun p4 G6 H6 f6 d6 => ?_⟩
          have eT : tabF r l (put2 (cn c l (n / l) (n % l) ns n) (n / l) (n % l) acc) = tabF r l (cn c l (n / l) (n % l) ns (n + 1)) := tabF_congr fun i' j' h1 h2 => by
            unfold put2
            by_cases z : i' = n / l ∧ j' = n % l
            · rw [if_pos z, z.1, z.2, at_n, ea]
              unfold less put2
              rw [if_pos ⟨rfl, rfl⟩]
            · rw [if_neg z]
              exact (step i' j' h1 h2 z).symm
          rw [eT] at d6
          exact ⟨G6, p4, _, _, _, rfl, f5.trans f6, (g3.trans fn.g).trans f6.g, d6⟩
      · rw [decide_eq_false e2]
        refine iteF ?_
        refine ⟨G3, t', _, _, _, rfl, f3, g3, ?_⟩
        rw [same_if (by unfold less put2; rw [if_neg (fun z => e2 z.2.symm)])]
        exact d3
    · rw [decide_eq_false e1]
      refine iteF ?_
      refine iteF ?_
      refine ⟨G3, t', _, _, _, rfl, f3, g3, ?_⟩
      rw [same_if (by unfold less put2; rw [if_neg (fun z => e1 z.1.symm)])]
      exact d3
  · rintro σ H3 ⟨G3, t', v6, v7, v8, rfl, f3, g3, d3⟩
    have e : tabF r l (cn c l i j ns vp.length) = tabF r l (less c i j ns) := tabF_congr fun x y hx hy => by
      unfold cn
      rw [if_pos]
      rw [lvp]
      have := Nat.mul_le_mul_right l (show x + 1 ≤ r by omega)
      rw [Nat.succ_mul] at this
      omega
    rw [e] at d3
    refine ⟨_, rfl, a, C, dx, _, _, rfl, f3.h _ _ ha', T.cl, T.nP, wf_k _ _ _ _, _, rfl, ?_⟩
    exact ⟨G3, t', r, l, k, less c i j ns, rfl, f3.s, d3, W.r1, W.r2, W.l1, W.l2, W.k1, W.k2, fun x y hx hy => less_cell (fun _ _ => .inr True.intro) x y (W.ok x y hx hy) hne, fun b G4 H4 f4 W4 => q b G4 H4 (f3.trans f4) W4⟩
end
end W2

namespace W2
open PySem PySem.Spec PyProof.Rows L2 Pg Pf Rul Tab
theorem bind_closing (kV doc pm : Value) (an : Option Addr) (cdv ct : Value) (u v w2 w3 : Value) :
    bindArgs (PySem.W.fnOf "closing" "Way.closing" (defArgs s_closing) (defBody s_closing) (defScope s_closing) .none kV doc pm an cdv ct) ⟨[u, v], [("right", w2), ("left", w3)]⟩ =
      (newTuple [v] >>= fun t => pure ([("self", u), ("right", w2), ("left", w3), ("places", t)] : List (Str × Value))) := by
  rfl
/-- closing as a method: one place, both walkers by name -/
structure Clo (P : Program) (w : World) (K : PySem.W.Frag) (mg : Str → Option Value) (base : Heap) (k : Nat) (C : Addr) (sp : Sp) : Prop where
  ex : ∃ f : Addr, Cls K C ∧ Meth K C "closing" f ∧ ∀ (A : Around) (outer : List Env) (s : Shared) (H : Hp) (us : List Value) (a : Addr) (v x y : V) (Q : VK), Room k A → Env0 P w K mg base A outer s H → Vals [.ref a, v, x, y] us →
    (∀ p, H p = none → sp [.ref a, x, y, .ref p] (upd H p (.tup [v])) Q E0) →
    ∀ u0 u1 u2 u3, us = [u0, u1, u2, u3] → codeAny (model P w) A (.call (.ref f) ⟨[u0, u1], [("right", u2), ("left", u3)]⟩) (CR CX0 outer P w H s Q E0) s
def tClo (C : Addr) (sp : Sp) (ta t1 t2 t3 : TE) : TE := fun σ H Q => ta σ H fun x H1 => ∃ a dx fs, x = .ref a ∧ H1 a = some (.ins C dx fs) ∧ fs.lookup ("closing" : Str) = none ∧
  tCons t1 tNil σ H1 fun vs H2 => tCons t2 (tCons t3 tNil) σ H2 fun zs H3 => ∃ y1 y2 y3, vs = [y1] ∧ zs = [y2, y3] ∧ ∀ p, H3 p = none → sp [.ref a, y2, y3, .ref p] (upd H3 p (.tup [y1])) Q E0
section
variable {P : Program} {w : World} {K : PySem.W.Frag} {mg : Str → Option Value} {base : Heap} {f C : Addr} {fd : FuncData}
theorem clo_of (cl : Cls K C) (me : Meth K C "closing" f) (F : Fun K "closing" "Way.closing" s_closing f fd) (B : Bt mg) (T : Wt K mg C) (cC : CalO P w K mg base 3 "check_walker" spChk) (cK : Mo P w K mg base 3 C "_checked_places" (spChecked K C)) (cP : CalO P w K mg base 4 "pairs_of" (spPairs K C)) (cW : CalO P w K mg base 2 "with_cell" (spCell K)) (cX : CalO P w K mg base 6 "way_with" (spWith K C)) :
    Clo P w K mg base 7 C (spClosing K C) := by
  refine ⟨f, cl, me, fun A outer s H us a v x y Q hr e0 rv hsp u0 u1 u2 u3 eu => ?_⟩
  subst eu
  obtain ⟨oc, od, kV, doc, pm, an, cdv, ct, osl, rfl, lk, hcd⟩ := F.ex
  cases rv with
  | cons r0 rv =>
  cases rv with
  | cons r1 rv =>
  cases rv with
  | cons r2 rv =>
  cases rv with
  | cons r3 rv =>
  have hn : H s.heap.objs.size = Option.none := e0.hok.fresh (Nat.le_refl _)
  refine StX.run_bnd lk hcd sc_closing hr e0 (G := fun xs H2 => ∃ p, H p = Option.none ∧ xs = [.ref a, x, y, V.ref p] ∧ H2 = upd H p (.tup [v])) (fun A' Ex Q' h => ?_) fun s2 H2 xs ⟨p, hp, ex, eH⟩ hr' => ?_
  · rw [bind_closing]
    refine wpAny_bind (wpAny_newTuple (wpAny_pure ?_) (by show 1 ≤ sizeLine; decide))
    have new : ObjOk P w (upd H s.heap.objs.size (.tup [v])) (s.heap.push ({ cls := .type "tuple", data := .seq [u1].toArray } : Obj)) s.heap.objs.size (.tup [v]) := ⟨by show 1 ≤ sizeLine; decide, [u1], .cons r1 .nil, ⟨_, Heap.get?_push_size _ rfl, rfl, _, rfl⟩⟩
    have un := StX.un_laid (fs := frs outer) (s := s) (o := ({ cls := .type "tuple", data := .seq [u1].toArray } : Obj)) (u := .tup [v]) hn
    exact h _ _ [.ref a, x, y, V.ref s.heap.objs.size] [u0, u2, u3, Value.ref s.heap.objs.size] (StX.env0_laid e0 new) un rfl (fun e s' z => z) (.cons r0 (.cons r2 (.cons r3 (.cons rfl .nil)))) rfl ⟨_, hn, rfl, rfl⟩
  · subst ex eH
    exact body_closing B T cC cK cP cW cX hr' (hsp p hp)
end
section
variable {X : Cx} {k j : Nat} {C : Addr} {sp : Sp} {pos apos q2 q3 : Pos} {o e1 e2 e3 : Expr} {ta t1 t2 t3 : TE}
theorem pe_closing {pl : Sem Bool} (c : Clo X.prog X.w X.K X.mg X.base k C sp) (hr : Room j X.A) (hk : k ≤ j) (he : PE X o ta) (h1 : PE X e1 t1) (h2 : PE X e2 t2) (h3 : PE X e3 t3)
    (hst : starEach [e1] X.env = (false, eval e1 X.env) :: starEach [] X.env := by rfl)
    (hpl : ((backTo pos (starEach [e1] X.env)).any (·.1) || (backToKw pos (keywordEach [⟨some "right", e2, q2⟩, ⟨some "left", e3, q3⟩] X.env)).any (·.1.isNone)) = false := by rfl)
    (hall : (backToKw pos (keywordEach [⟨some "right", e2, q2⟩, ⟨some "left", e3, q3⟩] X.env)).all (·.1.isSome) = true := by rfl)
    (ht : eval (.Call (.Attribute o "closing" apos) [e1] [⟨some "right", e2, q2⟩, ⟨some "left", e3, q3⟩] pos) X.env = (do
      let ov ← eval o X.env
      standAt apos.atName
      let (f, first) ← holding [ov] (getMethod ov "closing" pl)
      callWith pos f first (backTo pos (starEach [e1] X.env)) (backToKw pos (keywordEach [⟨some "right", e2, q2⟩, ⟨some "left", e3, q3⟩] X.env))) := by rfl) :
    PE X (.Call (.Attribute o "closing" apos) [e1] [⟨some "right", e2, q2⟩, ⟨some "left", e3, q3⟩] pos) (tClo C sp ta t1 t2 t3) := by
  obtain ⟨f, cl, me, run⟩ := c.ex
  refine ⟨fun pins s σ H Q I h => ?_⟩
  refine PySem.W.methodCall_KW (pl := pl) (thn (he.run pins s σ H _ I h) fun u s1 ⟨x, H1, I1, rx, a, dx, fs, ex, ea, l, q⟩ => ?_) ht
  subst ex
  obtain rfl : u = Value.ref a := rx
  refine getmeth_ok I1 ea cl me l ?_
  refine PySem.W.callWith_KW (first := [.ref a]) (h₀ := X.base) I1.ok.mod.kin me.kp hall (thn ((pa_cons h1 pa_nil hst).run pos pins s1 σ H1 _ I1 q) fun us s2 ⟨vs, H2, I2, r, q2⟩ => ?_) hpl hst
  refine thn ((pk_cons h2 (pk_cons h3 pk_nil)).run pos pins s2 σ H2 _ I2 q2) fun ws s3 ⟨zs, H3, I3, rz, y1, y2, y3, ev, ez, q3⟩ => ⟨I3.kIn, ?_⟩
  subst ev
  subst ez
  obtain ⟨u1, rfl, r1⟩ := vals1 r
  obtain ⟨w2, w3, rfl, r2, r3⟩ := vals2 rz
  show wpAny (model X.prog X.w) X.A (call (.ref f) [.ref a, u1] [("right", w2), ("left", w3)]) (EP X pins σ Q) X.xe s3
  refine wpAny_call (codeAny_mono (run X.A X.stack s3 H3 [.ref a, u1, w2, w3] a y1 y2 y3 Q (hr.mono hk) I3.env0 (.cons rfl (.cons r1 (.cons r2 (.cons r3 .nil)))) q3 _ _ _ _ rfl) fun r s' hq => ?_)
  cases r with
  | error e => exact False.elim hq
  | ok fl =>
    cases fl with
    | ret u => exact I3.after hq
    | next => exact False.elim hq
    | brk => exact False.elim hq
    | cont => exact False.elim hq
end
end W2

namespace PySem.W
open PySem PySem.Calls PyProof.Rows
section
variable {prog : Program} {w : World} {A : Around} {E : Value → Shared → Prop} {s : Shared} {K : Frag} {x C L f : Addr} {h₀ : Heap} {m : Str → Option Value} {ox : Obj} {od : Option Obj} {name : Str} {b tb : Value}
theorem r2_ifBound {M : Model} {args : List Value} {id T : String} {Q : Option Value → Shared → Prop} (X : K.In s.heap) (I : InstAt s.heap x ox C od) (hs : findIn K (.ref C) name = some (some (.builtin id))) (S : Slot T name id)
    (h : wpAny M A (call (.builtin id) (.ref x :: args)) (fun v => Q (some v)) E s) : wpAny M A (callSpecialIfBound? (.ref x) name args) Q E s := by
  simp only [callSpecialIfBound?, bindSpecialIfBound?]
  refine wpAny_holding (wpAny_bind (wpAny_bind (wpAny_bind (I.type.here ((looks_findIn X hs).here ?_)))))
  refine wpAny_bind (wpAny_askSetting (wpAny_ite ?_))
  have fin : wpAny M A (call (.builtin id) ([.ref x] ++ args) >>= fun v => pure (some v)) Q E s := wpAny_bind (wpAny_mono h (fun v s' h' => wpAny_pure h') fun _ _ h' => h')
  simp only [S.bind]
  split
  · exact wpAny_bind (wpAny_pure (wpAny_pure fin))
  · exact wpAny_tryCatch (wpAny_bind (wpAny_pure (wpAny_pure fin)))
def R2Bool (Q : Bool → Shared → Prop) (v : Value) (s' : Shared) : Prop := ∃ b, v = .bool b ∧ Q b s'
/-- x != b where the class has an own ==, and object's != -/
theorem r2_ne {Q : Value → Shared → Prop} (hu : A.units + 1 < cLine) (F : Fr h₀ L s.heap m) (X₀ : K.In h₀) (I : InstAt s.heap x ox C od) (hb : Looks (model prog w) s.heap (typeOf b) tb) (hn : notFirst K C tb = true)
    (hne : findIn K (.ref C) "__ne__" = some (some (.builtin "object.__ne__"))) (hi : Looks (model prog w) s.heap (isInstance (.ref x) (.type "object")) true) (hs : findIn K (.ref C) "__eq__" = some (some (.ref f))) (hf : isFn K (.ref f) = true)
    (h : wpAny (model prog w) A.in1 (call (.ref f) [.ref x, b]) (R2Bool fun c => Q (.bool (!c))) E s) : wpAny (model prog w) A (richCompare .NotEq (.ref x) b) Q E s := by
  have X := X₀.keeps F.keep
  have body : wpAny (model prog w) A (call (.builtin "object.__ne__") [.ref x, b]) (fun v s' => (∃ c, v = .bool c) ∧ Q v s') E s := by
    refine wpAny_call (codeAny_call_builtin PySem.F.cmp_object.ne.plain PySem.F.cmpEntry_ne (check_slot PySem.F.cmpKind_ne PySem.F.cmpSplit_ne hi (PySem.F.cmpArgs_ne _ _) ?_))
    unfold Builtin.«object.__ne__»
    refine wpAny_bind (m := slotArgs "__ne__" 1 _) (wpAny_pure ?_)
    refine wpAny_bind (wpAny_cRoomFor (by show A.units + 1 < cLine; omega) ?_)
    refine wpAny_bind (ifBound_K X I hs hf (wpAny_mono h (fun v s' hv => ?_) fun _ _ e => e))
    obtain ⟨c, rfl, q⟩ := hv
    refine wpAny_bind (m := truthy (.bool c)) (wpAny_pure ?_)
    exact wpAny_pure ⟨⟨_, rfl⟩, q⟩
  have one : wpAny (model prog w) A (tryCompare (.ref x) "__ne__" b) (fun r s' => ∃ v, r = some v ∧ Q v s') E s := by
    unfold tryCompare
    refine wpAny_bind (r2_ifBound X I hne PySem.F.cmp_object.ne (wpAny_mono body (fun v s' hv => ?_) fun _ _ e => e))
    obtain ⟨⟨c, rfl⟩, q⟩ := hv
    exact wpAny_pure ⟨_, rfl, q⟩
  unfold richCompare
  simp only [oneThing_ref]
  refine wpAny_holding (wpAny_bind (wpAny_cRoomFor (by omega) ?_))
  refine wpAny_bind (I.type.here (wpAny_bind (hb.here ?_)))
  split
  · rename_i q
    have e : subIn K tb (.ref C) = some false := by
      rcases Bool.or_eq_true_iff.mp hn with e | e
      · rw [beq_iff_eq.mp e] at q; simp at q
      · exact beq_iff_eq.mp e
    refine wpAny_bind ((looks_subIn X e).here ?_)
    simp only [Bool.false_eq_true, if_false]
    refine wpAny_bind (wpAny_mono one (fun r s' z => ?_) fun _ _ e => e)
    obtain ⟨v, rfl, hq⟩ := z
    exact wpAny_pure hq
  · refine wpAny_bind (wpAny_pure ?_)
    simp only [Bool.false_eq_true, if_false]
    refine wpAny_bind (wpAny_mono one (fun r s' z => ?_) fun _ _ e => e)
    obtain ⟨v, rfl, hq⟩ := z
    exact wpAny_pure hq
end
end PySem.W

namespace W2
open PySem PySem.Spec PyProof.Rows L2 Pg Pf Rul Tab
/-- data that is compared and shown: no texts but short ones, no dicts; its depth, its weight -/
structure Fine (n wt : Nat) (d : PyData) : Prop where
  lay : d.canLay0 = true
  sh : d.showable = true
  dp : d.depth ≤ n
  sl : d.leavesShort 13 = true
  wt : d.weight ≤ wt
structure FineAll (n wt : Nat) (ds : List PyData) : Prop where
  lay : PyData.canLayAll0 ds = true
  sh : PyData.showableAll ds = true
  dp : PyData.depthAll ds ≤ n
  sl : PyData.leavesShortAll 13 ds = true
  wt : PyData.weightAll ds ≤ wt
theorem Fine.mono {n n' wt wt' : Nat} {d : PyData} (f : Fine n wt d) (h : n ≤ n') (h2 : wt ≤ wt') : Fine n' wt' d := ⟨f.lay, f.sh, Nat.le_trans f.dp h, f.sl, Nat.le_trans f.wt h2⟩
theorem FineAll.nil {n wt : Nat} : FineAll n wt [] := ⟨rfl, rfl, Nat.zero_le _, rfl, Nat.zero_le _⟩
theorem FineAll.cons {n a b : Nat} {d : PyData} {ds : List PyData} (f : Fine n a d) (g : FineAll n b ds) : FineAll n (a + 1 + b) (d :: ds) := by
  refine ⟨?_, ?_, ?_, ?_, ?_⟩
  · show (d.canLay0 && PyData.canLayAll0 ds) = true
    rw [f.lay, g.lay]
    rfl
  · show (d.showable && PyData.showableAll ds) = true
    rw [f.sh, g.sh]
    rfl
  · show max d.depth (PyData.depthAll ds) ≤ n
    exact Nat.max_le.mpr ⟨f.dp, g.dp⟩
  · show (d.leavesShort 13 && PyData.leavesShortAll 13 ds) = true
    rw [f.sl, g.sl]
    rfl
  · show d.weight + 1 + PyData.weightAll ds ≤ _
    have := f.wt
    have := g.wt
    omega
theorem FineAll.all {n wt : Nat} : ∀ {ds : List PyData}, (∀ d ∈ ds, Fine n wt d) → FineAll n (ds.length * (wt + 1)) ds
  | [], _ => .nil
  | d :: ds, h => by
    have z := FineAll.cons (h d List.mem_cons_self) (FineAll.all (ds := ds) fun x hx => h x (List.mem_cons_of_mem _ hx))
    rw [List.length_cons, Nat.succ_mul, Nat.add_comm]
    exact z
theorem FineAll.monoW {n wt wt' : Nat} {ds : List PyData} (f : FineAll n wt ds) (h : wt ≤ wt') : FineAll n wt' ds := ⟨f.lay, f.sh, f.dp, f.sl, Nat.le_trans f.wt h⟩
theorem FineAll.list {n wt : Nat} {ds : List PyData} (f : FineAll n wt ds) : Fine (n + 1) wt (.list ds) := ⟨f.lay, f.sh, Nat.succ_le_succ f.dp, f.sl, f.wt⟩
theorem FineAll.tuple {n wt : Nat} {ds : List PyData} (f : FineAll n wt ds) : Fine (n + 1) wt (.tuple ds) := ⟨f.lay, f.sh, Nat.succ_le_succ f.dp, f.sl, f.wt⟩
theorem log2_small {i : Int} (h : i.natAbs < 2 ^ 30) : i.natAbs.log2 < 30 := by
  by_cases z : i.natAbs = 0
  · rw [z]
    decide
  · exact (Nat.log2_lt z).mpr h
theorem Fine.int {n : Nat} {i : Int} (h : i.natAbs < 2 ^ 30) : Fine n 31 (.int i) := by
  have hl := log2_small h
  refine ⟨rfl, ?_, Nat.zero_le _, ?_, ?_⟩
  · show decide (i.natAbs.log2 < 1920) = true
    exact decide_eq_true (by omega)
  · show decide ((PyData.shown (.int i)).length ≤ 13) = true
    exact decide_eq_true (PyData.shown_int_le (by omega))
  · show (if i == 0 then 0 else i.natAbs.log2 + 1) ≤ 31
    split <;> omega
theorem Fine.bool {n : Nat} (b : Bool) : Fine n 0 (.bool b) := ⟨rfl, rfl, Nat.zero_le _, rfl, Nat.zero_le _⟩
theorem Fine.none {n : Nat} : Fine n 0 .none := ⟨rfl, rfl, Nat.zero_le _, rfl, Nat.zero_le _⟩
theorem fine_cell {k : Int} {ns : List Int} (h : Cell k ns) (hk : k ≤ 12) : Fine 1 384 (cellD ns) := by
  have h1 := cell_len h hk
  have z : FineAll 0 ((ns.map PyData.int).length * 32) (ns.map PyData.int) := FineAll.all fun d hd => by
    obtain ⟨x, hx, rfl⟩ := List.mem_map.mp hd
    have := h.2.2 x hx
    exact Fine.int (by omega)
  rw [List.length_map] at z
  exact (z.monoW (by omega)).tuple
theorem fine_rowL {k : Int} {r : List (List Int)} (h : ∀ c ∈ r, Cell k c) (hk : k ≤ 12) (hl : r.length ≤ 6) : Fine 2 2310 (rowL r) := by
  have z : FineAll 1 ((r.map cellD).length * 385) (r.map cellD) := FineAll.all fun d hd => by
    obtain ⟨x, hx, rfl⟩ := List.mem_map.mp hd
    exact fine_cell (h x hx) hk
  rw [List.length_map] at z
  exact (z.monoW (by omega)).list
theorem fine_rowT {k : Int} {r : List (List Int)} (h : ∀ c ∈ r, Cell k c) (hk : k ≤ 12) (hl : r.length ≤ 6) : Fine 2 2310 (rowT r) := by
  have z : FineAll 1 ((r.map cellD).length * 385) (r.map cellD) := FineAll.all fun d hd => by
    obtain ⟨x, hx, rfl⟩ := List.mem_map.mp hd
    exact fine_cell (h x hx) hk
  rw [List.length_map] at z
  exact (z.monoW (by omega)).tuple
theorem tabF_mem {r l : Nat} {c : Nat → Nat → List Int} {x : List (List Int)} (h : x ∈ tabF r l c) : ∃ i, i < r ∧ x = (List.range l).map fun j => c i j := by
  unfold tabF at h
  obtain ⟨i, hi, rfl⟩ := List.mem_map.mp h
  exact ⟨i, List.mem_range.mp hi, rfl⟩
theorem fine_tabT {r l : Nat} {k : Int} {c : Nat → Nat → List Int} (h : ∀ i j, i < r → j < l → Cell k (c i j)) (hk : k ≤ 12) (hr : r ≤ 6) (hl : l ≤ 6) : Fine 3 13866 (tabT (tabF r l c)) := by
  have z : FineAll 2 (((tabF r l c).map rowT).length * 2311) ((tabF r l c).map rowT) := FineAll.all fun d hd => by
    obtain ⟨x, hx, rfl⟩ := List.mem_map.mp hd
    obtain ⟨i, hi, rfl⟩ := tabF_mem hx
    refine fine_rowT (k := k) (fun y hy => ?_) hk (by rw [List.length_map, List.length_range]; exact hl)
    obtain ⟨j, hj, rfl⟩ := List.mem_map.mp hy
    exact h i j hi (List.mem_range.mp hj)
  rw [List.length_map, tabF_len] at z
  exact (z.monoW (by omega)).tuple
theorem Fine.shaped {n wt : Nat} {d : PyData} (f : Fine n wt d) (h : n ≤ 64) : SeqAt.shaped d = true := by
  show (d.canLay0 && decide (d.depth ≤ 64)) = true
  rw [f.lay, decide_eq_true (Nat.le_trans f.dp h)]
  rfl
theorem Fine.fits {n wt : Nat} {d : PyData} (f : Fine n wt d) (h : wt ≤ 1000000) : d.shown.length ≤ sizeLine := PyData.shown_fits (B := 13) (by decide) (by decide) f.sl (by have := f.wt; omega)
theorem Fine.nodict {n wt : Nat} {d : PyData} (f : Fine n wt d) : d.hasDict = false := PyData.hasDict_of_canLay d f.lay
/-- repr of such data -/
theorem rd_repr {X : Cx} {H : Hp} {a : Addr} {d : PyData} {n wt : Nat} {Q : VK} (hd : Dp X.K H (.ref a) d) (f : Fine n wt d) (hn : n ≤ 60) (hw : wt ≤ 1000000) (q : Q (.str d.shown) H) :
    ∃ a' d', [V.ref a] = [.ref a'] ∧ Dp X.K H (.ref a') d' ∧ d'.showable = true ∧ d'.hasDict = false ∧ d'.depth ≤ 60 ∧ d'.shown.length ≤ sizeLine ∧ Q (.str d'.shown) H :=
  ⟨a, d, rfl, hd, f.sh, f.nodict, Nat.le_trans f.dp hn, f.fits hw, q⟩
mutual
theorem eqv_rfl : ∀ d : PyData, d.canLay0 = true → PyData.eqv d d = true
  | .none, _ => rfl
  | .bool b, _ => by simp [PyData.eqv]
  | .int i, _ => by simp [PyData.eqv]
  | .str x, _ => by simp [PyData.eqv]
  | .list ds, h => eqvAll_rfl ds h
  | .tuple ds, h => eqvAll_rfl ds h
  | .dict _, h => by cases h
theorem eqvAll_rfl : ∀ ds : List PyData, PyData.canLayAll0 ds = true → PyData.eqvAll ds ds = true
  | [], _ => rfl
  | d :: ds, h => by
    have h' := Bool.and_eq_true_iff.mp (show (d.canLay0 && PyData.canLayAll0 ds) = true from h)
    show (PyData.eqv d d && PyData.eqvAll ds ds) = true
    rw [eqv_rfl d h'.1, eqvAll_rfl ds h'.2]
    rfl
end
end W2

namespace W2
open PySem PySem.Spec PyProof.Rows L2 Pg Pf Rul Tab
theorem asc_ext : ∀ {as bs : List Int}, as.Pairwise (· < ·) → bs.Pairwise (· < ·) → (∀ x, x ∈ as ↔ x ∈ bs) → as = bs
  | [], [], _, _, _ => rfl
  | [], b :: bs, _, _, h => absurd ((h b).mpr List.mem_cons_self) (by simp)
  | a :: as, [], _, _, h => absurd ((h a).mp List.mem_cons_self) (by simp)
  | a :: as, b :: bs, ha, hb, h => by
    rw [List.pairwise_cons] at ha hb
    have e : a = b := by
      rcases List.mem_cons.mp ((h a).mp List.mem_cons_self) with z | z
      · exact z
      · rcases List.mem_cons.mp ((h b).mpr List.mem_cons_self) with y | y
        · exact y.symm
        · have h1 := hb.1 a z
          have h2 := ha.1 b y
          omega
    subst e
    rw [asc_ext ha.2 hb.2 fun x => ?_]
    constructor
    · intro hx
      rcases List.mem_cons.mp ((h x).mp (List.mem_cons_of_mem _ hx)) with z | z
      · have := ha.1 x hx
        omega
      · exact z
    · intro hx
      rcases List.mem_cons.mp ((h x).mpr (List.mem_cons_of_mem _ hx)) with z | z
      · have := hb.1 x hx
        omega
      · exact z
theorem range_asc (k : Int) : (rangeI k).Pairwise (· < ·) := by
  unfold rangeI
  rw [List.pairwise_map]
  exact List.pairwise_lt_range.imp fun h => by omega
theorem range_mem {k x : Int} : x ∈ rangeI k → 0 ≤ x ∧ x < k := by
  intro h
  unfold rangeI at h
  obtain ⟨i, hi, rfl⟩ := List.mem_map.mp h
  rw [List.mem_range] at hi
  omega
theorem filter_cell {k : Int} {ns : List Int} (h : Cell k ns) : ((rangeI k).filter fun x => decide (x ∈ ns)) = ns :=
  asc_ext ((range_asc k).filter _) h.2.1 fun x => by
    rw [List.mem_filter, decide_eq_true_eq]
    exact ⟨fun z => z.2, fun z => ⟨mem_range (h.2.2 x z).1 (h.2.2 x z).2, z⟩⟩
/-- a net as data, by its entries -/
def netF (e w k : Nat) (c : Nat → Nat → List Int) : PyData := .tuple [.int (e : Nat), .int (w : Nat), .int (k : Nat), tabL (tabF e w c)]
/-- what stays of all places when some are gone -/
def stay (k : Int) (gone : List Int) : List Int := (rangeI k).filter fun x => !decide (x ∈ gone)
theorem stay_snoc (k : Int) (gone : List Int) (z : Int) : (stay k gone).filter (fun x => !decide (x ∈ [z])) = stay k (gone ++ [z]) := by
  unfold stay
  rw [List.filter_filter]
  apply List.filter_congr
  intro x _
  by_cases h1 : x ∈ gone <;> by_cases h2 : x = z <;> simp [h1, h2]
theorem stay_nil (k : Int) : stay k [] = rangeI k := by
  unfold stay
  simp
def goneOf (k : Int) (ns : List Int) : List Int := (rangeI k).filter fun x => !decide (x ∈ ns)
theorem stay_gone {k : Int} {ns : List Int} (h : Cell k ns) : stay k (goneOf k ns) = ns := by
  have e : stay k (goneOf k ns) = (rangeI k).filter fun x => decide (x ∈ ns) := by
    unfold stay goneOf
    apply List.filter_congr
    intro x hx
    by_cases h1 : x ∈ ns <;> simp [h1, hx]
  rw [e, filter_cell h]
theorem stay_ne {k : Int} {ns gone : List Int} (h : Cell k ns) (hg : ∀ x ∈ gone, x ∈ goneOf k ns) : stay k gone ≠ [] := by
  obtain ⟨h0, h1, h2⟩ := h
  cases ns with
  | nil => exact absurd rfl h0
  | cons a b =>
    intro z
    have ha := h2 a List.mem_cons_self
    have : a ∈ stay k gone := by
      unfold stay
      rw [List.mem_filter]
      refine ⟨mem_range ha.1 ha.2, ?_⟩
      have : ¬ a ∈ gone := fun y => by
        have := hg a y
        unfold goneOf at this
        rw [List.mem_filter] at this
        simp at this
      simp [this]
    rw [z] at this
    cases this
theorem stay_cell {k : Int} {ns gone : List Int} (h : Cell k ns) (hg : ∀ x ∈ gone, x ∈ goneOf k ns) : Cell k (stay k gone) :=
  ⟨stay_ne h hg, (range_asc k).filter _, fun x hx => range_mem (List.mem_filter.mp hx).1⟩
/-- the net's list of rows: how it is read -/
theorem net_vals {K : PySem.W.Frag} {G : Hp} {t : Addr} {e w k : Nat} {c : Nat → Nat → List Int} (h : Dp K G (.ref t) (netF e w k c)) :
    ∃ (rl : Addr) (xs : List V), SqT K G t [.int (e : Nat), .int (w : Nat), .int (k : Nat), .ref rl] ∧ SqL K G rl xs ∧ DpAll K G xs ((tabF e w c).map rowL) := by
  cases h with
  | tup a b =>
    cases b with
    | cons b1 b =>
    cases b with
    | cons b2 b =>
    cases b with
    | cons b3 b =>
    cases b with
    | cons b4 b =>
    cases b
    cases b1
    cases b2
    cases b3
    cases b4 with
    | lst a2 b2 => exact ⟨_, _, a, a2, b2⟩
theorem row_vals {K : PySem.W.Frag} {G : Hp} {v : V} {r : List (List Int)} (h : Dp K G v (rowL r)) : ∃ (x : Addr) (ys : List V), v = .ref x ∧ SqL K G x ys ∧ DpAll K G ys (r.map cellD) := by
  cases h with
  | lst a b => exact ⟨_, _, rfl, a, b⟩
def spWay (K : PySem.W.Frag) (C : Addr) : Sp := fun vs H Q _ => ∃ (G : Hp) (t : Addr) (e w k : Nat) (c : Nat → Nat → List Int), vs = [.ref t] ∧ Same G H ∧ Dp K G (.ref t) (netF e w k c) ∧ 1 ≤ e ∧ e ≤ 6 ∧ 1 ≤ w ∧ w ≤ 6 ∧ 1 ≤ k ∧ k ≤ 12 ∧ (∀ i j, i < e → j < w → Cell (k : Int) (c i j)) ∧
  ∀ (a : Addr) (G' H' : Hp), Fut G H G' H' → WayAt K C G' a e w k c → Q (.ref a) H'
abbrev s__law_way : Stmt := top 40
abbrev N__law_way : List Str := ["_law_net_here", "_law_road", "_law_n", "_law_row", "_law_k", "_law_some_here", "_law_spot", "_law_gone"]
theorem sc__law_way : FnScope N__law_way ["_law_net_here"] (defScope s__law_way) := ⟨rfl, rfl, rfl, by decide +kernel, rfl, by decide +kernel, by decide +kernel⟩
/-- what the places are while the pair (i, j) is being done -/
def done (k : Int) (c : Nat → Nat → List Int) (i j : Nat) (now : List Int) : Nat → Nat → List Int := fun x y => if x < i ∨ (x = i ∧ y < j) then c x y else if x = i ∧ y = j then now else rangeI k
theorem WayAt.congr {K : PySem.W.Frag} {C : Addr} {G : Hp} {a : Addr} {r l k : Nat} {c c' : Nat → Nat → List Int} (W : WayAt K C G a r l k c) (h : ∀ i j, i < r → j < l → c i j = c' i j) : WayAt K C G a r l k c' :=
  ⟨by rw [← tabF_congr h]; exact W.ob, W.r1, W.r2, W.l1, W.l2, W.k1, W.k2, fun i j hi hj => by rw [← h i j hi hj]; exact W.ok i j hi hj⟩
section
variable {P : Program} {w : World} {K : PySem.W.Frag} {mg : Str → Option Value} {base : Heap} {f C : Addr} {fd : FuncData}
theorem ok_way (B : Bt mg) (cM : Ma P w K mg base 4 "Way" C (spInit K C)) (cL : Clo P w K mg base 7 C (spClosing K C)) (F : Fun K "_law_way" "_law_way" s__law_way f fd) : FnG P w K mg base 8 f fd ["_law_net_here"] (spWay K C) := by
  refine okG F sc__law_way (fun vs H Q E h => ?_) (fun cdv A outer s H vs Q E hr hgd h => ?_)
  · obtain ⟨G, t, e, w, k, c, rfl, _⟩ := h
    rfl
  · obtain ⟨G, t, e, wd, k, c, rfl, sG, hd, e1, e2, w1, w2, k1, k2, hok, q⟩ := h
    have nd := sc__law_way.nd
    refine ⟨_, (pss_cons (ps_set (i := 1) nd rfl (Or.inl rfl) (pe_ma cM hr (by decide) rfl (pa_cons (pe_ix ix_tup (pv 0) pe_int (fun _ _ => rfl)) (pa_cons (pe_ix ix_tup (pv 0) pe_int (fun _ _ => rfl)) (pa_cons (pe_ix ix_tup (pv 0) pe_int (fun _ _ => rfl)) pa_nil)))))
      (pss_cons (ps_for PassesOwn.never rfl (pi_enum (by rfl) B.enumerate (pa_cons (pe_ix ix_tup (pv 0) pe_int (fun _ _ => rfl)) pa_nil)) (pg_tup rfl (pgs_cons (pg_name (i := 2) nd rfl (Or.inl rfl)) (pgs_cons (pg_name (i := 3) nd rfl (Or.inl rfl)) pgs_nil)))
      (pss_one (ps_for PassesOwn.never rfl (pi_enum (by rfl) B.enumerate (pa_cons (pv 3) pa_nil)) (pg_tup rfl (pgs_cons (pg_name (i := 4) nd rfl (Or.inl rfl)) (pgs_cons (pg_name (i := 5) nd rfl (Or.inr rfl)) pgs_nil)))
      (pss_cons (ps_setLc (i := 7) (own := [("_law_spot", 6)]) rfl nd rfl rfl (sw_true rfl rfl rfl (by decide +kernel)) (pi_range1 rfl B.range (pa_cons (pe_ix ix_tup (pv 0) pe_int (fun _ _ => rfl)) pa_nil)) (blkOk_by (N := N__law_way) (sc := defScope s__law_way) (by decide +kernel)) (fun _ _ _ _ _ => (pg_name (i := 6) nd rfl (Or.inl rfl))) (fun _ _ _ _ _ => pts_one (pt_cmpR (show OpR _ (compareOp .NotIn) (rIn K true) from op_notIn_seq) (pv 6) (pv 5) (by rfl))) (fun _ _ _ _ _ => (pv 6)))
      (pss_one (ps_for PassesOwn.never rfl (pi_list (pv 7)) (pg_name (i := 6) nd rfl (Or.inl rfl))
      (pss_one (ps_set (i := 1) nd rfl (Or.inl rfl) (pe_closing cL hr (by decide) (pv 1) (pv 6) (pv 2) (pv 4)))))))))) 
      (pss_one (ps_ret (pv 1))))), ?_⟩
    obtain ⟨rl, xs, hS, hL, hA⟩ := net_vals hd
    have lx : xs.length = e := by rw [DpAll.len hA, List.length_map, tabF_len]
    refine ⟨_, rfl, t, _, _, _, rfl, rfl, Evl.ex_t sG hS, atI_nat (j := 0) rfl, _, rfl, t, _, _, _, rfl, rfl, Evl.ex_t sG hS, atI_nat (j := 1) rfl, _, rfl, t, _, _, _, rfl, rfl, Evl.ex_t sG hS, atI_nat (j := 2) rfl, ?_⟩
    dsimp only [tNil]
    refine mk_way sG e1 e2 w1 w2 k1 k2 fun a1 G1 H1 f1 W1 => ?_
    refine ⟨_, rfl, t, _, _, _, rfl, rfl, Evl.ex_t (f1.g.trans f1.s) hS, atI_nat (j := 3) rfl, rl, xs, rfl, Same.seq (f1.g.trans f1.s) hL, for_it walk_enum (fun i σ H3 => ∃ (G3 : Hp) (a : Addr) (v2 v3 v4 v5 v6 v7 : Option V), σ = [some (.ref t), some (.ref a), v2, v3, v4, v5, v6, v7] ∧ Fut G H G3 H3 ∧ WayAt K C G3 a e wd k (done k c i 0 (rangeI k)))
      ⟨G1, a1, none, none, none, none, none, none, rfl, f1, W1.congr fun x y _ _ => by unfold done; rw [if_neg (by omega)]; split <;> rfl⟩ (fun i σ H3 _ ⟨G3, _, _, _, _, _, _, _, _, f3, _⟩ => Same.seq (f3.g.trans f3.s) hL) ?_ ?_⟩
    · rintro i x σ H3 H4 hi ⟨G3, a, v2, v3, v4, v5, v6, v7, rfl, f3, W3⟩ ⟨T', x1, y1, rfl, hT, rfl, q1, q2⟩
      obtain rfl := Option.some.inj q1
      replace q2 : xs[i]? = some y1 := q2
      have hie : i < e := by omega
      obtain ⟨d, hd1, hd2⟩ := DpAll.at' hA q2
      rw [List.getElem?_map, tabF_at hie] at hd1
      obtain rfl := Option.some.inj hd1
      obtain ⟨xr, ys, rfl, hLr, hAr⟩ := row_vals hd2
      have ly : ys.length = wd := by rw [DpAll.len hAr, List.length_map, List.length_map, List.length_range]
      have f4 := f3.trans (Fut.up f3.s (Same.new (o := .tup [V.int (i : Nat), .ref xr]) hT))
      have hT4 : (upd H3 T' (.tup [V.int (i : Nat), .ref xr])) T' = some (.tup [V.int (i : Nat), .ref xr]) := upd_same
      generalize (upd H3 T' (.tup [V.int (i : Nat), .ref xr])) = H4 at f4 hT4 ⊢
      refine ⟨T', _, rfl, SqT.of hT4, rfl, _, _, rfl, _, _, rfl, rfl, ?_⟩
      refine ⟨_, rfl, xr, ys, rfl, Same.seq (f4.g.trans f4.s) hLr, for_it walk_enum (fun j σ H5 => ∃ (G5 : Hp) (a : Addr) (v4 v5 v6 v7 : Option V), σ = [some (.ref t), some (.ref a), some (.int (i : Nat)), some (.ref xr), v4, v5, v6, v7] ∧ Fut G H G5 H5 ∧ WayAt K C G5 a e wd k (done k c i j (rangeI k)))
        ⟨G3, a, v4, v5, v6, v7, rfl, f4, W3⟩ (fun j σ H5 _ ⟨G5, _, _, _, _, _, _, f5, _⟩ => Same.seq (f5.g.trans f5.s) hLr) ?_ ?_⟩
      · rintro j x σ H5 H6 hj ⟨G5, a, v4, v5, v6, v7, rfl, f5, W5⟩ ⟨T2, x2, y2, rfl, hT2, rfl, p1, p2⟩
        obtain rfl := Option.some.inj p1
        replace p2 : ys[j]? = some y2 := p2
        have hjw : j < wd := by omega
        obtain ⟨d, hd3, hd4⟩ := DpAll.at' hAr p2
        rw [List.getElem?_map, rowF_at hjw] at hd3
        obtain rfl := Option.some.inj hd3
        obtain ⟨xc, rfl⟩ : ∃ xc, y2 = .ref xc := by
          cases hd4 with
          | tup a b => exact ⟨_, rfl⟩
        have hcv := cell_vals hd4
        have hc := hok i j hie hjw
        have f6 := f5.trans (Fut.up f5.s (Same.new (o := .tup [V.int (j : Nat), .ref xc]) hT2))
        have hT6 : (upd H5 T2 (.tup [V.int (j : Nat), .ref xc])) T2 = some (.tup [V.int (j : Nat), .ref xc]) := upd_same
        generalize (upd H5 T2 (.tup [V.int (j : Nat), .ref xc])) = H6 at f6 hT6 ⊢
        refine ⟨T2, _, rfl, SqT.of hT6, rfl, _, _, rfl, _, _, rfl, rfl, ?_⟩
        refine ⟨_, rfl, t, _, _, _, rfl, rfl, Evl.ex_t (f6.g.trans f6.s) hS, atI_nat (j := 2) rfl, (k : Nat), rfl, by omega, by omega, fun D hD => ?_⟩
        rw [show ((k : Nat) : Int).toNat = k by omega]
        refine lc_range (lo := 0) (n := k) (fun m H7 => ∃ acc : List Int, H7 D = some (.lst (acc.map V.int)) ∧ Same H6 H7 ∧ acc.length ≤ m ∧ acc = (((List.range m).map fun i => (0 : Int) + (i : Nat)).filter fun x => !decide (x ∈ c i j))) ⟨[], upd_same, Same.new hD, by simp, rfl⟩ ?_ ?_
        · rintro m H7 hm ⟨acc, hA7, s7, la, ea⟩
          refine ⟨rfl, ?_⟩
          refine ⟨_, rfl, _, rfl, xc, _, rfl, .inr (Evl.ex_t ((f6.g.trans f6.s).trans s7) hcv), rfl, flat_ints _, _, rfl, ?_⟩
          rw [if_pos rfl, inV_ints]
          have es : ((List.range (m + 1)).map fun i => (0 : Int) + (i : Nat)) = ((List.range m).map fun i => (0 : Int) + (i : Nat)) ++ [(0 : Int) + (m : Nat)] := by
            rw [List.range_succ, List.map_append]
            rfl
          by_cases hm2 : (0 : Int) + (m : Nat) ∈ c i j
          · rw [decide_eq_true hm2]
            refine iteF ?_
            refine ⟨acc, hA7, s7, by omega, ?_⟩
            rw [es, List.filter_append, ← ea, List.filter_cons_of_neg (by rw [decide_eq_true hm2]; exact Bool.false_ne_true), List.filter_nil, List.append_nil]
          · rw [decide_eq_false hm2]
            refine iteT ?_
            refine ⟨_, rfl, _, hA7, small1000 (by rw [List.length_map]; omega), acc ++ [(0 : Int) + (m : Nat)], by rw [upd_same, List.map_append] <;> rfl, Fut.mut s7 hD, by rw [List.length_append]; show acc.length + 1 ≤ m + 1; omega, ?_⟩
            rw [es, List.filter_append, ← ea, List.filter_cons_of_pos (by rw [decide_eq_false hm2]; rfl), List.filter_nil]
        · rintro H7 ⟨gone, hA7, s7, la, ea⟩
          have eg : gone = goneOf k (c i j) := by
            rw [ea]
            unfold goneOf rangeI
            rw [show ((k : Nat) : Int).toNat = k by omega]
          have f7 := f6.trans (Fut.up f6.s s7)
          refine ⟨_, rfl, D, rfl, ⟨_, SqL.of hA7⟩, for_list (K := K) (a := D) (xs := gone.map V.int) (fun m σ H8 => ∃ (G8 : Hp) (a : Addr) (v6 : Option V), σ = [some (.ref t), some (.ref a), some (.int (i : Nat)), some (.ref xr), some (.int (j : Nat)), some (.ref xc), v6, some (.ref D)] ∧ Fut G5 H7 G8 H8 ∧ WayAt K C G8 a e wd k (done k c i j (stay k (gone.take m))))
            ⟨G5, a, _, rfl, Fut.refl f7.s, by rw [List.take_zero, stay_nil]; exact W5⟩ (fun m σ H8 _ ⟨_, _, _, _, f8, _⟩ => SqL.of (f8.h _ _ hA7)) ?_ ?_⟩
          · rintro m x σ H8 hx ⟨G8, a, v6, rfl, f8, W8⟩
            obtain ⟨z, hz, rfl⟩ : ∃ z, gone[m]? = some z ∧ x = V.int z := by
              rw [List.getElem?_map] at hx
              cases e : gone[m]? with
              | none =>
                rw [e] at hx
                cases hx
              | some z =>
                rw [e] at hx
                exact ⟨z, rfl, (Option.some.inj hx).symm⟩
            have hzg : z ∈ goneOf k (c i j) := eg ▸ List.mem_of_getElem? hz
            have hzr := range_mem (List.mem_filter.mp hzg).1
            have ht : gone.take (m + 1) = gone.take m ++ [z] := by rw [List.take_add_one, hz] <;> rfl
            have hall : ∀ x ∈ gone.take (m + 1), x ∈ goneOf k (c i j) := fun x hx => eg ▸ List.mem_of_mem_take hx
            obtain ⟨dx, tt, ha8, _⟩ := W8.ob
            have at_ij : done k c i j (stay k (gone.take m)) i j = stay k (gone.take m) := by
              unfold done
              rw [if_neg (by omega), if_pos ⟨rfl, rfl⟩]
            refine ⟨_, rfl, a, dx, _, rfl, f8.s _ _ ha8, wf_no _ _ _ _ (by decide +kernel) (by decide +kernel) (by decide +kernel) (by decide +kernel), _, rfl, _, rfl, _, rfl, _, _, _, rfl, rfl, fun p hp => ?_⟩
            have fn := Fut.new (o := .tup [V.int z]) f8.s hp
            refine ⟨_, a, p, e, wd, k, i, j, _, [z], rfl, fn.s, W8.mono fn.g, Evl.st_of upd_same, by show 1 ≤ 1000; decide, fun x hx => by rw [List.mem_singleton] at hx; omega, hie, hjw, ?_, fun b G9 H9 f9 W9 => ?_⟩
            · rw [at_ij, stay_snoc, ← ht]
              exact stay_ne hc hall
            · refine ⟨G9, b, _, rfl, (f8.trans fn).trans f9, W9.congr fun x y hx hy => ?_⟩
              unfold less put2
              by_cases h : x = i ∧ y = j
              · rw [if_pos h, at_ij, stay_snoc, ← ht, h.1, h.2]
                unfold done
                rw [if_neg (by omega), if_pos ⟨rfl, rfl⟩]
              · rw [if_neg h]
                unfold done
                by_cases h2 : x < i ∨ x = i ∧ y < j
                · rw [if_pos h2, if_pos h2]
                · rw [if_neg h2, if_neg h2, if_neg h, if_neg h]
          · rintro σ H8 ⟨G8, a, v6, rfl, f8, W8⟩
            refine ⟨G8, a, _, _, _, _, rfl, f7.trans f8, W8.congr fun x y hx hy => ?_⟩
            rw [List.length_map, List.take_length, eg, stay_gone hc]
            unfold done
            by_cases h2 : x < i ∨ x = i ∧ y < j
            · rw [if_pos h2, if_pos (by omega)]
            · rw [if_neg h2]
              by_cases h : x = i ∧ y = j
              · rw [if_pos h, if_pos (by omega), h.1, h.2]
              · rw [if_neg h, if_neg (by omega)]
                split <;> rfl
      · rintro σ H5 ⟨G5, a, v4, v5, v6, v7, rfl, f5, W5⟩
        refine ⟨G5, a, _, _, _, _, _, _, rfl, f5, W5.congr fun x y hx hy => ?_⟩
        unfold done
        by_cases h2 : x < i ∨ x = i ∧ y < ys.length
        · rw [if_pos h2, if_pos (by omega)]
        · have h3 : ¬ (x < i + 1 ∨ x = i + 1 ∧ y < 0) := by omega
          rw [if_neg h2, if_neg h3]
          split <;> split <;> rfl
    · rintro σ H3 ⟨G3, a, v2, v3, v4, v5, v6, v7, rfl, f3, W3⟩
      exact ⟨_, rfl, q a G3 H3 f3 (W3.congr fun x y hx hy => by unfold done; rw [if_pos (by omega)])⟩
end
end W2

namespace W2
open PySem PySem.Spec PyProof.Rows L2 Pg Pf Rul Tab
/-- what is known of the class for ==, !=, len, isinstance -/
structure We (P : Program) (w : World) (K : PySem.W.Frag) (mg : Str → Option Value) (base : Heap) (ke kl : Nat) (C : Addr) (spE spL : Sp) : Prop where
  cl : Cls K C
  ha : PySem.W.findIn K (.ref C) "__class__" = some (some (.builtin "object.__class__"))
  hn : PySem.W.specialIn K (.builtin "object.__class__") "__get__" = some (some (.builtin "getset_descriptor.__get__"))
  htk : PySem.W.takesIn K (.builtin "object.__class__") = some true
  hm : PySem.W.mroIn K C (.type "object") = some true
  ne : PySem.W.findIn K (.ref C) "__ne__" = some (some (.builtin "object.__ne__"))
  eq : ∃ (f : Addr) (fd : FuncData), PySem.W.findIn K (.ref C) "__eq__" = some (some (.ref f)) ∧ PySem.W.isFn K (.ref f) = true ∧ FnOk P w K mg base CX0 ke f fd ["self", "other"] spE ∧ Binds K fd ["self", "other"] []
  len : ∃ (f : Addr) (fd : FuncData), PySem.W.findIn K (.ref C) "__len__" = some (some (.ref f)) ∧ PySem.W.isFn K (.ref f) = true ∧ FnOk P w K mg base CX0 kl f fd ["self"] spL ∧ Binds K fd ["self"] []
/-- x == y, x != y by the class's own == -/
def rCmpW (K : PySem.W.Frag) (C : Addr) (sp : Sp) (neg : Bool) : R2 := fun x y H Q => ∃ a dx fs t, x = .ref a ∧ H a = some (.ins C dx fs) ∧ TyX K H y t ∧ PySem.W.notFirst K C t = true ∧ sp [x, y] H (fun v H' => ∃ c : Bool, v = .bl c ∧ Q (.bl (if neg = true then !c else c)) H') E0
section
variable {X : Cx} {ke kl j : Nat} {C : Addr} {spE spL : Sp}
theorem op_eqW (c : We X.prog X.w X.K X.mg X.base ke kl C spE spL) (hr : Room j X.A) (hk : ke ≤ j) : OpR X (compareOp .Eq) (rCmpW X.K C spE false) := by
  intro pins s σ H x y v u Q I rx ry h
  obtain ⟨a, dx, fs, t, rfl, ha, ty, hn, q⟩ := h
  cases (show v = Value.ref a from rx)
  obtain ⟨f, fd, hs, hf, F, b⟩ := c.eq
  obtain ⟨mA, O, _⟩ := ins_get I.hok ha
  obtain ⟨od, J, _⟩ := O.look
  obtain ⟨m, hF⟩ := I.fr
  obtain ⟨Pk, Z, p, _⟩ := kit_of I ry ty
  refine PySem.W.cmp_K (op := .Eq) (tb := t) (hr.mono hk).units0 hF I.ok.mod.kin J (Z.ty _ _ I.kIn p) hn hs hf ?_
  have z := run_fn (us := [.ref a, u]) (vs := [.ref a, y]) (Q := fun v H' => ∃ c : Bool, v = .bl c ∧ Q (.bl c) H') F (hr.mono hk) b .nil pass0 I (.cons rfl (.cons ry .nil)) q
  refine wpAny_mono z (fun w s' hz => ?_) fun _ _ x => x
  obtain ⟨z', H', I', rz, c, ec, qz⟩ := hz
  subst ec
  cases (show w = Value.bool c from rz)
  exact ⟨.bl c, H', I', rfl, qz⟩
theorem op_neW (c : We X.prog X.w X.K X.mg X.base ke kl C spE spL) (hr : Room j X.A) (hk : ke + 1 ≤ j) : OpR X (compareOp .NotEq) (rCmpW X.K C spE true) := by
  intro pins s σ H x y v u Q I rx ry h
  obtain ⟨a, dx, fs, t, rfl, ha, ty, hn, q⟩ := h
  cases (show v = Value.ref a from rx)
  obtain ⟨f, fd, hs, hf, F, b⟩ := c.eq
  obtain ⟨mA, O, _⟩ := ins_get I.hok ha
  obtain ⟨od, J, _⟩ := O.look
  obtain ⟨m, hF⟩ := I.fr
  obtain ⟨Pk, Z, p, _⟩ := kit_of I ry ty
  have hr1 : Room (ke + 1) X.A := hr.mono hk
  refine PySem.W.r2_ne (tb := t) (by have := hr1.units; omega) hF I.ok.mod.kin J (Z.ty _ _ I.kIn p) hn c.ne (J.type.andThen (PySem.W.looks_mroIn I.kIn c.hm)) hs hf ?_
  have b2 := b s [.ref a, u] I.kIn rfl
  refine wpAny_call (codeAny_mono (F.run X.A.in1 X.stack s H ⟨[.ref a, u], []⟩ [.ref a, u] [.ref a, y] (fun v H' => ∃ c : Bool, v = .bl c ∧ Q (.bl (!c)) H') E0 hr1.in1 I.env0.in1 b2 (.cons rfl (.cons ry .nil)) q) fun r s' hq => ?_)
  cases r with
  | error e => exact False.elim hq
  | ok fl =>
    cases fl with
    | ret w =>
      obtain ⟨z', H', I', rz, c, ec, qz⟩ := I.after hq
      subst ec
      cases (show w = Value.bool c from rz)
      exact ⟨c, rfl, .bl (!c), H', I', rfl, qz⟩
    | next => exact False.elim hq
    | brk => exact False.elim hq
    | cont => exact False.elim hq
/-- len of an object of the class -/
theorem call_lenW (c : We X.prog X.w X.K X.mg X.base ke kl C spE spL) (hr : Room j X.A) (hk : kl + 1 ≤ j) :
    CallR X (.builtin "len") (fun xs H Q => ∃ a dx fs, xs = [.ref a] ∧ H a = some (.ins C dx fs) ∧ spL [.ref a] H (fun v H' => ∃ n : Int, v = .int n ∧ 0 ≤ n ∧ n < 2 ^ 63 ∧ Q (.int n) H') E0) := by
  intro pins s σ H xs us Q I r h
  obtain ⟨a, dx, fs, rfl, ha, q⟩ := h
  obtain ⟨u, rfl, ru⟩ := vals1 r
  cases (show u = Value.ref a from ru)
  obtain ⟨f, fd, hs, hf, F, b⟩ := c.len
  obtain ⟨mA, O, _⟩ := ins_get I.hok ha
  obtain ⟨od, J, _⟩ := O.look
  obtain ⟨m, hF⟩ := I.fr
  have hr1 : Room (kl + 1) X.A := hr.mono hk
  have b2 := b s [.ref a] I.kIn rfl
  refine PySem.W.len_K hF I.ok.mod.kin J hs hf ?_
  refine wpAny_call (codeAny_mono (F.run X.A.in1 X.stack s H ⟨[.ref a], []⟩ [.ref a] [.ref a] (fun v H' => ∃ n : Int, v = .int n ∧ 0 ≤ n ∧ n < 2 ^ 63 ∧ Q (.int n) H') E0 hr1.in1 I.env0.in1 b2 (.cons rfl .nil) q) fun r s' hq => ?_)
  cases r with
  | error e => exact False.elim hq
  | ok fl =>
    cases fl with
    | ret w =>
      obtain ⟨z', H', I', rz, n, ec, n0, n1, qz⟩ := I.after hq
      subst ec
      obtain ⟨t, et⟩ := (show ∃ t, w = Value.int n t from rz)
      cases et
      exact ⟨⟨n0, n1⟩, .int n, H', I'.tok _, ⟨_, rfl⟩, qz⟩
    | next => exact False.elim hq
    | brk => exact False.elim hq
    | cont => exact False.elim hq
end
end W2

namespace W2
open PySem PySem.Spec PyProof.Rows L2 Pg Pf Rul Tab
theorem eqv_ints : ∀ ns ms : List Int, PyData.eqvAll (ns.map PyData.int) (ms.map PyData.int) = decide (ns = ms)
  | [], [] => rfl
  | [], m :: ms => rfl
  | n :: ns, [] => rfl
  | n :: ns, m :: ms => by
    show ((n == m) && PyData.eqvAll (ns.map PyData.int) (ms.map PyData.int)) = _
    rw [eqv_ints ns ms, Bool.eq_iff_iff]
    simp
theorem eqv_map {α : Type} [DecidableEq α] (f : α → PyData) (h : ∀ x y, PyData.eqv (f x) (f y) = decide (x = y)) : ∀ xs ys : List α, PyData.eqvAll (xs.map f) (ys.map f) = decide (xs = ys)
  | [], [] => rfl
  | [], y :: ys => rfl
  | x :: xs, [] => rfl
  | x :: xs, y :: ys => by
    show (PyData.eqv (f x) (f y) && PyData.eqvAll (xs.map f) (ys.map f)) = _
    rw [h, eqv_map f h xs ys, Bool.eq_iff_iff]
    simp
theorem eqv_cell (a b : List Int) : PyData.eqv (cellD a) (cellD b) = decide (a = b) := eqv_ints a b
theorem eqv_rowT (a b : List (List Int)) : PyData.eqv (rowT a) (rowT b) = decide (a = b) := eqv_map cellD eqv_cell a b
theorem eqv_tabT (a b : List (List (List Int))) : PyData.eqv (tabT a) (tabT b) = decide (a = b) := eqv_map rowT eqv_rowT a b
abbrev s_eq : Stmt := inClass (top 13) 10
abbrev N_eq : List Str := ["self", "other"]
theorem sc_eq : FnScope N_eq ["self", "other"] (defScope s_eq) := ⟨rfl, rfl, rfl, by decide +kernel, rfl, by decide +kernel, by decide +kernel⟩
abbrev s_len : Stmt := inClass (top 13) 9
abbrev N_len : List Str := ["self"]
theorem sc_len : FnScope N_len ["self"] (defScope s_len) := ⟨rfl, rfl, rfl, by decide +kernel, rfl, by decide +kernel, by decide +kernel⟩
/-- the own == -/
def spEqW (K : PySem.W.Frag) (C : Addr) : Sp := fun vs H Q _ => ∃ (G : Hp) (a : Addr) (y : V) (r l k : Nat) (c : Nat → Nat → List Int), vs = [.ref a, y] ∧ Same G H ∧ WayAt K C G a r l k c ∧
  ((∃ (b : Addr) (r' l' k' : Nat) (c' : Nat → Nat → List Int), y = .ref b ∧ WayAt K C G b r' l' k' c' ∧ Q (.bl (decide (k = k') && decide (tabF r l c = tabF r' l' c'))) H) ∨
   (∃ t, TyX K H y t ∧ PySem.W.kitOne K t (.ref C) = some false ∧ Q (.bl false) H))
def spLenW (K : PySem.W.Frag) (C : Addr) : Sp := fun vs H Q _ => ∃ (G : Hp) (a : Addr) (r l k : Nat) (c : Nat → Nat → List Int), vs = [.ref a] ∧ Same G H ∧ WayAt K C G a r l k c ∧ ∀ H', Same H H' → Q (.int ((r * l : Nat) : Int)) H'
section
variable {P : Program} {w : World} {K : PySem.W.Frag} {mg : Str → Option Value} {base : Heap} {f C : Addr} {fd : FuncData}
theorem kit_self : PySem.W.kitOne K (.ref C) (.ref C) = some true := by
  unfold PySem.W.kitOne
  rw [if_pos (by simp)]
theorem ok_eqW (Bw' : Bw mg) (T : Wt K mg C) (hA : PySem.W.findIn K (.ref C) "__class__" = some (some (.builtin "object.__class__"))) (hN : PySem.W.specialIn K (.builtin "object.__class__") "__get__" = some (some (.builtin "getset_descriptor.__get__")))
    (hT : PySem.W.takesIn K (.builtin "object.__class__") = some true) (hM : PySem.W.mroIn K C (.type "object") = some true) (F : Fun K "__eq__" "Way.__eq__" s_eq f fd) : FnOk P w K mg base CX0 2 f fd ["self", "other"] (spEqW K C) := by
  refine F.ok sc_eq (fun vs H Q E h => ?_) (fun cdv A outer s H vs Q E hr h => ?_)
  · obtain ⟨G, a, y, r, l, k, c, rfl, _⟩ := h
    rfl
  · obtain ⟨G, a, y, r, l, k, c, rfl, sG, W, q⟩ := h
    refine ⟨_, (pss_one (ps_ret (pe_and (pe_callB call_isi (by rfl) Bw'.isinstance (by decide +kernel) (pa_cons (pv 1) (pa_cons (pe_glob (v := .ref C) (by rfl) T.mgC rfl) pa_nil))) (pe_and (pe_cmpR op_eq (pe_fld (pv 0) rfl) (pe_fld (pv 1) rfl) (nomark _)) (pe_one (pe_cmpR (op_eqD hr.units) (pe_fld (pv 0) rfl) (pe_fld (pv 1) rfl) (nomark _))))))), ?_⟩
    obtain ⟨dx, t0, ha, hd⟩ := W.ob
    rcases q with ⟨b, r', l', k', c', rfl, W', q⟩ | ⟨t, ty, ho, q⟩
    · obtain ⟨dx', t0', hb, hd'⟩ := W'.ob
      refine ⟨_, rfl, _, .ref C, .ref C, .ref C, true, rfl, .own C, .base (.ins (sG _ _ hb) T.cl hA hN hT hM), kit_self, _, rfl, ?_⟩
      refine iteT ?_
      refine ⟨_, rfl, a, C, dx, _, _, rfl, sG _ _ ha, T.cl, T.nP, wf_k _ _ _ _, _, rfl, b, C, dx', _, _, rfl, sG _ _ hb, T.cl, T.nP, wf_k _ _ _ _, rfl, _, rfl, ?_⟩
      rw [dec_int]
      by_cases e : k = k'
      · rw [decide_eq_true e] at q ⊢
        refine iteT ?_
        have f1 := fine_tabT W.ok (by have := W.k2; omega) W.r2 W.l2
        have f2 := fine_tabT W'.ok (by have := W'.k2; omega) W'.r2 W'.l2
        refine ⟨_, rfl, a, C, dx, _, _, rfl, sG _ _ ha, T.cl, T.nT, wf_t _ _ _ _, _, rfl, b, C, dx', _, _, rfl, sG _ _ hb, T.cl, T.nT, wf_t _ _ _ _, _, _, Dp.mono sG _ _ hd, Dp.mono sG _ _ hd', f1.shaped (by decide), f2.shaped (by decide), ?_⟩
        rw [eqv_tabT]
        rw [Bool.true_and] at q
        exact q
      · rw [decide_eq_false e] at q ⊢
        refine iteF ?_
        exact q
    · refine ⟨_, rfl, _, .ref C, t, .ref C, false, rfl, .own C, ty, ho, _, rfl, ?_⟩
      refine iteF ?_
      exact q
theorem ok_lenW (B : Bt mg) (cP : CalO P w K mg base 4 "pairs_of" (spPairs K C)) (F : Fun K "__len__" "Way.__len__" s_len f fd) : FnOk P w K mg base CX0 5 f fd ["self"] (spLenW K C) := by
  refine F.ok sc_len (fun vs H Q E h => ?_) (fun cdv A outer s H vs Q E hr h => ?_)
  · obtain ⟨G, a, r, l, k, c, rfl, _⟩ := h
    rfl
  · obtain ⟨G, a, r, l, k, c, rfl, sG, W, q⟩ := h
    refine ⟨_, (pss_one (ps_ret (pe_callB call_len_seq (by rfl) B.len PySem.boot_len (pa_cons (pe_cO cP hr (by decide) rfl (pa_cons (pv 0) pa_nil)) pa_nil)))), ?_⟩
    refine ⟨_, rfl, G, a, r, l, k, c, rfl, sG, W, fun p G' H' f' d' => ?_⟩
    obtain ⟨vp, hL, hP⟩ : ∃ vp, SqL K G' p vp ∧ DpAll K G' vp ((pairsL r l).map pairD) := by
      cases d' with
      | lst a b => exact ⟨_, a, b⟩
    refine ⟨p, vp, rfl, .inl (Same.seq f'.s hL), ?_⟩
    rw [DpAll.len hP, List.length_map, pairs_len]
    exact q H' f'.h
/-- allowed, called with both names, left first -/
structure Alk (P : Program) (w : World) (K : PySem.W.Frag) (mg : Str → Option Value) (base : Heap) (k : Nat) (C : Addr) (sp : Sp) : Prop where
  ex : ∃ (f : Addr) (fd : FuncData), Cls K C ∧ Meth K C "allowed" f ∧ FnOk P w K mg base CX0 k f fd ["self", "right", "left"] sp ∧ ∀ (s : Shared) (u w1 w2 : Value), BindsTo s fd ⟨[u], [("left", w1), ("right", w2)]⟩ [("self", u), ("right", w2), ("left", w1)]
theorem alk_of {sp : Sp} (cl : Cls K C) (me : Meth K C "allowed" f) (F : Fun K "allowed" "Way.allowed" s_allowed f fd) (O : FnOk P w K mg base CX0 4 f fd ["self", "right", "left"] sp) : Alk P w K mg base 4 C sp := by
  refine ⟨f, fd, cl, me, O, fun s u w1 w2 => ?_⟩
  obtain ⟨oc, od, kV, doc, pm, an, cdv, ct, osl, rfl, lk, hcd⟩ := F.ex
  exact .of_eq rfl
end
def tAlk (C : Addr) (sp : Sp) (ta t1 t2 : TE) : TE := fun σ H Q => ta σ H fun x H1 => ∃ a dx fs, x = .ref a ∧ H1 a = some (.ins C dx fs) ∧ fs.lookup ("allowed" : Str) = none ∧
  tCons t1 (tCons t2 tNil) σ H1 fun zs H3 => ∃ y1 y2, zs = [y1, y2] ∧ sp [.ref a, y2, y1] H3 Q E0
section
variable {X : Cx} {k j : Nat} {C : Addr} {sp : Sp} {pos apos q2 q3 : Pos} {o e2 e3 : Expr} {ta t2 t3 : TE}
theorem pe_allowedK {pl : Sem Bool} (c : Alk X.prog X.w X.K X.mg X.base k C sp) (hr : Room j X.A) (hk : k ≤ j) (he : PE X o ta) (h2 : PE X e2 t2) (h3 : PE X e3 t3)
    (hpl : ((backTo pos (starEach [] X.env)).any (·.1) || (backToKw pos (keywordEach [⟨some "left", e2, q2⟩, ⟨some "right", e3, q3⟩] X.env)).any (·.1.isNone)) = false := by rfl)
    (hall : (backToKw pos (keywordEach [⟨some "left", e2, q2⟩, ⟨some "right", e3, q3⟩] X.env)).all (·.1.isSome) = true := by rfl)
    (ht : eval (.Call (.Attribute o "allowed" apos) [] [⟨some "left", e2, q2⟩, ⟨some "right", e3, q3⟩] pos) X.env = (do
      let ov ← eval o X.env
      standAt apos.atName
      let (f, first) ← holding [ov] (getMethod ov "allowed" pl)
      callWith pos f first (backTo pos (starEach [] X.env)) (backToKw pos (keywordEach [⟨some "left", e2, q2⟩, ⟨some "right", e3, q3⟩] X.env))) := by rfl) :
    PE X (.Call (.Attribute o "allowed" apos) [] [⟨some "left", e2, q2⟩, ⟨some "right", e3, q3⟩] pos) (tAlk C sp ta t2 t3) := by
  obtain ⟨f, fd, cl, me, F, hb⟩ := c.ex
  refine ⟨fun pins s σ H Q I h => ?_⟩
  refine PySem.W.methodCall_KW (pl := pl) (thn (he.run pins s σ H _ I h) fun u s1 ⟨x, H1, I1, rx, a, dx, fs, ex, ea, l, q⟩ => ?_) ht
  subst ex
  obtain rfl : u = Value.ref a := rx
  refine getmeth_ok I1 ea cl me l ?_
  refine PySem.W.callWith_KW0 (first := [.ref a]) (h₀ := X.base) I1.ok.mod.kin me.kp hall ?_ hpl
  refine thn ((pk_cons h2 (pk_cons h3 pk_nil)).run pos pins s1 σ H1 _ I1 q) fun ws s3 ⟨zs, H3, I3, rz, y1, y2, ez, q3⟩ => ⟨I3.kIn, ?_⟩
  subst ez
  obtain ⟨w1, w2, rfl, r1, r2⟩ := vals2 rz
  show wpAny (model X.prog X.w) X.A (call (.ref f) [.ref a] [("left", w1), ("right", w2)]) (EP X pins σ Q) X.xe s3
  refine wpAny_call (codeAny_mono (F.run X.A X.stack s3 H3 ⟨[.ref a], [("left", w1), ("right", w2)]⟩ [.ref a, w2, w1] [.ref a, y2, y1] Q E0 (hr.mono hk) I3.env0 (hb s3 _ _ _) (.cons rfl (.cons r2 (.cons r1 .nil))) q3) fun r s' hq => ?_)
  cases r with
  | error e => exact False.elim hq
  | ok fl =>
    cases fl with
    | ret u => exact I3.after hq
    | next => exact False.elim hq
    | brk => exact False.elim hq
    | cont => exact False.elim hq
end
end W2

set_option maxHeartbeats 1000000
/-! PpD: drawn numbers. -/
namespace W2
open PySem PySem.Spec PyProof.Rows L2 Pg Pf Pp
def F_draw (ds : List D) (s : S) : R D := match ds, s with
  | [.adr a, .int t], some k => if a = k.m ∧ 1 ≤ t ∧ t ≤ 1000 ∧ k.b ≤ 1000000 then .dr t fun i => .ok (.int i) (some ⟨k.m, k.c, k.q, k.b + 1⟩) else .un
  | _, _ => .un
theorem ne_tab {o : HO} {H : Hp} {p q : Addr} {u : HO} (h : H p = some o) (k : H q = some u) (d : o ≠ u) : p ≠ q := ne_of h k d
theorem c_draw {K : PySem.W.Frag} {Z : Zn} {E : XK} {ua : TA} {fa : Slots → S → R (List D)} (ha : CmpA K Z E ua fa) : Cmp K Z E (tCallG spDraw ua) (bC F_draw fa) := fun V H σ ρ s Q w p a =>
  ha V H σ ρ s _ w p (Ans.bind a fun ds s1 vs V1 H1 n1 w1 r1 a1 => by
    match ds, s1, r1, w1, a1, n1 with
    | [.adr m, .int t], some k, .cons (.adr _) (.cons (.int _) .nil), w1, a1, n1 =>
      replace a1 : Ans K Z E (Dv K Z) (if m = k.m ∧ 1 ≤ t ∧ t ≤ 1000 ∧ k.b ≤ 1000000 then .dr t fun i => .ok (.int i) (some ⟨k.m, k.c, k.q, k.b + 1⟩) else .un) (some k) V1 H1 Q := a1
      by_cases e : m = k.m ∧ 1 ≤ t ∧ t ≤ 1000 ∧ k.b ≤ 1000000
      · rw [if_pos e] at a1
        obtain ⟨e1, t1, t2, eb⟩ := e
        obtain ⟨⟨n, hm, n0, nb⟩, ⟨cs, hc, cl⟩, ⟨gs, hq, gl⟩, vm, vc, vq, cq⟩ := w1.mr
        have M : MAt V1 H1 k.m k.c k.q k.b := ⟨w1.sv, vm, vc, vq, ⟨n, hm, n0, nb⟩, ⟨cs, hc, cl⟩, ⟨gs, hq, gl⟩, cq⟩
        refine ⟨V1, k.m, k.c, k.q, k.b, t, by rw [e1], M, by omega, t1, t2, fun i H' i0 i1 f M' => a1 i i0 i1 (.int i) V1 H' ?_ ?_ (.int i)⟩
        · have st : ∀ p o, H1 p = some o → (∀ ps, o ≠ .tbl ps) → ¬ inS (some k) p → H' p = some o := fun p o e _ i => f.h p o e (fun z => i (.inl z)) (fun z => i (.inr (.inr z)))
          refine ⟨rfl, Same.refl _, st, fun p e => .inl e, fun p e => ?_⟩
          rcases e with e | ⟨ps, e⟩
          · exact .inl (f.k p e)
          · cases z : H1 p with
            | none => exact .inl z
            | some o =>
              obtain ⟨n', hm', _⟩ := M'.ob
              obtain ⟨gs', hq', _⟩ := M'.gs
              have zz := f.h p o z (ne_of e hm' (by intro z; cases z)) (ne_of e hq' (by intro z; cases z))
              rw [e] at zz
              exact .inr ⟨ps, z.trans zz.symm⟩
        · obtain ⟨n', hm', n0', nb'⟩ := M'.ob
          refine ⟨M'.s, w1.nt, fun p hp => ?_, ⟨n', hm', n0', by show n' ≤ ((k.b + 1 : Nat) : Int); have : n' ≤ ((k.b + 1 : Nat) : Int) := nb'; exact this⟩, M'.cs, M'.gs, vm, vc, vq, cq⟩
          obtain ⟨ps, h1, h2, h3⟩ := w1.tb p hp
          refine ⟨ps, f.h _ _ h1 (ne_of h1 hm (by intro z; cases z)) (ne_of h1 hq (by intro z; cases z)), h2, fun pos cv hcv => ?_⟩
          obtain ⟨c, g1, g2⟩ := h3 pos cv hcv
          exact ⟨c, g1, f.h _ _ g2 (ne_of g2 hm (by intro z; cases z)) (ne_of g2 hq (by intro z; cases z))⟩
      · rw [if_neg e] at a1
        exact a1.elim
    | [.adr m, .int t], none, _, _, a1, _ => exact a1.elim
    | [], _, _, _, a1, _ => exact a1.elim
    | [.adr _], _, _, _, a1, _ => exact a1.elim
    | .adr _ :: .non :: _, _, _, _, a1, _ | .adr _ :: .bl _ :: _, _, _, _, a1, _ | .adr _ :: .str _ :: _, _, _, _, a1, _ | .adr _ :: .tup _ :: _, _, _, _, a1, _ | .adr _ :: .lst _ :: _, _, _, _, a1, _ | .adr _ :: .obj _ _ :: _, _, _, _, a1, _ | .adr _ :: .adr _ :: _, _, _, _, a1, _ | .adr _ :: .emp :: _, _, _, _, a1, _ | .adr _ :: .rls _ :: _, _, _, _, a1, _ => exact a1.elim
    | .adr _ :: .int _ :: _ :: _, _, _, _, a1, _ => exact a1.elim
    | .non :: _, _, _, _, a1, _ | .bl _ :: _, _, _, _, a1, _ | .int _ :: _, _, _, _, a1, _ | .str _ :: _, _, _, _, a1, _ | .tup _ :: _, _, _, _, a1, _ | .lst _ :: _, _, _, _, a1, _ | .obj _ _ :: _, _, _, _, a1, _ | .emp :: _, _, _, _, a1, _ | .rls _ :: _, _, _, _, a1, _ => exact a1.elim)
end W2

/-! PwA: ways and nets as data; promises about ways as functions on data. -/
namespace W2
open PySem PySem.Spec PyProof.Rows L2 Pg Pf LamX Pp Tab Rul
mutual
theorem Dp.ext {K : PySem.W.Frag} {G G' : Hp} (e : ExtN G G') : ∀ (d : PyData) (v : L2.V), Dp K G v d → Dp K G' v d
  | .none, _, h => by cases h; exact .non
  | .bool _, _, h => by cases h; exact .bl _
  | .int _, _, h => by cases h; exact .int _
  | .str _, _, h => by cases h; exact .str _
  | .list ds, _, h => by
    cases h with
    | lst a b =>
      refine .lst ?_ (DpAll.ext e ds _ b)
      rcases a with (a | ⟨o, a⟩) | a
      · exact .inl (.inl (e _ _ a fun _ z => by cases z))
      · exact .inl (.inr ⟨o, e _ _ a fun _ z => by cases z⟩)
      · exact .inr a
  | .tuple ds, _, h => by
    cases h with
    | tup a b =>
      refine .tup ?_ (DpAll.ext e ds _ b)
      rcases a with (a | ⟨o, a⟩) | a
      · exact .inl (.inl (e _ _ a fun _ z => by cases z))
      · exact .inl (.inr ⟨o, e _ _ a fun _ z => by cases z⟩)
      · exact .inr a
  | .dict _, _, h => by cases h
theorem DpAll.ext {K : PySem.W.Frag} {G G' : Hp} (e : ExtN G G') : ∀ (ds : List PyData) (vs : List L2.V), DpAll K G vs ds → DpAll K G' vs ds
  | [], _, h => by cases h; exact .nil
  | d :: ds, _, h => by
    cases h with
    | cons a b => exact .cons (Dp.ext e d _ a) (DpAll.ext e ds _ b)
end
mutual
/-- as data that is only read -/
def ofPy : PyData → D
  | .none => .non
  | .bool b => .bl b
  | .int i => .int i
  | .str x => .str x
  | .tuple ds => .tup (ofPyA ds)
  | .list ds => .rls (ofPyA ds)
  | .dict _ => .non
def ofPyA : List PyData → List D
  | [] => []
  | d :: ds => ofPy d :: ofPyA ds
end
section
variable {K : PySem.W.Frag} {Z : Zn} {G : Hp}
mutual
theorem dv_py : ∀ (d : PyData) (v : L2.V), Dp K G v d → Dv K Z G v (ofPy d)
  | .none, _, h => by cases h; exact .non
  | .bool _, _, h => by cases h; exact .bl _
  | .int _, _, h => by cases h; exact .int _
  | .str _, _, h => by cases h; exact .str _
  | .list ds, _, h => by
    cases h with
    | lst a b => exact .rls a (dv_pyA ds _ b)
  | .tuple ds, _, h => by
    cases h with
    | tup a b => exact .tup a (dv_pyA ds _ b)
  | .dict _, _, h => by cases h
theorem dv_pyA : ∀ (ds : List PyData) (vs : List L2.V), DpAll K G vs ds → DvA K Z G vs (ofPyA ds)
  | [], _, h => by cases h; exact .nil
  | d :: ds, _, h => by
    cases h with
    | cons a b => exact .cons (dv_py d _ a) (dv_pyA ds _ b)
end
mutual
/-- no dict -/
def noD : PyData → Bool
  | .tuple ds => noDA ds
  | .list ds => noDA ds
  | .dict _ => false
  | _ => true
def noDA : List PyData → Bool
  | [] => true
  | d :: ds => noD d && noDA ds
end
mutual
theorem dp_py : ∀ (d : PyData) (v : L2.V), Dv K Z G v (ofPy d) → noD d = true → Dp K G v d
  | .none, _, h, _ => by cases h; exact .non
  | .bool _, _, h, _ => by cases h; exact .bl _
  | .int _, _, h, _ => by cases h; exact .int _
  | .str _, _, h, _ => by cases h; exact .str _
  | .list ds, _, h, e => by
    cases h with
    | rls a b => exact .lst a (dp_pyA ds _ b e)
  | .tuple ds, _, h, e => by
    cases h with
    | tup a b => exact .tup a (dp_pyA ds _ b e)
  | .dict _, _, _, e => by cases e
theorem dp_pyA : ∀ (ds : List PyData) (vs : List L2.V), DvA K Z G vs (ofPyA ds) → noDA ds = true → DpAll K G vs ds
  | [], _, h, _ => by cases h; exact .nil
  | d :: ds, _, h, e => by
    cases h with
    | cons a b =>
      have e := Bool.and_eq_true_iff.mp e
      exact .cons (dp_py d _ a e.1) (dp_pyA ds _ b e.2)
end
end
theorem noD_ints : ∀ ns : List Int, noDA (ns.map PyData.int) = true
  | [] => rfl
  | n :: ns => noD_ints ns
theorem noD_row : ∀ r : List (List Int), noDA (r.map cellD) = true
  | [] => rfl
  | c :: r => by
    show (noDA (c.map PyData.int) && noDA (r.map cellD)) = true
    rw [noD_ints, noD_row r]
    rfl
theorem noD_tabT : ∀ t : List (List (List Int)), noDA (t.map rowT) = true
  | [] => rfl
  | r :: t => by
    show (noDA (r.map cellD) && noDA (t.map rowT)) = true
    rw [noD_row, noD_tabT t]
    rfl
theorem noD_tabL : ∀ t : List (List (List Int)), noDA (t.map rowL) = true
  | [] => rfl
  | r :: t => by
    show (noDA (r.map cellD) && noDA (t.map rowL)) = true
    rw [noD_row, noD_tabL t]
    rfl
abbrev Cf := Nat → Nat → List Int
def tabDD (r l : Nat) (c : Cf) : D := ofPy (tabT (tabF r l c))
/-- a way as data -/
def wayD (r l k : Nat) (c : Cf) : D := .obj 0 [.int (r : Nat), .int (l : Nat), .int (k : Nat), tabDD r l c]
/-- a net as data -/
def netDD (e w k : Nat) (c : Cf) : D := ofPy (netF e w k c)
structure OkW (r l k : Nat) (c : Cf) : Prop where
  r1 : 1 ≤ r
  r2 : r ≤ 6
  l1 : 1 ≤ l
  l2 : l ≤ 6
  k1 : 1 ≤ k
  k2 : k ≤ 12
  ok : ∀ i j, i < r → j < l → Cell (k : Int) (c i j)
section
variable {K : PySem.W.Frag} {Z : Zn} {G : Hp} {a : Addr} {r l k : Nat} {c : Cf}
theorem WayAt.okW {C : Addr} (W : WayAt K C G a r l k c) : OkW r l k c := ⟨W.r1, W.r2, W.l1, W.l2, W.k1, W.k2, W.ok⟩
theorem wf_fst (r l k t : L2.V) : (wf r l k t).map Prod.fst = nm 0 := by rw [wf_eq]; rfl
theorem wf_snd (r l k t : L2.V) : (wf r l k t).map Prod.snd = [r, l, k, t] := by rw [wf_eq]; rfl
theorem WayAt.dv {C : Addr} (hC : Z.cl 0 = C) (W : WayAt K C G a r l k c) : Dv K Z G (.ref a) (wayD r l k c) := by
  subst hC
  obtain ⟨dx, t, h, d⟩ := W.ob
  refine .obj h (wf_fst _ _ _ _) ?_
  rw [wf_snd]
  exact .cons (.int _) (.cons (.int _) (.cons (.int _) (.cons (dv_py _ _ d) .nil)))
theorem way_at {C : Addr} {v : L2.V} (hC : Z.cl 0 = C) (h : Dv K Z G v (wayD r l k c)) (o : OkW r l k c) : ∃ a, v = .ref a ∧ WayAt K C G a r l k c := by
  subst hC
  unfold wayD at h
  cases h with
  | @obj a _ dx fs _ h hn hs =>
    refine ⟨a, rfl, ⟨?_, o.r1, o.r2, o.l1, o.l2, o.k1, o.k2, o.ok⟩⟩
    match fs, hn, hs with
    | [(n1, _), (n2, _), (n3, _), (n4, v4)], hn, .cons (.int _) (.cons (.int _) (.cons (.int _) (.cons h4 .nil))) =>
      have hn' : [n1, n2, n3, n4] = (["_rights", "_lefts", "_places", "_table"] : List Str) := hn
      injection hn' with e1 hn'
      injection hn' with e2 hn'
      injection hn' with e3 hn'
      injection hn' with e4 _
      subst e1 e2 e3 e4
      have d4 : Dp K G v4 (tabT (tabF r l c)) := dp_py _ _ h4 (noD_tabT _)
      have hv : ∃ t, v4 = .ref t := by
        cases d4 with
        | tup a b => exact ⟨_, rfl⟩
      obtain ⟨t, rfl⟩ := hv
      exact ⟨dx, t, by rw [wf_eq]; exact h, d4⟩
end
section
variable {T : List (Addr × Str)} {s : S} {V H G' H' : Hp}
/-- a promise that knows more for good (G'), told without tables -/
theorem fut_wd (w : Wd T V H s) (f : Fut V H G' H') : ∃ V', Nx s s V H V' H' ∧ Wd T V' H' s ∧ ExtN G' V' := by
  refine ⟨fun p => match G' p with | some (.tbl _) => none | o => o, ?_⟩
  have g2 : ∀ p o, (match G' p with | some (.tbl _) => none | o => o) = some o → G' p = some o ∧ ∀ ps, o ≠ .tbl ps := fun p o z => by
    split at z
    · cases z
    · rename_i n
      exact ⟨z, fun ps y => n ps (y ▸ z)⟩
  have g3 : ExtN G' (fun p => match G' p with | some (.tbl _) => none | o => o) := fun p o z n => by
    show (match G' p with | some (.tbl _) => none | o => o) = some o
    rw [z]
    cases o <;> first | rfl | exact absurd rfl (n _)
  have some2 : ∀ p, (match G' p with | some (.tbl _) => none | o => o) ≠ none → G' p ≠ none := fun p y z => by
    rw [z] at y
    exact y rfl
  refine ⟨⟨rfl, fun p o z => g3 p o (f.g p o z) fun ps y => w.nt p ps (y ▸ z), fun p o z _ _ => f.h p o z, fun p z => (f.n p (some2 p z)).elim .inl fun y => .inr (.inl y), fun p z => ?_⟩, ⟨fun p o z => f.s p o (g2 p o z).1, fun p ps z => (g2 p _ z).2 ps rfl, w.tb.ext f.h, ?_⟩, g3⟩
  · cases q : H p with
    | none => exact .inl q
    | some o =>
      by_cases n : ∃ ps, o = .tbl ps
      · obtain ⟨ps, rfl⟩ := n
        exact .inr ⟨ps, q⟩
      · exact absurd rfl (fre_ne (f.h p o q) (fun ps y => n ⟨ps, y⟩) z)
  · cases s with
    | none => exact trivial
    | some k0 =>
      obtain ⟨⟨n, c1, d1⟩, ⟨cs, c2, d2⟩, ⟨gs, c3, d3⟩, v1, v2, v3, c7⟩ := w.mr
      have no : ∀ p o, H p = some o → V p = none → (match G' p with | some (.tbl _) => none | o => o) = none := fun p o z v => by
        cases q : (match G' p with | some (.tbl _) => none | o => o) with
        | none => rfl
        | some u =>
          rcases f.n p (by rw [(g2 p u q).1]; simp) with y | y
          · exact absurd v y
          · rw [z] at y
            cases y
      exact ⟨⟨n, f.h _ _ c1, d1⟩, ⟨cs, f.h _ _ c2, d2⟩, ⟨gs, f.h _ _ c3, d3⟩, no _ _ c1 v1, no _ _ c2 v2, no _ _ c3 v3, c7⟩
end
theorem WayAt.ext {K : PySem.W.Frag} {C : Addr} {G G' : Hp} {a : Addr} {r l k : Nat} {c : Cf} (W : WayAt K C G a r l k c) (e : ExtN G G') : WayAt K C G' a r l k c :=
  ⟨let ⟨dx, t, h, d⟩ := W.ob; ⟨dx, t, e _ _ h (fun _ z => by cases z), Dp.ext e _ _ d⟩, W.r1, W.r2, W.l1, W.l2, W.k1, W.k2, W.ok⟩
/-! ### functions that are told by their values -/
open Classical in
/-- the answer where there is one -/
noncomputable def tell (P : List D → S → R D → Prop) (ds : List D) (s : S) : R D := if h : ∃ r, P ds s r then Classical.choose h else .un
theorem tell_of {P : List D → S → R D → Prop} {ds : List D} {s : S} {r : R D} (h : P ds s r) (u : ∀ r', P ds s r' → r' = r) : tell P ds s = r := by
  have e : ∃ r, P ds s r := ⟨r, h⟩
  unfold tell
  rw [dif_pos e]
  exact u _ (Classical.choose_spec e)
theorem tell_un (P : List D → S → R D → Prop) (ds : List D) (s : S) : P ds s (tell P ds s) ∨ tell P ds s = .un := by
  by_cases e : ∃ r, P ds s r
  · unfold tell
    rw [dif_pos e]
    exact .inl (Classical.choose_spec e)
  · exact .inr (by unfold tell; rw [dif_neg e])
end W2

/-! PwB: the program's helpers as functions on data. -/
namespace W2
open PySem PySem.Spec PyProof.Rows L2 Pg Pf LamX Pp Tab Rul
section
variable {K : PySem.W.Frag} {Z : Zn}
theorem told {n : Nat} {P : List D → S → R D → Prop} {old : Sp} (h : ∀ V H s ds vs r Q E, Wd Z.T V H s → DvA K Z V vs ds → P ds s r → Ans K Z E (Dv K Z) r s V H Q → old vs H Q E) : ∀ vs H Q E, spD K Z n (tell P) vs H Q E → old vs H Q E := by
  rintro vs H Q E ⟨_, V, ds, s, w, r, a⟩
  rcases tell_un P ds s with e | e
  · exact h V H s ds vs _ Q E w r e a
  · rw [e] at a
    exact a.elim
theorem ofPyA_map {α : Type} (f : α → PyData) : ∀ xs : List α, ofPyA (xs.map f) = xs.map fun x => ofPy (f x)
  | [] => rfl
  | x :: xs => by
    show ofPy (f x) :: ofPyA (xs.map f) = _
    rw [ofPyA_map f xs]
    rfl
def intsD (ns : List Int) : List D := ns.map D.int
theorem dva_ints {G : Hp} : ∀ {vs : List L2.V} {ns : List Int}, DvA K Z G vs (intsD ns) → vs = ns.map L2.V.int
  | [], [], .nil => rfl
  | _, n :: ns, .cons a b => by
    cases a
    rw [dva_ints b]
    rfl
/-- check_walker -/
def P_chk (ds : List D) (s : S) (r : R D) : Prop := ∃ v n : Int, ds = [.int v, .int n] ∧ 0 ≤ v ∧ v < n ∧ r = .ok .non s
theorem chk_told : ∀ vs H Q E, spD K Z 2 (tell P_chk) vs H Q E → spChk vs H Q E := told fun V H s ds vs r Q E w hv p a => by
  obtain ⟨v, n, rfl, h1, h2, rfl⟩ := p
  match vs, hv with
  | [_, _], .cons (.int _) (.cons (.int _) .nil) => exact ⟨v, n, rfl, h1, h2, Ans.pure w .non a⟩
/-- pairs_of -/
def P_pairs (ds : List D) (s : S) (r : R D) : Prop := ∃ e l k c, ds = [wayD e l k c] ∧ OkW e l k c ∧ r = .ok (ofPy (.list ((pairsL e l).map pairD))) s
theorem pairs_told {C : Addr} (hC : Z.cl 0 = C) : ∀ vs H Q E, spD K Z 1 (tell P_pairs) vs H Q E → spPairs K C vs H Q E := told fun V H s ds vs r Q E w hv p a => by
  obtain ⟨e, l, k, c, rfl, o, rfl⟩ := p
  match vs, hv with
  | [_], .cons h1 .nil =>
    obtain ⟨b, rfl, W⟩ := way_at hC h1 o
    refine ⟨V, b, e, l, k, c, rfl, w.sv, W, fun p G' H' f d => ?_⟩
    obtain ⟨V', n, w', x⟩ := fut_wd w f
    exact a _ V' H' n w' (dv_py _ _ (Dp.ext x _ _ d))
/-- with_cell -/
def P_cell (ds : List D) (s : S) (r : R D) : Prop := ∃ (e l i j : Nat) (c : Cf) (v : List Int), ds = [tabDD e l c, .int (i : Nat), .int (j : Nat), .tup (intsD v)] ∧ i < e ∧ j < l ∧ e ≤ 6 ∧ l ≤ 6 ∧ r = .ok (tabDD e l (put2 c i j v)) s
theorem cell_told : ∀ vs H Q E, spD K Z 4 (tell P_cell) vs H Q E → spCell K vs H Q E := told fun V H s ds vs r Q E w hv p a => by
  obtain ⟨e, l, i, j, c, v, rfl, hi, hj, he, hl, rfl⟩ := p
  match vs, hv with
  | [v1, _, _, _], .cons h1 (.cons (.int _) (.cons (.int _) (.cons (.tup (a := x) hx hs) .nil))) =>
    have d1 : Dp K V v1 (tabT (tabF e l c)) := dp_py _ _ h1 (noD_tabT _)
    have hv1 : ∃ t, v1 = .ref t := by
      cases d1 with
      | tup a b => exact ⟨_, rfl⟩
    obtain ⟨t, rfl⟩ := hv1
    have d4 : Dp K V (.ref x) (cellD v) := by
      have := dva_ints hs
      subst this
      exact .tup hx (DpAll.ints v)
    refine ⟨V, t, x, e, l, i, j, c, v, rfl, w.sv, d1, hi, hj, he, hl, d4, fun p G' H' f d => ?_⟩
    obtain ⟨V', n, w', x'⟩ := fut_wd w f
    exact a _ V' H' n w' (dv_py _ _ (Dp.ext x' _ _ d))
/-- way_with -/
def P_with (ds : List D) (s : S) (r : R D) : Prop := ∃ (e l k : Nat) (c : Cf), ds = [.int (k : Nat), tabDD e l c] ∧ OkW e l k c ∧ r = .ok (wayD e l k c) s
theorem with_told {C : Addr} (hC : Z.cl 0 = C) : ∀ vs H Q E, spD K Z 2 (tell P_with) vs H Q E → spWith K C vs H Q E := told fun V H s ds vs r Q E w hv p a => by
  obtain ⟨e, l, k, c, rfl, o, rfl⟩ := p
  match vs, hv with
  | [_, v2], .cons (.int _) (.cons h2 .nil) =>
    have d2 : Dp K V v2 (tabT (tabF e l c)) := dp_py _ _ h2 (noD_tabT _)
    have hv2 : ∃ t, v2 = .ref t := by
      cases d2 with
      | tup a b => exact ⟨_, rfl⟩
    obtain ⟨t, rfl⟩ := hv2
    refine ⟨V, t, e, l, k, c, rfl, w.sv, d2, o.r1, o.r2, o.l1, o.l2, o.k1, o.k2, o.ok, fun b G' H' f W => ?_⟩
    obtain ⟨V', n, w', x'⟩ := fut_wd w f
    exact a _ V' H' n w' (WayAt.dv hC (W.ext x'))
/-- _checked_places -/
def P_places (ds : List D) (s : S) (r : R D) : Prop := ∃ (e l k : Nat) (c : Cf) (ns : List Int), ds = [wayD e l k c, .tup (intsD ns)] ∧ OkW e l k c ∧ ns.length ≤ 1000 ∧ (∀ x ∈ ns, 0 ≤ x ∧ x < (k : Int)) ∧ r = .ok (.tup (intsD ((rangeI k).filter fun x => decide (x ∈ ns)))) s
theorem places_told {C : Addr} (hC : Z.cl 0 = C) : ∀ vs H Q E, spD K Z 2 (tell P_places) vs H Q E → spChecked K C vs H Q E := told fun V H s ds vs r Q E w hv p a => by
  obtain ⟨e, l, k, c, ns, rfl, o, hl, hn, rfl⟩ := p
  match vs, hv with
  | [_, _], .cons h1 (.cons (.tup (a := t) hx hs) .nil) =>
    obtain ⟨b, rfl, W⟩ := way_at hC h1 o
    have := dva_ints hs
    subst this
    refine ⟨V, b, t, e, l, k, c, ns, rfl, w.sv, W, hx, hl, hn, fun p G' H' f d => ?_⟩
    obtain ⟨V', n, w', x'⟩ := fut_wd w f
    have d' : SqT K V' p (((rangeI k).filter fun x => decide (x ∈ ns)).map L2.V.int) := by
      rcases d with (d | ⟨o, d⟩) | d
      · exact .inl (.inl (x' _ _ d fun _ z => by cases z))
      · exact .inl (.inr ⟨o, x' _ _ d fun _ z => by cases z⟩)
      · exact .inr d
    exact a _ V' H' n w' (.tup d' (DvA.ints _))
/-- allowed -/
def P_allow (ds : List D) (s : S) (r : R D) : Prop := ∃ (e l k i j : Nat) (c : Cf), ds = [wayD e l k c, .int (i : Nat), .int (j : Nat)] ∧ OkW e l k c ∧ i < e ∧ j < l ∧ r = .ok (.tup (intsD (c i j))) s
theorem dv_cell {G : Hp} {v : L2.V} {ns : List Int} (h : Dp K G v (cellD ns)) : Dv K Z G v (.tup (intsD ns)) := by
  have h2 : Dv K Z G v (ofPy (cellD ns)) := dv_py _ _ h
  have e : ofPy (cellD ns) = .tup (intsD ns) := by
    show D.tup (ofPyA (ns.map PyData.int)) = _
    rw [ofPyA_map]
    rfl
  rw [← e]
  exact h2
theorem allow_told {C : Addr} (hC : Z.cl 0 = C) : ∀ vs H Q E, spD K Z 3 (tell P_allow) vs H Q E → spAllowed K C vs H Q E := told fun V H s ds vs r Q E w hv p a => by
  obtain ⟨e, l, k, i, j, c, rfl, o, hi, hj, rfl⟩ := p
  match vs, hv with
  | [_, _, _], .cons h1 (.cons (.int _) (.cons (.int _) .nil)) =>
    obtain ⟨b, rfl, W⟩ := way_at hC h1 o
    exact ⟨V, b, e, l, k, i, j, c, rfl, w.sv, W, hi, hj, fun x d => Ans.pure w (dv_cell d) a⟩
/-- _law_way -/
def P_lway (ds : List D) (s : S) (r : R D) : Prop := ∃ (e l k : Nat) (c : Cf), ds = [netDD e l k c] ∧ OkW e l k c ∧ r = .ok (wayD e l k c) s
theorem noD_net (e w k : Nat) (c : Cf) : noD (netF e w k c) = true := by
  show (true && (true && (true && (noDA ((tabF e w c).map rowL) && true)))) = true
  rw [noD_tabL]
  rfl
/-- a promise of a def that holds where nothing is being shown -/
theorem toldG {n : Nat} {P : List D → S → R D → Prop} {old : Sp} (h : ∀ V H s ds vs r Q E, Wd Z.T V H s → DvA K Z V vs ds → P ds s r → Ans K Z E0 (Dv K Z) r s V H Q → old vs H Q E) : ∀ vs H Q E, spG K Z n (tell P) vs H Q E → old vs H Q E := by
  rintro vs H Q E ⟨_, V, ds, s, w, r, a⟩
  rcases tell_un P ds s with e | e
  · exact h V H s ds vs _ Q E w r e a
  · rw [e] at a
    exact a.elim
theorem lway_told {C : Addr} (hC : Z.cl 0 = C) : ∀ vs H Q E, spG K Z 1 (tell P_lway) vs H Q E → spWay K C vs H Q E := toldG fun V H s ds vs r Q E w hv p a => by
  obtain ⟨e, l, k, c, rfl, o, rfl⟩ := p
  match vs, hv with
  | [v1], .cons h1 .nil =>
    have d1 : Dp K V v1 (netF e l k c) := dp_py _ _ h1 (noD_net _ _ _ _)
    have hv1 : ∃ t, v1 = .ref t := by
      cases d1 with
      | tup a b => exact ⟨_, rfl⟩
    obtain ⟨t, rfl⟩ := hv1
    refine ⟨V, t, e, l, k, c, rfl, w.sv, d1, o.r1, o.r2, o.l1, o.l2, o.k1, o.k2, o.ok, fun b G' H' f W => ?_⟩
    obtain ⟨V', n, w', x'⟩ := fut_wd w f
    exact a _ V' H' n w' (WayAt.dv hC (W.ext x'))
end
end W2

/-! PwC: the drawn net; repr. -/
namespace W2
open PySem PySem.Spec PyProof.Rows L2 Pg Pf LamX Pp Tab Rul
section
variable {T : List (Addr × Str)} {V H G' H' : Hp} {m c q : Addr} {b b' : Nat}
theorem wd_mat (w : Wd T V H (some ⟨m, c, q, b⟩)) : MAt V H m c q b := by
  obtain ⟨⟨n, a1, a2, a3⟩, a4, a5, a6, a7, a8, a9⟩ := w.mr
  exact ⟨w.sv, a6, a7, a8, ⟨n, a1, a2, a3⟩, a4, a5, a9⟩
/-- fut_wd where numbers have been drawn -/
theorem futM_wd (w : Wd T V H (some ⟨m, c, q, b⟩)) (f : FutM m q V H G' H') (M : MAt G' H' m c q b') : ∃ V', Nx (some ⟨m, c, q, b⟩) (some ⟨m, c, q, b'⟩) V H V' H' ∧ Wd T V' H' (some ⟨m, c, q, b'⟩) ∧ ExtN G' V' := by
  obtain ⟨n0, hm, _⟩ := (wd_mat w).ob
  obtain ⟨gs0, hq, _⟩ := (wd_mat w).gs
  refine ⟨fun p => match G' p with | some (.tbl _) => none | o => o, ?_⟩
  have g2 : ∀ p o, (match G' p with | some (.tbl _) => none | o => o) = some o → G' p = some o ∧ ∀ ps, o ≠ .tbl ps := fun p o z => by
    split at z
    · cases z
    · rename_i n
      exact ⟨z, fun ps y => n ps (y ▸ z)⟩
  have g3 : ExtN G' (fun p => match G' p with | some (.tbl _) => none | o => o) := fun p o z n => by
    show (match G' p with | some (.tbl _) => none | o => o) = some o
    rw [z]
    cases o <;> first | rfl | exact absurd rfl (n _)
  have some2 : ∀ p, (match G' p with | some (.tbl _) => none | o => o) ≠ none → G' p ≠ none := fun p y z => by
    rw [z] at y
    exact y rfl
  have none2 : ∀ p, G' p = none → (match G' p with | some (.tbl _) => none | o => o) = none := fun p z => by rw [z]
  refine ⟨⟨rfl, fun p o z => g3 p o (f.g p o z) fun ps y => w.nt p ps (y ▸ z), fun p o z _ i => f.h p o z (fun y => i (.inl y)) (fun y => i (.inr (.inr y))), fun p z => (f.n p (some2 p z)).elim .inl fun y => .inr (.inl y), fun p z => ?_⟩, ⟨fun p o z => f.s p o (g2 p o z).1, fun p ps z => (g2 p _ z).2 ps rfl, fun p hp => ?_, ?_⟩, g3⟩
  · rcases z with z | ⟨ps, z⟩
    · exact .inl (f.k p z)
    · cases y : H p with
      | none => exact .inl y
      | some o =>
        obtain ⟨n', hm', _⟩ := M.ob
        obtain ⟨gs', hq', _⟩ := M.gs
        have zz := f.h p o y (ne_of z hm' (by intro z; cases z)) (ne_of z hq' (by intro z; cases z))
        rw [z] at zz
        exact .inr ⟨ps, y.trans zz.symm⟩
  · obtain ⟨ps, h1, h2, h3⟩ := w.tb p hp
    refine ⟨ps, f.h _ _ h1 (ne_of h1 hm (by intro z; cases z)) (ne_of h1 hq (by intro z; cases z)), h2, fun pos cv hcv => ?_⟩
    obtain ⟨c, g1, g2⟩ := h3 pos cv hcv
    exact ⟨c, g1, f.h _ _ g2 (ne_of g2 hm (by intro z; cases z)) (ne_of g2 hq (by intro z; cases z))⟩
  · obtain ⟨n', hm', n0', nb'⟩ := M.ob
    exact ⟨⟨n', hm', n0', nb'⟩, M.cs, M.gs, none2 _ M.gm, none2 _ M.gc, none2 _ M.gq, M.cq⟩
end
section
variable {K : PySem.W.Frag} {Z : Zn}
def OkN (most many : Int) (e w k : Nat) (c : Cf) : Prop := OkW e w k c ∧ (e : Int) ≤ most ∧ (w : Int) ≤ most ∧ (k : Int) ≤ many
/-- _law_net -/
def P_net (ds : List D) (s : S) (r : R D) : Prop := ∃ (m c q : Addr) (b : Nat) (most many : Int), s = some ⟨m, c, q, b⟩ ∧ ds = [.adr m, .int most, .int many] ∧ b ≤ 800000000 ∧ 1 ≤ most ∧ most ≤ 6 ∧ 1 ≤ many ∧ many ≤ 12 ∧
  r = .an (fun d s' => s' = some ⟨m, c, q, b + 600⟩ ∧ ∃ e w k c, d = netDD e w k c ∧ OkN most many e w k c) (fun d s' => .ok d s')
/-- the rows of a table as a function -/
theorem tab_fun {e w : Nat} {R : List (List (List Int))} (h1 : R.length = e) (h2 : ∀ r ∈ R, r.length = w) : ∃ c : Cf, R = tabF e w c := by
  refine ⟨fun i j => ((R[i]?.getD [])[j]?).getD [], ?_⟩
  apply List.ext_getElem?
  intro i
  by_cases hi : i < e
  · rw [tabF_at hi]
    have hi' : i < R.length := by omega
    rw [List.getElem?_eq_getElem hi']
    congr 1
    apply List.ext_getElem?
    intro j
    have hr := h2 _ (List.getElem_mem hi')
    by_cases hj : j < w
    · rw [rowF_at hj]
      have hj' : j < R[i].length := by omega
      rw [List.getElem?_eq_getElem hj', Option.getD_some, List.getElem?_eq_getElem hj', Option.getD_some]
    · rw [List.getElem?_eq_none (by omega), List.getElem?_eq_none (by rw [List.length_map, List.length_range]; omega)]
  · rw [List.getElem?_eq_none (by omega), List.getElem?_eq_none (by rw [tabF_len]; omega)]
theorem net_okN {most many e w k : Int} {R : List (List (List Int))} (N : Net most many e w k R) (h2 : most ≤ 6) (h4 : many ≤ 12) : ∃ (e' w' k' : Nat) (c : Cf), netD e w k R = netF e' w' k' c ∧ OkN most many e' w' k' c := by
  obtain ⟨e', rfl⟩ : ∃ n : Nat, e = n := ⟨e.toNat, by have := N.e1; omega⟩
  obtain ⟨w', rfl⟩ : ∃ n : Nat, w = n := ⟨w.toNat, by have := N.w1; omega⟩
  obtain ⟨k', rfl⟩ : ∃ n : Nat, k = n := ⟨k.toNat, by have := N.k1; omega⟩
  obtain ⟨c, rfl⟩ := tab_fun (R := R) (e := e') (w := w') (by have := N.len; omega) (fun r hr => by have := (N.row r hr).1; omega)
  refine ⟨e', w', k', c, rfl, ⟨by have := N.e1; omega, by have := N.e2; omega, by have := N.w1; omega, by have := N.w2; omega, by have := N.k1; omega, by have := N.k2; omega, fun i j hi hj => ?_⟩, N.e2, N.w2, N.k2⟩
  have hm : (List.range w').map (fun j => c i j) ∈ tabF e' w' c := List.mem_of_getElem? (tabF_at hi)
  exact (N.row _ hm).2 _ (List.mem_of_getElem? (rowF_at hj))
theorem net_told : ∀ vs H Q E, spG K Z 3 (tell P_net) vs H Q E → spNet K vs H Q E := toldG fun V H s ds vs r Q E w hv p a => by
  obtain ⟨m, c, q, b, most, many, rfl, rfl, hb, h1, h2, h3, h4, rfl⟩ := p
  match vs, hv with
  | [_, _, _], .cons (.adr _) (.cons (.int _) (.cons (.int _) .nil)) =>
    refine ⟨V, m, c, q, b, most, many, rfl, wd_mat w, hb, h1, h2, h3, h4, fun t e wd k R G' H' N f M d => ?_⟩
    obtain ⟨e', w', k', cf, eq, o⟩ := net_okN N h2 h4
    obtain ⟨V', n, w', x'⟩ := futM_wd w f M
    refine a (netDD e' _ k' cf) _ ⟨rfl, e', _, k', cf, rfl, o⟩ _ V' H' n w' (dv_py _ _ (Dp.ext x' _ _ ?_))
    rw [← eq]
    exact d
/-- == and != of two ways -/
def P_eqw (neg : Bool) (ds : List D) (s : S) (r : R D) : Prop := ∃ (e l k e' l' k' : Nat) (c c' : Cf), ds = [wayD e l k c, wayD e' l' k' c'] ∧ OkW e l k c ∧ OkW e' l' k' c' ∧
  r = .ok (.bl (if neg = true then !(decide (k = k') && decide (tabF e l c = tabF e' l' c')) else (decide (k = k') && decide (tabF e l c = tabF e' l' c')))) s
theorem c2_eqw {E : XK} {C : Addr} (hC : Z.cl 0 = C) (neg : Bool) (nf : PySem.W.notFirst K C (.ref C) = true) (ty : ∀ {H : Hp} {a dx : Addr} {fs : List (Str × L2.V)}, H a = some (.ins C dx fs) → TyX K H (.ref a) (.ref C)) : Cmp2 K Z E (rCmpW K C (spEqW K C) neg) (fun x y s => tell (P_eqw neg) [x, y] s) := fun V H s x y dx dy Q w rx ry a => by
  replace a : Ans K Z E (Dv K Z) (tell (P_eqw neg) [dx, dy] s) s V H Q := a
  rcases tell_un (P_eqw neg) [dx, dy] s with p | p
  · generalize tell (P_eqw neg) [dx, dy] s = r at p a
    obtain ⟨e, l, k, e', l', k', c, c', h, o, o', rfl⟩ := p
    injection h with h1 h
    injection h with h2 _
    subst h1 h2
    obtain ⟨b, rfl, W⟩ := way_at hC rx o
    obtain ⟨b', rfl, W'⟩ := way_at hC ry o'
    obtain ⟨dx, t, hb, _⟩ := W.ob
    obtain ⟨dx', t', hb', _⟩ := W'.ob
    refine ⟨b, dx, _, .ref C, rfl, w.sv _ _ hb, ?_, nf, V, b, .ref b', e, l, k, c, rfl, w.sv, W, .inl ⟨b', e', l', k', c', rfl, W', ?_⟩⟩
    · exact ty (w.sv _ _ hb')
    · exact ⟨_, rfl, Ans.pure w (.bl _) a⟩
  · rw [p] at a
    exact a.elim
end
end W2

set_option maxHeartbeats 4000000
/-! StA: set(list of ints). -/
namespace StA
open PySem PySem.Spec PyProof.Rows L2
/-- the empty set as it is made -/
abbrev nul (w : World) : Obj := { cls := .type "set", dict := none, data := .set #[] 0 (.fresh 0 0 (!w.params.followText "set-order")) }
section
variable {P : Program} {w : World} {A : Around} {E : Value → Shared → Prop} {z : Shared}
theorem set_of_list {q : Addr} {xs : Array Value} (ks : List Int) {Q : Value → Shared → Prop} (hA : A.handled = none) (isl : z.heap.IsList q xs) (ia : IntsAre xs.toList ks) (few : ks.length + 1 < scanBound)
    (fin : ∀ (g : Heap) (tk c : Nat), SetR w g z.heap.objs.size (fun j => decide (j ∈ ks)) c → c ≤ ks.length → (∀ b o, z.heap.get? b = some o → g.get? b = some o) → Q (.ref z.heap.objs.size) { z with heap := g, toks := tk }) :
    wpAny (model P w) A (call (.type "set") [.ref q]) Q E z := by
  have sz : xs.size = ks.length := by
    rw [← Array.length_toList]
    exact IntsAre.length ia
  obtain ⟨mc, mt, mro⟩ := F.called_set.mro
  have made := F.called_set.made; have hsub := F.called_set.sub
  refine wpAny_call <| codeAny_of_tree <| show wpAny _ _ (callAny (.type "set") _) _ _ _ from ?_
  refine wpAny_pure (.intro (Code.quiet_builtin _ (by decide +kernel)) ?_)
  refine codeAny_builtin F.entry_type_call ?_
  rw [Around.under_plain (by exact weight_type_call_type "set" [.ref q] []) rfl]
  have nty := F.called_set.notType; have cc := F.called_set.canCreate
  have tc := F.typeCall_set_1 (.ref q)
  repeat (any_goals (first | assumption | wp_step))
  refine codeAny_mono (code_set_led1 (.ref q) (E := E) (Q₁ := fun x y => x = .ref z.heap.objs.size ∧ y = { z with heap := z.heap.push (nul w) }) ⟨rfl, rfl⟩) fun r y hy => ?_
  cases r with
  | error _ => exact hy
  | ok f =>
    cases f with
    | ret x =>
      obtain ⟨rfl, rfl⟩ := hy
      have at0 : (z.heap.push (nul w)).get? z.heap.objs.size = some (nul w) := Heap.get?_push_size _ rfl
      have ty0 : Shared.TypeIs { z with heap := z.heap.push (nul w) } (.ref z.heap.objs.size) "set" := ⟨_, at0, rfl⟩
      have il := F.called_set.init.lookup; have ib := F.called_set.init.bind (.ref z.heap.objs.size)
      repeat (any_goals (first | assumption | wp_step))
      refine codeAny_mono (codeAny_call_builtin (R := wants (fun r y => r = .none ∧ ∃ g tk c, y = { z with heap := g, toks := tk } ∧ SetR w g z.heap.objs.size (fun j => decide (j ∈ ks)) c ∧ c ≤ ks.length ∧ (∀ b o, z.heap.get? b = some o → g.get? b = some o)) E)
        F.called_set.init.plain F.entry_set_init (check_set_init_1 ty0 ?_)) fun r y hy => ?_
      · obtain ⟨⟨oc, od, oa, os⟩, lo, c1, nn, c2⟩ := isl
        simp only at c1 c2
        subst c1 c2
        have lo2 : (z.heap.push (nul w)).get? q = some { cls := .type "list", dict := od, data := .seq xs nn, slots := os } := Heap.get?_push_of_some _ lo
        have s1 := F.sub_list_set; have s2 := F.sub_list_frozenset
        have nd : (Value.type "list" == Value.type "dict") = false := by decide
        have isl2 : (z.heap.push (nul w)).IsList q xs := ⟨_, lo2, rfl, nn, rfl⟩
        unfold Builtin.«set.__init__» noKeywords Builtin.Frozenset.updateFrom
        generalize gI : pyIter = PI
        wp_walk
        subst gI
        refine wpAny_pyIter_list isl2 <| wpAny_bind <| wpAny_runValue ?_
        have ql : q < z.heap.objs.size := Heap.lt_size lo
        have h3 : A.in1.in1.in1.handled = none := by simp [hA]
        have n1 : q ≠ (z.heap.push (nul w)).objs.size := by
          rw [Heap.size_push]
          exact Nat.ne_of_lt (.step ql)
        have n2 : z.heap.objs.size ∉ [(z.heap.push (nul w)).objs.size, q] := by
          rw [Heap.size_push]
          simp only [List.mem_cons, List.not_mem_nil, or_false, not_or]
          exact ⟨Nat.ne_of_lt (Nat.lt_succ_self _), (Nat.ne_of_lt ql).symm⟩
        have vals : ∀ (i : Nat) (v : Value), xs[i]? = some v → ∃ k t, ks[i]? = some k ∧ v = .int k t := fun i v hv => by
          have hi : i < ks.length := by
            rw [← sz]
            exact (Array.getElem?_eq_some_iff.mp hv).1
          obtain ⟨t, e⟩ := IntsAre.int_at ia i v (by rw [Array.getElem?_toList]; exact hv)
          refine ⟨ks[i], t, List.getElem?_eq_getElem hi, e.trans ?_⟩
          rw [List.getD_eq_getElem?_getD, List.getElem?_eq_getElem hi]
          rfl
        refine set_update_ints ((Walks.list h3 _ q n1 xs).toS) _ n2 ks sz few vals _ 0 _ rfl (Nat.zero_le _) ⟨⟨_, Heap.get?_push_size _ rfl, rfl, rfl⟩, isl2.push _⟩ ?new ?old
        case new => exact ⟨0, Nat.le_refl 0, setR_new_at (Heap.get?_push_of_some _ at0)⟩
        case old =>
          intro y c mv hc hR
          obtain ⟨g, ge, dr, tk, os2⟩ := y
          have e1 : ge = z.gens := mv.gens
          have e2 : dr = z.drawn := mv.drawn
          have e3 : os2 = z.os := mv.os
          subst e1 e2 e3
          refine wpAny_pure <| show wpAny _ _ (ret Value.none) _ _ _ from ?_
          refine wpAny_pure ⟨rfl, g, tk, c, rfl, hR, by rw [← sz]; exact hc, fun b o e => ?_⟩
          have bl : b < z.heap.objs.size := Heap.lt_size e
          refine mv.heap b o ?_ (Heap.get?_push_of_some _ (Heap.get?_push_of_some _ e))
          rw [Heap.size_push]
          simp only [List.mem_cons, List.not_mem_nil, or_false, not_or]
          exact ⟨Nat.ne_of_lt bl, Nat.ne_of_lt (.step bl)⟩
      · cases r with
        | error _ => exact hy
        | ok f =>
          cases f with
          | ret r =>
            obtain ⟨rfl, g, tk, c, rfl, h1, h2, h3⟩ := hy
            repeat (any_goals (first | assumption | wp_step))
            exact fin _ _ _ h1 h2 h3
          | _ => exact hy.elim
    | _ => exact hy.elim
end
/-- set(xs) of a list of ints -/
def rSetLI (K : PySem.W.Frag) (w : World) : List V → Hp → VK → Prop := fun vs H Q => ∃ (a : Addr) (ns : List Int), vs = [.ref a] ∧ SqL K H a (ns.map V.int) ∧ ns.length ≤ 1000 ∧ ∀ p c, H p = none → c ≤ ns.length → Q (.ref p) (upd H p (SetO w p (fun j => decide (j ∈ ns)) c))
theorem cr_setLI {X : Cx} (hc : X.calm = true) : CallR X (.type "set") (rSetLI X.K X.w) := by
  intro pins s σ H vs us Q I r h
  obtain ⟨a, ns, rfl, hS, hl, q⟩ := h
  obtain ⟨u, rfl, ru⟩ := vals1 r
  obtain rfl : u = Value.ref a := ru
  obtain ⟨its, rv, pt, hz⟩ := I.list hS
  refine set_of_list ns (I.ok.hd hc) pt.isList (ints_of_vals rv) (by unfold scanBound; omega) fun g tk c R hcn kp => ?_
  exact ⟨.ref _, _, I.laid (t' := tk) kp (Nat.le_refl _) (setO_new R), rfl, q _ c (I.hok.fresh (Nat.le_refl _)) hcn⟩
end StA

/-! StB: x[::-1] of a tuple. -/
namespace StB
open PySem PySem.Spec PyProof.Rows L2 HT
theorem back_pick (xs : List Value) : ((List.range xs.length).filterMap fun (k : Nat) => xs.toArray[((xs.length : Int) - 1 + (k : Int) * (-1)).toNat]?) = xs.reverse := by
  have e : ∀ k ∈ List.range xs.length, xs.toArray[((xs.length : Int) - 1 + (k : Int) * (-1)).toNat]? = some (xs.reverse.getD k Value.none) := fun k hk => by
    have hk := List.mem_range.mp hk
    have i1 : ((xs.length : Int) - 1 + (k : Int) * (-1)).toNat = xs.length - 1 - k := by omega
    rw [i1, List.getElem?_toArray, List.getD_eq_getElem?_getD, List.getElem?_reverse hk, List.getElem?_eq_getElem (show xs.length - 1 - k < xs.length by omega)]
    rfl
  have m : ∀ l : List Nat, (∀ k ∈ l, xs.toArray[((xs.length : Int) - 1 + (k : Int) * (-1)).toNat]? = some (xs.reverse.getD k Value.none)) → (l.filterMap fun (k : Nat) => xs.toArray[((xs.length : Int) - 1 + (k : Int) * (-1)).toNat]?) = l.map fun k => xs.reverse.getD k Value.none := by
    intro l
    induction l with
    | nil => exact fun _ => rfl
    | cons k l ih =>
      intro h
      rw [List.filterMap_cons, h k (List.mem_cons_self ..), ih fun j hj => h j (List.mem_cons_of_mem _ hj)]
      rfl
  rw [m _ e]
  refine List.ext_getElem (by rw [List.length_map, List.length_range, List.length_reverse]) fun i h1 h2 => ?_
  rw [List.getElem_map, List.getElem_range, List.getD_eq_getElem?_getD, List.getElem?_eq_getElem h2]
  rfl
section
variable {prog : Program} {w : World} {A : Around} {E : Value → Shared → Prop} {s : Shared}
theorem applied_back {sl : Addr} {vs : Value} {n : Nat} {Q : Int × Int × Nat → Shared → Prop} (hs : s.heap.IsSliceOf sl .none .none vs) (ps : IsPart vs (some (-1))) (h : Q ((n : Int) - 1, -1, n) s) :
    wpAny (model prog w) A (Builtin.Slice.sliceApplied (.ref sl) (pure (n : Int))) Q E s := by
  obtain ⟨os, h1, h2, h3⟩ := id hs
  unfold Builtin.Slice.sliceApplied Builtin.Slice.sliceFields
  refine wpAny_bind (wpAny_bind (wpAny_field h1 h3 (x := .none) rfl (wpAny_bind ?_)))
  refine wpAny_field h1 h3 (x := .none) rfl (wpAny_bind ?_)
  refine wpAny_field h1 h3 (x := vs) rfl (wpAny_pure ?_)
  refine wpAny_bind (slicePart_ ps ?_)
  show wpAny _ _ (if ((-1 : Int) == 0) = true then _ else _) _ _ s
  rw [if_neg (by decide)]
  refine wpAny_bind (slicePart_none (wpAny_bind (slicePart_none ?_)))
  refine wpAny_bind (wpAny_pure ?_)
  have e : Builtin.Slice.sliceAdjust none none (-1) (n : Int) = ((n : Int) - 1, -1) := rfl
  have e2 : Builtin.Slice.slicePlaces ((n : Int) - 1) (-1) (-1) = n := by
    show (if (-1 : Int) > 0 then _ else (if ((n : Int) - 1) > -1 then (((n : Int) - 1) - (-1) - 1) / (- -1) + 1 else 0)).toNat = n
    rw [if_neg (by decide)]
    rw [show (- -1 : Int) = 1 from rfl, Int.ediv_one]
    split <;> omega
  show wpAny _ _ (match Builtin.Slice.sliceAdjust none none (-1) (n : Int) with | (lo, hi) => pure (lo, (-1 : Int), Builtin.Slice.slicePlaces lo hi (-1))) _ _ s
  rw [e]
  show wpAny _ _ (pure ((n : Int) - 1, (-1 : Int), Builtin.Slice.slicePlaces ((n : Int) - 1) (-1) (-1))) _ _ s
  rw [e2]
  exact wpAny_pure h
theorem item_back {t sl : Addr} {xs : List Value} {vs : Value} {Q : Value → Shared → Prop} (ht : IsTup s.heap t xs.toArray) (hs : s.heap.IsSliceOf sl .none .none vs) (ps : IsPart vs (some (-1)))
    (h : Q (.ref s.heap.objs.size) { s with heap := s.heap.push { cls := .type "tuple", data := .seq xs.reverse.toArray } }) (hz : xs.length ≤ sizeLine) : wpAny (model prog w) A (getItem (.ref t) (.ref sl)) Q E s := by
  have ok : sizeOk (.seq xs.reverse.toArray) := by
    show xs.reverse.toArray.size ≤ sizeLine
    rw [List.size_toArray, List.length_reverse]
    exact hz
  obtain ⟨os, h1, h2, h3⟩ := id hs
  have ty : s.TypeIs (.ref sl) "slice" := ⟨os, h1, h2⟩
  unfold getItem
  refine wpAny_holding ?_
  first | refine wpAny_bind (wpAny_pure ?_) | skip
  refine wpAny_bind <| wpAny_sequenceKey ht.typeIs (by decide) <| wpAny_bind ?_
  refine wpAny_callSpecial?_slot (name := Str.ofString "__getitem__") ht.typeIs PyProof.Rows.slot_tuple_getitem ?_
  refine wpAny_call_entry PyProof.Rows.slot_tuple_getitem ht.typeIs entry_tuple_getitem ?_ (args_tuple_getitem _ _)
  show wpAny _ _ (Builtin.Tuple.tupleItemsOf (.ref t) >>= _) _ _ s
  refine wpAny_bind <| tupleItemsOf_ ht <| wpAny_bind <| wpAny_typeOf ty ?_
  rw [if_pos (by decide)]
  refine wpAny_bind (applied_back (n := xs.toArray.size) hs ps ?_)
  have no : ¬ (((((xs.toArray.size : Nat) : Int) - 1) == 0 && (-1 : Int) == 1 && xs.toArray.size == xs.toArray.size) = true) := by simp
  show wpAny _ _ (if ((((xs.toArray.size : Nat) : Int) - 1) == 0 && (-1 : Int) == 1 && xs.toArray.size == xs.toArray.size) = true then _ else _) _ _ s
  rw [if_neg no]
  have e := back_pick xs
  rw [← List.size_toArray] at e
  rw [e]
  first
    | exact wpAny_bind (m := Builtin.Tuple.tupleExact _) (wpAny_newObj_type (wpAny_pure ⟨_, rfl, wpAny_pure h⟩) ok)
    | exact wpAny_bind (m := Builtin.Tuple.tupleExact _) (wpAny_newObj_type (wpAny_bind (wpAny_pure (wpAny_pure ⟨_, rfl, wpAny_pure h⟩))) ok)
    | exact wpAny_bind (wpAny_bind (m := Builtin.Tuple.tupleExact _) (wpAny_newObj_type (wpAny_pure (wpAny_pure ⟨_, rfl, wpAny_pure h⟩)) ok))
    | exact wpAny_bind (wpAny_bind (m := Builtin.Tuple.tupleExact _) (wpAny_newObj_type (wpAny_pure ⟨_, rfl, wpAny_pure h⟩) ok))
end
/-- x[::-1] of a tuple -/
def tBack (K : PySem.W.Frag) (te : TE) : TE := fun σ H Q => te σ H fun x H1 => ∃ a xs, x = .ref a ∧ SqT K H1 a xs ∧ ∀ p, H1 p = none → Q (.ref p) (upd H1 p (.tup xs.reverse))
section
variable {X : Cx}
theorem pe_back {e : Expr} {te : TE} {k : Nat} {p1 p2 p3 pos : Pos} (he : PE X e te) : PE X (.Subscript e (.Slice none none (some (.UnaryOp .USub (.Constant (.int 1) k p1) p2)) p3) pos) (tBack X.K te) := by
  refine ⟨fun pins s σ H Q I h => Subscript_ (thn (he.run pins s σ H _ I h) ?_)⟩
  rintro v s1 ⟨x, H1, I1, r1, a, xs, rfl, hx, q⟩
  cases r1
  have hst : PO X (some (.UnaryOp .USub (.Constant (.int 1) k p1) p2)) (tPart (tUn (rU fun i => .int (-i)) (tC (.int 1)))) := po_some (pe_un un_neg pe_int)
  refine wpAny_Slice (thn (po_none.run pins s1 σ H1 (fun o y => o = none ∧ y = H1) I1 ⟨rfl, rfl⟩) ?_)
  rintro vl s2 ⟨l, H2, I2, pl, rfl, rfl⟩
  refine thn (po_none.run pins s2 σ H2 (fun o y => o = none ∧ y = H2) I2 ⟨rfl, rfl⟩) ?_
  rintro vu s3 ⟨u, H3, I3, pu, rfl, rfl⟩
  refine thn (hst.run pins s3 σ H3 (fun o y => o = some (-1) ∧ y = H3) I3 ⟨1, rfl, -1, rfl, rfl, rfl⟩) ?_
  rintro vs s4 ⟨o, H4, I4, ps, rfl, rfl⟩
  cases pl
  cases pu
  have I5 : Inv X pins σ H4 { s4 with heap := s4.heap.push { cls := .type "slice", data := .fields #[.none, .none, vs] } } := I4.kept (t' := s4.toks) fun b ob q => Heap.get?_push_of_some _ q
  obtain ⟨its, r, ht, hz⟩ := I5.tuple hx
  show wpAny (model X.prog X.w) X.A (subscriptTail e (.Slice none none (some (.UnaryOp .USub (.Constant (.int 1) k p1) p2)) p3) (.ref a) (.ref s4.heap.objs.size)) (EP X pins σ Q) X.xe { s4 with heap := s4.heap.push { cls := .type "slice", data := .fields #[.none, .none, vs] } }
  refine tail_any (ops := [.ref a, .ref s4.heap.objs.size]) ht.typeIs (PyProof.Rows.slot_tuple_getitem.lookup) ?_ (by with_unfolding_all rfl)
  refine item_back ht (Heap.IsSliceOf.new _ .none .none vs) ps ?_ (by rw [← r.length]; exact hz)
  refine ⟨.ref _, _, I5.laid (t' := s4.toks) (o := .tup xs.reverse) (fun b ob q => Heap.get?_push_of_some _ q) (Nat.le_refl _) ?_, rfl, q _ (I5.hok.fresh (Nat.le_refl _))⟩
  exact ⟨by rw [List.length_reverse]; exact hz, _, r.reverse, _, Heap.get?_push_size _ rfl, rfl, 0, rfl⟩
end
end StB

set_option maxHeartbeats 1000000
/-! PpA: sorted(set(..)), sorted(..), reversed, [::-1], pop, a, b = list. -/
namespace Pp
open PySem PySem.Spec PyProof.Rows L2 Pg Pf LamX Rul
/-! ### ascending lists -/
def insS (x : Int) : List Int → List Int
  | [] => [x]
  | y :: ys => if x < y then x :: y :: ys else if x = y then y :: ys else y :: insS x ys
def srtS (ns : List Int) : List Int := ns.foldr insS []
theorem mem_insS {x z : Int} : ∀ {ys : List Int}, z ∈ insS x ys ↔ z = x ∨ z ∈ ys
  | [] => by simp [insS]
  | y :: ys => by
    unfold insS
    split
    · simp
    · split
      · rename_i h
        subst h
        simp
      · simp only [List.mem_cons, mem_insS (ys := ys)]
        constructor
        · rintro (h | h | h) <;> simp [h]
        · rintro (h | h | h) <;> simp [h]
theorem asc_insS {x : Int} : ∀ {ys : List Int}, ys.Pairwise (· < ·) → (insS x ys).Pairwise (· < ·)
  | [], _ => by simp [insS]
  | y :: ys, h => by
    have h' := List.pairwise_cons.mp h
    unfold insS
    split
    · rename_i l
      refine List.pairwise_cons.mpr ⟨fun z hz => ?_, h⟩
      rcases List.mem_cons.mp hz with e | hz
      · rw [e]
        exact l
      · have := h'.1 z hz
        omega
    · split
      · exact h
      · refine List.pairwise_cons.mpr ⟨fun z hz => ?_, asc_insS h'.2⟩
        rcases mem_insS.mp hz with e | hz
        · rw [e]
          omega
        · exact h'.1 z hz
theorem mem_srtS {z : Int} : ∀ {ns : List Int}, z ∈ srtS ns ↔ z ∈ ns
  | [] => by simp [srtS]
  | n :: ns => by
    show z ∈ insS n (srtS ns) ↔ _
    rw [mem_insS, mem_srtS, List.mem_cons]
theorem asc_srtS : ∀ {ns : List Int}, (srtS ns).Pairwise (· < ·)
  | [] => .nil
  | n :: ns => asc_insS (asc_srtS (ns := ns))
/-- two ascending lists with the same members are one -/
theorem asc_one : ∀ {xs ys : List Int}, xs.Pairwise (· < ·) → ys.Pairwise (· < ·) → (∀ z, z ∈ xs ↔ z ∈ ys) → xs = ys
  | [], [], _, _, _ => rfl
  | [], y :: ys, _, _, h => by have := (h y).mpr (List.mem_cons_self ..); cases this
  | x :: xs, [], _, _, h => by have := (h x).mp (List.mem_cons_self ..); cases this
  | x :: xs, y :: ys, hx, hy, h => by
    have hx' := List.pairwise_cons.mp hx
    have hy' := List.pairwise_cons.mp hy
    have e : x = y := by
      have h1 := (h x).mp (List.mem_cons_self ..)
      have h2 := (h y).mpr (List.mem_cons_self ..)
      rcases List.mem_cons.mp h1 with e | h1
      · exact e
      · rcases List.mem_cons.mp h2 with e | h2
        · exact e.symm
        · have := hx'.1 y h2
          have := hy'.1 x h1
          omega
    subst e
    rw [asc_one hx'.2 hy'.2 fun z => ?_]
    constructor
    · intro hz
      rcases List.mem_cons.mp ((h z).mp (List.mem_cons_of_mem _ hz)) with e | h'
      · subst e
        have := hx'.1 z hz
        omega
      · exact h'
    · intro hz
      rcases List.mem_cons.mp ((h z).mpr (List.mem_cons_of_mem _ hz)) with e | h'
      · subst e
        have := hy'.1 z hz
        omega
      · exact h'
/-- the ints of data -/
def dInts : List D → Option (List Int)
  | [] => some []
  | .int i :: ds => (dInts ds).map (i :: ·)
  | _ => none
theorem dInts_of {K : PySem.W.Frag} {Z : Zn} {G : Hp} : ∀ {ds : List D} {vs : List V} {ns : List Int}, DvA K Z G vs ds → dInts ds = some ns → vs = ns.map V.int
  | [], _, ns, .nil, e => by
    cases e
    rfl
  | .int i :: ds, _, ns, .cons (.int _) b, e => by
    unfold dInts at e
    cases e1 : dInts ds with
    | none =>
      rw [e1] at e
      cases e
    | some ms =>
      rw [e1] at e
      cases e
      rw [List.map_cons, dInts_of b e1]
  | .non :: _, _, _, _, e | .bl _ :: _, _, _, _, e | .str _ :: _, _, _, _, e | .tup _ :: _, _, _, _, e | .lst _ :: _, _, _, _, e | .obj _ _ :: _, _, _, _, e | .adr _ :: _, _, _, _, e | .emp :: _, _, _, _, e | .rls _ :: _, _, _, _, e => by cases e
theorem dInts_map : ∀ ns : List Int, dInts (ns.map D.int) = some ns
  | [] => rfl
  | n :: ns => by
    show (dInts (ns.map D.int)).map (n :: ·) = _
    rw [dInts_map ns]
    rfl
section
variable {K : PySem.W.Frag} {Z : Zn} {E : XK} {te : TE} {f : Slots → S → R D}
def lsD : D → Option (List D)
  | .lst ds => some ds
  | .rls ds => some ds
  | _ => none
theorem lsD_of {V H : Hp} {s : S} {v : L2.V} {d : D} {ds : List D} (w : Wd Z.T V H s) (h : Dv K Z V v d) (e : lsD d = some ds) : ∃ a vs, v = .ref a ∧ SqL K H a vs ∧ DvA K Z V vs ds := by
  cases h with
  | lst h hs =>
    cases e
    exact ⟨_, _, rfl, SqL.of (w.sv _ _ h), hs⟩
  | rls h hs =>
    cases e
    exact ⟨_, _, rfl, Evl.ex_l w.sv h, hs⟩
  | _ => cases e
/-- sorted(set(xs)) -/
def sSetF (d : D) (s : S) : R D := match (lsD d).bind dInts with
  | some ns => if ns.length < 64 then .ok (.lst ((srtS ns).map D.int)) s else .un
  | none => .un
theorem c_sortset {w0 : World} (h : Cmp K Z E te f) : Cmp K Z E (tCB (rSortedSet w0) (tCons (tCB (StA.rSetLI K w0) (tCons te tNil)) tNil)) (b1 sSetF f) := fun V H σ ρ s Q w p a =>
  h V H σ ρ s _ w p (Ans.bind a fun d s1 v V1 H1 n1 w1 r1 a1 => by
    unfold sSetF at a1
    cases e1 : lsD d with
    | none =>
      rw [e1] at a1
      exact a1.elim
    | some ds =>
      cases e2 : dInts ds with
      | none =>
        rw [e1] at a1
        replace a1 : Ans K Z E (Dv K Z) (match dInts ds with | some ns => if ns.length < 64 then .ok (.lst ((srtS ns).map D.int)) s1 else .un | none => .un) s1 V1 H1 Q := a1
        rw [e2] at a1
        exact a1.elim
      | some ns =>
        rw [e1] at a1
        replace a1 : Ans K Z E (Dv K Z) (match dInts ds with | some ns => if ns.length < 64 then .ok (.lst ((srtS ns).map D.int)) s1 else .un | none => .un) s1 V1 H1 Q := a1
        rw [e2] at a1
        replace a1 : Ans K Z E (Dv K Z) (if ns.length < 64 then .ok (.lst ((srtS ns).map D.int)) s1 else .un) s1 V1 H1 Q := a1
        by_cases l : ns.length < 64
        · rw [if_pos l] at a1
          obtain ⟨b, vs, rfl, hS, hs⟩ := lsD_of w1 r1 e1
          obtain rfl := dInts_of hs e2
          refine ⟨b, ns, rfl, hS, by omega, fun q c hq hc => ?_⟩
          refine ⟨q, _, c, rfl, upd_same, by omega, fun ms t h1 h2 h3 ht => ?_⟩
          have em : ms = srtS ns := asc_one h1 asc_srtS fun z => by rw [h2, mem_srtS, decide_eq_true_eq]
          subst em
          exact new_lst (w1.up hq) (DvA.ints _) (Ans.later (Nx.up hq) a1) t ht
        · rw [if_neg l] at a1
          exact a1.elim)
/-- sorted(xs) of different ints -/
def sLstF (d : D) (s : S) : R D := match (lsD d).bind dInts with
  | some ns => if ns.length < 64 ∧ ns.Nodup then .ok (.lst ((srtS ns).map D.int)) s else .un
  | none => .un
theorem c_sortL (h : Cmp K Z E te f) : Cmp K Z E (tCB (rSorted K) (tCons te tNil)) (b1 sLstF f) := fun V H σ ρ s Q w p a =>
  h V H σ ρ s _ w p (Ans.bind a fun d s1 v V1 H1 n1 w1 r1 a1 => by
    unfold sLstF at a1
    cases e1 : lsD d with
    | none =>
      rw [e1] at a1
      exact a1.elim
    | some ds =>
      cases e2 : dInts ds with
      | none =>
        rw [e1] at a1
        replace a1 : Ans K Z E (Dv K Z) (match dInts ds with | some ns => if ns.length < 64 ∧ ns.Nodup then .ok (.lst ((srtS ns).map D.int)) s1 else .un | none => .un) s1 V1 H1 Q := a1
        rw [e2] at a1
        exact a1.elim
      | some ns =>
        rw [e1] at a1
        replace a1 : Ans K Z E (Dv K Z) (match dInts ds with | some ns => if ns.length < 64 ∧ ns.Nodup then .ok (.lst ((srtS ns).map D.int)) s1 else .un | none => .un) s1 V1 H1 Q := a1
        rw [e2] at a1
        replace a1 : Ans K Z E (Dv K Z) (if ns.length < 64 ∧ ns.Nodup then .ok (.lst ((srtS ns).map D.int)) s1 else .un) s1 V1 H1 Q := a1
        by_cases l : ns.length < 64 ∧ ns.Nodup
        · rw [if_pos l] at a1
          obtain ⟨b, vs, rfl, hS, hs⟩ := lsD_of w1 r1 e1
          obtain rfl := dInts_of hs e2
          refine ⟨b, ns, rfl, hS, l.1, fun ms t h1 h2 ht => ?_⟩
          have nd : ms.Nodup := h1.nodup_iff.mpr l.2
          have em : ms = srtS ns := asc_one ((h2.and nd).imp fun ⟨p1, p2⟩ => by omega) asc_srtS fun z => by rw [h1.mem_iff, mem_srtS]
          subst em
          exact new_lst w1 (DvA.ints _) a1 t ht
        · rw [if_neg l] at a1
          exact a1.elim)
/-- x[::-1] of a tuple -/
def backF (d : D) (s : S) : R D := match d with
  | .tup ds => .ok (.tup ds.reverse) s
  | _ => .un
theorem c_back (h : Cmp K Z E te f) : Cmp K Z E (StB.tBack K te) (b1 backF f) := fun V H σ ρ s Q w p a =>
  h V H σ ρ s _ w p (Ans.bind a fun d s1 v V1 H1 n1 w1 r1 a1 => by
    cases r1 with
    | @tup b vs ds hx hs => exact ⟨b, vs, rfl, Evl.ex_t w1.sv hx, new_tup w1 hs.rev a1⟩
    | _ => exact a1.elim)
/-- reversed(x), walked -/
def revF (d : D) (s : S) : R (List D) := match d with
  | .tup ds => .ok ds.reverse s
  | .lst ds => .ok ds.reverse s
  | .rls ds => .ok ds.reverse s
  | _ => .un
def revI (f : Slots → S → R D) (ρ : Slots) (s : S) : R (List D) := (f ρ s).bind revF
theorem rev_at {α : Type} {xs : List α} {i : Nat} (l : i < xs.length) : xs.reverse[i]? = xs[xs.length - 1 - i]? := List.getElem?_reverse l
theorem itR_revT {V : Hp} {a : Addr} {vs : List L2.V} {ds : List D} (h : SqT K V a vs) (hs : DvA K Z V vs ds) : ItR K Z V (RT.ItvT K a vs.length) ds.reverse := by
  have st : ∀ {V1 H1 : Hp}, Same V V1 → Same V1 H1 → SqT K H1 a vs := fun e1 e2 => Evl.ex_t (e1.trans e2) h
  have ln := hs.len
  refine ⟨fun i V1 H1 e1 e2 l => ?_, fun V1 H1 e1 e2 => by rw [List.length_reverse, ← ln]; exact Nat.le_refl _, fun i V1 H1 x H2 e1 e2 l y => ?_⟩
  · rw [List.length_reverse] at l
    have l2 : i < vs.length := by omega
    exact ⟨l2, vs, vs[vs.length - 1 - i]'(by omega), st e1 e2, List.getElem?_eq_getElem _⟩
  · rw [List.length_reverse] at l
    obtain ⟨rfl, q⟩ := y
    obtain ⟨d, e, r⟩ := hs.at' (q vs (st e1 e2))
    exact ⟨d, by rw [rev_at l, ← ln]; exact e, .inl ⟨rfl, Dv.mono e1 _ _ r⟩⟩
theorem itR_revL {V : Hp} {a : Addr} {vs : List L2.V} {ds : List D} (h : SqL K V a vs) (hs : DvA K Z V vs ds) : ItR K Z V (Itv K a vs.length) ds.reverse := by
  have st : ∀ {V1 H1 : Hp}, Same V V1 → Same V1 H1 → SqL K H1 a vs := fun e1 e2 => Evl.ex_l (e1.trans e2) h
  have ln := hs.len
  refine ⟨fun i V1 H1 e1 e2 l => ?_, fun V1 H1 e1 e2 => by rw [List.length_reverse, ← ln]; exact Nat.le_refl _, fun i V1 H1 x H2 e1 e2 l y => ?_⟩
  · rw [List.length_reverse] at l
    have l2 : i < vs.length := by omega
    exact ⟨l2, vs, vs[vs.length - 1 - i]'(by omega), st e1 e2, List.getElem?_eq_getElem _⟩
  · rw [List.length_reverse] at l
    obtain ⟨rfl, q⟩ := y
    obtain ⟨d, e, r⟩ := hs.at' (q vs (st e1 e2))
    exact ⟨d, by rw [rev_at l, ← ln]; exact e, .inl ⟨rfl, Dv.mono e1 _ _ r⟩⟩
theorem ci_rev (h : Cmp K Z E te f) : CmpI K Z E (RT.iRevA K te) (revI f) := fun V H σ ρ s Q w p a =>
  h V H σ ρ s _ w p (Ans.bind a fun d s1 v V1 H1 n1 w1 r1 a1 => by
    cases r1 with
    | @lst b vs ds hx hs => exact ⟨b, vs, rfl, .inl ⟨Evl.ex_l w1.sv (SqL.of hx), Ans.pure w1 (itR_revL (SqL.of hx) hs) a1⟩⟩
    | @rls b vs ds hx hs => exact ⟨b, vs, rfl, .inl ⟨Evl.ex_l w1.sv hx, Ans.pure w1 (itR_revL hx hs) a1⟩⟩
    | @tup b vs ds hx hs => exact ⟨b, vs, rfl, .inr ⟨Evl.ex_t w1.sv hx, Ans.pure w1 (itR_revT hx hs) a1⟩⟩
    | _ => exact a1.elim)
/-- a, b, .. = a list -/
def gTL (n : Nat) (g : List D → Slots → Option Slots) (d : D) (ρ : Slots) : Option Slots := match lsD d with
  | some ds => if ds.length = n then g ds ρ else none
  | none => none
theorem cg_lst {n : Nat} {ts : TGs} {gs : List D → Slots → Option Slots} {is : List Nat} (h : CmpGs ts gs is K Z) : CmpG (gLst K n ts) (gTL n gs) is K Z := fun P V H sv st σ ρ v d Q p r a => by
  have go : ∀ {b : Addr} {vs : List L2.V} {ds : List D}, lsD d = some ds → SqL K V b vs → DvA K Z V vs ds → v = .ref b → gLst K n ts v σ H Q := fun {b vs ds} e hx hs ev => by
    unfold gTL at a
    rw [e] at a
    by_cases l : ds.length = n
    · simp only [if_pos l] at a
      exact ⟨b, vs, ev, Evl.ex_l sv hx, hs.len.trans l, h P V H sv st σ ρ vs ds Q p hs a⟩
    · simp only [if_neg l] at a
  cases r with
  | lst hx hs => exact go rfl (SqL.of hx) hs rfl
  | rls hx hs => exact go rfl hx hs rfl
  | _ => exact a.elim
/-- tuple(range(e)) -/
def tRgF (d : D) (s : S) : R D := match d with
  | .int k => if 0 ≤ k ∧ k ≤ 1000 then .ok (.tup (rngD 0 k.toNat)) s else .un
  | _ => .un
end
end Pp

/-! PpB: tuple(range(..)), found.append(stock.pop(..)). -/
namespace Pp
open PySem PySem.Spec PyProof.Rows L2 Pg Pf LamX Rul
section
variable {K : PySem.W.Frag} {Z : Zn} {E : XK} {te : TE} {f : Slots → S → R D}
theorem dv_rng {G : Hp} (k : Int) : DvA K Z G (rgV 0 k) (rngD 0 k.toNat) := by
  have e : ∀ l : List Nat, DvA K Z G (l.map fun i => V.int ((0 : Int) + (i : Nat))) (l.map fun i => D.int ((0 : Int) + (i : Nat))) := by
    intro l
    induction l with
    | nil => exact .nil
    | cons i l ih => exact .cons (.int _) ih
  unfold rgV rngD
  rw [Int.sub_zero]
  exact e _
theorem c_tupRg (h : Cmp K Z E te f) : Cmp K Z E (tTupRg (tRg1 te)) (b1 tRgF f) := fun V H σ ρ s Q w p a =>
  h V H σ ρ s _ w p (Ans.bind a fun d s1 v V1 H1 n1 w1 r1 a1 => by
    cases r1 with
    | int k =>
      replace a1 : Ans K Z E (Dv K Z) (if 0 ≤ k ∧ k ≤ 1000 then .ok (.tup (rngD 0 k.toNat)) s1 else .un) s1 V1 H1 Q := a1
      by_cases l : 0 ≤ k ∧ k ≤ 1000
      · rw [if_pos l] at a1
        exact ⟨k, rfl, RgOk.of_le (by omega) (by omega) (by omega) (by omega), new_tup w1 (dv_rng k) a1⟩
      · rw [if_neg l] at a1
        exact a1.elim
    | _ => exact a1.elim)
def popS (i j : Nat) (f : Slots → S → R D) (ρ : Slots) (s : S) : R Fl := match ρ[i]?, ρ[j]? with
  | some (.ow (.ls ds)), some (.ow (.ls es)) => (f ρ s).bind fun d s => match d with
    | .int k => match L2.atI es k with
      | some y => if 0 ≤ k ∧ fits (ds.length + 1) = true ∧ es.length ≤ 1000 then .ok (.nx ((ρ.set j (.ow (.ls (es.eraseIdx k.toNat)))).set i (.ow (.ls (ds ++ [y]))))) s else .un
      | none => .un
    | _ => .un
  | _, _ => .un
theorem DvA.erase : ∀ {G : Hp} {vs : List L2.V} {ds : List D} (n : Nat), DvA K Z G vs ds → DvA K Z G (vs.eraseIdx n) (ds.eraseIdx n)
  | _, _, _, 0, .nil => .nil
  | _, _, _, _ + 1, .nil => .nil
  | _, _, _, 0, .cons a b => b
  | _, _, _, n + 1, .cons a b => .cons a (b.erase n)
theorem cs_pop {i j : Nat} (ij : i ≠ j) (h : Cmp K Z E te f) : CmpS K Z E (tDrop (tBM K "list" rAppend (tVar i) (tCons (tBM K "list" rPopAt (tVar j) (tCons te tNil)) tNil))) (popS i j f) := fun s0 G0 H0 G H σ ρ s D r a => by
  unfold popS at a
  match ei : ρ[i]?, ej : ρ[j]?, a with
  | some (.ow (.ls ds)), some (.ow (.ls es)), a =>
    obtain ⟨b, u, h1, h2, h3, h4, h5⟩ := r.p.ow i _ ei
    obtain ⟨c, u', k1, k2, k3, k4, k5⟩ := r.p.ow j _ ej
    have bc : b ≠ c := fun z => by
      subst z
      exact r.dis i j _ _ b ij ei ej h1 k1
    cases h3 with
    | @ls vs _ hs =>
      cases k3 with
      | @ls ws _ ks =>
        refine ⟨.ref b, h1, .inl ⟨rfl, _, SqL.of h2⟩, ?_⟩
        refine ⟨.ref c, k1, .inl ⟨rfl, _, SqL.of k2⟩, ?_⟩
        refine h G H σ ρ s _ r.w r.p (AnsS.bindF r a fun d s1 v V1 H1 n1 w1 q a1 => ?_)
        cases q with
        | int k =>
          replace a1 : AnsS K Z E (match L2.atI es k with | some y => if 0 ≤ k ∧ fits (ds.length + 1) = true ∧ es.length ≤ 1000 then .ok (.nx ((ρ.set j (.ow (.ls (es.eraseIdx k.toNat)))).set i (.ow (.ls (ds ++ [y]))))) s1 else .un | none => .un) s0 G0 H0 V1 D := a1
          cases e : L2.atI es k with
          | none =>
            rw [e] at a1
            exact a1.elim
          | some y =>
            rw [e] at a1
            replace a1 : AnsS K Z E (if 0 ≤ k ∧ fits (ds.length + 1) = true ∧ es.length ≤ 1000 then .ok (.nx ((ρ.set j (.ow (.ls (es.eraseIdx k.toNat)))).set i (.ow (.ls (ds ++ [y]))))) s1 else .un) s0 G0 H0 V1 D := a1
            by_cases z : 0 ≤ k ∧ fits (ds.length + 1) = true ∧ es.length ≤ 1000
            · rw [if_pos z] at a1
              have r1 := r.on n1 w1
              have ks1 := DvA.mono n1.g _ _ ks
              have hs1 := DvA.mono n1.g _ _ hs
              obtain ⟨yv, y1, y2⟩ := DvA.atI ks1 e
              have hc := n1.h c _ k2 (fun ps z => by cases z) k5
              have hb := n1.h b _ h2 (fun ps z => by cases z) h5
              unfold L2.atI at y1
              cases e2 : ixN ws.length k with
              | none =>
                rw [e2] at y1
                cases y1
              | some m =>
                rw [e2] at y1
                obtain ⟨sx, l1, l2, l3⟩ := ixN_seq e2
                have em : m = k.toNat := by
                  unfold ixN at e2
                  rw [if_pos z.1] at e2
                  split at e2
                  · exact (Option.some.inj e2).symm
                  · rename_i hn
                    exact absurd l3 hn
                have lw : ws.length ≤ 1000 := by rw [ks.len]; exact z.2.2
                refine ⟨c, ws, k, m, yv, rfl, rfl, hc, by omega, by omega, sx, y1, ?_⟩
                have r2 := r1.mut ej k1 (HD.ls (ks1.erase m))
                have ei2 : (ρ.set j (.ow (.ls (es.eraseIdx m))))[i]? = some (.ow (.ls ds)) := by
                  rw [List.getElem?_set_ne (Ne.symm ij)]
                  exact ei
                have r3 := r2.mut ei2 h1 (HD.ls (hs1.snoc y2))
                refine ⟨b, vs, yv, rfl, rfl, by rw [upd_ne bc]; exact hb, ?_, ?_⟩
                · rw [hs.len]
                  have := fits_lt z.2.1
                  omega
                · rw [← em] at a1
                  exact a1 _ V1 _ (Same.refl _) r3
            · rw [if_neg z] at a1
              exact a1.elim
        | _ => exact a1.elim
  | none, _, a => exact a.elim
  | some .no, _, a => exact a.elim
  | some (.fz d), _, a => exact a.elim
  | some (.ow (.is c ns ds)), _, a => exact a.elim
  | some (.ow (.ls ds)), none, a => exact a.elim
  | some (.ow (.ls ds)), some .no, a => exact a.elim
  | some (.ow (.ls ds)), some (.fz d), a => exact a.elim
  | some (.ow (.ls ds)), some (.ow (.is c ns es)), a => exact a.elim
end
end Pp

/-! PpC: rows = [list(row) for row in x]; rows[n][k] = v. -/
namespace Pp
open PySem PySem.Spec PyProof.Rows L2 Pg Pf LamX Rul
section
variable {K : PySem.W.Frag} {Z : Zn} {E : XK}
theorem RepF.no {s0 s : S} {G0 H0 G H : Hp} {σ : L2.St} {ρ : Slots} (r : RepF K Z s0 G0 H0 G H σ ρ s) (i : Nat) (x : Option V) : RepF K Z s0 G0 H0 G H (σ.set i x) (ρ.set i .no) s := by
  have old : ∀ {j : Nat} {y : Sl}, y ≠ .no → (ρ.set i .no)[j]? = some y → j ≠ i ∧ ρ[j]? = some y := fun {j y} hy e => by
    by_cases z : j = i
    · subst z
      by_cases l : j < ρ.length
      · rw [List.getElem?_set_self l] at e
        exact absurd (Option.some.inj e).symm hy
      · rw [List.getElem?_eq_none (by rw [List.length_set]; omega)] at e
        cases e
    · rw [List.getElem?_set_ne (Ne.symm z)] at e
      exact ⟨z, e⟩
  have σo : ∀ {j : Nat}, j ≠ i → (σ.set i x)[j]? = σ[j]? := fun {j} z => List.getElem?_set_ne (Ne.symm z)
  refine ⟨r.nx, r.w, ⟨fun j d e => ?_, fun j o e => ?_, by rw [List.length_set, List.length_set]; exact r.len⟩, fun j o a e1 e2 => ?_, fun j k o u a n e1 e2 e3 e4 => ?_, by rw [List.length_set, List.length_set]; exact r.len⟩
  · obtain ⟨z, e⟩ := old (by simp) e
    rw [σo z]
    exact r.p.fz j d e
  · obtain ⟨z, e⟩ := old (by simp) e
    rw [σo z]
    exact r.p.ow j o e
  · obtain ⟨z, e⟩ := old (by simp) e1
    rw [σo z] at e2
    exact r.new j o a e e2
  · obtain ⟨z, e⟩ := old (by simp) e1
    obtain ⟨z2, f⟩ := old (by simp) e2
    rw [σo z] at e3
    rw [σo z2] at e4
    exact r.dis j k o u a n e f e3 e4
theorem nmc {α : Type} {q p : α} {ps : List α} (h : q ∉ p :: ps) : q ≠ p ∧ q ∉ ps := ⟨fun z => h (by rw [z]; exact List.mem_cons_self ..), fun z => h (List.mem_cons_of_mem _ z)⟩
/-- the lists at ps hold rows -/
inductive Rws (K : PySem.W.Frag) (Z : Zn) (V0 H0 V H : Hp) (s : S) : List Addr → List (List D) → Prop
  | nil : Rws K Z V0 H0 V H s [] []
  | cons {p : Addr} {ps : List Addr} {vs : List L2.V} {ds : List D} {rs : List (List D)} (h : H p = some (.lst vs)) (hs : DvA K Z V vs ds) (v : V p = none) (f : Fre H0 p) (i : ¬ inS s p) (n : p ∉ ps) (t : Rws K Z V0 H0 V H s ps rs) : Rws K Z V0 H0 V H s (p :: ps) (ds :: rs)
theorem Rws.later {V0 H0 V H V' H' : Hp} {s s' : S} (x : Nx s s' V H V' H') : ∀ {ps : List Addr} {rs : List (List D)}, Rws K Z V0 H0 V H s ps rs → Rws K Z V0 H0 V' H' s' ps rs
  | _, _, .nil => .nil
  | _, _, .cons h hs v f i n t => .cons (x.h _ _ h (fun _ z => by cases z) i) (DvA.mono x.g _ _ hs) (x.not v h fun _ z => by cases z) f (by rw [inS_of x.a]; exact i) n (t.later x)
theorem Rws.upd_ne {V0 H0 V H : Hp} {s : S} {q : Addr} {o : HO} : ∀ {ps : List Addr} {rs : List (List D)}, Rws K Z V0 H0 V H s ps rs → q ∉ ps → Rws K Z V0 H0 V (upd H q o) s ps rs
  | _, _, .nil, _ => .nil
  | _, _, .cons h hs v f i n t, hq => by
    have h1 := nmc hq
    exact .cons (by rw [L2.upd_ne (Ne.symm h1.1)]; exact h) hs v f i n (t.upd_ne h1.2)
theorem Rws.len {V0 H0 V H : Hp} {s : S} : ∀ {ps : List Addr} {rs : List (List D)}, Rws K Z V0 H0 V H s ps rs → ps.length = rs.length
  | _, _, .nil => rfl
  | _, _, .cons _ _ _ _ _ _ t => by rw [List.length_cons, List.length_cons, t.len]
theorem Rws.snoc {V0 H0 V H : Hp} {s : S} {q : Addr} {vs : List L2.V} {ds : List D} (h : H q = some (.lst vs)) (hs : DvA K Z V vs ds) (v : V q = none) (f : Fre H0 q) (i : ¬ inS s q) : ∀ {ps : List Addr} {rs : List (List D)}, Rws K Z V0 H0 V H s ps rs → q ∉ ps → Rws K Z V0 H0 V H s (ps ++ [q]) (rs ++ [ds])
  | _, _, .nil, _ => .cons h hs v f i (by simp) .nil
  | _, _, .cons h' hs' v' f' i' n t, hq => by
    have h1 := nmc hq
    refine .cons h' hs' v' f' i' ?_ (Rws.snoc h hs v f i t h1.2)
    intro z
    rcases List.mem_append.mp z with z | z
    · exact n z
    · exact h1.1 (List.mem_singleton.mp z).symm
theorem Rws.at {V0 H0 V H : Hp} {s : S} : ∀ {ps : List Addr} {rs : List (List D)} {n : Nat} {ds : List D}, Rws K Z V0 H0 V H s ps rs → rs[n]? = some ds → ∃ p vs, ps[n]? = some p ∧ H p = some (.lst vs) ∧ DvA K Z V vs ds ∧ V p = none ∧ Fre H0 p ∧ ¬ inS s p
  | _, _, 0, ds, .cons h hs v f i _ t, e => by
    cases e
    exact ⟨_, _, rfl, h, hs, v, f, i⟩
  | _, _, n + 1, ds, .cons h hs v f i _ t, e => t.at (n := n) e
  | _, _, n, ds, .nil, e => by simp at e
/-- one of the lists changes -/
theorem Rws.set {V0 H0 V H : Hp} {s : S} {ws : List L2.V} {es : List D} (hw : DvA K Z V ws es) : ∀ {ps : List Addr} {rs : List (List D)} {n : Nat} {p : Addr}, Rws K Z V0 H0 V H s ps rs → ps[n]? = some p → Rws K Z V0 H0 V (upd H p (.lst ws)) s ps (rs.set n es)
  | _, _, 0, p, .cons h hs v f i nn t, e => by
    cases e
    exact .cons upd_same hw v f i nn (t.upd_ne nn)
  | _, _, n + 1, p, .cons h hs v f i nn t, e => by
    have hp : p ∈ _ := List.mem_of_getElem? (show _[n]? = some p from e)
    exact .cons (by rw [L2.upd_ne fun z => nn (by rw [z]; exact hp)]; exact h) hs v f i nn (t.set hw (n := n) e)
  | _, _, n, p, .nil, e => by simp at e
/-- all the lists are known for good from now on -/
theorem Rws.froz {T : List (Addr × Str)} {V0 H0 V H : Hp} {s s0 : S} : ∀ {ps : List Addr} {rs : List (List D)}, Rws K Z V0 H0 V H s ps rs → Nx s0 s V0 H0 V H → Wd T V H s → ∃ V', Same V V' ∧ Nx s0 s V0 H0 V' H ∧ Wd T V' H s ∧ DvA K Z V' (ps.map L2.V.ref) (rs.map D.lst) ∧ (∀ p, V p = none → p ∉ ps → V' p = none)
  | _, _, .nil, x, w => ⟨V, Same.refl _, x, w, .nil, fun p h _ => h⟩
  | _, _, .cons (p := p) (vs := vs) h hs v f i nn t, x, w => by
    obtain ⟨V', e1, x1, w1, d1, o1⟩ := t.froz x w
    have v1 := o1 p v nn
    refine ⟨upd V' p (.lst vs), e1.trans (Same.new v1), x1.freeze f v1, w1.freeze h (fun _ z => by cases z) i, .cons (.lst upd_same (DvA.mono (e1.trans (Same.new v1)) _ _ hs)) (DvA.mono (Same.new v1) _ _ d1), fun q hq hn => ?_⟩
    have h1 := nmc hn
    rw [L2.upd_ne h1.1]
    exact o1 q hq h1.2
def rowsOf : List D → Option (List (List D))
  | [] => some []
  | d :: ds => match itsD d, rowsOf ds with
    | some r, some rs => some (r :: rs)
    | _, _ => none
theorem rowsOf_at : ∀ {ds : List D} {rs : List (List D)} {i : Nat} {d : D}, rowsOf ds = some rs → ds[i]? = some d → ∃ r, itsD d = some r ∧ rs[i]? = some r
  | d :: ds, rs, i, e, h, hd => by
    unfold rowsOf at h
    cases e1 : itsD d with
    | none =>
      rw [e1] at h
      cases h
    | some r =>
      cases e2 : rowsOf ds with
      | none =>
        rw [e1, e2] at h
        cases h
      | some rr =>
        rw [e1, e2] at h
        cases h
        cases i with
        | zero =>
          cases hd
          exact ⟨r, e1, rfl⟩
        | succ i => exact rowsOf_at (i := i) e2 hd
  | [], _, _, _, _, hd => by simp at hd
theorem rowsOf_len : ∀ {ds : List D} {rs : List (List D)}, rowsOf ds = some rs → rs.length = ds.length
  | [], rs, h => by
    cases h
    rfl
  | d :: ds, rs, h => by
    unfold rowsOf at h
    cases e1 : itsD d with
    | none =>
      rw [e1] at h
      cases h
    | some r =>
      cases e2 : rowsOf ds with
      | none =>
        rw [e1, e2] at h
        cases h
      | some rr =>
        rw [e1, e2] at h
        cases h
        rw [List.length_cons, List.length_cons, rowsOf_len e2]
def rowsE (i : Nat) (ρ : Slots) (rs : List (List D)) (v : D) (n : Nat) (r : List D) (b : D) (s : S) : R Fl := match b with
  | .int k => if 0 ≤ k ∧ k < r.length then .ok (.nx (ρ.set i (.fz (.lst ((rs.set n (r.set k.toNat v)).map D.lst))))) s else .un
  | _ => .un
def rowsA (i : Nat) (fb : Slots → S → R D) (ρ : Slots) (rs : List (List D)) (v a : D) (s : S) : R Fl := match a with
  | .int n => match rs[n.toNat]? with
    | some r => if 0 ≤ n then (fb (ρ.set i .no) s).bind fun b s => rowsE i ρ rs v n.toNat r b s else .un
    | none => .un
  | _ => .un
def rowsK (i : Nat) (fv fa fb : Slots → S → R D) (ρ : Slots) (rs : List (List D)) (s : S) : R Fl := if fits rs.length = true then (fv (ρ.set i .no) s).bind fun v s => (fa (ρ.set i .no) s).bind fun a s => rowsA i fb ρ rs v a s else .un
def rowsS (i r : Nat) (f0 fv fa fb : Slots → S → R D) (ρ : Slots) (s : S) : R Fl := (f0 ρ s).bind fun d s => match (itsD d).bind rowsOf with
  | some rs => if i < ρ.length ∧ r < ρ.length then rowsK i fv fa fb ρ rs s else .un
  | none => .un
/-- its reading -/
def tRows (K : PySem.W.Frag) (i r : Nat) (t0 tv ta tb : TE) : TS := tSeq (tAsg (tLc (iSeq K t0) (gName r) tYes (tCB (fun xs H Q => ∃ p ys, xs = [.ref p] ∧ (SqL K H p ys ∨ SqT K H p ys) ∧ ∀ l, H l = none → Q (.ref l) (upd H l (.lst ys))) (tCons (tVar r) tNil)) [r]) (gName i)) (tAsg tv (gSub (tOp (rIx K) (tVar i) ta) tb rSetL))
theorem itsD_of {V H : Hp} {s : S} {v : L2.V} {d : D} {ds : List D} (w : Wd Z.T V H s) (h : Dv K Z V v d) (e : itsD d = some ds) : ∃ a vs, v = .ref a ∧ (SqL K H a vs ∨ SqT K H a vs) ∧ DvA K Z V vs ds := by
  cases h with
  | lst h hs =>
    cases e
    exact ⟨_, _, rfl, .inl (SqL.of (w.sv _ _ h)), hs⟩
  | rls h hs =>
    cases e
    exact ⟨_, _, rfl, .inl (Evl.ex_l w.sv h), hs⟩
  | tup h hs =>
    cases e
    exact ⟨_, _, rfl, .inr (Evl.ex_t w.sv h), hs⟩
  | _ => cases e
theorem Rws.mem {V0 H0 V H : Hp} {s : S} {q : Addr} : ∀ {ps : List Addr} {rs : List (List D)}, Rws K Z V0 H0 V H s ps rs → q ∈ ps → H q ≠ none
  | _, _, .cons h hs v f i n t, hq => by
    rcases List.mem_cons.mp hq with e | e
    · rw [e, h]
      simp
    · exact t.mem e
abbrev rList (K : PySem.W.Frag) : List L2.V → Hp → VK → Prop := fun xs H Q => ∃ p ys, xs = [.ref p] ∧ (SqL K H p ys ∨ SqT K H p ys) ∧ ∀ l, H l = none → Q (.ref l) (upd H l (.lst ys))
theorem rows_end {i r : Nat} {tv ta tb : TE} {fv fa fb : Slots → S → R D} (hv : Cmp K Z E tv fv) (ha : Cmp K Z E ta fa) (hb : Cmp K Z E tb fb) {s0 s1 : S} {G0 H0 V1 H1 V2 H2 : Hp} {σ : L2.St} {ρ : Slots} {D0 : Ends} {rs : List (List D)} {ps : List Addr} {L : Addr}
    (r1 : RepF K Z s0 G0 H0 V1 H1 σ ρ s1) (li : i < ρ.length) (a1 : AnsS K Z E (rowsK i fv fa fb ρ rs s1) s0 G0 H0 V1 D0) (hL : H1 L = none)
    (n2 : Nx s1 s1 V1 H1 V2 H2) (w2 : Wd Z.T V2 H2 s1) (vL : V2 L = none) (Lp : L ∉ ps) (h2 : H2 L = some (.lst (ps.map L2.V.ref))) (rw2 : Rws K Z V1 H1 V2 H2 s1 ps rs) :
    tAsg tv (gSub (tOp (rIx K) (tVar i) ta) tb rSetL) D0 (σ.set i (some (.ref L))) H2 := by
  have is1 : ¬ inS s1 L := fun y => r1.w.mr.inH y hL
  have r2 := r1.on n2 w2
  have r3 := r2.no i (some (.ref L))
  have σi : (σ.set i (some (L2.V.ref L)))[i]? = some (some (.ref L)) := List.getElem?_set_self (by rw [r1.len]; exact li)
  have a2 := AnsS.later n2.g a1
  unfold rowsK at a2
  by_cases fz : fits rs.length = true
  case neg =>
    rw [if_neg fz] at a2
    exact a2.elim
  rw [if_pos fz] at a2
  refine hv V2 H2 _ _ s1 _ w2 r3.p (AnsS.bindF r3 a2 fun dv s3 v V3 H3 n3 w3 rv a3 => ?_)
  have r4 := r3.on n3 w3
  refine ⟨.ref L, σi, ha V3 H3 _ _ s3 _ w3 r4.p (AnsS.bindF r4 a3 fun da s4 av V4 H4 n4 w4 ra a4 => ?_)⟩
  have r5 := r4.on n4 w4
  cases ra with
  | int n =>
    unfold rowsA at a4
    simp only at a4
    cases er : rs[n.toNat]? with
    | none =>
      rw [er] at a4
      exact a4.elim
    | some row =>
      rw [er] at a4
      simp only at a4
      by_cases n0 : 0 ≤ n
      case neg =>
        rw [if_neg n0] at a4
        exact a4.elim
      rw [if_pos n0] at a4
      have x4 := n3.trans n4
      have is4 : ¬ inS s3 L := by rw [inS_of n3.a]; exact is1
      have is5 : ¬ inS s4 L := by rw [inS_of n4.a]; exact is4
      have h3 := n3.h L _ h2 (fun _ z => by cases z) is1
      have h4 := n4.h L _ h3 (fun _ z => by cases z) is4
      have v4 := x4.not vL h2 (fun _ z => by cases z)
      have rw4 := rw2.later x4
      obtain ⟨p, vs, ep, hp, hs, vp, fp, ip⟩ := rw4.at er
      have ln := rw4.len
      have ln2 : n.toNat < rs.length := (List.getElem?_eq_some_iff.mp er).1
      refine .inl ⟨L, ps.map L2.V.ref, n, .ref p, rfl, rfl, SqL.of h4, ?_, ?_⟩
      · unfold L2.atI ixN
        rw [List.length_map, if_pos n0, if_pos (by omega)]
        show (ps.map L2.V.ref)[n.toNat]? = _
        rw [List.getElem?_map, ep]
        rfl
      · refine hb V4 H4 _ _ s4 _ w4 r5.p (AnsS.bindF r5 a4 fun db s5 bv V5 H5 n5 w5 rb a5 => ?_)
        unfold rowsE at a5
        cases rb with
        | int k =>
          simp only at a5
          by_cases kk : 0 ≤ k ∧ k < row.length
          case neg =>
            rw [if_neg kk] at a5
            exact a5.elim
          rw [if_pos kk] at a5
          have x5 := (n2.trans x4).trans n5
          have rw5 := rw4.later n5
          have h5 := n5.h L _ h4 (fun _ z => by cases z) is5
          have v5 := n5.not v4 h4 (fun _ z => by cases z)
          have hp5 := n5.h p _ hp (fun _ z => by cases z) ip
          have vp5 := n5.not vp hp (fun _ z => by cases z)
          have ip5 : ¬ inS s5 p := by rw [inS_of n5.a]; exact ip
          have is6 : ¬ inS s5 L := by rw [inS_of n5.a]; exact is5
          have hs5 := DvA.mono n5.g _ _ hs
          have rv5 := Dv.mono (n4.g.trans n5.g) _ _ rv
          refine ⟨p, vs, k, k.toNat, rfl, rfl, hp5, ?_, ?_⟩
          · unfold ixN
            rw [if_pos kk.1, if_pos (by rw [hs.len]; exact kk.2)]
          · have rw6 := rw5.set (hs5.set k.toNat rv5) ep
            have x6 := x5.mut (o := .lst (vs.set k.toNat v)) fp
            have w6 := w5.mut (o := .lst (vs.set k.toNat v)) hp5 vp5 ip5 (fun _ z => by cases z) (fun _ z => by cases z)
            obtain ⟨V7, e7, x7, w7, d7, o7⟩ := rw6.froz x6 w6
            have pm : p ∈ ps := List.mem_of_getElem? ep
            have Lnp : L ≠ p := fun z => Lp (by rw [z]; exact pm)
            have h7 : (upd H5 p (.lst (vs.set k.toNat v))) L = some (.lst (ps.map L2.V.ref)) := by
              rw [L2.upd_ne Lnp]
              exact h5
            have v7 := o7 L v5 Lp
            have x8 := x7.freeze (p := L) (o := .lst (ps.map L2.V.ref)) (.inl hL) v7
            have w8 := w7.freeze h7 (fun _ z => by cases z) is6
            have e8 : Same V7 (upd V7 L (.lst (ps.map L2.V.ref))) := Same.new v7
            exact a5 _ _ _ (e7.trans e8) ((r1.on x8 w8).set (.lst upd_same (DvA.mono e8 _ _ d7)))
        | _ => exact a5.elim
  | _ => exact a4.elim
theorem cs_rows {i r : Nat} {t0 tv ta tb : TE} {f0 fv fa fb : Slots → S → R D} (h0 : Cmp K Z E t0 f0) (hv : Cmp K Z E tv fv) (ha : Cmp K Z E ta fa) (hb : Cmp K Z E tb fb) : CmpS K Z E (tRows K i r t0 tv ta tb) (rowsS i r f0 fv fa fb) := fun s0 G0 H0 G H σ ρ s D0 rr a => by
  refine h0 G H σ ρ s _ rr.w rr.p (AnsS.bindF rr a fun d s1 v V1 H1 n1 w1 rd a1 => ?_)
  cases ed : itsD d with
  | none =>
    rw [ed] at a1
    exact a1.elim
  | some ds =>
    rw [ed] at a1
    replace a1 : AnsS K Z E (match rowsOf ds with | some rs => if i < ρ.length ∧ r < ρ.length then rowsK i fv fa fb ρ rs s1 else .un | none => .un) s0 G0 H0 V1 D0 := a1
    cases er : rowsOf ds with
    | none =>
      rw [er] at a1
      exact a1.elim
    | some rs =>
      rw [er] at a1
      replace a1 : AnsS K Z E (if i < ρ.length ∧ r < ρ.length then rowsK i fv fa fb ρ rs s1 else .un) s0 G0 H0 V1 D0 := a1
      by_cases l : i < ρ.length ∧ r < ρ.length
      case neg =>
        rw [if_neg l] at a1
        exact a1.elim
      rw [if_pos l] at a1
      have r1 := rr.on n1 w1
      have ln := rowsOf_len er
      have main : ∀ J, ItR K Z V1 J ds → ∀ L, H1 L = none → ∃ W : Nat → Nat → Hp → Prop, (∃ m, W 0 m (upd H1 L (.lst []))) ∧ ∀ k m H, W k m H →
          (J.stop k H ∧ gName i (.ref L) σ H fun σ H => tAsg tv (gSub (tOp (rIx K) (tVar i) ta) tb rSetL) D0 σ H) ∨ (J.go k H ∧ ∃ Nx : Hp → Prop, (∀ H', Nx H' → ∃ m', m' < m ∧ W (k + 1) m' H') ∧ ∀ x H', J.yld k H x H' → gName r x (wipe σ [r]) H' fun σ2 H2 => wipe σ2 [r] = wipe σ [r] ∧ tYes σ2 H2 fun b H3 =>
            if b = true then (tCB (rList K) (tCons (tVar r) tNil)) σ2 H3 fun y H4 => ∃ acc, H4 L = some (.lst acc) ∧ acc.length < sizeLine ∧ Nx (upd H4 L (.lst (acc ++ [y]))) else Nx H3) := by
        intro J it L hL
        have gL : V1 L = none := w1.sv.free hL
        have iL : ¬ inS s1 L := fun y => w1.mr.inH y hL
        refine ⟨fun k m H2 => m = ds.length - k ∧ k ≤ ds.length ∧ ∃ V2 ps, Nx s1 s1 V1 H1 V2 H2 ∧ Wd Z.T V2 H2 s1 ∧ V2 L = none ∧ L ∉ ps ∧ H2 L = some (.lst (ps.map L2.V.ref)) ∧ Rws K Z V1 H1 V2 H2 s1 ps (rs.take k),
          ⟨ds.length, by simp, Nat.zero_le _, V1, [], Nx.up hL, w1.up hL, gL, by simp, upd_same, by rw [List.take_zero]; exact .nil⟩, ?_⟩
        rintro k m H2 ⟨rfl, hk, V2, ps, n2, w2, v2, Lp, h2, rw2⟩
        by_cases lk : k < ds.length
        · refine .inr ⟨it.go k V2 H2 n2.g w2.sv lk, fun H3 => ∃ V2 ps, Nx s1 s1 V1 H1 V2 H3 ∧ Wd Z.T V2 H3 s1 ∧ V2 L = none ∧ L ∉ ps ∧ H3 L = some (.lst (ps.map L2.V.ref)) ∧ Rws K Z V1 H1 V2 H3 s1 ps (rs.take (k + 1)), fun H3 y => ⟨ds.length - (k + 1), by omega, rfl, lk, y⟩, fun x H3 y => ?_⟩
          obtain ⟨d1, ed1, y⟩ := it.yld k V2 H2 x H3 n2.g w2.sv lk y
          obtain ⟨row, e1, e2⟩ := rowsOf_at er ed1
          have go : ∀ V3, Nx s1 s1 V2 H2 V3 H3 → Wd Z.T V3 H3 s1 → Dv K Z V3 x d1 → V3 L = none → H3 L = some (.lst (ps.map L2.V.ref)) → gName r x (wipe σ [r]) H3 fun σ2 H2 => wipe σ2 [r] = wipe σ [r] ∧ tYes σ2 H2 fun b H3 =>
              if b = true then (tCB (rList K) (tCons (tVar r) tNil)) σ2 H3 fun y H4 => ∃ acc, H4 L = some (.lst acc) ∧ acc.length < sizeLine ∧ (∃ V2 ps, Nx s1 s1 V1 H1 V2 (upd H4 L (.lst (acc ++ [y]))) ∧ Wd Z.T V2 (upd H4 L (.lst (acc ++ [y]))) s1 ∧ V2 L = none ∧ L ∉ ps ∧ (upd H4 L (.lst (acc ++ [y]))) L = some (.lst (ps.map L2.V.ref)) ∧ Rws K Z V1 H1 V2 (upd H4 L (.lst (acc ++ [y]))) s1 ps (rs.take (k + 1))) else (∃ V2 ps, Nx s1 s1 V1 H1 V2 H3 ∧ Wd Z.T V2 H3 s1 ∧ V2 L = none ∧ L ∉ ps ∧ H3 L = some (.lst (ps.map L2.V.ref)) ∧ Rws K Z V1 H1 V2 H3 s1 ps (rs.take (k + 1))) := by
            intro V3 n3 w3 hd v3 h3
            refine ⟨(wipe_set (List.mem_singleton.mpr rfl)).trans (wipe_wipe σ [r] [r] fun _ h => h), ?_⟩
            unfold tYes
            dsimp only
            rw [if_pos rfl]
            obtain ⟨b, vs, rfl, hsq, hs⟩ := itsD_of w3 hd e1
            refine ⟨.ref b, ?_, b, vs, rfl, hsq, fun q hq => ?_⟩
            · show ((wipe σ [r]).set r (some (L2.V.ref b)))[r]? = _
              refine List.getElem?_set_self ?_
              show r < (σ.set r none).length
              rw [List.length_set, r1.len]
              exact l.2
            · have Lq : L ≠ q := ne_of_none h3 hq
              have rw3 := rw2.later n3
              have qp : q ∉ ps := fun z => rw3.mem z hq
              have iq : ¬ inS s1 q := fun y => w3.mr.inH y hq
              have hL4 : (upd H3 q (.lst vs)) L = some (.lst (ps.map L2.V.ref)) := by
                rw [L2.upd_ne Lq]
                exact h3
              have lp := rw3.len
              refine ⟨ps.map L2.V.ref, hL4, ?_, V3, ps ++ [q], ((n2.trans n3).trans (Nx.up hq)).mut (.inl hL), (w3.up hq).mut hL4 v3 iL (fun _ z => by cases z) (fun _ z => by cases z), v3, ?_, ?_, ?_⟩
              · rw [List.length_map, lp, List.length_take]
                refine Nat.lt_of_le_of_lt (Nat.min_le_right _ _) ?_
                by_cases fz : fits rs.length = true
                · exact fits_lt fz
                · unfold rowsK at a1
                  rw [if_neg fz] at a1
                  exact a1.elim
              · intro z
                rcases List.mem_append.mp z with z | z
                · exact Lp z
                · exact Lq (List.mem_singleton.mp z)
              · rw [upd_same, List.map_append]
                rfl
              · have e9 : rs.take (k + 1) = rs.take k ++ [row] := by
                  rw [List.take_add_one, e2]
                  rfl
                rw [e9]
                refine ((rw3.upd_ne (o := .lst vs) qp).snoc upd_same hs (w3.sv.free hq) ((n2.trans n3).k q (.inl hq)) iq qp).upd_ne fun z => ?_
                rcases List.mem_append.mp z with z | z
                · exact Lp z
                · exact Lq (List.mem_singleton.mp z)
          rcases y with ⟨rfl, hd⟩ | ⟨T, xs, rfl, nT, rfl, hd⟩
          · exact go V2 (Nx.refl _ _ _) w2 hd v2 h2
          · have ne : L ≠ T := ne_of_none h2 nT
            exact go _ (Nx.new w2 nT) (w2.new nT fun _ z => by cases z) hd (by rw [L2.upd_ne ne]; exact v2) (by rw [L2.upd_ne ne]; exact h2)
        · have ek : k = ds.length := by omega
          subst ek
          rw [List.take_of_length_le (by omega)] at rw2
          exact .inl ⟨it.stop V2 H2 n2.g w2.sv, rows_end (r := r) hv ha hb r1 l.1 a1 hL n2 w2 v2 Lp h2 rw2⟩
      cases rd with
      | @lst b vs _ hx hs =>
        cases ed
        exact ⟨b, rfl, .inl ⟨⟨_, Evl.ex_l w1.sv (SqL.of hx)⟩, main _ (itR_list (SqL.of hx) hs)⟩⟩
      | @rls b vs _ hx hs =>
        cases ed
        exact ⟨b, rfl, .inl ⟨⟨_, Evl.ex_l w1.sv hx⟩, main _ (itR_list hx hs)⟩⟩
      | @tup b vs _ hx hs =>
        cases ed
        exact ⟨b, rfl, .inr ⟨⟨_, Evl.ex_t w1.sv hx⟩, main _ (itR_tup hx hs)⟩⟩
      | _ => cases ed
end
end Pp

/-! PpE: a, b = list(x), []; what stands between statements. -/
namespace Pp
open PySem PySem.Spec PyProof.Rows L2 Pg Pf LamX Rul
abbrev rTuple (K : PySem.W.Frag) : List L2.V → Hp → VK → Prop := fun xs H Q => ∃ p ys, xs = [.ref p] ∧ ((SqL K H p ys ∧ ∀ l, H l = none → Q (.ref l) (upd H l (.tup ys))) ∨ (SqT K H p ys ∧ Q (.ref p) H))
section
variable {K : PySem.W.Frag} {Z : Zn} {E : XK}
theorem cs_rowsThen {i r : Nat} {t0 tv ta tb : TE} {f0 fv fa fb : Slots → S → R D} {t3 : TS} {F3 : Slots → S → R Fl} (h0 : Cmp K Z E t0 f0) (hv : Cmp K Z E tv fv) (ha : Cmp K Z E ta fa) (hb : Cmp K Z E tb fb) (h3 : CmpS K Z E t3 F3) :
    CmpS K Z E (tSeq (tAsg (tLc (iSeq K t0) (gName r) tYes (tCB (rList K) (tCons (tVar r) tNil)) [r]) (gName i)) (tSeq (tAsg tv (gSub (tOp (rIx K) (tVar i) ta) tb rSetL)) t3)) (seqS (rowsS i r f0 fv fa fb) F3) := by
  have h := cs_seq (cs_rows (i := i) (r := r) h0 hv ha hb) h3
  exact h
def parW (i j : Nat) (f : Slots → S → R D) (ρ : Slots) (s : S) : R Fl := (f ρ s).bind fun d s => match itsD d with
  | some ds => if fits ds.length = true then .ok (.nx ((ρ.set i (.ow (.ls ds))).set j (.ow (.ls [])))) s else .un
  | none => .un
theorem cs_parW {i j : Nat} (ij : i ≠ j) {te : TE} {f : Slots → S → R D} (h : Cmp K Z E te f) : CmpS K Z E (tPar i j (tCons (tCB (rList K) (tCons te tNil)) (tCons (tLst tNil) tNil))) (parW i j f) := fun s0 G0 H0 G H σ ρ s D0 r a => by
  refine h G H σ ρ s _ r.w r.p (AnsS.bindF r a fun d s1 v V1 H1 n1 w1 rd a1 => ?_)
  cases ed : itsD d with
  | none =>
    rw [ed] at a1
    exact a1.elim
  | some ds =>
    rw [ed] at a1
    replace a1 : AnsS K Z E (if fits ds.length = true then .ok (.nx ((ρ.set i (.ow (.ls ds))).set j (.ow (.ls [])))) s1 else .un) s0 G0 H0 V1 D0 := a1
    by_cases z : fits ds.length = true
    · rw [if_pos z] at a1
      obtain ⟨b, vs, rfl, hsq, hs⟩ := itsD_of w1 rd ed
      refine ⟨b, vs, rfl, hsq, fun q hq => ?_⟩
      refine ⟨by decide, fun q2 hq2 => ⟨.ref q, .ref q2, rfl, ?_⟩⟩
      have r1 := r.on n1 w1
      have iq : ¬ inS s1 q := fun y => w1.mr.inH y hq
      have w2 := w1.up (o := .lst vs) hq
      have r2 := r1.on (Nx.up (o := .lst vs) hq) w2
      have nq : q ≠ q2 := fun z => by
        rw [← z, upd_same] at hq2
        cases hq2
      have iq2 : ¬ inS s1 q2 := fun y => w2.mr.inH y hq2
      have w3 := w2.up (o := .lst []) hq2
      have r3 := r2.on (Nx.up (o := .lst []) hq2) w3
      have hq3 : (upd (upd H1 q (.lst vs)) q2 (.lst [])) q = some (.lst vs) := by
        rw [L2.upd_ne nq]
        exact upd_same
      have r4 := r3.own (i := i) hq3 (.ls hs) (w1.sv.free hq) iq (r1.nx.k q (.inl hq)) fun j o ej ef => (r1.fr (.inl hq) ej ef).elim
      have r5 := r4.own (i := j) (u := .lst []) upd_same (HD.ls .nil) (w2.sv.free hq2) iq2 (r2.nx.k q2 (.inl hq2)) fun j2 o ej ef => by
        by_cases e : j2 = i
        · subst e
          have l : j2 < σ.length := by
            have := (List.getElem?_eq_some_iff.mp ej).1
            rw [List.length_set] at this
            rw [r.len]
            exact this
          rw [List.getElem?_set_self l] at ef
          injection ef with ef
          injection ef with ef
          injection ef with ef
          exact absurd ef nq
        · rw [List.getElem?_set_ne (Ne.symm e)] at ej ef
          exact (r2.fr (.inl hq2) ej ef).elim
      exact a1 _ V1 _ (Same.refl _) r5
    · rw [if_neg z] at a1
      exact a1.elim
/-- one's own list is known for good from now on -/
theorem RepF.frz1 {s0 s : S} {G0 H0 G H : Hp} {σ : L2.St} {ρ : Slots} (r : RepF K Z s0 G0 H0 G H σ ρ s) {j : Nat} {es : List D} {c : Addr} {ws : List L2.V} (ej : ρ[j]? = some (.ow (.ls es))) (ef : σ[j]? = some (some (.ref c))) (hc : H c = some (.lst ws)) (hs : DvA K Z G ws es) (gc : G c = none) (ic : ¬ inS s c) :
    RepF K Z s0 G0 H0 (upd G c (.lst ws)) H σ (ρ.set j (.fz (.lst es))) s := by
  have l : j < ρ.length := (List.getElem?_eq_some_iff.mp ej).1
  have n0 := r.new j _ c ej ef
  have sm : Same G (upd G c (.lst ws)) := Same.new gc
  have old : ∀ {k : Nat} {x : Sl}, (ρ.set j (.fz (.lst es)))[k]? = some x → (k = j ∧ x = .fz (.lst es)) ∨ (k ≠ j ∧ ρ[k]? = some x) := fun {k x} e => by
    by_cases z : k = j
    · subst z
      rw [List.getElem?_set_self l] at e
      exact .inl ⟨rfl, (Option.some.inj e).symm⟩
    · rw [List.getElem?_set_ne (Ne.symm z)] at e
      exact .inr ⟨z, e⟩
  refine ⟨r.nx.freeze n0 gc, r.w.freeze hc (fun _ z => by cases z) ic, ⟨fun k d e => ?_, fun k o e => ?_, by rw [List.length_set]; exact r.len⟩, fun k o a e1 e2 => ?_, fun k m o u a n e1 e2 e3 e4 => ?_, by rw [List.length_set]; exact r.len⟩
  · rcases old e with ⟨rfl, y⟩ | ⟨z, e⟩
    · cases y
      exact ⟨.ref c, ef, .lst upd_same (DvA.mono sm _ _ hs)⟩
    · obtain ⟨v, h1, h2⟩ := r.p.fz k d e
      exact ⟨v, h1, Dv.mono sm _ _ h2⟩
  · rcases old e with ⟨rfl, y⟩ | ⟨z, e⟩
    · cases y
    · obtain ⟨a, u, h1, h2, h3, h4, h5⟩ := r.p.ow k o e
      refine ⟨a, u, h1, h2, h3.mono sm, ?_, h5⟩
      rw [L2.upd_ne fun y => r.dis k j o _ a z e ej h1 (by rw [y]; exact ef)]
      exact h4
  · rcases old e1 with ⟨rfl, y⟩ | ⟨z, e⟩
    · cases y
    · exact r.new k o a e e2
  · rcases old e1 with ⟨rfl, y⟩ | ⟨z, e⟩
    · cases y
    · rcases old e2 with ⟨rfl, y⟩ | ⟨z2, f⟩
      · cases y
      · exact r.dis k m o u a n e f e3 e4
/-- x.append(y), y one's own -/
def appO (i j : Nat) (ρ : Slots) (s : S) : R Fl := match ρ[i]?, ρ[j]? with
  | some (.ow (.ls ds)), some (.ow (.ls es)) => if fits (ds.length + 1) = true then .ok (.nx ((ρ.set j (.fz (.lst es))).set i (.ow (.ls (ds ++ [.lst es]))))) s else .un
  | _, _ => .un
theorem cs_appO {i j : Nat} (ij : i ≠ j) : CmpS K Z E (tDrop (tBM K "list" rAppend (tVar i) (tCons (tVar j) tNil))) (appO i j) := fun s0 G0 H0 G H σ ρ s D0 r a => by
  unfold appO at a
  match ei : ρ[i]?, ej : ρ[j]?, a with
  | some (.ow (.ls ds)), some (.ow (.ls es)), a =>
    obtain ⟨b, u, h1, h2, h3, h4, h5⟩ := r.p.ow i _ ei
    obtain ⟨c, u', k1, k2, k3, k4, k5⟩ := r.p.ow j _ ej
    cases h3 with
    | @ls vs _ hs =>
      cases k3 with
      | @ls ws _ ks =>
        by_cases z : fits (ds.length + 1) = true
        · simp only [if_pos z] at a
          have r1 := r.frz1 ej k1 k2 ks k4 k5
          have ei2 : (ρ.set j (.fz (.lst es)))[i]? = some (.ow (.ls ds)) := by
            rw [List.getElem?_set_ne (Ne.symm ij)]
            exact ei
          have sm : Same G (upd G c (.lst ws)) := Same.new k4
          refine ⟨.ref b, h1, .inl ⟨rfl, _, SqL.of h2⟩, .ref c, k1, b, vs, .ref c, rfl, rfl, h2, ?_, ?_⟩
          · rw [hs.len]
            have := fits_lt z
            omega
          · exact a _ _ _ sm (r1.mut ei2 h1 (HD.ls ((DvA.mono sm _ _ hs).snoc (.lst upd_same (DvA.mono sm _ _ ks)))))
        · simp only [if_neg z] at a
          exact a.elim
  | none, _, a => exact a.elim
  | some .no, _, a => exact a.elim
  | some (.fz d), _, a => exact a.elim
  | some (.ow (.is c ns ds)), _, a => exact a.elim
  | some (.ow (.ls ds)), none, a => exact a.elim
  | some (.ow (.ls ds)), some .no, a => exact a.elim
  | some (.ow (.ls ds)), some (.fz d), a => exact a.elim
  | some (.ow (.ls ds)), some (.ow (.is c ns es)), a => exact a.elim
end
end Pp

set_option maxHeartbeats 2000000
set_option maxHeartbeats 1000000
namespace W2
open PySem PySem.Spec PyProof.Rows L2 Pg Pf LamX Pp Tab Rul
section
variable {P : Program} {w : World} {K : PySem.W.Frag} {mg : Str → Option Value} {base : Heap} {Z : Zn} {k c n : Nat} {x : Str} {ps : List Str} {f : Addr} {fd : FuncData} {sp old : Sp} {F : List D → S → R D}
/-- what lets nothing out, where something may be let out -/
theorem fnok_up (h : FnOk P w K mg base CX0 k f fd ps old) (imp : ∀ vs H Q E, sp vs H Q E → old vs H Q E) (len : ∀ vs H Q E, sp vs H Q E → vs.length = ps.length) : FnOk P w K mg base (L2.CX P w) k f fd ps sp :=
  ⟨len, fun A outer s H args us vs Q E hr e0 hb r q => codeAny_mono (h.run A outer s H args us vs Q E hr e0 hb r (imp _ _ _ _ q)) fun r s' hq => by
    cases r with
    | error e => exact False.elim hq
    | ok fl =>
      cases fl with
      | ret u => exact hq
      | next => exact False.elim hq
      | brk => exact False.elim hq
      | cont => exact False.elim hq⟩
theorem CalO.up (h : CalO P w K mg base k x old) (imp : ∀ vs H Q E, spD K Z n F vs H Q E → old vs H Q E) : CalD P w K mg base Z k x n F := by
  obtain ⟨f, fd, ps, Fn, m, kp, b⟩ := h.ex
  exact ⟨f, fd, ps, fnok_up Fn imp fun vs H Q E q => Fn.len vs H Q E (imp vs H Q E q), m, kp, b⟩
theorem Mo.up {C : Addr} (hZ : Z.cl c = C) (h : Mo P w K mg base k C x old) (na : x ∉ nm c) (imp : ∀ vs H Q E, spD K Z n F vs H Q E → old vs H Q E) : MetD P w K mg base Z k c x n F := by
  subst hZ
  obtain ⟨f, fd, ps, cl, me, Fn, b⟩ := h.ex
  exact ⟨⟨f, fd, ps, fnok_up Fn imp fun vs H Q E q => Fn.len vs H Q E (imp vs H Q E q), me, b⟩, cl, na⟩
end
section
variable {P : Program} {w : World} {K : PySem.W.Frag} {mg : Str → Option Value} {base : Heap} {Z : Zn} {f : Addr} {oc dV kV doc pm cdv ct : Value} {od an : Option Addr} {osl : Array (Option Value)}
end
end W2
namespace W2
open PySem PySem.Spec PyProof.Rows L2 Pg Pf LamX Pp Tab Rul
end W2
namespace W2
open PySem PySem.Spec PyProof.Rows L2 Pg Pf LamX Pp Tab Rul
theorem eqF_int (a b : Int) (s : S) : eqF (.int a) (.int b) s = .ok (.bl (decide (a = b))) s := by
  unfold eqF
  rw [if_pos (by rfl)]
  rfl
section
variable {e l k : Nat} {c t : Cf} {ns cl : List Int} {ro lo : Option Nat}
end
end W2
namespace W2
open PySem PySem.Spec PyProof.Rows L2 Pg Pf LamX Pp Tab Rul
section
variable {P : Program} {w : World} {K : PySem.W.Frag} {mg : Str → Option Value} {base : Heap} {Z : Zn} {f fC fA DC DA : Addr} {fd : FuncData} {docC pmC cdC ctC kvA docA pmA cdA ctA : Value} {anC anA : Option Addr}
end
end W2
namespace W2
open PySem PySem.Spec PyProof.Rows L2 Pg Pf LamX Pp Tab Rul
section
variable {P : Program} {w : World} {K : PySem.W.Frag} {mg : Str → Option Value} {base : Heap} {Z : Zn} {f : Addr} {fd : FuncData}
end
end W2
namespace W2
open PySem PySem.Spec PyProof.Rows L2 Pg Pf LamX Pp Tab Rul
/-- a loop over a range, by what holds ahead of each turn -/
theorem for_rng {g : D → Slots → Option Slots} {F : Slots → S → R Fl} {s : S} (P : Nat → Slots → Prop) : ∀ (n m : Nat) {ρ : Slots}, P m ρ →
    (∀ i ρ, m ≤ i → i < m + n → P i ρ → ∃ ρ1 ρ2, g (.int (0 + (i : Nat))) ρ = some ρ1 ∧ F ρ1 s = .ok (.nx ρ2) s ∧ P (i + 1) ρ2) →
    ∃ ρ', forL g F ((List.range' m n).map fun i => D.int (0 + (i : Nat))) ρ s = .ok (.nx ρ') s ∧ P (m + n) ρ'
  | 0, m, ρ, h, _ => ⟨ρ, rfl, h⟩
  | n + 1, m, ρ, h, step => by
    obtain ⟨ρ1, ρ2, e1, e2, h2⟩ := step m ρ (Nat.le_refl _) (by omega) h
    obtain ⟨ρ', e3, h3⟩ := for_rng P n (m + 1) h2 fun i ρ a b p => step i ρ (by omega) (by omega) p
    refine ⟨ρ', ?_, by rw [show m + (n + 1) = m + 1 + n by omega]; exact h3⟩
    rw [List.range'_succ, List.map_cons]
    show (match g (.int (0 + (m : Nat))) ρ with | none => R.un | some ρ1 => (F ρ1 s).bind (forK fun ρ s => forL g F ((List.range' (m + 1) n).map fun i => D.int (0 + (i : Nat))) ρ s)) = _
    rw [e1]
    show (F ρ1 s).bind _ = _
    rw [e2]
    exact e3
section
variable {e l k : Nat} {c : Cf} {ns : List Int} {ro lo : Option Nat}
theorem rgB_nat {n : Nat} (hn : n ≤ 12) : rgB ((n : Nat) : Int) = true := by
  have h62 : (2 : Int) ^ 62 = 4611686018427387904 := by decide +kernel
  unfold rgB
  rw [h62, Bool.and_eq_true, decide_eq_true_eq, decide_eq_true_eq]
  omega
theorem seq_nx {F G : Slots → S → R Fl} {ρ ρ' : Slots} {s : S} (h : F ρ s = .ok (.nx ρ') s) : seqS F G ρ s = G ρ' s := by
  unfold seqS
  rw [h]
  rfl
theorem rg_of {f : Slots → S → R D} {ρ : Slots} {s : S} {n : Nat} (h : f ρ s = .ok (.int (n : Nat)) s) (hn : n ≤ 12) : rgI rg1F (cnsA f nilA) ρ s = .ok (rngD 0 n) s := by
  unfold rgI cnsA
  rw [h]
  simp only [R.bind, nilA, rg1F, rgB_nat hn, if_true, Int.toNat_natCast]
end
end W2
namespace W2
open PySem PySem.Spec PyProof.Rows L2 Pg Pf LamX Pp Tab Rul
section
variable {e l k : Nat} {c : Cf} {ns : List Int} {ro lo : Option Nat}
end
end W2
set_option maxHeartbeats 2000000
namespace W2
open PySem PySem.Spec PyProof.Rows L2 Pg Pf LamX Pp Tab Rul
theorem passX0 {X : Cx} : Passes (L2.CX X.prog X.w) X E0 := fun _ _ _ _ _ _ _ c => by
  obtain ⟨_, _, _, _, _, _, _, _, _, _, _, _, h⟩ := c
  exact h.elim
section
variable {P : Program} {w : World} {K : PySem.W.Frag} {mg : Str → Option Value} {base : Heap} {Z : Zn} {f c Pt : Addr} {fd : FuncData}
end
end W2
set_option maxHeartbeats 1000000
namespace W2
open PySem PySem.Spec PyProof.Rows L2 Pg Pf LamX Pp Tab Rul
section
variable {e l k : Nat} {c : Cf} {ns : List Int} {ro lo : Option Nat}
end
end W2
namespace W2
open PySem PySem.Spec PyProof.Rows L2 Pg Pf LamX Pp Tab Rul
section
variable {e l k : Nat} {c : Cf} {ns : List Int} {ro lo : Option Nat} {m a q : Addr} {b : Nat}
theorem bC_of {op : List D → S → R D} {fa : Slots → S → R (List D)} {ρ : Slots} {s s' : S} {ds : List D} (h : fa ρ s = .ok ds s') : bC op fa ρ s = op ds s' := by
  unfold bC
  rw [h]
  rfl
end
end W2
set_option maxHeartbeats 2000000
namespace W2
open PySem PySem.Spec PyProof.Rows L2 Pg Pf LamX Pp Tab Rul
section
variable {P : Program} {w : World} {K : PySem.W.Frag} {mg : Str → Option Value} {base : Heap} {Z : Zn} {f c Pt : Addr} {fd : FuncData}
end
end W2
namespace W2
open PySem PySem.Spec PyProof.Rows L2 Pg Pf LamX Pp Tab Rul
section
variable {P : Program} {w : World} {K : PySem.W.Frag} {mg : Str → Option Value} {base : Heap} {Z : Zn} {f c Pt : Addr} {fd : FuncData}
end
end W2
namespace W2
open PySem PySem.Spec PyProof.Rows L2 Pg Pf LamX Pp Tab Rul
section
variable {P : Program} {w : World} {K : PySem.W.Frag} {mg : Str → Option Value} {base : Heap} {Z : Zn} {f c Pt : Addr} {fd : FuncData}
end
end W2
namespace W2
open PySem PySem.Spec PyProof.Rows L2 Pg Pf LamX Pp Tab Rul
def F_wayN (ds : List D) (s : S) : R D := match ds with
  | [.int r, .int l, .int k] => if 1 ≤ r ∧ r ≤ 6 ∧ 1 ≤ l ∧ l ≤ 6 ∧ 1 ≤ k ∧ k ≤ 12 then .ok (wayD r.toNat l.toNat k.toNat fun _ _ => rangeI k) s else .un
  | _ => .un
section
variable {K : PySem.W.Frag} {Z : Zn} {E : XK} {C : Addr} {ua : TA} {fa : Slots → S → R (List D)}
theorem c_mkWay (hC : Z.cl 0 = C) (ha : CmpA K Z E ua fa) : Cmp K Z E (tMk C (spInit K C) ua) (bC F_wayN fa) := fun V H σ ρ s Q w p a =>
  ha V H σ ρ s _ w p (Ans.bind a fun ds s1 vs V1 H1 n1 w1 r1 a1 => by
    unfold F_wayN at a1
    split at a1
    · rename_i ri li ki
      match r1 with
      | .cons (.int _) (.cons (.int _) (.cons (.int _) .nil)) =>
        by_cases e : 1 ≤ ri ∧ ri ≤ 6 ∧ 1 ≤ li ∧ li ≤ 6 ∧ 1 ≤ ki ∧ ki ≤ 12
        · rw [if_pos e] at a1
          obtain ⟨r, rfl⟩ : ∃ n : Nat, ri = n := ⟨ri.toNat, by omega⟩
          obtain ⟨l, rfl⟩ : ∃ n : Nat, li = n := ⟨li.toNat, by omega⟩
          obtain ⟨k, rfl⟩ : ∃ n : Nat, ki = n := ⟨ki.toNat, by omega⟩
          simp only [Int.toNat_natCast] at a1
          refine mk_way w1.sv (by omega) (by omega) (by omega) (by omega) (by omega) (by omega) fun x G' H' f W => ?_
          obtain ⟨V', n, w', x'⟩ := fut_wd w1 f
          exact a1 _ V' H' n w' (WayAt.dv hC (W.ext x'))
        · rw [if_neg e] at a1
          exact a1.elim
    · exact a1.elim)
end
section
variable {P : Program} {w : World} {K : PySem.W.Frag} {mg : Str → Option Value} {base : Heap} {Z : Zn} {f c Pt : Addr} {fd : FuncData}
end
end W2
set_option maxHeartbeats 1000000
namespace W2
open PySem PySem.Spec PyProof.Rows L2 Pg Pf LamX Pp Tab Rul
theorem lc_map {ρ : Slots} {n : Nat} {f : Slots → S → R D} {g : D → D} : ∀ (ds : List D) (s : S), (∀ d ∈ ds, ∀ s, f (ρ.set n (.fz d)) s = .ok (g d) s) → lcL (gN n) yesT f ρ ds s = .ok (ds.map g) s
  | [], s, _ => rfl
  | d :: ds, s, h => by
    show (noex (f (ρ.set n (.fz d)) s)).bind (fun y s => (lcL (gN n) yesT f ρ ds s).bind fun ys s => R.ok (y :: ys) s) = _
    rw [h d (List.mem_cons_self ..)]
    show (lcL (gN n) yesT f ρ ds s).bind (fun ys s => R.ok (g d :: ys) s) = _
    rw [lc_map ds s fun x hx => h x (List.mem_cons_of_mem _ hx)]
    rfl
theorem bC1 {op : List D → S → R D} {f : Slots → S → R D} {ρ : Slots} {s s' : S} {d : D} (h : f ρ s = .ok d s') : bC op (cnsA f nilA) ρ s = op [d] s' := by
  unfold bC cnsA
  rw [h]
  rfl
section
variable {e l k : Nat} {c : Cf} {ns : List Int} {m a q : Addr} {b : Nat}
end
end W2
namespace W2
open PySem PySem.Spec PyProof.Rows L2 Pg Pf LamX Pp Tab Rul
/-- a for over range(n), by what holds before each turn -/
theorem for_rg {v : Nat} {F : Slots → S → R Fl} {fi : Slots → S → R (List D)} {ρ : Slots} {s : S} {n : Nat} (P : Nat → Slots → Prop) (hi : fi ρ s = .ok (rngD 0 n) s) (h0 : P 0 ρ)
    (step : ∀ i ρ, i < n → P i ρ → ∃ ρ2, F (ρ.set v (.fz (.int (i : Nat)))) s = .ok (.nx ρ2) s ∧ P (i + 1) ρ2) : ∃ ρ', forS fi (gN v) F ρ s = .ok (.nx ρ') s ∧ P n ρ' := by
  obtain ⟨ρ', h1, h2⟩ := for_rng (g := gN v) (F := F) (s := s) P n 0 h0 fun i ρ _ hi hp => by
    obtain ⟨ρ2, a, b⟩ := step i ρ (by omega) hp
    refine ⟨_, ρ2, rfl, ?_, b⟩
    rw [show (0 : Int) + (i : Nat) = (i : Nat) by omega]
    exact a
  refine ⟨ρ', ?_, by rw [Nat.zero_add] at h2; exact h2⟩
  unfold forS
  rw [hi]
  show forL (gN v) F (rngD 0 n) ρ s = _
  unfold rngD
  rw [List.range_eq_range']
  exact h1
section
variable {e l k : Nat} {c : Cf} {m a q : Addr} {b : Nat}
end
end W2

set_option maxHeartbeats 2000000
/-! K4A: the program, as functions on data. -/
namespace W2
open PySem PySem.Spec PyProof.Rows L2 Pg Pf LamX Pp Tab Rul
theorem hu65 {k : Nat} {A : Around} (hr : Room k A) : A.units + 65 < cLine := by
  have := hr.un
  omega
abbrev N_is_int : List Str := ["value"]
def p_is_int : Slots → S → R Fl :=
  (retS (dnd (b1 isiI (vr 0)) (ntV (b1 isiB (vr 0)))))
def p_is_number : Slots → S → R Fl :=
  (retS (dnd (bC (nF 1 (runS p_is_int N_is_int.length)) (cnsA (vr 0) nilA)) (chn (intF fun i j => .bl (decide (i ≤ j))) (intF fun i j => .bl (decide (i ≤ j))) (vr 1) (vr 0) (vr 2))))
abbrev s_is_pair : Stmt := top 18
abbrev N_is_pair : List Str := ["way", "value"]
theorem sc_is_pair : FnScope N_is_pair ["way", "value"] (defScope s_is_pair) := ⟨rfl, rfl, rfl, by decide +kernel, rfl, by decide +kernel, by decide +kernel⟩
def p_is_pair : Slots → S → R Fl :=
  (seqS (ifS (bor (bnt (tst (b1 isiT (vr 1)))) (tst (b2 neqF (bC lenF (cnsA (vr 1) nilA)) (kst (.int 2))))) (retS (kst (.bl false))) nxS)
    (retS (dnd (bC (nF 3 (runS p_is_number N_is_number.length)) (cnsA (b2 ixF (vr 1) (kst (.int 0))) (cnsA (kst (.int 0)) (cnsA (b2 (intF fun i j => .int (i - j)) (b1 (fldF 0 0) (vr 0)) (kst (.int 1))) nilA)))) (bC (nF 3 (runS p_is_number N_is_number.length)) (cnsA (b2 ixF (vr 1) (kst (.int 1))) (cnsA (kst (.int 0)) (cnsA (b2 (intF fun i j => .int (i - j)) (b1 (fldF 0 1) (vr 0)) (kst (.int 1))) nilA)))))))
def p_pairs_of : Slots → S → R Fl :=
  (retS (mkL (lc2F (rgI rg1F (cnsA (b1 (fldF 0 0) (vr 0)) nilA)) (gN 1) (rgI rg1F (cnsA (b1 (fldF 0 1) (vr 0)) nilA)) (gN 2) (bC tupF (cnsA (vr 1) (cnsA (vr 2) nilA))) [1, 2] [2])))
abbrev s_Way___len__ : Stmt := inClass (top 13) 9
abbrev N_Way___len__ : List Str := ["self"]
theorem sc_Way___len__ : FnScope N_Way___len__ ["self"] (defScope s_Way___len__) := ⟨rfl, rfl, rfl, by decide +kernel, rfl, by decide +kernel, by decide +kernel⟩
def p_Way___len__ : Slots → S → R Fl :=
  (retS (bC lenF (cnsA (bC (nF 1 (runS p_pairs_of N_pairs_of.length)) (cnsA (vr 0) nilA)) nilA)))
abbrev s_ready_rights : Stmt := top 21
abbrev N_ready_rights : List Str := ["way", "done", "found", "right"]
theorem sc_ready_rights : FnScope N_ready_rights ["way", "done"] (defScope s_ready_rights) := ⟨rfl, rfl, rfl, by decide +kernel, rfl, by decide +kernel, by decide +kernel⟩
def p_ready_rights : Slots → S → R Fl :=
  (seqS (setW 2 (litL nilA))
    (seqS (forS (rgI rg1F (cnsA (b1 (fldF 0 0) (vr 0)) nilA)) (gN 3)
    (ifS (bnd (tst (b2 (intF fun i j => .bl (decide (i < j))) (b2 ixF (vr 1) (vr 3)) (b1 (fldF 0 1) (vr 0)))) (bor (tst (b2 eqF (vr 3) (kst (.int 0)))) (tst (b2 (intF fun i j => .bl (decide (j < i))) (b2 ixF (vr 1) (b2 (intF fun i j => .int (i - j)) (vr 3) (kst (.int 1)))) (b2 ixF (vr 1) (vr 3)))))) (appS 2 (vr 3)) nxS))
    (retS (vr 2))))
abbrev s_one_more : Stmt := top 30
abbrev N_one_more : List Str := ["done", "right"]
theorem sc_one_more : FnScope N_one_more ["done", "right"] (defScope s_one_more) := ⟨rfl, rfl, rfl, by decide +kernel, rfl, by decide +kernel, by decide +kernel⟩
def p_one_more : Slots → S → R Fl :=
  (retS (b2 plusF (b2 plusF (slLX (vr 0) noO (soO (vr 1))) (mkL (litL (cnsA (b2 plusF (b2 ixF (vr 0) (vr 1)) (kst (.int 1))) nilA)))) (slLX (vr 0) (soO (b2 plusF (vr 1) (kst (.int 1)))) noO)))
abbrev s_count_endings : Stmt := top 27
abbrev N_count_endings : List Str := ["way", "done", "size", "upper", "lower", "right", "left", "column", "other"]
theorem sc_count_endings : FnScope N_count_endings ["way", "done"] (defScope s_count_endings) := ⟨rfl, rfl, rfl, by decide +kernel, rfl, by decide +kernel, by decide +kernel⟩
def p_count_endings : Slots → S → R Fl :=
  (seqS (setF 2 (kst (.int 0)))
    (seqS (setF 3 (kst (.int 1)))
    (seqS (setF 4 (kst (.int 1)))
    (seqS (forS (seqI (bC (nF 1 (runS p_pairs_of N_pairs_of.length)) (cnsA (vr 0) nilA))) (gT 2 (gsC (gN 5) (gsC (gN 6) gs0)))
    (ifS (tst (b2 (intF fun i j => .bl (decide (j ≤ i))) (vr 6) (b2 ixF (vr 1) (vr 5)))) (seqS (augN 2 (fun i j => i + j) (kst (.int 1)))
    (seqS (setF 3 (b2 mulF (vr 3) (vr 2)))
    (seqS (setF 7 (mkL (lcF (rgI rg1F (cnsA (vr 5) nilA)) (gN 8) (tst (b2 (intF fun i j => .bl (decide (i ≤ j))) (b2 ixF (vr 1) (vr 8)) (vr 6))) (vr 8) [8])))
    (setF 4 (b2 mulF (vr 4) (b2 plusF (b2 plusF (b2 (intF fun i j => .int (i - j)) (vr 6) (b2 ixF (vr 1) (vr 5))) (bC lenF (cnsA (vr 7) nilA))) (kst (.int 1)))))))) nxS))
    (retS (b2 fdvF (vr 3) (vr 4)))))))
abbrev s_count_orders : Stmt := top 23
abbrev N_count_orders : List Str := ["way"]
theorem sc_count_orders : FnScope N_count_orders ["way"] (defScope s_count_orders) := ⟨rfl, rfl, rfl, by decide +kernel, rfl, by decide +kernel, by decide +kernel⟩
def p_count_orders : Slots → S → R Fl :=
  (retS (bC (nF 2 (runS p_count_endings N_count_endings.length)) (cnsA (vr 0) (cnsA (mkL (repL (litL (cnsA (kst (.int 0)) nilA)) (b1 (fldF 0 0) (vr 0)))) nilA))))
abbrev s_right_at : Stmt := top 29
abbrev N_right_at : List Str := ["way", "done", "rank", "rest", "right", "many"]
theorem sc_right_at : FnScope N_right_at ["way", "done", "rank"] (defScope s_right_at) := ⟨rfl, rfl, rfl, by decide +kernel, rfl, by decide +kernel, by decide +kernel⟩
def p_right_at : Slots → S → R Fl :=
  (seqS (setF 3 (vr 2))
    (seqS (forS (seqI (bC (nF 2 (runS p_ready_rights N_ready_rights.length)) (cnsA (vr 0) (cnsA (vr 1) nilA)))) (gN 4)
    (seqS (setF 5 (bC (nF 2 (runS p_count_endings N_count_endings.length)) (cnsA (vr 0) (cnsA (bC (nF 2 (runS p_one_more N_one_more.length)) (cnsA (vr 1) (cnsA (vr 4) nilA))) nilA))))
    (seqS (ifS (tst (b2 (intF fun i j => .bl (decide (i < j))) (vr 3) (vr 5))) brkS nxS)
    (augN 3 (fun i j => i - j) (vr 5)))))
    (retS (bC tupF (cnsA (vr 4) (cnsA (vr 3) nilA))))))
abbrev s_order_at : Stmt := top 28
abbrev N_order_at : List Str := ["way", "rank", "found", "done", "rest", "right"]
theorem sc_order_at : FnScope N_order_at ["way", "rank"] (defScope s_order_at) := ⟨rfl, rfl, rfl, by decide +kernel, rfl, by decide +kernel, by decide +kernel⟩
def p_order_at : Slots → S → R Fl :=
  (seqS (setW 2 (litL nilA))
    (seqS (setW 3 (repL (litL (cnsA (kst (.int 0)) nilA)) (b1 (fldF 0 0) (vr 0))))
    (seqS (setF 4 (vr 1))
    (seqS (whlL (tst (b2 (intF fun i j => .bl (decide (i < j))) (bC lenF (cnsA (vr 2) nilA)) (bC (lenOF 0 (runS p_Way___len__ N_Way___len__.length)) (cnsA (vr 0) nilA)))) (seqS (asgT (bC (nF 3 (runS p_right_at N_right_at.length)) (cnsA (vr 0) (cnsA (vr 3) (cnsA (vr 4) nilA)))) (gT 2 (gsC (gN 5) (gsC (gN 4) gs0))))
    (seqS (appT 2 (bC tupF (cnsA (vr 5) (cnsA (b2 ixF (vr 3) (vr 5)) nilA))))
    (augO 3 (vr 5) (fun i j => i + j) 1))) 40)
    (retS (bC tupleF (cnsA (vr 2) nilA)))))))
abbrev s_order_by_rank : Stmt := top 24
abbrev N_order_by_rank : List Str := ["way", "rank"]
theorem sc_order_by_rank : FnScope N_order_by_rank ["way", "rank"] (defScope s_order_by_rank) := ⟨rfl, rfl, rfl, by decide +kernel, rfl, by decide +kernel, by decide +kernel⟩
def p_order_by_rank : Slots → S → R Fl :=
  (seqS (ifS (bnt (tst (bC (nF 3 (runS p_is_number N_is_number.length)) (cnsA (vr 1) (cnsA (kst (.int 0)) (cnsA (b2 (intF fun i j => .int (i - j)) (bC (nF 1 (runS p_count_orders N_count_orders.length)) (cnsA (vr 0) nilA)) (kst (.int 1))) nilA)))))) (fun _ _ => .un) nxS)
    (retS (bC (nF 2 (runS p_order_at N_order_at.length)) (cnsA (vr 0) (cnsA (vr 1) nilA)))))
abbrev s_check_order : Stmt := top 20
abbrev N_check_order : List Str := ["way", "order", "done", "index", "item", "right", "left"]
theorem sc_check_order : FnScope N_check_order ["way", "order"] (defScope s_check_order) := ⟨rfl, rfl, rfl, by decide +kernel, rfl, by decide +kernel, by decide +kernel⟩
def p_check_order : Slots → S → R Fl :=
  (seqS (ifS (bor (bnt (tst (b1 isiT (vr 1)))) (tst (b2 neqF (bC lenF (cnsA (vr 1) nilA)) (bC (lenOF 0 (runS p_Way___len__ N_Way___len__.length)) (cnsA (vr 0) nilA))))) (fun _ _ => .un) nxS)
    (seqS (setW 2 (repL (litL (cnsA (kst (.int 0)) nilA)) (b1 (fldF 0 0) (vr 0))))
    (forS (rgI enuF (cnsA (vr 1) nilA)) (gT 2 (gsC (gN 3) (gsC (gN 4) gs0)))
    (seqS (ifS (bnt (tst (bC (nF 2 (runS p_is_pair N_is_pair.length)) (cnsA (vr 0) (cnsA (vr 4) nilA))))) (fun _ _ => .un) nxS)
    (seqS (asgS (vr 4) (gT 2 (gsC (gN 5) (gsC (gN 6) gs0))))
    (seqS (ifS (bor (tst (b2 neqF (vr 6) (b2 ixF (vr 2) (vr 5)))) (tst (b2 (inF true) (vr 5) (bC (nF 2 (runS p_ready_rights N_ready_rights.length)) (cnsA (vr 0) (cnsA (vr 2) nilA)))))) (fun _ _ => .un) nxS)
    (augO 2 (vr 5) (fun i j => i + j) 1)))))))
abbrev s_rank_of_order : Stmt := top 25
abbrev N_rank_of_order : List Str := ["way", "order", "rank", "done", "right", "_", "lesser"]
theorem sc_rank_of_order : FnScope N_rank_of_order ["way", "order"] (defScope s_rank_of_order) := ⟨rfl, rfl, rfl, by decide +kernel, rfl, by decide +kernel, by decide +kernel⟩
def p_rank_of_order : Slots → S → R Fl :=
  (seqS (dropS (bC (nF 2 (runS p_check_order N_check_order.length)) (cnsA (vr 0) (cnsA (vr 1) nilA))))
    (seqS (setF 2 (kst (.int 0)))
    (seqS (setW 3 (repL (litL (cnsA (kst (.int 0)) nilA)) (b1 (fldF 0 0) (vr 0))))
    (seqS (forS (seqI (vr 1)) (gT 2 (gsC (gN 4) (gsC (gN 5) gs0)))
    (seqS (forQ 6 (seqI (bC (nF 2 (runS p_ready_rights N_ready_rights.length)) (cnsA (vr 0) (cnsA (vr 3) nilA)))) (ifS (tst (b2 (intF fun i j => .bl (decide (i < j))) (vr 6) (vr 4))) (augN 2 (fun i j => i + j) (bC (nF 2 (runS p_count_endings N_count_endings.length)) (cnsA (vr 0) (cnsA (bC (nF 2 (runS p_one_more N_one_more.length)) (cnsA (vr 3) (cnsA (vr 6) nilA))) nilA)))) nxS))
    (augO 3 (vr 4) (fun i j => i + j) 1)))
    (retS (vr 2))))))
abbrev s_least_ending : Stmt := top 32
abbrev N_least_ending : List Str := ["way", "done", "right", "left"]
theorem sc_least_ending : FnScope N_least_ending ["way", "done"] (defScope s_least_ending) := ⟨rfl, rfl, rfl, by decide +kernel, rfl, by decide +kernel, by decide +kernel⟩
def p_least_ending : Slots → S → R Fl :=
  (retS (bC tupleF (cnsA (mkL (lcF (seqI (bC (nF 1 (runS p_pairs_of N_pairs_of.length)) (cnsA (vr 0) nilA))) (gT 2 (gsC (gN 2) (gsC (gN 3) gs0))) (tst (b2 (intF fun i j => .bl (decide (j ≤ i))) (vr 3) (b2 ixF (vr 1) (vr 2)))) (bC tupF (cnsA (vr 2) (cnsA (vr 3) nilA))) [2, 3])) nilA)))
abbrev s_following : Stmt := top 31
abbrev N_following : List Str := ["way", "order", "done", "index", "right", "greater", "begun", "other"]
theorem sc_following : FnScope N_following ["way", "order"] (defScope s_following) := ⟨rfl, rfl, rfl, by decide +kernel, rfl, by decide +kernel, by decide +kernel⟩
def p_following : Slots → S → R Fl :=
  (seqS (setW 2 (repL (litL (cnsA (b1 (fldF 0 1) (vr 0)) nilA)) (b1 (fldF 0 0) (vr 0))))
    (seqS (forS (rvRI (bC lenF (cnsA (vr 1) nilA))) (gN 3)
    (seqS (setT 4 (b2 ixF (b2 ixF (vr 1) (vr 3)) (kst (.int 0))))
    (seqS (augO 2 (vr 4) (fun i j => i - j) 1)
    (seqS (setWT 5 (lcF (seqI (bC (nF 2 (runS p_ready_rights N_ready_rights.length)) (cnsA (vr 0) (cnsA (vr 2) nilA)))) (gN 7) (tst (b2 (intF fun i j => .bl (decide (j < i))) (vr 7) (vr 4))) (vr 7) [7]))
    (ifS (tst (b2 (intF fun i j => .bl (decide (j < i))) (bC lenF (cnsA (vr 5) nilA)) (kst (.int 0)))) (seqS (augO 2 (b2 ixF (vr 5) (kst (.int 0))) (fun i j => i + j) 1)
    (seqS (setT 6 (b2 plusF (slX (vr 1) noO (soO (vr 3))) (bC tupF (cnsA (bC tupF (cnsA (b2 ixF (vr 5) (kst (.int 0))) (cnsA (b2 (intF fun i j => .int (i - j)) (b2 ixF (vr 2) (b2 ixF (vr 5) (kst (.int 0)))) (kst (.int 1))) nilA))) nilA))))
    (retS (b2 plusF (vr 6) (bC (nF 2 (runS p_least_ending N_least_ending.length)) (cnsA (vr 0) (cnsA (vr 2) nilA))))))) nxS)))))
    (retS (kst .non))))
abbrev s__law_ready : Stmt := top 41
abbrev N__law_ready : List Str := ["_law_east", "_law_west", "_law_found", "_law_some_here", "_law_n", "_law_k", "_law_is_free"]
theorem sc__law_ready : FnScope N__law_ready ["_law_east", "_law_west", "_law_found"] (defScope s__law_ready) := ⟨rfl, rfl, rfl, by decide +kernel, rfl, by decide +kernel, by decide +kernel⟩
def p__law_ready : Slots → S → R Fl :=
  (seqS (setW 3 (litL nilA))
    (seqS (forS (rgI rg1F (cnsA (vr 0) nilA)) (gN 4)
    (forS (rgI rg1F (cnsA (vr 1) nilA)) (gN 5)
    (seqS (setT 6 (dnd (dor (b2 eqF (vr 4) (kst (.int 0))) (b2 inTF (bC tupF (cnsA (b2 (intF fun i j => .int (i - j)) (vr 4) (kst (.int 1))) (cnsA (vr 5) nilA))) (vr 2))) (dor (b2 eqF (vr 5) (kst (.int 0))) (b2 inTF (bC tupF (cnsA (vr 4) (cnsA (b2 (intF fun i j => .int (i - j)) (vr 5) (kst (.int 1))) nilA))) (vr 2)))))
    (ifS (bnd (tst (vr 6)) (tst (b2 ninTF (bC tupF (cnsA (vr 4) (cnsA (vr 5) nilA))) (vr 2)))) (appS 3 (bC tupF (cnsA (vr 4) (cnsA (vr 5) nilA)))) nxS))))
    (retS (vr 3))))
abbrev s__law_all_orders : Stmt := top 42
abbrev N__law_all_orders : List Str := ["_law_east", "_law_west", "_law_found", "_law_n", "_law_longer", "_law_part", "_law_pair"]
theorem sc__law_all_orders : FnScope N__law_all_orders ["_law_east", "_law_west"] (defScope s__law_all_orders) := ⟨rfl, rfl, rfl, by decide +kernel, rfl, by decide +kernel, by decide +kernel⟩
def p__law_all_orders : Slots → S → R Fl :=
  (seqS (setF 2 (mkL (litL (cnsA (bC tupF nilA) nilA))))
    (seqS (forS (rgI rg1F (cnsA (b2 mulF (vr 0) (vr 1)) nilA)) (gN 3)
    (seqS (setW 4 (litL nilA))
    (seqS (forS (seqI (vr 2)) (gN 5)
    (extW 4 (lcF (seqI (bC (nF 3 (runS p__law_ready N__law_ready.length)) (cnsA (vr 0) (cnsA (vr 1) (cnsA (vr 5) nilA))))) (gN 6) yesT (b2 plusF (vr 5) (bC tupF (cnsA (vr 6) nilA))) [6])))
    (setA 2 (vr 4)))))
    (retS (vr 2))))
section
variable {P : Program} {w : World} {K : PySem.W.Frag} {mg : Str → Option Value} {base : Heap} {Z : Zn} {f : Addr} {fd : FuncData}
theorem okD_is_int (B : Bt mg) (T : Bw mg) (F : Fun K "is_int" "is_int" s_is_int f fd) : FnOk P w K mg base (L2.CX P w) 1 f fd ["value"] (spD K Z 1 (runS p_is_int N_is_int.length)) := by
  have nd := sc_is_int.nd
  refine fnO F sc_is_int (by decide) fun cdv A outer s H E hr => ?_
  refine ⟨_, (pss_one (ps_ret (pe_and (pe_callB call_isi (by rfl) T.isinstance (by decide +kernel) (pa_cons (pv 0) (pa_cons (pe_bltn (v := .ty "int") (by rfl) T.int (by decide +kernel) rfl) pa_nil))) (pe_one (pe_not (pe_callB call_isi (by rfl) T.isinstance (by decide +kernel) (pa_cons (pv 0) (pa_cons (pe_bltn (v := .ty "bool") (by rfl) T.bool (by decide +kernel) rfl) pa_nil)))))))), ?_⟩
  exact (cs_ret (c_andV (c_isiI (c_var 0)) (c_notV (c_isiB (c_var 0)))))
theorem okD_is_number (cInt : CalD P w K mg base Z 1 "is_int" 1 (runS p_is_int N_is_int.length)) (F : Fun K "is_number" "is_number" s_is_number f fd) : FnOk P w K mg base (L2.CX P w) 2 f fd ["value", "low", "high"] (spD K Z 3 (runS p_is_number N_is_number.length)) := by
  have nd := sc_is_number.nd
  refine fnO F sc_is_number (by decide) fun cdv A outer s H E hr => ?_
  refine ⟨_, (pss_one (ps_ret (pe_and (PP.pe (pp_call cInt hr (by decide) (passes_call (takes_of rfl rfl rfl rfl) (fun _ _ _ _ h => h)) rfl ⟨(pa_cons (pv 0) pa_nil), (c_cons (c_var 0) c_nil)⟩)) (pe_one (pe_chain op_le op_le (pv 1) (pv 0) (pv 2)))))), ?_⟩
  exact (cs_ret (c_andV (c_call' (c_cons (c_var 0) c_nil)) (c_chain c2_le c2_le (c_var 1) (c_var 0) (c_var 2))))
theorem okD_is_pair (B : Bt mg) (T : Bw mg) (cNum : CalD P w K mg base Z 2 "is_number" 3 (runS p_is_number N_is_number.length)) (pRights : Pr P w K mg base (Z.cl 0) "rights" "_rights") (pLefts : Pr P w K mg base (Z.cl 0) "lefts" "_lefts") (F : Fun K "is_pair" "is_pair" s_is_pair f fd) : FnOk P w K mg base (L2.CX P w) 4 f fd ["way", "value"] (spD K Z 2 (runS p_is_pair N_is_pair.length)) := by
  have nd := sc_is_pair.nd
  refine fnO F sc_is_pair (by decide) fun cdv A outer s H E hr => ?_
  refine ⟨_, (pss_cons (ps_if (PW.pt (pw_or (pt_not (pt_val (pe_callB call_isi (by rfl) T.isinstance (by decide +kernel) (pa_cons (pv 1) (pa_cons (pe_bltn (v := .ty "tuple") (by rfl) B.tuple (by decide +kernel) rfl) pa_nil))))) (pw_or1 (pt_cmpR (op_neD hr.units) (pe_callB call_len_seq (by rfl) B.len PySem.boot_len (pa_cons (pv 1) pa_nil)) pe_int (nomark _))))) (pss_one (ps_ret pe_bl)) pss_nil)
    (pss_one (ps_ret (pe_and (PP.pe (pp_call cNum hr (by decide) (passes_call (takes_of rfl rfl rfl rfl) (fun _ _ _ _ h => h)) rfl ⟨(pa_cons (pe_ix ix_seq (pv 1) pe_int (fun _ _ => rfl)) (pa_cons pe_int (pa_cons (pe_op op_sub (pe_pr pRights hr (by decide) (pv 0)) pe_int) pa_nil))), (c_cons (c_op c2_ix (c_var 1) (c_c fun _ => .int _)) (c_cons (c_c fun _ => .int _) (c_cons (c_op c2_sub (c_prop (i := 0) (by decide +kernel) (by rfl) (c_var 0)) (c_c fun _ => .int _)) c_nil)))⟩)) (pe_one (PP.pe (pp_call cNum hr (by decide) (passes_call (takes_of rfl rfl rfl rfl) (fun _ _ _ _ h => h)) rfl ⟨(pa_cons (pe_ix ix_seq (pv 1) pe_int (fun _ _ => rfl)) (pa_cons pe_int (pa_cons (pe_op op_sub (pe_pr pLefts hr (by decide) (pv 0)) pe_int) pa_nil))), (c_cons (c_op c2_ix (c_var 1) (c_c fun _ => .int _)) (c_cons (c_c fun _ => .int _) (c_cons (c_op c2_sub (c_prop (i := 1) (by decide +kernel) (by rfl) (c_var 0)) (c_c fun _ => .int _)) c_nil)))⟩))))))), ?_⟩
  exact (cs_seq (cs_if (c_or (c_not (c_tB (c_isiT (c_var 1)))) (c_tT (c_op c2_neD (c_call cC_len (c_cons (c_var 1) c_nil)) (c_c fun _ => .int _)))) (cs_ret (c_c fun _ => .bl _)) cs_next)
    (cs_ret (c_andV (c_call' (c_cons (c_op c2_ix (c_var 1) (c_c fun _ => .int _)) (c_cons (c_c fun _ => .int _) (c_cons (c_op c2_sub (c_prop (i := 0) (by decide +kernel) (by rfl) (c_var 0)) (c_c fun _ => .int _)) c_nil)))) (c_call' (c_cons (c_op c2_ix (c_var 1) (c_c fun _ => .int _)) (c_cons (c_c fun _ => .int _) (c_cons (c_op c2_sub (c_prop (i := 1) (by decide +kernel) (by rfl) (c_var 0)) (c_c fun _ => .int _)) c_nil)))))))
theorem okD_pairs_of (B : Bt mg) (pRights : Pr P w K mg base (Z.cl 0) "rights" "_rights") (pLefts : Pr P w K mg base (Z.cl 0) "lefts" "_lefts") (F : Fun K "pairs_of" "pairs_of" s_pairs_of f fd) : FnOk P w K mg base (L2.CX P w) 3 f fd ["way"] (spD K Z 1 (runS p_pairs_of N_pairs_of.length)) := by
  have nd := sc_pairs_of.nd
  refine fnO F sc_pairs_of (by decide) fun cdv A outer s H E hr => ?_
  refine ⟨_, (pss_one (ps_ret (pe_lc2 (own := [("right", 1), ("left", 2)]) (vs1 := [2]) rfl nd (pi_range1 rfl B.range (pa_cons (pe_pr pRights hr (by decide) (pv 0)) pa_nil)) (blkOk_by (N := N_pairs_of) (sc := defScope s_pairs_of) (by decide +kernel)) (by decide) (fun _ _ _ _ _ => (pg_name (i := 1) nd rfl (Or.inl rfl))) (fun _ _ _ _ _ => pts_nil) (fun _ _ _ _ _ => (pi_range1 rfl B.range (pa_cons (show PE _ _ (tProp (Z.cl 0) (getSp (Z.cl 0) "_lefts") [] E0 (tVar 0)) from (pe_pr pLefts hr (by decide) (pv 0))) pa_nil))) (fun _ _ _ _ _ => (pg_name (i := 2) nd rfl (Or.inl rfl))) (fun _ _ _ _ _ => pts_nil) (fun _ _ _ _ _ => (pe_tup (pa_cons (pv 1) (pa_cons (pv 2) pa_nil))))))), ?_⟩
  exact (cs_ret (c_mkL (cl_lc2 (ci_rng1 (c_cons (c_prop (i := 0) (by decide +kernel) (by rfl) (c_var 0)) c_nil)) (cg_name 1) (by decide) (ci_rng1 (c_cons (c_prop (i := 1) (by decide +kernel) (by rfl) (c_var 0)) c_nil)) (cg_name 2) (by decide) (c_tup (c_cons (c_var 1) (c_cons (c_var 2) c_nil))))))
theorem okD_Way___len__ (B : Bt mg) (cPairs : CalD P w K mg base Z 3 "pairs_of" 1 (runS p_pairs_of N_pairs_of.length)) (F : Fun K "__len__" "Way.__len__" s_Way___len__ f fd) : FnOk P w K mg base (L2.CX P w) 4 f fd ["self"] (spD K Z 1 (runS p_Way___len__ N_Way___len__.length)) := by
  have nd := sc_Way___len__.nd
  refine fnO F sc_Way___len__ (by decide) fun cdv A outer s H E hr => ?_
  refine ⟨_, (pss_one (ps_ret (pe_callB call_len_seq (by rfl) B.len PySem.boot_len (pa_cons (PP.pe (pp_call cPairs hr (by decide) (passes_call (takes_of rfl rfl rfl rfl) (fun _ _ _ _ h => h)) rfl ⟨(pa_cons (pv 0) pa_nil), (c_cons (c_var 0) c_nil)⟩)) pa_nil)))), ?_⟩
  exact (cs_ret (c_call cC_len (c_cons (c_call' (c_cons (c_var 0) c_nil)) c_nil)))
theorem okD_ready_rights (B : Bt mg) (pRights : Pr P w K mg base (Z.cl 0) "rights" "_rights") (pLefts : Pr P w K mg base (Z.cl 0) "lefts" "_lefts") (F : Fun K "ready_rights" "ready_rights" s_ready_rights f fd) : FnOk P w K mg base (L2.CX P w) 3 f fd ["way", "done"] (spD K Z 2 (runS p_ready_rights N_ready_rights.length)) := by
  have nd := sc_ready_rights.nd
  refine fnO F sc_ready_rights (by decide) fun cdv A outer s H E hr => ?_
  refine ⟨_, (pss_cons (ps_set (i := 2) nd rfl (Or.inl rfl) (pe_lst pa_nil))
    (pss_cons (ps_for (passes_of rfl) rfl (pi_range1 rfl B.range (pa_cons (pe_pr pRights hr (by decide) (pv 0)) pa_nil)) (pg_name (i := 3) nd rfl (Or.inl rfl))
    (pss_one (ps_if (PW.pt (pw_and (pt_cmpR op_lt (pe_ix ix_seq (pv 1) (pv 3) (fun _ _ => rfl)) (pe_pr pLefts hr (by decide) (pv 0)) (nomark _)) (pw_and1 (PW.pt (pw_or (pt_cmpR (op_eqD hr.units) (pv 3) pe_int (nomark _)) (pw_or1 (pt_cmpR op_gt (pe_ix ix_seq (pv 1) (pe_op op_sub (pv 3) pe_int) (fun _ _ => rfl)) (pe_ix ix_seq (pv 1) (pv 3) (fun _ _ => rfl)) (nomark _)))))))) (pss_one (ps_expr (pe_bm PySem.F.plainAttrs_list PySem.F.slot_list_append PySem.F.type_list_append mt_append (pv 2) (pa_cons (pv 3) pa_nil)))) pss_nil)))
    (pss_one (ps_ret (pv 2))))), ?_⟩
  exact (cs_seq (cs_setW 2 (cl_lit c_nil))
    (cs_seq (cs_for (ci_rng1 (c_cons (c_prop (i := 0) (by decide +kernel) (by rfl) (c_var 0)) c_nil)) (cg_name 3)
    (cs_if (c_and (c_tT (c_op c2_lt (c_op c2_ix (c_var 1) (c_var 3)) (c_prop (i := 1) (by decide +kernel) (by rfl) (c_var 0)))) (c_or (c_tT (c_op c2_eqD (c_var 3) (c_c fun _ => .int _))) (c_tT (c_op c2_gt (c_op c2_ix (c_var 1) (c_op c2_sub (c_var 3) (c_c fun _ => .int _))) (c_op c2_ix (c_var 1) (c_var 3)))))) (cs_app 2 (c_var 3)) cs_next))
    (cs_ret (c_var 2))))
theorem okD_one_more  (F : Fun K "one_more" "one_more" s_one_more f fd) : FnOk P w K mg base (L2.CX P w) 1 f fd ["done", "right"] (spD K Z 2 (runS p_one_more N_one_more.length)) := by
  have nd := sc_one_more.nd
  refine fnO F sc_one_more (by decide) fun cdv A outer s H E hr => ?_
  refine ⟨_, (pss_one (ps_ret (pe_op op_plus (pe_op op_plus (pe_slice sl_list (pv 0) po_none (po_some (pv 1))) (pe_lst (pa_cons (pe_op op_plus (pe_ix ix_seq (pv 0) (pv 1) (fun _ _ => rfl)) pe_int) pa_nil))) (pe_slice sl_list (pv 0) (po_some (pe_op op_plus (pv 1) pe_int)) po_none)))), ?_⟩
  exact (cs_ret (c_op c2_plus (c_op c2_plus (c_slL (c_var 0) co_no (co_so (c_var 1))) (c_mkL (cl_lit (c_cons (c_op c2_plus (c_op c2_ix (c_var 0) (c_var 1)) (c_c fun _ => .int _)) c_nil)))) (c_slL (c_var 0) (co_so (c_op c2_plus (c_var 1) (c_c fun _ => .int _))) co_no)))
theorem okD_count_endings (B : Bt mg) (cPairs : CalD P w K mg base Z 3 "pairs_of" 1 (runS p_pairs_of N_pairs_of.length)) (F : Fun K "count_endings" "count_endings" s_count_endings f fd) : FnOk P w K mg base (L2.CX P w) 4 f fd ["way", "done"] (spD K Z 2 (runS p_count_endings N_count_endings.length)) := by
  have nd := sc_count_endings.nd
  refine fnO F sc_count_endings (by decide) fun cdv A outer s H E hr => ?_
  refine ⟨_, (pss_cons (ps_set (i := 2) nd rfl (Or.inl rfl) pe_int)
    (pss_cons (ps_set (i := 3) nd rfl (Or.inl rfl) pe_int)
    (pss_cons (ps_set (i := 4) nd rfl (Or.inl rfl) pe_int)
    (pss_cons (ps_for (passes_of rfl) rfl (pi_seq (PP.pe (pp_call cPairs hr (by decide) (passes_call (takes_of rfl rfl rfl rfl) (fun _ _ _ _ h => h)) rfl ⟨(pa_cons (pv 0) pa_nil), (c_cons (c_var 0) c_nil)⟩))) (pg_tup rfl (pgs_cons (pg_name (i := 5) nd rfl (Or.inl rfl)) (pgs_cons (pg_name (i := 6) nd rfl (Or.inr rfl)) pgs_nil)))
    (pss_one (ps_if (pt_cmpR op_ge (pv 6) (pe_ix ix_seq (pv 1) (pv 5) (fun _ _ => rfl)) (nomark _)) (pss_cons (ps_aug (i := 2) nd rfl (Or.inl rfl) pe_int ip_add)
    (pss_cons (ps_set (i := 3) nd rfl (Or.inl rfl) (pe_op op_mul (pv 3) (pv 2)))
    (pss_cons (ps_setLc (i := 7) (own := [("other", 8)]) rfl nd rfl rfl (sw_true rfl rfl rfl (by decide +kernel)) (pi_range1 rfl B.range (pa_cons (pv 5) pa_nil)) (blkOk_by (N := N_count_endings) (sc := defScope s_count_endings) (by decide +kernel)) (fun _ _ _ _ _ => (pg_name (i := 8) nd rfl (Or.inl rfl))) (fun _ _ _ _ _ => pts_one (pt_cmpR op_le (pe_ix (show IxR _ (rIx K) from ix_seq) (pv 1) (pv 8) (fun _ _ => rfl)) (pv 6) (nomark _))) (fun _ _ _ _ _ => (pv 8)))
    (pss_one (ps_set (i := 4) nd rfl (Or.inl rfl) (pe_op op_mul (pv 4) (pe_op op_plus (pe_op op_plus (pe_op op_sub (pv 6) (pe_ix ix_seq (pv 1) (pv 5) (fun _ _ => rfl))) (pe_callB call_len_seq (by rfl) B.len PySem.boot_len (pa_cons (pv 7) pa_nil))) pe_int))))))) pss_nil)))
    (pss_one (ps_ret (pe_op op_fdiv (pv 3) (pv 4)))))))), ?_⟩
  exact (cs_seq (cs_setF 2 (c_c fun _ => .int _))
    (cs_seq (cs_setF 3 (c_c fun _ => .int _))
    (cs_seq (cs_setF 4 (c_c fun _ => .int _))
    (cs_seq (cs_for (ci_seq (c_call' (c_cons (c_var 0) c_nil))) (cg_tup (cg_cons (cg_name 5) (cg_cons (cg_name 6) cg_nil)))
    (cs_if (c_tT (c_op c2_ge (c_var 6) (c_op c2_ix (c_var 1) (c_var 5)))) (cs_seq (cs_augN 2 _ (c_c fun _ => .int _))
    (cs_seq (cs_setF 3 (c_op c2_mul (c_var 3) (c_var 2)))
    (cs_seq (cs_setF 7 (c_mkL (cl_lc (ci_rng1 (c_cons (c_var 5) c_nil)) (cg_name 8) (by decide) (c_tT (c_op c2_le (c_op c2_ix (c_var 1) (c_var 8)) (c_var 6))) (c_var 8))))
    (cs_setF 4 (c_op c2_mul (c_var 4) (c_op c2_plus (c_op c2_plus (c_op c2_sub (c_var 6) (c_op c2_ix (c_var 1) (c_var 5))) (c_call cC_len (c_cons (c_var 7) c_nil))) (c_c fun _ => .int _))))))) cs_next))
    (cs_ret (c_op c2_fdv (c_var 3) (c_var 4)))))))
theorem okD_count_orders (pRights : Pr P w K mg base (Z.cl 0) "rights" "_rights") (cEnd : CalD P w K mg base Z 4 "count_endings" 2 (runS p_count_endings N_count_endings.length)) (F : Fun K "count_orders" "count_orders" s_count_orders f fd) : FnOk P w K mg base (L2.CX P w) 5 f fd ["way"] (spD K Z 1 (runS p_count_orders N_count_orders.length)) := by
  have nd := sc_count_orders.nd
  refine fnO F sc_count_orders (by decide) fun cdv A outer s H E hr => ?_
  refine ⟨_, (pss_one (ps_ret (PP.pe (pp_call cEnd hr (by decide) (passes_call (takes_of rfl rfl rfl rfl) (fun _ _ _ _ h => h)) rfl ⟨(pa_cons (pv 0) (pa_cons (pe_op op_rep (pe_lst (pa_cons pe_int pa_nil)) (pe_pr pRights hr (by decide) (pv 0))) pa_nil)), (c_cons (c_var 0) (c_cons (c_mkL (cl_rep (cl_lit (c_cons (c_c fun _ => .int _) c_nil)) (c_prop (i := 0) (by decide +kernel) (by rfl) (c_var 0)))) c_nil))⟩)))), ?_⟩
  exact (cs_ret (c_call' (c_cons (c_var 0) (c_cons (c_mkL (cl_rep (cl_lit (c_cons (c_c fun _ => .int _) c_nil)) (c_prop (i := 0) (by decide +kernel) (by rfl) (c_var 0)))) c_nil))))
theorem okD_right_at (B : Bt mg) (cReady : CalD P w K mg base Z 3 "ready_rights" 2 (runS p_ready_rights N_ready_rights.length)) (cEnd : CalD P w K mg base Z 4 "count_endings" 2 (runS p_count_endings N_count_endings.length)) (cMore : CalD P w K mg base Z 1 "one_more" 2 (runS p_one_more N_one_more.length)) (F : Fun K "right_at" "right_at" s_right_at f fd) : FnOk P w K mg base (L2.CX P w) 5 f fd ["way", "done", "rank"] (spD K Z 3 (runS p_right_at N_right_at.length)) := by
  have nd := sc_right_at.nd
  refine fnO F sc_right_at (by decide) fun cdv A outer s H E hr => ?_
  refine ⟨_, (pss_cons (ps_set (i := 3) nd rfl (Or.inl rfl) (pv 2))
    (pss_cons (ps_for (passes_of rfl) rfl (pi_seq (PP.pe (pp_call cReady hr (by decide) (passes_call (takes_of rfl rfl rfl rfl) (fun _ _ _ _ h => h)) rfl ⟨(pa_cons (pv 0) (pa_cons (pv 1) pa_nil)), (c_cons (c_var 0) (c_cons (c_var 1) c_nil))⟩))) (pg_name (i := 4) nd rfl (Or.inl rfl))
    (pss_cons (ps_set (i := 5) nd rfl (Or.inl rfl) (PP.pe (pp_call cEnd hr (by decide) (passes_call (takes_of rfl rfl rfl rfl) (fun _ _ _ _ h => h)) rfl ⟨(pa_cons (pv 0) (pa_cons (PP.pe (pp_call cMore hr (by decide) (passes_call (takes_of rfl rfl rfl rfl) (fun _ _ _ _ h => h)) rfl ⟨(pa_cons (pv 1) (pa_cons (pv 4) pa_nil)), (c_cons (c_var 1) (c_cons (c_var 4) c_nil))⟩)) pa_nil)), (c_cons (c_var 0) (c_cons (c_call' (c_cons (c_var 1) (c_cons (c_var 4) c_nil))) c_nil))⟩)))
    (pss_cons (ps_if (pt_cmpR op_lt (pv 3) (pv 5) (nomark _)) (pss_one ps_break) pss_nil)
    (pss_one (ps_aug (i := 3) nd rfl (Or.inl rfl) (pv 5) ip_sub)))))
    (pss_one (ps_ret (pe_tup (pa_cons (pv 4) (pa_cons (pv 3) pa_nil))))))), ?_⟩
  exact (cs_seq (cs_setF 3 (c_var 2))
    (cs_seq (cs_for (ci_seq (c_call' (c_cons (c_var 0) (c_cons (c_var 1) c_nil)))) (cg_name 4)
    (cs_seq (cs_setF 5 (c_call' (c_cons (c_var 0) (c_cons (c_call' (c_cons (c_var 1) (c_cons (c_var 4) c_nil))) c_nil))))
    (cs_seq (cs_if (c_tT (c_op c2_lt (c_var 3) (c_var 5))) cs_break cs_next)
    (cs_augN 3 _ (c_var 5)))))
    (cs_ret (c_tup (c_cons (c_var 4) (c_cons (c_var 3) c_nil))))))
theorem okD_order_at (B : Bt mg) (pRights : Pr P w K mg base (Z.cl 0) "rights" "_rights") (cLen : LenD P w K mg base Z 4 0 (runS p_Way___len__ N_Way___len__.length)) (cRat : CalD P w K mg base Z 5 "right_at" 3 (runS p_right_at N_right_at.length)) (F : Fun K "order_at" "order_at" s_order_at f fd) : FnOk P w K mg base (L2.CX P w) 6 f fd ["way", "rank"] (spD K Z 2 (runS p_order_at N_order_at.length)) := by
  have nd := sc_order_at.nd
  refine fnO F sc_order_at (by decide) fun cdv A outer s H E hr => ?_
  refine ⟨_, (pss_cons (ps_set (i := 2) nd rfl (Or.inl rfl) (pe_lst pa_nil))
    (pss_cons (ps_set (i := 3) nd rfl (Or.inl rfl) (pe_op op_rep (pe_lst (pa_cons pe_int pa_nil)) (pe_pr pRights hr (by decide) (pv 0))))
    (pss_cons (ps_set (i := 4) nd rfl (Or.inl rfl) (pv 1))
    (pss_cons (ps_while (passes_of rfl) (pt_cmpR op_lt (pe_callB call_len_seq (by rfl) B.len PySem.boot_len (pa_cons (pv 2) pa_nil)) (pe_callB (call_lenD cLen hr (by decide) (passes_call (takes_of rfl rfl rfl rfl) (fun _ _ _ _ h => h))) (by rfl) B.len PySem.boot_len (pa_cons (pv 0) pa_nil)) (nomark _)) (pss_cons (ps_asg (PP.pe (pp_call cRat hr (by decide) (passes_call (takes_of rfl rfl rfl rfl) (fun _ _ _ _ h => h)) rfl ⟨(pa_cons (pv 0) (pa_cons (pv 3) (pa_cons (pv 4) pa_nil))), (c_cons (c_var 0) (c_cons (c_var 3) (c_cons (c_var 4) c_nil)))⟩)) (pg_tup rfl (pgs_cons (pg_name (i := 5) nd rfl (Or.inl rfl)) (pgs_cons (pg_name (i := 4) nd rfl (Or.inl rfl)) pgs_nil))))
    (pss_cons (ps_expr (pe_bm PySem.F.plainAttrs_list PySem.F.slot_list_append PySem.F.type_list_append mt_append (pv 2) (pa_cons (pe_tup (pa_cons (pv 5) (pa_cons (pe_ix ix_seq (pv 3) (pv 5) (fun _ _ => rfl)) pa_nil))) pa_nil)))
    (pss_one (ps_augS (pv 3) (pv 5) get_list pe_int ip_add set_list)))))
    (pss_one (ps_ret (pe_callTy call_tuple_of (by rfl) B.tuple (by decide +kernel) (pa_cons (pv 2) pa_nil)))))))), ?_⟩
  exact (cs_seq (cs_setW 2 (cl_lit c_nil))
    (cs_seq (cs_setW 3 (cl_rep (cl_lit (c_cons (c_c fun _ => .int _) c_nil)) (c_prop (i := 0) (by decide +kernel) (by rfl) (c_var 0))))
    (cs_seq (cs_setF 4 (c_var 1))
    (cs_seq (cs_while 40 (c_tT (c_op c2_lt (c_call cC_len (c_cons (c_var 2) c_nil)) (c_call cC_lenD (c_cons (c_var 0) c_nil)))) (cs_seq (cs_asgT (c_call' (c_cons (c_var 0) (c_cons (c_var 3) (c_cons (c_var 4) c_nil)))) (cg_tup (cg_cons (cg_name 5) (cg_cons (cg_name 4) cg_nil))))
    (cs_seq (cs_appT 2 (c_tup (c_cons (c_var 5) (c_cons (c_op c2_ix (c_var 3) (c_var 5)) c_nil))))
    (cs_augO 3 _ 1 (c_var 5)))))
    (cs_ret (c_call cC_tuple (c_cons (c_var 2) c_nil)))))))
theorem okD_order_by_rank (cNum : CalD P w K mg base Z 2 "is_number" 3 (runS p_is_number N_is_number.length)) (cCount : CalD P w K mg base Z 5 "count_orders" 1 (runS p_count_orders N_count_orders.length)) (cAt : CalD P w K mg base Z 6 "order_at" 2 (runS p_order_at N_order_at.length)) (F : Fun K "order_by_rank" "order_by_rank" s_order_by_rank f fd) : FnOk P w K mg base (L2.CX P w) 7 f fd ["way", "rank"] (spD K Z 2 (runS p_order_by_rank N_order_by_rank.length)) := by
  have nd := sc_order_by_rank.nd
  refine fnO F sc_order_by_rank (by decide) fun cdv A outer s H E hr => ?_
  refine ⟨_, (pss_cons (ps_if (pt_not (pt_val (PP.pe (pp_call cNum hr (by decide) (passes_call (takes_of rfl rfl rfl rfl) (fun _ _ _ _ h => h)) rfl ⟨(pa_cons (pv 1) (pa_cons pe_int (pa_cons (pe_op op_sub (PP.pe (pp_call cCount hr (by decide) (passes_call (takes_of rfl rfl rfl rfl) (fun _ _ _ _ h => h)) rfl ⟨(pa_cons (pv 0) pa_nil), (c_cons (c_var 0) c_nil)⟩)) pe_int) pa_nil))), (c_cons (c_var 1) (c_cons (c_c fun _ => .int _) (c_cons (c_op c2_sub (c_call' (c_cons (c_var 0) c_nil)) (c_c fun _ => .int _)) c_nil)))⟩)))) pss_never pss_nil)
    (pss_one (ps_ret (PP.pe (pp_call cAt hr (by decide) (passes_call (takes_of rfl rfl rfl rfl) (fun _ _ _ _ h => h)) rfl ⟨(pa_cons (pv 0) (pa_cons (pv 1) pa_nil)), (c_cons (c_var 0) (c_cons (c_var 1) c_nil))⟩))))), ?_⟩
  exact (cs_seq (cs_if (c_not (c_tB (c_call' (c_cons (c_var 1) (c_cons (c_c fun _ => .int _) (c_cons (c_op c2_sub (c_call' (c_cons (c_var 0) c_nil)) (c_c fun _ => .int _)) c_nil)))))) cs_never cs_next)
    (cs_ret (c_call' (c_cons (c_var 0) (c_cons (c_var 1) c_nil)))))
theorem okD_check_order (B : Bt mg) (T : Bw mg) (pRights : Pr P w K mg base (Z.cl 0) "rights" "_rights") (cLen : LenD P w K mg base Z 4 0 (runS p_Way___len__ N_Way___len__.length)) (cPair : CalD P w K mg base Z 4 "is_pair" 2 (runS p_is_pair N_is_pair.length)) (cReady : CalD P w K mg base Z 3 "ready_rights" 2 (runS p_ready_rights N_ready_rights.length)) (F : Fun K "check_order" "check_order" s_check_order f fd) : FnOk P w K mg base (L2.CX P w) 6 f fd ["way", "order"] (spD K Z 2 (runS p_check_order N_check_order.length)) := by
  have nd := sc_check_order.nd
  refine fnO F sc_check_order (by decide) fun cdv A outer s H E hr => ?_
  refine ⟨_, (pss_cons (ps_if (PW.pt (pw_or (pt_not (pt_val (pe_callB call_isi (by rfl) T.isinstance (by decide +kernel) (pa_cons (pv 1) (pa_cons (pe_bltn (v := .ty "tuple") (by rfl) B.tuple (by decide +kernel) rfl) pa_nil))))) (pw_or1 (pt_cmpR (op_neD hr.units) (pe_callB call_len_seq (by rfl) B.len PySem.boot_len (pa_cons (pv 1) pa_nil)) (pe_callB (call_lenD cLen hr (by decide) (passes_call (takes_of rfl rfl rfl rfl) (fun _ _ _ _ h => h))) (by rfl) B.len PySem.boot_len (pa_cons (pv 0) pa_nil)) (nomark _))))) pss_never pss_nil)
    (pss_cons (ps_set (i := 2) nd rfl (Or.inl rfl) (pe_op op_rep (pe_lst (pa_cons pe_int pa_nil)) (pe_pr pRights hr (by decide) (pv 0))))
    (pss_one (ps_for (passes_of rfl) rfl (EnT.pi_enumT rfl B.enumerate (pa_cons (pv 1) pa_nil)) (pg_tup rfl (pgs_cons (pg_name (i := 3) nd rfl (Or.inl rfl)) (pgs_cons (pg_name (i := 4) nd rfl (Or.inl rfl)) pgs_nil)))
    (pss_cons (ps_if (pt_not (pt_val (PP.pe (pp_call cPair hr (by decide) (passes_call (takes_of rfl rfl rfl rfl) (fun _ _ _ _ h => h)) rfl ⟨(pa_cons (pv 0) (pa_cons (pv 4) pa_nil)), (c_cons (c_var 0) (c_cons (c_var 4) c_nil))⟩)))) pss_never pss_nil)
    (pss_cons (ps_asg (pv 4) (pg_tup rfl (pgs_cons (pg_name (i := 5) nd rfl (Or.inl rfl)) (pgs_cons (pg_name (i := 6) nd rfl (Or.inl rfl)) pgs_nil))))
    (pss_cons (ps_if (PW.pt (pw_or (pt_cmpR (op_neD hr.units) (pv 6) (pe_ix ix_seq (pv 2) (pv 5) (fun _ _ => rfl)) (nomark _)) (pw_or1 (pt_cmpR (show OpR _ (compareOp .NotIn) (rIn _ true) from op_notIn_seq) (pv 5) (PP.pe (pp_call cReady hr (by decide) (passes_call (takes_of rfl rfl rfl rfl) (fun _ _ _ _ h => h)) rfl ⟨(pa_cons (pv 0) (pa_cons (pv 2) pa_nil)), (c_cons (c_var 0) (c_cons (c_var 2) c_nil))⟩)) (by rfl))))) pss_never pss_nil)
    (pss_one (ps_augS (pv 2) (pv 5) get_list pe_int ip_add set_list))))))))), ?_⟩
  exact (cs_seq (cs_if (c_or (c_not (c_tB (c_isiT (c_var 1)))) (c_tT (c_op c2_neD (c_call cC_len (c_cons (c_var 1) c_nil)) (c_call cC_lenD (c_cons (c_var 0) c_nil))))) cs_never cs_next)
    (cs_seq (cs_setW 2 (cl_rep (cl_lit (c_cons (c_c fun _ => .int _) c_nil)) (c_prop (i := 0) (by decide +kernel) (by rfl) (c_var 0))))
    (cs_for (ci_enumT (c_cons (c_var 1) c_nil)) (cg_tup (cg_cons (cg_name 3) (cg_cons (cg_name 4) cg_nil)))
    (cs_seq (cs_if (c_not (c_tB (c_call' (c_cons (c_var 0) (c_cons (c_var 4) c_nil))))) cs_never cs_next)
    (cs_seq (cs_asg (c_var 4) (cg_tup (cg_cons (cg_name 5) (cg_cons (cg_name 6) cg_nil))))
    (cs_seq (cs_if (c_or (c_tT (c_op c2_neD (c_var 6) (c_op c2_ix (c_var 2) (c_var 5)))) (c_tT (c_op (c2_in true) (c_var 5) (c_call' (c_cons (c_var 0) (c_cons (c_var 2) c_nil)))))) cs_never cs_next)
    (cs_augO 2 _ 1 (c_var 5))))))))
theorem okD_rank_of_order (B : Bt mg) (pRights : Pr P w K mg base (Z.cl 0) "rights" "_rights") (cChk : CalD P w K mg base Z 6 "check_order" 2 (runS p_check_order N_check_order.length)) (cReady : CalD P w K mg base Z 3 "ready_rights" 2 (runS p_ready_rights N_ready_rights.length)) (cEnd : CalD P w K mg base Z 4 "count_endings" 2 (runS p_count_endings N_count_endings.length)) (cMore : CalD P w K mg base Z 1 "one_more" 2 (runS p_one_more N_one_more.length)) (F : Fun K "rank_of_order" "rank_of_order" s_rank_of_order f fd) : FnOk P w K mg base (L2.CX P w) 7 f fd ["way", "order"] (spD K Z 2 (runS p_rank_of_order N_rank_of_order.length)) := by
  have nd := sc_rank_of_order.nd
  refine fnO F sc_rank_of_order (by decide) fun cdv A outer s H E hr => ?_
  refine ⟨_, (pss_cons (ps_expr (PP.pe (pp_call cChk hr (by decide) (passes_call (takes_of rfl rfl rfl rfl) (fun _ _ _ _ h => h)) rfl ⟨(pa_cons (pv 0) (pa_cons (pv 1) pa_nil)), (c_cons (c_var 0) (c_cons (c_var 1) c_nil))⟩)))
    (pss_cons (ps_set (i := 2) nd rfl (Or.inl rfl) pe_int)
    (pss_cons (ps_set (i := 3) nd rfl (Or.inl rfl) (pe_op op_rep (pe_lst (pa_cons pe_int pa_nil)) (pe_pr pRights hr (by decide) (pv 0))))
    (pss_cons (ps_for (passes_of rfl) rfl (pi_seq (pv 1)) (pg_tup rfl (pgs_cons (pg_name (i := 4) nd rfl (Or.inl rfl)) (pgs_cons (pg_name (i := 5) nd rfl (Or.inl rfl)) pgs_nil)))
    (pss_cons (ps_for (passes_of rfl) rfl (pi_seq (PP.pe (pp_call cReady hr (by decide) (passes_call (takes_of rfl rfl rfl rfl) (fun _ _ _ _ h => h)) rfl ⟨(pa_cons (pv 0) (pa_cons (pv 3) pa_nil)), (c_cons (c_var 0) (c_cons (c_var 3) c_nil))⟩))) (pg_name (i := 6) nd rfl (Or.inl rfl))
    (pss_one (ps_if (pt_cmpR op_lt (pv 6) (pv 4) (nomark _)) (pss_one (ps_aug (i := 2) nd rfl (Or.inl rfl) (PP.pe (pp_call cEnd hr (by decide) (passes_call (takes_of rfl rfl rfl rfl) (fun _ _ _ _ h => h)) rfl ⟨(pa_cons (pv 0) (pa_cons (PP.pe (pp_call cMore hr (by decide) (passes_call (takes_of rfl rfl rfl rfl) (fun _ _ _ _ h => h)) rfl ⟨(pa_cons (pv 3) (pa_cons (pv 6) pa_nil)), (c_cons (c_var 3) (c_cons (c_var 6) c_nil))⟩)) pa_nil)), (c_cons (c_var 0) (c_cons (c_call' (c_cons (c_var 3) (c_cons (c_var 6) c_nil))) c_nil))⟩)) ip_add)) pss_nil)))
    (pss_one (ps_augS (pv 3) (pv 4) get_list pe_int ip_add set_list))))
    (pss_one (ps_ret (pv 2))))))), ?_⟩
  exact (cs_seq (cs_drop (c_call' (c_cons (c_var 0) (c_cons (c_var 1) c_nil))))
    (cs_seq (cs_setF 2 (c_c fun _ => .int _))
    (cs_seq (cs_setW 3 (cl_rep (cl_lit (c_cons (c_c fun _ => .int _) c_nil)) (c_prop (i := 0) (by decide +kernel) (by rfl) (c_var 0))))
    (cs_seq (cs_for (ci_seq (c_var 1)) (cg_tup (cg_cons (cg_name 4) (cg_cons (cg_name 5) cg_nil)))
    (cs_seq (cs_forQ 6 (ci_seq (c_call' (c_cons (c_var 0) (c_cons (c_var 3) c_nil)))) (cq_if (c_tT (c_op c2_lt (c_var 6) (c_var 4))) (cq_augN 2 _ (c_call' (c_cons (c_var 0) (c_cons (c_call' (c_cons (c_var 3) (c_cons (c_var 6) c_nil))) c_nil)))) cq_next))
    (cs_augO 3 _ 1 (c_var 4))))
    (cs_ret (c_var 2))))))
theorem okD_least_ending (B : Bt mg) (cPairs : CalD P w K mg base Z 3 "pairs_of" 1 (runS p_pairs_of N_pairs_of.length)) (F : Fun K "least_ending" "least_ending" s_least_ending f fd) : FnOk P w K mg base (L2.CX P w) 4 f fd ["way", "done"] (spD K Z 2 (runS p_least_ending N_least_ending.length)) := by
  have nd := sc_least_ending.nd
  refine fnO F sc_least_ending (by decide) fun cdv A outer s H E hr => ?_
  refine ⟨_, (pss_one (ps_ret (pe_callTy call_tuple_of (by rfl) B.tuple (by decide +kernel) (pa_cons (pe_lc (own := [("right", 2), ("left", 3)]) rfl nd (pi_seq (PP.pe (pp_call cPairs hr (by decide) (passes_call (takes_of rfl rfl rfl rfl) (fun _ _ _ _ h => h)) rfl ⟨(pa_cons (pv 0) pa_nil), (c_cons (c_var 0) c_nil)⟩))) (blkOk_by (N := N_least_ending) (sc := defScope s_least_ending) (by decide +kernel)) (fun _ _ _ _ _ => (show PG _ _ (gTup K 2 (gCons (gName 2) (gCons (gName 3) gNil))) from (pg_tup rfl (pgs_cons (pg_name (i := 2) nd rfl (Or.inl rfl)) (pgs_cons (pg_name (i := 3) nd rfl (Or.inl rfl)) pgs_nil))))) (fun _ _ _ _ _ => pts_one (pt_cmpR op_ge (pv 3) (pe_ix (show IxR _ (rIx K) from ix_seq) (pv 1) (pv 2) (fun _ _ => rfl)) (nomark _))) (fun _ _ _ _ _ => (pe_tup (pa_cons (pv 2) (pa_cons (pv 3) pa_nil))))) pa_nil)))), ?_⟩
  exact (cs_ret (c_call cC_tuple (c_cons (c_mkL (cl_lc (ci_seq (c_call' (c_cons (c_var 0) c_nil))) (cg_tup (cg_cons (cg_name 2) (cg_cons (cg_name 3) cg_nil))) (by decide) (c_tT (c_op c2_ge (c_var 3) (c_op c2_ix (c_var 1) (c_var 2)))) (c_tup (c_cons (c_var 2) (c_cons (c_var 3) c_nil))))) c_nil)))
theorem okD_following (B : Bt mg) (bRe : mg "reversed" = none) (pRights : Pr P w K mg base (Z.cl 0) "rights" "_rights") (pLefts : Pr P w K mg base (Z.cl 0) "lefts" "_lefts") (cReady : CalD P w K mg base Z 3 "ready_rights" 2 (runS p_ready_rights N_ready_rights.length)) (cLeast : CalD P w K mg base Z 4 "least_ending" 2 (runS p_least_ending N_least_ending.length)) (F : Fun K "following" "following" s_following f fd) : FnOk P w K mg base (L2.CX P w) 5 f fd ["way", "order"] (spD K Z 2 (runS p_following N_following.length)) := by
  have nd := sc_following.nd
  refine fnO F sc_following (by decide) fun cdv A outer s H E hr => ?_
  refine ⟨_, (pss_cons (ps_set (i := 2) nd rfl (Or.inl rfl) (pe_op op_rep (pe_lst (pa_cons (pe_pr pLefts hr (by decide) (pv 0)) pa_nil)) (pe_pr pRights hr (by decide) (pv 0))))
    (pss_cons (ps_for (passes_of rfl) rfl (pi_revR (by rfl) bRe (prg_1 (by rfl) B.range (pe_callB call_len_seq (by rfl) B.len PySem.boot_len (pa_cons (pv 1) pa_nil)))) (pg_name (i := 3) nd rfl (Or.inl rfl))
    (pss_cons (ps_set (i := 4) nd rfl (Or.inr rfl) (pe_ix ix_seq (pe_ix ix_seq (pv 1) (pv 3) (fun _ _ => rfl)) pe_int (fun _ _ => rfl)))
    (pss_cons (ps_augS (pv 2) (pv 4) get_list pe_int ip_sub set_list)
    (pss_cons (ps_setLc (i := 5) (own := [("other", 7)]) rfl nd rfl rfl (sw_true rfl rfl rfl (by decide +kernel)) (pi_seq (PP.pe (pp_call cReady hr (by decide) (passes_call (takes_of rfl rfl rfl rfl) (fun _ _ _ _ h => h)) rfl ⟨(pa_cons (pv 0) (pa_cons (pv 2) pa_nil)), (c_cons (c_var 0) (c_cons (c_var 2) c_nil))⟩))) (blkOk_by (N := N_following) (sc := defScope s_following) (by decide +kernel)) (fun _ _ _ _ _ => (pg_name (i := 7) nd rfl (Or.inl rfl))) (fun _ _ _ _ _ => pts_one (pt_cmpR op_gt (pv 7) (pv 4) (nomark _))) (fun _ _ _ _ _ => (pv 7)))
    (pss_one (ps_if (pt_cmpR op_gt (pe_callB call_len_seq (by rfl) B.len PySem.boot_len (pa_cons (pv 5) pa_nil)) pe_int (nomark _)) (pss_cons (ps_augS (pv 2) (pe_ix ix_seq (pv 5) pe_int (fun _ _ => rfl)) get_list pe_int ip_add set_list)
    (pss_cons (ps_set (i := 6) nd rfl (Or.inl rfl) (pe_op op_plus (pe_slice sl_tupA (pv 1) po_none (po_some (pv 3))) (pe_tup (pa_cons (pe_tup (pa_cons (pe_ix ix_seq (pv 5) pe_int (fun _ _ => rfl)) (pa_cons (pe_op op_sub (pe_ix ix_seq (pv 2) (pe_ix ix_seq (pv 5) pe_int (fun _ _ => rfl)) (fun _ _ => rfl)) pe_int) pa_nil))) pa_nil))))
    (pss_one (ps_ret (pe_op op_plus (pv 6) (PP.pe (pp_call cLeast hr (by decide) (passes_call (takes_of rfl rfl rfl rfl) (fun _ _ _ _ h => h)) rfl ⟨(pa_cons (pv 0) (pa_cons (pv 2) pa_nil)), (c_cons (c_var 0) (c_cons (c_var 2) c_nil))⟩))))))) pss_nil))))))
    (pss_one (ps_ret pe_non)))), ?_⟩
  exact (cs_seq (cs_setW 2 (cl_rep (cl_lit (c_cons (c_prop (i := 1) (by decide +kernel) (by rfl) (c_var 0)) c_nil)) (c_prop (i := 0) (by decide +kernel) (by rfl) (c_var 0))))
    (cs_seq (cs_for (ci_rvR (c_call cC_len (c_cons (c_var 1) c_nil))) (cg_name 3)
    (cs_seq (cs_setT 4 (c_op c2_ix (c_op c2_ix (c_var 1) (c_var 3)) (c_c fun _ => .int _)))
    (cs_seq (cs_augO 2 _ 1 (c_var 4))
    (cs_seq (cs_setWT 5 (cl_lc (ci_seq (c_call' (c_cons (c_var 0) (c_cons (c_var 2) c_nil)))) (cg_name 7) (by decide) (c_tT (c_op c2_gt (c_var 7) (c_var 4))) (c_var 7)))
    (cs_if (c_tT (c_op c2_gt (c_call cC_len (c_cons (c_var 5) c_nil)) (c_c fun _ => .int _))) (cs_seq (cs_augO 2 _ 1 (c_op c2_ix (c_var 5) (c_c fun _ => .int _)))
    (cs_seq (cs_setT 6 (c_op c2_plus (c_sl (c_var 1) co_no (co_so (c_var 3))) (c_tup (c_cons (c_tup (c_cons (c_op c2_ix (c_var 5) (c_c fun _ => .int _)) (c_cons (c_op c2_sub (c_op c2_ix (c_var 2) (c_op c2_ix (c_var 5) (c_c fun _ => .int _))) (c_c fun _ => .int _)) c_nil))) c_nil))))
    (cs_ret (c_op c2_plus (c_var 6) (c_call' (c_cons (c_var 0) (c_cons (c_var 2) c_nil))))))) cs_next)))))
    (cs_ret (c_c fun _ => .non))))
theorem okD__law_ready (B : Bt mg) (F : Fun K "_law_ready" "_law_ready" s__law_ready f fd) : FnOk P w K mg base (L2.CX P w) 1 f fd ["_law_east", "_law_west", "_law_found"] (spD K Z 3 (runS p__law_ready N__law_ready.length)) := by
  have nd := sc__law_ready.nd
  refine fnO F sc__law_ready (by decide) fun cdv A outer s H E hr => ?_
  refine ⟨_, (pss_cons (ps_set (i := 3) nd rfl (Or.inl rfl) (pe_lst pa_nil))
    (pss_cons (ps_for (passes_of rfl) rfl (pi_range1 rfl B.range (pa_cons (pv 0) pa_nil)) (pg_name (i := 4) nd rfl (Or.inl rfl))
    (pss_one (ps_for (passes_of rfl) rfl (pi_range1 rfl B.range (pa_cons (pv 1) pa_nil)) (pg_name (i := 5) nd rfl (Or.inl rfl))
    (pss_cons (ps_set (i := 6) nd rfl (Or.inl rfl) (pe_and (pe_or (pe_cmpR (op_eqD hr.units) (pv 4) pe_int (nomark _)) (pe_one (pe_cmpR (show OpR _ (compareOp .In) (rInT _) from op_inT (by exact (hu65 hr))) (pe_tup (pa_cons (pe_op op_sub (pv 4) pe_int) (pa_cons (pv 5) pa_nil))) (pv 2) (by rfl)))) (pe_one (pe_or (pe_cmpR (op_eqD hr.units) (pv 5) pe_int (nomark _)) (pe_one (pe_cmpR (show OpR _ (compareOp .In) (rInT _) from op_inT (by exact (hu65 hr))) (pe_tup (pa_cons (pv 4) (pa_cons (pe_op op_sub (pv 5) pe_int) pa_nil))) (pv 2) (by rfl)))))))
    (pss_one (ps_if (PW.pt (pw_and (pt_val (pv 6)) (pw_and1 (pt_cmpR (show OpR _ (compareOp .NotIn) (rNInT _) from op_ninT (by exact (hu65 hr))) (pe_tup (pa_cons (pv 4) (pa_cons (pv 5) pa_nil))) (pv 2) (by rfl))))) (pss_one (ps_expr (pe_bm PySem.F.plainAttrs_list PySem.F.slot_list_append PySem.F.type_list_append mt_append (pv 3) (pa_cons (pe_tup (pa_cons (pv 4) (pa_cons (pv 5) pa_nil))) pa_nil)))) pss_nil))))))
    (pss_one (ps_ret (pv 3))))), ?_⟩
  exact (cs_seq (cs_setW 3 (cl_lit c_nil))
    (cs_seq (cs_for (ci_rng1 (c_cons (c_var 0) c_nil)) (cg_name 4)
    (cs_for (ci_rng1 (c_cons (c_var 1) c_nil)) (cg_name 5)
    (cs_seq (cs_setT 6 (c_andV (c_orV (c_op c2_eqD (c_var 4) (c_c fun _ => .int _)) (c_op c2_inT (c_tup (c_cons (c_op c2_sub (c_var 4) (c_c fun _ => .int _)) (c_cons (c_var 5) c_nil))) (c_var 2))) (c_orV (c_op c2_eqD (c_var 5) (c_c fun _ => .int _)) (c_op c2_inT (c_tup (c_cons (c_var 4) (c_cons (c_op c2_sub (c_var 5) (c_c fun _ => .int _)) c_nil))) (c_var 2)))))
    (cs_if (c_and (c_tB (c_var 6)) (c_tT (c_op c2_ninT (c_tup (c_cons (c_var 4) (c_cons (c_var 5) c_nil))) (c_var 2)))) (cs_app 3 (c_tup (c_cons (c_var 4) (c_cons (c_var 5) c_nil)))) cs_next))))
    (cs_ret (c_var 3))))
theorem okD__law_all_orders (B : Bt mg) (cLReady : CalD P w K mg base Z 1 "_law_ready" 3 (runS p__law_ready N__law_ready.length)) (F : Fun K "_law_all_orders" "_law_all_orders" s__law_all_orders f fd) : FnOk P w K mg base (L2.CX P w) 2 f fd ["_law_east", "_law_west"] (spD K Z 2 (runS p__law_all_orders N__law_all_orders.length)) := by
  have nd := sc__law_all_orders.nd
  refine fnO F sc__law_all_orders (by decide) fun cdv A outer s H E hr => ?_
  refine ⟨_, (pss_cons (ps_set (i := 2) nd rfl (Or.inl rfl) (pe_lst (pa_cons (pe_tup pa_nil) pa_nil)))
    (pss_cons (ps_for (passes_of rfl) rfl (pi_range1 rfl B.range (pa_cons (pe_op op_mul (pv 0) (pv 1)) pa_nil)) (pg_name (i := 3) nd rfl (Or.inl rfl))
    (pss_cons (ps_set (i := 4) nd rfl (Or.inl rfl) (pe_lst pa_nil))
    (pss_cons (ps_for (passes_of rfl) rfl (pi_seq (pv 2)) (pg_name (i := 5) nd rfl (Or.inr rfl))
    (pss_one (ps_expr (pe_bm PySem.F.plainAttrs_list PySem.F.slot_list_extend PySem.F.type_list_extend mt_extend (pv 4) (pa_cons (pe_lc (own := [("_law_pair", 6)]) rfl nd (pi_seq (PP.pe (pp_call cLReady hr (by decide) (passes_call (takes_of rfl rfl rfl rfl) (fun _ _ _ _ h => h)) rfl ⟨(pa_cons (pv 0) (pa_cons (pv 1) (pa_cons (pv 5) pa_nil))), (c_cons (c_var 0) (c_cons (c_var 1) (c_cons (c_var 5) c_nil)))⟩))) (blkOk_by (N := N__law_all_orders) (sc := defScope s__law_all_orders) (by decide +kernel)) (fun _ _ _ _ _ => (pg_name (i := 6) nd rfl (Or.inl rfl))) (fun _ _ _ _ _ => pts_nil) (fun _ _ _ _ _ => (pe_op (show OpR _ (binaryOp .Add) (rPlus K) from op_plus) (pv 5) (pe_tup (pa_cons (pv 6) pa_nil))))) pa_nil)))))
    (pss_one (ps_set (i := 2) nd rfl (Or.inl rfl) (pv 4))))))
    (pss_one (ps_ret (pv 2))))), ?_⟩
  exact (cs_seq (cs_setF 2 (c_mkL (cl_lit (c_cons (c_tup c_nil) c_nil))))
    (cs_seq (cs_for (ci_rng1 (c_cons (c_op c2_mul (c_var 0) (c_var 1)) c_nil)) (cg_name 3)
    (cs_seq (cs_setW 4 (cl_lit c_nil))
    (cs_seq (cs_for (ci_seq (c_var 2)) (cg_name 5)
    (cs_extW 4 (cl_lc (ci_seq (c_call' (c_cons (c_var 0) (c_cons (c_var 1) (c_cons (c_var 5) c_nil))))) (cg_name 6) (by decide) c_yes (c_op c2_plus (c_var 5) (c_tup (c_cons (c_var 6) c_nil))))))
    (cs_setA 2 (c_var 4)))))
    (cs_ret (c_var 2))))
end
end W2

/-! K4B: the generator orders. -/
namespace W2
open PySem PySem.Spec PyProof.Rows L2 Pg Pf LamX Pp Tab Rul
abbrev s_orders : Stmt := top 26
abbrev N_orders : List Str := ["way", "start", "total", "order"]
theorem sc_orders : GScope N_orders ["way", "start"] (defScope s_orders) := ⟨rfl, rfl, rfl, by decide +kernel, rfl, by decide +kernel, by decide +kernel⟩
def o_tot : Slots → S → R Fl := setF 2 (bC (nF 1 (runS p_count_orders N_count_orders.length)) (cnsA (vr 0) nilA))
def o_num : Slots → S → R Fl := ifS (bnt (tst (bC (nF 3 (runS p_is_number N_is_number.length)) (cnsA (vr 1) (cnsA (kst (.int 0)) (cnsA (vr 2) nilA)))))) (fun _ _ => .un) nxS
def o_non : Slots → S → R Fl := setF 3 (kst .non)
def o_at : Slots → S → R Fl := ifS (tst (b2 (intF fun i j => .bl (decide (i < j))) (vr 1) (vr 2))) (setF 3 (bC (nF 2 (runS p_order_at N_order_at.length)) (cnsA (vr 0) (cnsA (vr 1) nilA)))) nxS
def o_fol : Slots → S → R Fl := setF 3 (bC (nF 2 (runS p_following N_following.length)) (cnsA (vr 0) (cnsA (vr 3) nilA)))
def o_tst : Slots → S → R Bool := tst (b2 notNF (vr 3) (kst .non))
def o_body : Slots → Option (List D × Fl) := seqY (yldY (vr 3)) (seqY (plY o_fol) nilY)
def p_orders : Slots → Option (List D × Fl) := seqY (plY o_tot) (seqY (plY o_num) (seqY (plY o_non) (seqY (plY o_at) (seqY (whlYL o_tst o_body 50) nilY))))
section
variable {P : Program} {w : World} {K : PySem.W.Frag} {mg : Str → Option Value} {base : Heap} {Z : Zn} {f : Addr} {fd : FuncData}
theorem plain_orders : Gn.Plain (defScope s_orders) := fun x => by
  have h : (defScope s_orders).names.lookup x = none ∨ ∃ y, (x, y) ∈ (defScope s_orders).names ∧ (defScope s_orders).names.lookup x = some y := by
    cases e : (defScope s_orders).names.lookup x with
    | none => exact .inl rfl
    | some y => exact .inr ⟨y, PySem.mem_of_lookup e, rfl⟩
  rcases h with h | ⟨y, hm, h⟩
  · rw [h]; exact ⟨by simp, by simp⟩
  · have all : ∀ p ∈ (defScope s_orders).names, p.2 ≠ .cell ∧ p.2 ≠ .free := by decide +kernel
    rw [h]
    obtain ⟨h1, h2⟩ := all _ hm
    exact ⟨fun z => h1 (Option.some.inj z), fun z => h2 (Option.some.inj z)⟩
theorem ok_orders (cCount : CalD P w K mg base Z 5 "count_orders" 1 (runS p_count_orders N_count_orders.length)) (cNum : CalD P w K mg base Z 2 "is_number" 3 (runS p_is_number N_is_number.length)) (cAt : CalD P w K mg base Z 6 "order_at" 2 (runS p_order_at N_order_at.length)) (cFol : CalD P w K mg base Z 5 "following" 2 (runS p_following N_following.length)) (F : Fun K "orders" "orders" s_orders f fd) : Gn.GnOk P w K mg base 9 f fd ["way", "start"] (spYD K Z 2 (runY p_orders N_orders.length)) := by
  have nd := sc_orders.nd
  refine fnY F sc_orders plain_orders (fun _ => rfl) (by decide) fun f cd A outer n0 a go os out hr ft => ?_
  refine ⟨_, Gn.gss_cons (Gn.gs_ps (fun wk => show PS _ _ (tAsg (tCall (spD K Z 1 (runS p_count_orders N_count_orders.length)) [] E0 (tCons (tVar 0) tNil)) (gName 2)) from ps_set (i := 2) nd rfl (Or.inl rfl) (PP.pe (pp_call cCount (hr _) (by decide) passX0 rfl ⟨(pa_cons (pv 0) pa_nil), (c_cons (c_var 0) c_nil)⟩))))
    (Gn.gss_cons (Gn.gs_ps (fun wk => show PS _ _ (tIfS (tNot (tB (tCall (spD K Z 3 (runS p_is_number N_is_number.length)) [] E0 (tCons (tVar 1) (tCons (tC (.int 0)) (tCons (tVar 2) tNil)))))) tNever tNext) from ps_if (pt_not (pt_val (PP.pe (pp_call cNum (hr _) (by decide) passX0 rfl ⟨(pa_cons (pv 1) (pa_cons pe_int (pa_cons (pv 2) pa_nil))), (c_cons (c_var 1) (c_cons (c_c fun _ => .int _) (c_cons (c_var 2) c_nil)))⟩)))) pss_never pss_nil))
    (Gn.gss_cons (Gn.gs_ps (fun wk => ps_set (i := 3) nd rfl (Or.inl rfl) pe_non))
    (Gn.gss_cons (Gn.gs_ps (fun wk => show PS _ _ (tIfS (tTest (tOp (rI0 fun i j => .bl (decide (i < j))) (tVar 1) (tVar 2))) (tAsg (tCall (spD K Z 2 (runS p_order_at N_order_at.length)) [] E0 (tCons (tVar 0) (tCons (tVar 1) tNil))) (gName 3)) tNext) from ps_if (pt_cmpR op_lt (pv 1) (pv 2) (nomark _)) (pss_one (ps_set (i := 3) nd rfl (Or.inl rfl) (PP.pe (pp_call cAt (hr _) (by decide) passX0 rfl ⟨(pa_cons (pv 0) (pa_cons (pv 1) pa_nil)), (c_cons (c_var 0) (c_cons (c_var 1) c_nil))⟩)))) pss_nil))
    (Gn.gss_cons (Gn.gs_while ft (fun wk => pt_cmpR op_notN (pv 3) pe_non (nomark _)) (Gn.gss_cons (Gn.gs_yield ft (fun wk => pv 3))
      (Gn.gss_cons (Gn.gs_ps (fun wk => show PS _ _ (tAsg (tCall (spD K Z 2 (runS p_following N_following.length)) [] E0 (tCons (tVar 0) (tCons (tVar 3) tNil))) (gName 3)) from ps_set (i := 3) nd rfl (Or.inl rfl) (PP.pe (pp_call cFol (hr _) (by decide) passX0 rfl ⟨(pa_cons (pv 0) (pa_cons (pv 3) pa_nil)), (c_cons (c_var 0) (c_cons (c_var 3) c_nil))⟩)))) Gn.gss_nil)))
    Gn.gss_nil)))), ?_⟩
  exact cy_seq (cy_pl (cs_setF 2 (c_call' (c_cons (c_var 0) c_nil)))) (cy_seq (cy_pl (cs_if (c_not (c_tB (c_call' (c_cons (c_var 1) (c_cons (c_c fun _ => .int _) (c_cons (c_var 2) c_nil)))))) cs_never cs_next)) (cy_seq (cy_pl (cs_setF 3 (c_c fun _ => .non))) (cy_seq (cy_pl (cs_if (c_tT (c_op c2_lt (c_var 1) (c_var 2))) (cs_setF 3 (c_call' (c_cons (c_var 0) (c_cons (c_var 1) c_nil)))) cs_next))
    (cy_seq (cy_while 50 (c_tT (c_op c2_notN (c_var 3) (c_c fun _ => .non))) (cy_seq (cy_yield (c_var 3)) (cy_seq (cy_pl (cs_setF 3 (c_call' (c_cons (c_var 0) (c_cons (c_var 3) c_nil))))) cy_nil))) cy_nil))))
end
end W2

/-! K4C: _law_first_items, _law_right, the law, as functions on data. -/
namespace W2
open PySem PySem.Spec PyProof.Rows L2 Pg Pf LamX Pp Tab Rul
def gI1 {α : Type} (l : List α) : List α := l
def gI2 {α : Type} : List α → List α
  | [a, b] => [b, a]
  | l => l
theorem gI1_len {α : Type} (l : List α) (h : l.length = 1) : (gI1 l).length = 1 := h
theorem gI2_len {α : Type} (l : List α) (h : l.length = 2) : (gI2 l).length = 2 := by
  match l, h with
  | [a, b], _ => rfl
def minF (ds : List D) (s : S) : R D := match ds with
  | [.int i, .int j] => .ok (.int (if j < i then j else i)) s
  | _ => .un
section
variable {K : PySem.W.Frag} {Z : Zn} {E : XK} {G : Hp} {vs : List L2.V} {ds : List D}
theorem gI1_dv (h : DvA K Z G vs ds) : DvA K Z G (gI1 vs) (gI1 ds) := h
theorem gI2_dv (h : DvA K Z G vs ds) : DvA K Z G (gI2 vs) (gI2 ds) := by
  match vs, ds, h with
  | [], [], h => exact h
  | [_], [_], h => exact h
  | [_, _], [_, _], .cons a (.cons b .nil) => exact .cons b (.cons a .nil)
  | _ :: _ :: _ :: _, _ :: _ :: _ :: _, h => exact h
  | [_], _ :: _ :: _, .cons _ h => cases h
  | _ :: _ :: _, [_], .cons _ h => cases h
  | [_, _], _ :: _ :: _ :: _, .cons _ (.cons _ h) => cases h
  | _ :: _ :: _ :: _, [_, _], .cons _ (.cons _ h) => cases h
theorem cC_min : CmpC K Z E (fun xs H Q => ∃ i j, xs = [.int i, .int j] ∧ Q (.int (if j < i then j else i)) H) minF := fun V H s xs ds Q w r a => by
  unfold minF at a
  split at a
  · rename_i i j
    cases r with
    | cons r1 rr =>
      cases r1
      cases rr with
      | cons r2 rr =>
        cases r2
        cases rr
        exact ⟨i, j, rfl, Ans.pure w (.int _) a⟩
  · exact a.elim
end
abbrev s__law_first_items : Stmt := top 43
abbrev N__law_first_items : List Str := ["_law_road", "_law_number", "_law_most", "_law_found", "_law_one"]
theorem sc__law_first_items : FnScope N__law_first_items ["_law_road", "_law_number", "_law_most"] (defScope s__law_first_items) := ⟨rfl, rfl, rfl, by decide +kernel, rfl, by decide +kernel, by decide +kernel⟩
def p__law_first_items : Slots → S → R Fl :=
  (seqS (setW 3 (litL nilA))
    (seqS (forS (yNF 2 1 1 (runY p_orders N_orders.length) (cnsA (vr 0) nilA) (cnsA (vr 1) nilA)) (gN 4)
    (seqS (ifS (tst (b2 eqF (bC lenF (cnsA (vr 3) nilA)) (vr 2))) (retS (vr 3)) nxS)
    (appS 3 (vr 4))))
    (retS (vr 3))))
abbrev s__law_right : Stmt := top 44
abbrev N__law_right : List Str := ["_law_m", "_law_road", "_law_every", "_law_turn", "_law_n", "_law_found", "_law_one"]
theorem sc__law_right : FnScope N__law_right ["_law_m", "_law_road", "_law_every"] (defScope s__law_right) := ⟨rfl, rfl, rfl, by decide +kernel, rfl, by decide +kernel, by decide +kernel⟩
noncomputable def p__law_right : Slots → S → R Fl :=
  (seqS (ifS (tst (b2 (strF true) (bC reprF (cnsA (mkL (gnL (rgI (yDF 2 [.int 0] (runY p_orders N_orders.length)) (cnsA (vr 1) nilA)))) nilA)) (bC reprF (cnsA (vr 2) nilA)))) (retS (kst (.bl false))) nxS)
    (seqS (ifS (tst (b2 (strF true) (bC reprF (cnsA (mkL (litL (cnsA (bC (nF 1 (runS p_count_orders N_count_orders.length)) (cnsA (vr 1) nilA)) (cnsA (bC (nkF 1 gI1 (runS p_count_orders N_count_orders.length)) (cnsA (vr 1) nilA)) nilA)))) nilA)) (bC reprF (cnsA (mkL (repL (litL (cnsA (bC lenF (cnsA (vr 2) nilA)) nilA)) (kst (.int 2)))) nilA)))) (retS (kst (.bl false))) nxS)
    (seqS (forS (rgI rg1F (cnsA (kst (.int 4)) nilA)) (gN 3)
    (seqS (setF 4 (bC F_draw (cnsA (vr 0) (cnsA (b2 plusF (bC lenF (cnsA (vr 2) nilA)) (kst (.int 1))) nilA))))
    (ifS (bor (tst (b2 neqF (mkL (gnL (rgI (yF 2 (runY p_orders N_orders.length)) (cnsA (vr 1) (cnsA (vr 4) nilA))))) (slLX (vr 2) (soO (vr 4)) noO))) (tst (b2 neqF (bC (nF 3 (neF (runS p__law_first_items N__law_first_items.length))) (cnsA (vr 1) (cnsA (vr 4) (cnsA (kst (.int 3)) nilA)))) (slLX (vr 2) (soO (vr 4)) (soO (b2 plusF (vr 4) (kst (.int 3)))))))) (retS (kst (.bl false))) nxS)))
    (seqS (forS (rgI rg1F (cnsA (kst (.int 8)) nilA)) (gN 3)
    (seqS (setF 4 (bC F_draw (cnsA (vr 0) (cnsA (bC lenF (cnsA (vr 2) nilA)) nilA))))
    (seqS (ifS (tst (b2 (strF true) (bC reprF (cnsA (mkL (litL (cnsA (bC (nF 2 (runS p_order_by_rank N_order_by_rank.length)) (cnsA (vr 1) (cnsA (vr 4) nilA))) (cnsA (bC (nkF 2 gI2 (runS p_order_by_rank N_order_by_rank.length)) (cnsA (vr 4) (cnsA (vr 1) nilA))) nilA)))) nilA)) (bC reprF (cnsA (mkL (repL (litL (cnsA (b2 ixF (vr 2) (vr 4)) nilA)) (kst (.int 2)))) nilA)))) (retS (kst (.bl false))) nxS)
    (ifS (tst (b2 (strF true) (bC reprF (cnsA (mkL (litL (cnsA (bC (nF 2 (runS p_rank_of_order N_rank_of_order.length)) (cnsA (vr 1) (cnsA (b2 ixF (vr 2) (vr 4)) nilA))) (cnsA (bC (nkF 2 gI2 (runS p_rank_of_order N_rank_of_order.length)) (cnsA (b2 ixF (vr 2) (vr 4)) (cnsA (vr 1) nilA))) nilA)))) nilA)) (bC reprF (cnsA (mkL (repL (litL (cnsA (vr 4) nilA)) (kst (.int 2)))) nilA)))) (retS (kst (.bl false))) nxS))))
    (seqS (setW 5 (litL nilA))
    (seqS (forS (rgI (yDF 2 [.int 0] (runY p_orders N_orders.length)) (cnsA (vr 1) nilA)) (gN 6)
    (seqS (appS 5 (vr 6))
    (ifS (tst (b2 neqF (bC (nF 3 (neF (runS p__law_first_items N__law_first_items.length))) (cnsA (vr 1) (cnsA (bC lenF (cnsA (vr 5) nilA)) (cnsA (kst (.int 1)) nilA)))) (slLX (vr 2) (soO (bC lenF (cnsA (vr 5) nilA))) (soO (b2 plusF (bC lenF (cnsA (vr 5) nilA)) (kst (.int 1))))))) (retS (kst (.bl false))) nxS)))
    (retS (b2 eqF (vr 5) (vr 2)))))))))
abbrev s_law : Stmt := top 45
abbrev N_law : List Str := ["_law_script", "_law_m", "_law_bout", "_law_some_here", "_law_east", "_law_west", "_law_road", "_law_net_here"]
theorem sc_law : FnScope N_law ["_law_script"] (defScope s_law) := ⟨rfl, rfl, rfl, by decide +kernel, rfl, by decide +kernel, by decide +kernel⟩
noncomputable def q_law : Slots → S → R Fl :=
  (seqS (forS (rgI rg1F (cnsA (b2 plusF (kst (.int 2)) (bC minF (cnsA (kst (.int 4)) (cnsA (bC lenF (cnsA (vr 0) nilA)) nilA)))) nilA)) (gN 2)
    (seqS (setF 3 (mkL (litL (cnsA (bC tupF (cnsA (kst (.int 1)) (cnsA (kst (.int 1)) nilA))) (cnsA (bC tupF (cnsA (kst (.int 1)) (cnsA (kst (.int 4)) nilA))) (cnsA (bC tupF (cnsA (kst (.int 3)) (cnsA (kst (.int 1)) nilA))) (cnsA (bC tupF (cnsA (kst (.int 2)) (cnsA (kst (.int 2)) nilA))) (cnsA (bC tupF (cnsA (kst (.int 2)) (cnsA (kst (.int 3)) nilA))) (cnsA (bC tupF (cnsA (kst (.int 3)) (cnsA (kst (.int 2)) nilA))) (cnsA (bC tupF (cnsA (kst (.int 3)) (cnsA (kst (.int 3)) nilA))) (cnsA (bC tupF (cnsA (kst (.int 2)) (cnsA (kst (.int 4)) nilA))) (cnsA (bC tupF (cnsA (kst (.int 4)) (cnsA (kst (.int 2)) nilA))) (cnsA (bC tupF (cnsA (kst (.int 2)) (cnsA (kst (.int 5)) nilA))) (cnsA (bC tupF (cnsA (kst (.int 5)) (cnsA (kst (.int 2)) nilA))) nilA))))))))))))))
    (seqS (asgS (b2 ixF (vr 3) (bC F_draw (cnsA (vr 1) (cnsA (kst (.int 11)) nilA)))) (gT 2 (gsC (gN 4) (gsC (gN 5) gs0))))
    (seqS (setF 6 (bC F_wayN (cnsA (vr 4) (cnsA (vr 5) (cnsA (b2 plusF (kst (.int 1)) (bC F_draw (cnsA (vr 1) (cnsA (kst (.int 12)) nilA)))) nilA)))))
    (seqS (ifS (bnt (tst (bC (nF 3 (neF (runS p__law_right N__law_right.length))) (cnsA (vr 1) (cnsA (vr 6) (cnsA (bC (nF 2 (runS p__law_all_orders N__law_all_orders.length)) (cnsA (vr 4) (cnsA (vr 5) nilA))) nilA)))))) (retS (kst (.bl false))) nxS)
    (seqS (setF 7 (bC (nF 3 (neF (tell P_net))) (cnsA (vr 1) (cnsA (kst (.int 2)) (cnsA (kst (.int 4)) nilA)))))
    (ifS (bnt (tst (bC (nF 3 (neF (runS p__law_right N__law_right.length))) (cnsA (vr 1) (cnsA (bC (nF 1 (neF (tell P_lway))) (cnsA (vr 7) nilA)) (cnsA (bC (nF 2 (runS p__law_all_orders N__law_all_orders.length)) (cnsA (b2 ixF (vr 7) (kst (.int 0))) (cnsA (b2 ixF (vr 7) (kst (.int 1))) nilA))) nilA)))))) (retS (kst (.bl false))) nxS)))))))
    (retS (kst (.bl true))))
section
variable {P : Program} {w : World} {K : PySem.W.Frag} {mg : Str → Option Value} {base : Heap} {Z : Zn} {f : Addr} {fd : FuncData}
theorem okD__law_first_items (B : Bt mg) (cOrdN : CalYN P w K mg base Z 9 "orders" 2 1 ["start"] (runY p_orders N_orders.length)) (F : Fun K "_law_first_items" "_law_first_items" s__law_first_items f fd) : FnG P w K mg base 11 f fd ["_law_road", "_law_number", "_law_most"] (spG K Z 3 (runS p__law_first_items N__law_first_items.length)) := by
  have nd := sc__law_first_items.nd
  refine fnGd F sc__law_first_items (by decide) fun cdv A outer s H E hr hgd => ?_
  refine ⟨_, (pss_cons (ps_set (i := 3) nd rfl (Or.inl rfl) (pe_lst pa_nil))
    (pss_cons (Gn.ps_forG PassesOwn.never rfl (hr.mono (by decide)) (Gn.xg_not fun _ _ z => z) (pgn_cN cOrdN hr (by decide) rfl (pa_cons (pv 0) pa_nil) (pk_cons (pv 1) pk_nil)) (pg_name (i := 4) nd rfl (Or.inl rfl))
    (pss_cons (ps_if (pt_cmpR (op_eqD hr.units) (pe_callB call_len_seq (by rfl) B.len PySem.boot_len (pa_cons (pv 3) pa_nil)) (pv 2) (nomark _)) (pss_one (ps_ret (pv 3))) pss_nil)
    (pss_one (ps_expr (pe_bm PySem.F.plainAttrs_list PySem.F.slot_list_append PySem.F.type_list_append mt_append (pv 3) (pa_cons (pv 4) pa_nil))))))
    (pss_one (ps_ret (pv 3))))), ?_⟩
  exact (cs_seq (cs_setW 3 (cl_lit c_nil))
    (cs_seq (cs_forG (c_callYN (c_cons (c_var 0) c_nil) (c_cons (c_var 1) c_nil)) (cg_name 4)
    (cs_seq (cs_if (c_tT (c_op c2_eqD (c_call cC_len (c_cons (c_var 3) c_nil)) (c_var 2))) (cs_ret (c_var 3)) cs_next)
    (cs_app 3 (c_var 4))))
    (cs_ret (c_var 3))))
theorem okD__law_right (B : Bt mg) (bL : mg "list" = none) (cOrd : CalYD P w K mg base Z 9 "orders" 2 [.int 0] (runY p_orders N_orders.length)) (cOrdK : CalYK P w K mg base Z 9 "orders" 2 ["way", "start"] (runY p_orders N_orders.length)) (cOrdN : CalYN P w K mg base Z 9 "orders" 2 1 ["start"] (runY p_orders N_orders.length)) (cCount : CalD P w K mg base Z 5 "count_orders" 1 (runS p_count_orders N_count_orders.length)) (cCountK : CalDK P w K mg base Z 5 "count_orders" 1 ["way"] gI1 (runS p_count_orders N_count_orders.length)) (cByRank : CalD P w K mg base Z 7 "order_by_rank" 2 (runS p_order_by_rank N_order_by_rank.length)) (cByRankK : CalDK P w K mg base Z 7 "order_by_rank" 2 ["rank", "way"] gI2 (runS p_order_by_rank N_order_by_rank.length)) (cRank : CalD P w K mg base Z 7 "rank_of_order" 2 (runS p_rank_of_order N_rank_of_order.length)) (cRankK : CalDK P w K mg base Z 7 "rank_of_order" 2 ["order", "way"] gI2 (runS p_rank_of_order N_rank_of_order.length)) (cD : CalG P w K mg base 3 "_law_draw" spDraw) (cFirst : CalG P w K mg base 11 "_law_first_items" (spG K Z 3 (runS p__law_first_items N__law_first_items.length))) (F : Fun K "_law_right" "_law_right" s__law_right f fd) : FnG P w K mg base 13 f fd ["_law_m", "_law_road", "_law_every"] (spG K Z 3 (runS p__law_right N__law_right.length)) := by
  have nd := sc__law_right.nd
  obtain ⟨fO, fdO, psO, dvO, duO, GO, hmO, kpO, hbO, hvO, hdO⟩ := cOrd.ex
  refine fnGd F sc__law_right (by decide) fun cdv A outer s H E hr hgd => ?_
  refine ⟨_, (pss_cons (ps_if (pt_cmpR op_ne (pe_callB (show CallR _ (.builtin "repr") (rReprD _) from call_reprD hgd hr.units) (by rfl) B.repr (by decide +kernel) (pa_cons (Gn.pe_listGn (Gn.pgn_call GO (hr.mono (by decide)) rfl hmO kpO hbO hvO (pa_cons (pv 1) pa_nil)) (hr.mono (by decide)) rfl (by rfl) bL (by decide +kernel)) pa_nil)) (pe_callB (show CallR _ (.builtin "repr") (rReprD _) from call_reprD hgd hr.units) (by rfl) B.repr (by decide +kernel) (pa_cons (pv 2) pa_nil)) (nomark _)) (pss_one (ps_ret pe_bl)) pss_nil)
    (pss_cons (ps_if (pt_cmpR op_ne (pe_callB (show CallR _ (.builtin "repr") (rReprD _) from call_reprD hgd hr.units) (by rfl) B.repr (by decide +kernel) (pa_cons (pe_lst (pa_cons (PP.pe (pp_call cCount hr (by decide) passX0 rfl ⟨(pa_cons (pv 1) pa_nil), (c_cons (c_var 1) c_nil)⟩)) (pa_cons (pe_cK cCountK hr (by decide) passX0 rfl (pk_cons (pv 1) pk_nil)) pa_nil))) pa_nil)) (pe_callB (show CallR _ (.builtin "repr") (rReprD _) from call_reprD hgd hr.units) (by rfl) B.repr (by decide +kernel) (pa_cons (pe_op op_rep (pe_lst (pa_cons (pe_callB call_len_seq (by rfl) B.len PySem.boot_len (pa_cons (pv 2) pa_nil)) pa_nil)) pe_int) pa_nil)) (nomark _)) (pss_one (ps_ret pe_bl)) pss_nil)
    (pss_cons (ps_for PassesOwn.never rfl (pi_range1 rfl B.range (pa_cons pe_int pa_nil)) (pg_name (i := 3) nd rfl (Or.inl rfl))
    (pss_cons (ps_set (i := 4) nd rfl (Or.inl rfl) (pe_cG cD hr (by decide) hgd rfl (pa_cons (pv 0) (pa_cons (pe_op op_plus (pe_callB call_len_seq (by rfl) B.len PySem.boot_len (pa_cons (pv 2) pa_nil)) pe_int) pa_nil))))
    (pss_one (ps_if (PW.pt (pw_or (pt_cmpR (op_neD hr.units) (Gn.pe_listGn (pgn_cK cOrdK hr (by decide) rfl (pk_cons (pv 1) (pk_cons (pv 4) pk_nil))) (hr.mono (by decide)) rfl (by rfl) bL (by decide +kernel)) (pe_slice sl_list (pv 2) (po_some (pv 4)) po_none) (nomark _)) (pw_or1 (pt_cmpR (op_neD hr.units) (pe_cG cFirst hr (by decide) hgd rfl (pa_cons (pv 1) (pa_cons (pv 4) (pa_cons pe_int pa_nil)))) (pe_slice sl_list (pv 2) (po_some (pv 4)) (po_some (pe_op op_plus (pv 4) pe_int))) (nomark _))))) (pss_one (ps_ret pe_bl)) pss_nil))))
    (pss_cons (ps_for PassesOwn.never rfl (pi_range1 rfl B.range (pa_cons pe_int pa_nil)) (pg_name (i := 3) nd rfl (Or.inl rfl))
    (pss_cons (ps_set (i := 4) nd rfl (Or.inl rfl) (pe_cG cD hr (by decide) hgd rfl (pa_cons (pv 0) (pa_cons (pe_callB call_len_seq (by rfl) B.len PySem.boot_len (pa_cons (pv 2) pa_nil)) pa_nil))))
    (pss_cons (ps_if (pt_cmpR op_ne (pe_callB (show CallR _ (.builtin "repr") (rReprD _) from call_reprD hgd hr.units) (by rfl) B.repr (by decide +kernel) (pa_cons (pe_lst (pa_cons (PP.pe (pp_call cByRank hr (by decide) passX0 rfl ⟨(pa_cons (pv 1) (pa_cons (pv 4) pa_nil)), (c_cons (c_var 1) (c_cons (c_var 4) c_nil))⟩)) (pa_cons (pe_cK cByRankK hr (by decide) passX0 rfl (pk_cons (pv 4) (pk_cons (pv 1) pk_nil))) pa_nil))) pa_nil)) (pe_callB (show CallR _ (.builtin "repr") (rReprD _) from call_reprD hgd hr.units) (by rfl) B.repr (by decide +kernel) (pa_cons (pe_op op_rep (pe_lst (pa_cons (pe_ix ix_seq (pv 2) (pv 4) (fun _ _ => rfl)) pa_nil)) pe_int) pa_nil)) (nomark _)) (pss_one (ps_ret pe_bl)) pss_nil)
    (pss_one (ps_if (pt_cmpR op_ne (pe_callB (show CallR _ (.builtin "repr") (rReprD _) from call_reprD hgd hr.units) (by rfl) B.repr (by decide +kernel) (pa_cons (pe_lst (pa_cons (PP.pe (pp_call cRank hr (by decide) passX0 rfl ⟨(pa_cons (pv 1) (pa_cons (pe_ix ix_seq (pv 2) (pv 4) (fun _ _ => rfl)) pa_nil)), (c_cons (c_var 1) (c_cons (c_op c2_ix (c_var 2) (c_var 4)) c_nil))⟩)) (pa_cons (pe_cK cRankK hr (by decide) passX0 rfl (pk_cons (pe_ix ix_seq (pv 2) (pv 4) (fun _ _ => rfl)) (pk_cons (pv 1) pk_nil))) pa_nil))) pa_nil)) (pe_callB (show CallR _ (.builtin "repr") (rReprD _) from call_reprD hgd hr.units) (by rfl) B.repr (by decide +kernel) (pa_cons (pe_op op_rep (pe_lst (pa_cons (pv 4) pa_nil)) pe_int) pa_nil)) (nomark _)) (pss_one (ps_ret pe_bl)) pss_nil)))))
    (pss_cons (ps_set (i := 5) nd rfl (Or.inl rfl) (pe_lst pa_nil))
    (pss_cons (Gn.ps_forG PassesOwn.never rfl (hr.mono (by decide)) (Gn.xg_not fun _ _ z => z) (Gn.pgn_call GO (hr.mono (by decide)) rfl hmO kpO hbO hvO (pa_cons (pv 1) pa_nil)) (pg_name (i := 6) nd rfl (Or.inl rfl))
    (pss_cons (ps_expr (pe_bm PySem.F.plainAttrs_list PySem.F.slot_list_append PySem.F.type_list_append mt_append (pv 5) (pa_cons (pv 6) pa_nil)))
    (pss_one (ps_if (pt_cmpR (op_neD hr.units) (pe_cG cFirst hr (by decide) hgd rfl (pa_cons (pv 1) (pa_cons (pe_callB call_len_seq (by rfl) B.len PySem.boot_len (pa_cons (pv 5) pa_nil)) (pa_cons pe_int pa_nil)))) (pe_slice sl_list (pv 2) (po_some (pe_callB call_len_seq (by rfl) B.len PySem.boot_len (pa_cons (pv 5) pa_nil))) (po_some (pe_op op_plus (pe_callB call_len_seq (by rfl) B.len PySem.boot_len (pa_cons (pv 5) pa_nil)) pe_int))) (nomark _)) (pss_one (ps_ret pe_bl)) pss_nil))))
    (pss_one (ps_ret (pe_cmpR (op_eqD hr.units) (pv 5) (pv 2) (nomark _)))))))))), ?_⟩
  exact (cs_seq (cs_if (c_tT (c_op c2_neS (c_call cC_repr (c_cons (c_mkL (cl_listG (c_callYD hdO (c_cons (c_var 1) c_nil)))) c_nil)) (c_call cC_repr (c_cons (c_var 2) c_nil)))) (cs_ret (c_c fun _ => .bl _)) cs_next)
    (cs_seq (cs_if (c_tT (c_op c2_neS (c_call cC_repr (c_cons (c_mkL (cl_lit (c_cons (c_call' (c_cons (c_var 1) c_nil)) (c_cons (c_cK (g := gI1) gI1_len gI1_dv (c_cons (c_var 1) c_nil)) c_nil)))) c_nil)) (c_call cC_repr (c_cons (c_mkL (cl_rep (cl_lit (c_cons (c_call cC_len (c_cons (c_var 2) c_nil)) c_nil)) (c_c fun _ => .int _))) c_nil)))) (cs_ret (c_c fun _ => .bl _)) cs_next)
    (cs_seq (cs_for (ci_rng1 (c_cons (c_c fun _ => .int _) c_nil)) (cg_name 3)
    (cs_seq (cs_setF 4 (c_draw (c_cons (c_var 0) (c_cons (c_op c2_plus (c_call cC_len (c_cons (c_var 2) c_nil)) (c_c fun _ => .int _)) c_nil))))
    (cs_if (c_or (c_tT (c_op c2_neD (c_mkL (cl_listG (c_callYK rfl (c_cons (c_var 1) (c_cons (c_var 4) c_nil))))) (c_slL (c_var 2) (co_so (c_var 4)) co_no))) (c_tT (c_op c2_neD (c_callG (c_cons (c_var 1) (c_cons (c_var 4) (c_cons (c_c fun _ => .int _) c_nil)))) (c_slL (c_var 2) (co_so (c_var 4)) (co_so (c_op c2_plus (c_var 4) (c_c fun _ => .int _))))))) (cs_ret (c_c fun _ => .bl _)) cs_next)))
    (cs_seq (cs_for (ci_rng1 (c_cons (c_c fun _ => .int _) c_nil)) (cg_name 3)
    (cs_seq (cs_setF 4 (c_draw (c_cons (c_var 0) (c_cons (c_call cC_len (c_cons (c_var 2) c_nil)) c_nil))))
    (cs_seq (cs_if (c_tT (c_op c2_neS (c_call cC_repr (c_cons (c_mkL (cl_lit (c_cons (c_call' (c_cons (c_var 1) (c_cons (c_var 4) c_nil))) (c_cons (c_cK (g := gI2) gI2_len gI2_dv (c_cons (c_var 4) (c_cons (c_var 1) c_nil))) c_nil)))) c_nil)) (c_call cC_repr (c_cons (c_mkL (cl_rep (cl_lit (c_cons (c_op c2_ix (c_var 2) (c_var 4)) c_nil)) (c_c fun _ => .int _))) c_nil)))) (cs_ret (c_c fun _ => .bl _)) cs_next)
    (cs_if (c_tT (c_op c2_neS (c_call cC_repr (c_cons (c_mkL (cl_lit (c_cons (c_call' (c_cons (c_var 1) (c_cons (c_op c2_ix (c_var 2) (c_var 4)) c_nil))) (c_cons (c_cK (g := gI2) gI2_len gI2_dv (c_cons (c_op c2_ix (c_var 2) (c_var 4)) (c_cons (c_var 1) c_nil))) c_nil)))) c_nil)) (c_call cC_repr (c_cons (c_mkL (cl_rep (cl_lit (c_cons (c_var 4) c_nil)) (c_c fun _ => .int _))) c_nil)))) (cs_ret (c_c fun _ => .bl _)) cs_next))))
    (cs_seq (cs_setW 5 (cl_lit c_nil))
    (cs_seq (cs_forG (c_callYD hdO (c_cons (c_var 1) c_nil)) (cg_name 6)
    (cs_seq (cs_app 5 (c_var 6))
    (cs_if (c_tT (c_op c2_neD (c_callG (c_cons (c_var 1) (c_cons (c_call cC_len (c_cons (c_var 5) c_nil)) (c_cons (c_c fun _ => .int _) c_nil)))) (c_slL (c_var 2) (co_so (c_call cC_len (c_cons (c_var 5) c_nil))) (co_so (c_op c2_plus (c_call cC_len (c_cons (c_var 5) c_nil)) (c_c fun _ => .int _)))))) (cs_ret (c_c fun _ => .bl _)) cs_next)))
    (cs_ret (c_op c2_eqD (c_var 5) (c_var 2)))))))))
end
end W2

/-! K4D: what the program answers for ways of given numbers of walkers: the shape of it. -/
namespace W2
open PySem PySem.Spec PyProof.Rows L2 Pg Pf LamX Pp Tab Rul
def wayX (r l : Nat) (d : List D) : D := .obj 0 (.int (r : Nat) :: .int (l : Nat) :: d)
def ordL : List Nat → List Nat → List D
  | _, [] => []
  | don, i :: is => .tup [.int (i : Nat), .int ((don.getD i 0 : Nat) : Int)] :: ordL (don.set i (don.getD i 0 + 1)) is
def ordD (r : Nat) (rs : List Nat) : D := .tup (ordL (List.replicate r 0) rs)
/-- an order as data that can be compared and shown -/
def goodB (d : D) : Bool := (match d with | .tup _ => true | _ => false) && (d.isPy && d.py.canLay0 && decide (d.py.depth ≤ 60))
mutual
def smlP : PyData → Bool
  | .none | .bool _ => true
  | .int i => decide (i.natAbs < 2 ^ 30)
  | .list xs => smlPA xs
  | .tuple xs => smlPA xs
  | _ => false
def smlPA : List PyData → Bool
  | [] => true
  | x :: xs => smlP x && smlPA xs
end
mutual
theorem fine_sml : ∀ d : PyData, smlP d = true → Fine d.depth d.weight d
  | .none, _ => Fine.none.mono (Nat.zero_le _) (Nat.zero_le _)
  | .bool b, _ => (Fine.bool b).mono (Nat.zero_le _) (Nat.zero_le _)
  | .int i, h => by
    have f : Fine 0 31 (.int i) := Fine.int (of_decide_eq_true h)
    exact ⟨f.lay, f.sh, Nat.le_refl _, f.sl, Nat.le_refl _⟩
  | .list xs, h => by
    have f := fineA_sml xs h
    exact ⟨f.lay, f.sh, Nat.le_refl _, f.sl, Nat.le_refl _⟩
  | .tuple xs, h => by
    have f := fineA_sml xs h
    exact ⟨f.lay, f.sh, Nat.le_refl _, f.sl, Nat.le_refl _⟩
theorem fineA_sml : ∀ ds : List PyData, smlPA ds = true → FineAll (PyData.depthAll ds) (PyData.weightAll ds) ds
  | [], _ => .nil
  | d :: ds, h => by
    have h := Bool.and_eq_true_iff.mp h
    have f := fine_sml d h.1
    have g := fineA_sml ds h.2
    refine ⟨?_, ?_, Nat.le_refl _, ?_, Nat.le_refl _⟩
    · show (d.canLay0 && PyData.canLayAll0 ds) = true
      rw [f.lay, g.lay]; rfl
    · show (d.showable && PyData.showableAll ds) = true
      rw [f.sh, g.sh]; rfl
    · show (d.leavesShort 13 && PyData.leavesShortAll 13 ds) = true
      rw [f.sl, g.sl]; rfl
end
def rsm (d : D) : Bool := d.isPy && isSq d && smlP d.py && decide (d.py.depth ≤ 60) && decide (d.py.weight ≤ 100000)
theorem repr_sml {d : D} (h : rsm d = true) : reprOk d := by
  have h1 := Bool.and_eq_true_iff.mp h
  have h2 := Bool.and_eq_true_iff.mp h1.1
  have h3 := Bool.and_eq_true_iff.mp h2.1
  have h4 := Bool.and_eq_true_iff.mp h3.1
  have f := (fine_sml d.py h3.2).mono (of_decide_eq_true h2.2) (of_decide_eq_true h1.2)
  exact ⟨h4.1, h4.2, f.sh, f.nodict, f.dp, f.fits (by decide)⟩
structure FO (r l : Nat) (E : List D) : Prop where
  n1 : 1 ≤ E.length
  n2 : E.length ≤ 42
  all : ∀ s, runS p__law_all_orders N__law_all_orders.length [.int (r : Nat), .int (l : Nat)] s = .ok (.lst E) s
  cnt : ∀ d s, runS p_count_orders N_count_orders.length [wayX r l d] s = .ok (.int (E.length : Nat)) s
  at_ : ∀ d s, (List.range E.length).map (fun i => runS p_order_at N_order_at.length [wayX r l d, .int (i : Nat)] s) = E.map fun e => .ok e s
  fol : ∀ d s, E.map (fun e => runS p_following N_following.length [wayX r l d, e] s) = (E.drop 1 ++ [D.non]).map fun e => .ok e s
  rnk : ∀ d s, E.map (fun e => runS p_rank_of_order N_rank_of_order.length [wayX r l d, e] s) = (List.range E.length).map fun (i : Nat) => .ok (.int i) s
  good : E.all goodB = true
  rep : rsm (.lst E) = true
  rep2 : (E.all fun e => rsm (.lst [e, e])) = true
def E11 : List D := [[0]].map (ordD 1)
def E12 : List D := [[0,0]].map (ordD 1)
def E21 : List D := [[0,1]].map (ordD 2)
def E14 : List D := [[0,0,0,0]].map (ordD 1)
def E31 : List D := [[0,1,2]].map (ordD 3)
def E22 : List D := [[0,0,1,1], [0,1,0,1]].map (ordD 2)
def E23 : List D := [[0,0,0,1,1,1], [0,0,1,0,1,1], [0,0,1,1,0,1], [0,1,0,0,1,1], [0,1,0,1,0,1]].map (ordD 2)
def E32 : List D := [[0,0,1,1,2,2], [0,0,1,2,1,2], [0,1,0,1,2,2], [0,1,0,2,1,2], [0,1,2,0,1,2]].map (ordD 3)
def E24 : List D := [[0,0,0,0,1,1,1,1], [0,0,0,1,0,1,1,1], [0,0,0,1,1,0,1,1], [0,0,0,1,1,1,0,1], [0,0,1,0,0,1,1,1], [0,0,1,0,1,0,1,1], [0,0,1,0,1,1,0,1], [0,0,1,1,0,0,1,1], [0,0,1,1,0,1,0,1], [0,1,0,0,0,1,1,1], [0,1,0,0,1,0,1,1], [0,1,0,0,1,1,0,1], [0,1,0,1,0,0,1,1], [0,1,0,1,0,1,0,1]].map (ordD 2)
def E42 : List D := [[0,0,1,1,2,2,3,3], [0,0,1,1,2,3,2,3], [0,0,1,2,1,2,3,3], [0,0,1,2,1,3,2,3], [0,0,1,2,3,1,2,3], [0,1,0,1,2,2,3,3], [0,1,0,1,2,3,2,3], [0,1,0,2,1,2,3,3], [0,1,0,2,1,3,2,3], [0,1,0,2,3,1,2,3], [0,1,2,0,1,2,3,3], [0,1,2,0,1,3,2,3], [0,1,2,0,3,1,2,3], [0,1,2,3,0,1,2,3]].map (ordD 4)
def E33 : List D := [[0,0,0,1,1,1,2,2,2], [0,0,0,1,1,2,1,2,2], [0,0,0,1,1,2,2,1,2], [0,0,0,1,2,1,1,2,2], [0,0,0,1,2,1,2,1,2], [0,0,1,0,1,1,2,2,2], [0,0,1,0,1,2,1,2,2], [0,0,1,0,1,2,2,1,2], [0,0,1,0,2,1,1,2,2], [0,0,1,0,2,1,2,1,2], [0,0,1,1,0,1,2,2,2], [0,0,1,1,0,2,1,2,2], [0,0,1,1,0,2,2,1,2], [0,0,1,1,2,0,1,2,2], [0,0,1,1,2,0,2,1,2], [0,0,1,1,2,2,0,1,2], [0,0,1,2,0,1,1,2,2], [0,0,1,2,0,1,2,1,2], [0,0,1,2,1,0,1,2,2], [0,0,1,2,1,0,2,1,2], [0,0,1,2,1,2,0,1,2], [0,1,0,0,1,1,2,2,2], [0,1,0,0,1,2,1,2,2], [0,1,0,0,1,2,2,1,2], [0,1,0,0,2,1,1,2,2], [0,1,0,0,2,1,2,1,2], [0,1,0,1,0,1,2,2,2], [0,1,0,1,0,2,1,2,2], [0,1,0,1,0,2,2,1,2], [0,1,0,1,2,0,1,2,2], [0,1,0,1,2,0,2,1,2], [0,1,0,1,2,2,0,1,2], [0,1,0,2,0,1,1,2,2], [0,1,0,2,0,1,2,1,2], [0,1,0,2,1,0,1,2,2], [0,1,0,2,1,0,2,1,2], [0,1,0,2,1,2,0,1,2], [0,1,2,0,0,1,1,2,2], [0,1,2,0,0,1,2,1,2], [0,1,2,0,1,0,1,2,2], [0,1,2,0,1,0,2,1,2], [0,1,2,0,1,2,0,1,2]].map (ordD 3)
def E25 : List D := [[0,0,0,0,0,1,1,1,1,1], [0,0,0,0,1,0,1,1,1,1], [0,0,0,0,1,1,0,1,1,1], [0,0,0,0,1,1,1,0,1,1], [0,0,0,0,1,1,1,1,0,1], [0,0,0,1,0,0,1,1,1,1], [0,0,0,1,0,1,0,1,1,1], [0,0,0,1,0,1,1,0,1,1], [0,0,0,1,0,1,1,1,0,1], [0,0,0,1,1,0,0,1,1,1], [0,0,0,1,1,0,1,0,1,1], [0,0,0,1,1,0,1,1,0,1], [0,0,0,1,1,1,0,0,1,1], [0,0,0,1,1,1,0,1,0,1], [0,0,1,0,0,0,1,1,1,1], [0,0,1,0,0,1,0,1,1,1], [0,0,1,0,0,1,1,0,1,1], [0,0,1,0,0,1,1,1,0,1], [0,0,1,0,1,0,0,1,1,1], [0,0,1,0,1,0,1,0,1,1], [0,0,1,0,1,0,1,1,0,1], [0,0,1,0,1,1,0,0,1,1], [0,0,1,0,1,1,0,1,0,1], [0,0,1,1,0,0,0,1,1,1], [0,0,1,1,0,0,1,0,1,1], [0,0,1,1,0,0,1,1,0,1], [0,0,1,1,0,1,0,0,1,1], [0,0,1,1,0,1,0,1,0,1], [0,1,0,0,0,0,1,1,1,1], [0,1,0,0,0,1,0,1,1,1], [0,1,0,0,0,1,1,0,1,1], [0,1,0,0,0,1,1,1,0,1], [0,1,0,0,1,0,0,1,1,1], [0,1,0,0,1,0,1,0,1,1], [0,1,0,0,1,0,1,1,0,1], [0,1,0,0,1,1,0,0,1,1], [0,1,0,0,1,1,0,1,0,1], [0,1,0,1,0,0,0,1,1,1], [0,1,0,1,0,0,1,0,1,1], [0,1,0,1,0,0,1,1,0,1], [0,1,0,1,0,1,0,0,1,1], [0,1,0,1,0,1,0,1,0,1]].map (ordD 2)
def E52 : List D := [[0,0,1,1,2,2,3,3,4,4], [0,0,1,1,2,2,3,4,3,4], [0,0,1,1,2,3,2,3,4,4], [0,0,1,1,2,3,2,4,3,4], [0,0,1,1,2,3,4,2,3,4], [0,0,1,2,1,2,3,3,4,4], [0,0,1,2,1,2,3,4,3,4], [0,0,1,2,1,3,2,3,4,4], [0,0,1,2,1,3,2,4,3,4], [0,0,1,2,1,3,4,2,3,4], [0,0,1,2,3,1,2,3,4,4], [0,0,1,2,3,1,2,4,3,4], [0,0,1,2,3,1,4,2,3,4], [0,0,1,2,3,4,1,2,3,4], [0,1,0,1,2,2,3,3,4,4], [0,1,0,1,2,2,3,4,3,4], [0,1,0,1,2,3,2,3,4,4], [0,1,0,1,2,3,2,4,3,4], [0,1,0,1,2,3,4,2,3,4], [0,1,0,2,1,2,3,3,4,4], [0,1,0,2,1,2,3,4,3,4], [0,1,0,2,1,3,2,3,4,4], [0,1,0,2,1,3,2,4,3,4], [0,1,0,2,1,3,4,2,3,4], [0,1,0,2,3,1,2,3,4,4], [0,1,0,2,3,1,2,4,3,4], [0,1,0,2,3,1,4,2,3,4], [0,1,0,2,3,4,1,2,3,4], [0,1,2,0,1,2,3,3,4,4], [0,1,2,0,1,2,3,4,3,4], [0,1,2,0,1,3,2,3,4,4], [0,1,2,0,1,3,2,4,3,4], [0,1,2,0,1,3,4,2,3,4], [0,1,2,0,3,1,2,3,4,4], [0,1,2,0,3,1,2,4,3,4], [0,1,2,0,3,1,4,2,3,4], [0,1,2,0,3,4,1,2,3,4], [0,1,2,3,0,1,2,3,4,4], [0,1,2,3,0,1,2,4,3,4], [0,1,2,3,0,1,4,2,3,4], [0,1,2,3,0,4,1,2,3,4], [0,1,2,3,4,0,1,2,3,4]].map (ordD 5)
end W2

set_option maxHeartbeats 1000000
namespace W2
open PySem PySem.Spec PyProof.Rows L2 Pg Pf LamX Pp Tab Rul
section
variable {P : Program} {w : World} {K : PySem.W.Frag} {mg : Str → Option Value} {base : Heap} {Z : Zn} {k c n : Nat} {x : Str} {ps : List Str} {f : Addr} {fd : FuncData} {sp old : Sp} {F : List D → S → R D}
end
section
variable {P : Program} {w : World} {K : PySem.W.Frag} {mg : Str → Option Value} {base : Heap} {Z : Zn} {f : Addr} {oc dV kV doc pm cdv ct : Value} {od an : Option Addr} {osl : Array (Option Value)}
end
end W2
namespace W2
open PySem PySem.Spec PyProof.Rows L2 Pg Pf LamX Pp Tab Rul
def rowDD (r : List (List Int)) : D := .tup (r.map fun c => .tup (intsD c))
theorem ofPy_cell (c : List Int) : ofPy (cellD c) = .tup (intsD c) := by
  show D.tup (ofPyA (c.map PyData.int)) = _
  rw [ofPyA_map]
  rfl
theorem ofPy_rowT (r : List (List Int)) : ofPy (rowT r) = rowDD r := by
  show D.tup (ofPyA (r.map cellD)) = _
  rw [ofPyA_map]
  unfold rowDD
  congr 1
  exact List.map_congr_left fun c _ => ofPy_cell c
theorem tabDD_eq (e l : Nat) (c : Cf) : tabDD e l c = .tup ((tabF e l c).map rowDD) := by
  show D.tup (ofPyA ((tabF e l c).map rowT)) = _
  rw [ofPyA_map]
  congr 1
  exact List.map_congr_left fun r _ => ofPy_rowT r
end W2
namespace W2
open PySem PySem.Spec PyProof.Rows L2 Pg Pf LamX Pp Tab Rul
section
variable {e l k : Nat} {c t : Cf} {ns cl : List Int} {ro lo : Option Nat}
end
end W2
namespace W2
open PySem PySem.Spec PyProof.Rows L2 Pg Pf LamX Pp Tab Rul
section
variable {P : Program} {w : World} {K : PySem.W.Frag} {mg : Str → Option Value} {base : Heap} {Z : Zn} {f fC fA DC DA : Addr} {fd : FuncData} {docC pmC cdC ctC kvA docA pmA cdA ctA : Value} {anC anA : Option Addr}
end
end W2
namespace W2
open PySem PySem.Spec PyProof.Rows L2 Pg Pf LamX Pp Tab Rul
section
variable {P : Program} {w : World} {K : PySem.W.Frag} {mg : Str → Option Value} {base : Heap} {Z : Zn} {f : Addr} {fd : FuncData}
end
end W2
namespace W2
open PySem PySem.Spec PyProof.Rows L2 Pg Pf LamX Pp Tab Rul
def cellsD (l : Nat) (f : Nat → List Int) : List D := (List.range l).map fun j => .tup (intsD (f j))
def rowsD (e l : Nat) (c : Cf) : List D := (List.range e).map fun i => .tup (cellsD l (c i))
theorem tab_rows (e l : Nat) (c : Cf) : tabDD e l c = .tup (rowsD e l c) := by
  rw [tabDD_eq]
  unfold tabF rowsD cellsD rowDD
  rw [List.map_map]
  congr 1
  apply List.map_congr_left
  intro i _
  show D.tup (((List.range l).map fun j => c i j).map fun c => D.tup (intsD c)) = _
  rw [List.map_map]
  rfl
/-- a net's rows -/
def netRows (e l : Nat) (c : Cf) : List D := (List.range e).map fun i => .rls (cellsD l (c i))
theorem net_eq (e l k : Nat) (c : Cf) : netDD e l k c = .tup [.int (e : Nat), .int (l : Nat), .int (k : Nat), .rls (netRows e l c)] := by
  show D.tup [.int (e : Nat), .int (l : Nat), .int (k : Nat), .rls (ofPyA ((tabF e l c).map rowL))] = _
  rw [ofPyA_map]
  congr 4
  unfold tabF netRows
  rw [List.map_map]
  refine congrArg (fun z => ([D.rls z] : List D)) (List.map_congr_left fun i _ => ?_)
  show D.rls (ofPyA (((List.range l).map fun j => c i j).map cellD)) = _
  rw [ofPyA_map, List.map_map]
  unfold cellsD
  congr 1
  apply List.map_congr_left
  intro j _
  exact ofPy_cell _
section
variable {e l k : Nat} {c : Cf} {ns : List Int} {ro lo : Option Nat}
end
end W2
namespace W2
open PySem PySem.Spec PyProof.Rows L2 Pg Pf LamX Pp Tab Rul
section
variable {e l k : Nat} {c : Cf} {ns : List Int} {ro lo : Option Nat}
end
end W2
set_option maxHeartbeats 2000000
namespace W2
open PySem PySem.Spec PyProof.Rows L2 Pg Pf LamX Pp Tab Rul
section
variable {P : Program} {w : World} {K : PySem.W.Frag} {mg : Str → Option Value} {base : Heap} {Z : Zn} {f c Pt : Addr} {fd : FuncData}
end
end W2
set_option maxHeartbeats 1000000
namespace W2
open PySem PySem.Spec PyProof.Rows L2 Pg Pf LamX Pp Tab Rul
/-- what holds at all ends -/
inductive Al {α : Type} (P : α → S → Prop) : R α → Prop
  | ok {a : α} {s : S} (h : P a s) : Al P (.ok a s)
  | dr {t : Int} {f : Int → R α} (h : ∀ i, 0 ≤ i → i < t → Al P (f i)) : Al P (.dr t f)
  | an {A : D → S → Prop} {f : D → S → R α} (h : ∀ d s, A d s → Al P (f d s)) : Al P (.an A f)
theorem Al.bind {α β : Type} {P : α → S → Prop} {P' : β → S → Prop} {r : R α} {k : α → S → R β} (h : Al P r) (c : ∀ a s, P a s → Al P' (k a s)) : Al P' (r.bind k) := by
  induction h with
  | ok h => exact c _ _ h
  | dr h ih => exact .dr fun i h0 h1 => ih i h0 h1
  | an h ih => exact .an fun d s hp => ih d s hp
theorem Al.imp {α : Type} {P P' : α → S → Prop} {r : R α} (h : Al P r) (c : ∀ a s, P a s → P' a s) : Al P' r := by
  induction h with
  | ok h => exact .ok (c _ _ h)
  | dr h ih => exact .dr fun i h0 h1 => ih i h0 h1
  | an h ih => exact .an fun d s hp => ih d s hp
theorem Al.noex {α : Type} {P : α → S → Prop} {r : R α} (h : Al P r) : Al P (Pp.noex r) := by
  induction h with
  | ok h => exact .ok h
  | dr h ih => exact .dr fun i h0 h1 => ih i h0 h1
  | an h ih => exact .an fun d s hp => ih d s hp
theorem al_seq {P : Fl → S → Prop} {P1 : Slots → S → Prop} {F1 F2 : Slots → S → R Fl} {ρ : Slots} {s : S} (h : Al (fun a s => ∃ ρ', a = .nx ρ' ∧ P1 ρ' s) (F1 ρ s)) (c : ∀ ρ' s', P1 ρ' s' → Al P (F2 ρ' s')) : Al P (seqS F1 F2 ρ s) :=
  Al.bind h fun a s ⟨ρ', e, p⟩ => by
    subst e
    exact c ρ' s p
abbrev ms (m c q : Addr) (b : Nat) : S := some ⟨m, c, q, b⟩
theorem al_draw {m c q : Addr} {b : Nat} {t : Int} (h1 : 1 ≤ t) (h2 : t ≤ 1000) (h3 : b ≤ 1000000) : Al (fun d s => (∃ i : Int, d = .int i ∧ 0 ≤ i ∧ i < t) ∧ s = ms m c q (b + 1)) (F_draw [.adr m, .int t] (ms m c q b)) := by
  have e : F_draw [.adr m, .int t] (ms m c q b) = .dr t fun i => .ok (.int i) (ms m c q (b + 1)) := if_pos ⟨rfl, h1, h2, h3⟩
  rw [e]
  exact .dr fun i h0 h1 => .ok ⟨⟨i, rfl, h0, h1⟩, rfl⟩
section
variable {e l k : Nat} {c : Cf} {ns : List Int} {ro lo : Option Nat}
theorem ne_str (x : Str) (s : S) : strF true (.str x) (.str x) s = .ok (.bl false) s := by
  show R.ok (D.bl (!decide (x = x))) s = _
  rw [decide_eq_true rfl]
  rfl
end
end W2
namespace W2
open PySem PySem.Spec PyProof.Rows L2 Pg Pf LamX Pp Tab Rul
section
variable {e l k : Nat} {c : Cf} {ns : List Int} {ro lo : Option Nat} {m a q : Addr} {b : Nat}
theorem nF_of {n : Nat} {F : List D → S → R D} {ds : List D} {s : S} (h : ds.length = n) : nF n F ds s = F ds s := if_pos h
end
end W2
set_option maxHeartbeats 2000000
namespace W2
open PySem PySem.Spec PyProof.Rows L2 Pg Pf LamX Pp Tab Rul
section
variable {P : Program} {w : World} {K : PySem.W.Frag} {mg : Str → Option Value} {base : Heap} {Z : Zn} {f c Pt : Addr} {fd : FuncData}
end
end W2
set_option maxHeartbeats 1000000
namespace W2
open PySem PySem.Spec PyProof.Rows L2 Pg Pf LamX Pp Tab Rul
section
variable {e l k : Nat} {c : Cf} {ro lo : Option Nat} {m a q : Addr} {b : Nat}
end
end W2
set_option maxHeartbeats 2000000
namespace W2
open PySem PySem.Spec PyProof.Rows L2 Pg Pf LamX Pp Tab Rul
section
variable {P : Program} {w : World} {K : PySem.W.Frag} {mg : Str → Option Value} {base : Heap} {Z : Zn} {f c Pt : Addr} {fd : FuncData}
end
end W2
namespace W2
open PySem PySem.Spec PyProof.Rows L2 Pg Pf LamX Pp Tab Rul
section
variable {P : Program} {w : World} {K : PySem.W.Frag} {mg : Str → Option Value} {base : Heap} {Z : Zn} {f c Pt : Addr} {fd : FuncData}
end
end W2
namespace W2
open PySem PySem.Spec PyProof.Rows L2 Pg Pf LamX Pp Tab Rul
section
variable {K : PySem.W.Frag} {Z : Zn} {E : XK} {C : Addr} {ua : TA} {fa : Slots → S → R (List D)}
end
section
variable {P : Program} {w : World} {K : PySem.W.Frag} {mg : Str → Option Value} {base : Heap} {Z : Zn} {f c Pt : Addr} {fd : FuncData}
end
end W2
set_option maxHeartbeats 1000000
namespace W2
open PySem PySem.Spec PyProof.Rows L2 Pg Pf LamX Pp Tab Rul
section
variable {e l k : Nat} {c : Cf} {ns : List Int} {m a q : Addr} {b : Nat}
theorem fits12 {α : Type} {xs : List α} (h : xs.length ≤ 12) : fits xs.length = true := decide_eq_true (by omega)
end
end W2
namespace W2
open PySem PySem.Spec PyProof.Rows L2 Pg Pf LamX Pp Tab Rul
section
variable {e l k : Nat} {c : Cf} {m a q : Addr} {b : Nat}
theorem mem_rng {e : Nat} {d : D} (h : d ∈ rngD 0 e) : ∃ i, i < e ∧ d = .int (i : Nat) := by
  unfold rngD at h
  obtain ⟨i, hi, rfl⟩ := List.mem_map.mp h
  exact ⟨i, List.mem_range.mp hi, by rw [show (0 : Int) + (i : Nat) = (i : Nat) by omega]⟩
end
end W2
namespace W2
open PySem PySem.Spec PyProof.Rows L2 Pg Pf LamX Pp Tab Rul
section
variable {e l k : Nat} {c : Cf} {m a q : Addr} {b : Nat}
theorem metF_ok {c n : Nat} {F : List D → S → R D} {f : Slots → S → R D} {fa : Slots → S → R (List D)} {ρ : Slots} {s s' s'' : S} {es xs : List D} (h : f ρ s = .ok (.obj c es) s') (h2 : fa ρ s' = .ok xs s'') : metF c n F f fa ρ s = nF n F (.obj c es :: xs) s'' := by
  unfold metF
  rw [h]
  show (if c = c then (fa ρ s').bind fun xs s => nF n F (.obj c es :: xs) s else .un) = _
  rw [if_pos rfl, h2]
  rfl
theorem cns_ok {f : Slots → S → R D} {g : Slots → S → R (List D)} {ρ : Slots} {s s' s'' : S} {d : D} {ds : List D} (h1 : f ρ s = .ok d s') (h2 : g ρ s' = .ok ds s'') : cnsA f g ρ s = .ok (d :: ds) s'' := by
  unfold cnsA
  rw [h1]
  show (g ρ s').bind _ = _
  rw [h2]
  rfl
theorem b1_ok {op : D → S → R D} {f : Slots → S → R D} {ρ : Slots} {s s' : S} {d : D} (h : f ρ s = .ok d s') : b1 op f ρ s = op d s' := by
  unfold b1
  rw [h]
  rfl
theorem b2_ok {op : D → D → S → R D} {f g : Slots → S → R D} {ρ : Slots} {s s' s'' : S} {d x : D} (h : f ρ s = .ok d s') (h2 : g ρ s' = .ok x s'') : b2 op f g ρ s = op d x s'' := by
  unfold b2
  rw [h]
  show (g ρ s').bind _ = _
  rw [h2]
  rfl
theorem lit_ok {f : Slots → S → R (List D)} {ρ : Slots} {s s' : S} {ds : List D} (h : f ρ s = .ok ds s') (l : ds.length ≤ 12) : mkL (litL f) ρ s = .ok (.lst ds) s' := by
  unfold mkL litL
  rw [h]
  show ((if fits ds.length = true then R.ok ds s' else .un).bind fun ds s => R.ok (D.lst ds) s : R D) = _
  rw [if_pos (fits12 l)]
  rfl
theorem set_ok {i : Nat} {f : Slots → S → R D} {ρ : Slots} {s s' : S} {d : D} (h : f ρ s = .ok d s') : setF i f ρ s = .ok (.nx (ρ.set i (.fz d))) s' := by
  unfold setF
  rw [h]
  rfl
theorem ret_ok {f : Slots → S → R D} {ρ : Slots} {s s' : S} {d : D} (h : f (allS ρ) s = .ok d s') : retS f ρ s = .ok (.rt d) s' := by
  unfold retS
  rw [h]
  rfl
theorem tst_ok {f : Slots → S → R D} {ρ : Slots} {s s' : S} {v : Bool} (h : f ρ s = .ok (.bl v) s') : tst f ρ s = .ok v s' := by
  unfold tst
  rw [h]
  rfl
end
end W2
namespace W2
open PySem PySem.Spec PyProof.Rows L2 Pg Pf LamX Pp Tab Rul
section
variable {e l k : Nat} {c : Cf} {m a q : Addr} {b : Nat}
end
end W2
set_option maxHeartbeats 2000000
namespace W2
open PySem PySem.Spec PyProof.Rows L2 Pg Pf LamX Pp Tab Rul
abbrev no_ : Slots → S → R Fl := retS (kst (.bl false))
theorem if_no {p : Slots → S → R Bool} {ρ : Slots} {s : S} (h : p (allS ρ) s = .ok false s) : ifS p no_ nxS ρ s = .ok (.nx ρ) s := by
  unfold ifS
  rw [h]
  rfl
section
variable {m : Addr} {c0 q0 : Addr}
end
end W2
set_option maxHeartbeats 1000000
namespace W2
open PySem PySem.Spec PyProof.Rows L2 Pg Pf LamX Pp Tab Rul
theorem al_forL {v : Nat} {F : Slots → S → R Fl} (I : Nat → Slots → S → Prop) : ∀ (ds : List D) (ρ : Slots) (s : S), I ds.length ρ s → (∀ d ∈ ds, ∀ n ρ s, I (n + 1) ρ s → Al (fun f s => ∃ ρ', f = .nx ρ' ∧ I n ρ' s) (F (ρ.set v (.fz d)) s)) →
    Al (fun f s => ∃ ρ', f = .nx ρ' ∧ I 0 ρ' s) (forL (gN v) F ds ρ s)
  | [], ρ, s, h, _ => .ok ⟨ρ, rfl, h⟩
  | d :: ds, ρ, s, h, st => by
    show Al _ ((F (ρ.set v (.fz d)) s).bind (forK fun ρ s => forL (gN v) F ds ρ s))
    refine Al.bind (st d (List.mem_cons_self ..) ds.length ρ s h) fun f s ⟨ρ', e, h'⟩ => ?_
    subst e
    exact al_forL I ds ρ' s h' fun d hd => st d (List.mem_cons_of_mem _ hd)
theorem al_for {v : Nat} {F : Slots → S → R Fl} {fi : Slots → S → R (List D)} {n : Nat} (I : Nat → Slots → S → Prop) (ρ : Slots) (s : S) (hi : fi ρ s = .ok (rngD 0 n) s) (h : I n ρ s) (st : ∀ i, i < n → ∀ n ρ s, I (n + 1) ρ s → Al (fun f s => ∃ ρ', f = .nx ρ' ∧ I n ρ' s) (F (ρ.set v (.fz (.int (i : Nat)))) s)) :
    Al (fun f s => ∃ ρ', f = .nx ρ' ∧ I 0 ρ' s) (forS fi (gN v) F ρ s) := by
  unfold forS
  rw [hi]
  refine al_forL I (rngD 0 n) ρ s (by rw [rngD_len]; exact h) fun d hd => ?_
  obtain ⟨i, hi, rfl⟩ := mem_rng hd
  exact st i hi
section
variable {e l k : Nat} {c : Cf} {m a q : Addr} {b : Nat}
theorem net_al {most : Int} (h1 : 1 ≤ most) (h2 : most ≤ 6) (hb : b ≤ 50000) : Al (fun d s => ∃ e l k c, d = netDD e l k c ∧ OkW e l k c ∧ s = ms m a q (b + 600)) (tell P_net [.adr m, .int most, .int 12] (ms m a q b)) := by
  have e1 : tell P_net [.adr m, .int most, .int 12] (ms m a q b) = .an (fun d s' => s' = ms m a q (b + 600) ∧ ∃ e w k c, d = netDD e w k c ∧ OkN most 12 e w k c) (fun d s' => .ok d s') := by
    refine tell_of ⟨m, a, q, b, most, 12, rfl, rfl, by omega, h1, h2, by decide, by decide, rfl⟩ fun r' ⟨m', a', q', b', most', many', hs, hd, _, _, _, _, _, hr⟩ => ?_
    cases hs
    injection hd with _ hd
    injection hd with h3 hd
    injection hd with h4 _
    injection h3 with h3
    injection h4 with h4
    subst h3 h4
    exact hr
  rw [e1]
  refine .an fun d s ⟨e2, e, w, k, c, e3, o⟩ => .ok ⟨e, w, k, c, e3, o.1, e2⟩
theorem lway_eq (o : OkW e l k c) (s : S) : tell P_lway [netDD e l k c] s = .ok (wayD e l k c) s := by
  refine tell_of ⟨e, l, k, c, rfl, o, rfl⟩ fun r' ⟨e', l', k', c', h, o', hr⟩ => ?_
  injection h with h _
  rw [net_eq, net_eq] at h
  injection h with h
  injection h with h1 h
  injection h with h2 h
  injection h with h3 h
  injection h with h4 _
  injection h1 with h1
  injection h2 with h2
  injection h3 with h3
  injection h4 with h4
  obtain rfl : e = e' := by omega
  obtain rfl : l = l' := by omega
  obtain rfl : k = k' := by omega
  have ht : rowsD e l c = rowsD e l c' := by
    have : ∀ c : Cf, rowsD e l c = (netRows e l c).map fun d => match d with | .rls ds => .tup ds | d => d := fun c => by
      unfold rowsD netRows
      rw [List.map_map]
      rfl
    rw [this c, this c', h4]
  rw [hr]
  unfold wayD
  rw [tab_rows, tab_rows, ht]
theorem al_no {p : Slots → S → R Bool} {ρ : Slots} {s : S} {Q : S → Prop} (h : Al (fun v s => v = false ∧ Q s) (p (allS ρ) s)) : Al (fun f s => ∃ ρ', f = .nx ρ' ∧ ρ' = ρ ∧ Q s) (ifS p no_ nxS ρ s) := by
  unfold ifS
  refine Al.bind h fun v s ⟨e, hq⟩ => ?_
  subst e
  exact .ok ⟨ρ, rfl, rfl, hq⟩
theorem al_nt {f : Slots → S → R D} {ρ : Slots} {s : S} {Q : S → Prop} (h : Al (fun d s => d = .bl true ∧ Q s) (f ρ s)) : Al (fun v s => v = false ∧ Q s) (bnt (tst f) ρ s) := by
  unfold bnt tst
  refine Al.bind (P := fun v s => v = true ∧ Q s) (Al.bind h fun d s ⟨e, hq⟩ => by subst e; exact .ok ⟨rfl, hq⟩) fun v s ⟨e, hq⟩ => by
    subst e
    exact .ok ⟨rfl, hq⟩
theorem al_bor {p r : Slots → S → R Bool} {ρ : Slots} {s : S} {Q1 Q2 : S → Prop} (h : Al (fun v s => v = false ∧ Q1 s) (p ρ s)) (h2 : ∀ s, Q1 s → Al (fun v s => v = false ∧ Q2 s) (r ρ s)) : Al (fun v s => v = false ∧ Q2 s) (bor p r ρ s) := by
  unfold bor
  refine Al.bind h fun v s ⟨e, hq⟩ => ?_
  subst e
  rw [if_neg Bool.false_ne_true]
  exact h2 s hq
theorem al_set {i : Nat} {f : Slots → S → R D} {ρ : Slots} {s : S} {P : D → S → Prop} (h : Al P (f ρ s)) : Al (fun g s => ∃ ρ', g = .nx ρ' ∧ ∃ d, ρ' = ρ.set i (.fz d) ∧ P d s) (setF i f ρ s) := by
  unfold setF
  exact Al.bind h fun d s hp => .ok ⟨_, rfl, d, rfl, hp⟩
def isTrue' (f : Fl) (_ : S) : Prop := f = .rt (.bl true)
end
end W2
set_option maxHeartbeats 2000000
namespace W2
open PySem PySem.Spec PyProof.Rows L2 Pg Pf LamX Pp Tab Rul
def spLaw (K : PySem.W.Frag) (T : List (Addr × Str)) : Sp := fun vs H Q _ => ∃ (a : Addr) (ns : List Int), vs = [.ref a] ∧ SqL K H a (ns.map V.int) ∧ ns.length ≤ 63 ∧ Tabs T H ∧ ∀ H', Q (.bl true) H'
theorem al_ans {K : PySem.W.Frag} {Z : Zn} {E : XK} {s0 : S} {G0 H0 G : Hp} {D : Ends} {r : R Fl} (h : Al isTrue' r) (q : ∀ H, D.rt (.bl true) H) : AnsS K Z E r s0 G0 H0 G D := by
  induction h with
  | ok h =>
    have e := h
    unfold isTrue' at e
    subst e
    intro v V' H' n w r
    cases r
    exact q H'
  | dr h ih => exact fun i h0 h1 => ih i h0 h1
  | an h ih => exact fun d s hp => ih d s hp
section
variable {P : Program} {w : World} {K : PySem.W.Frag} {mg : Str → Option Value} {base : Heap} {Z : Zn} {f : Addr} {fd : FuncData}
end
end W2

/-! K4E: what `orders` yields, from the facts of a size. -/
namespace W2
open PySem PySem.Spec PyProof.Rows L2 Pg Pf LamX Pp Tab Rul
theorem map_at {α β γ : Type} {f : α → γ} {g : β → γ} {L : List α} {M : List β} (h : L.map f = M.map g) {i : Nat} {x : α} {y : β} (hx : L[i]? = some x) (hy : M[i]? = some y) : f x = g y := by
  have e := congrArg (fun l => l[i]?) h
  simp only [List.getElem?_map, hx, hy, Option.map_some] at e
  exact Option.some.inj e
theorem nx_at {E : List D} {i : Nat} (h : i < E.length) : (E.drop 1 ++ [D.non])[i]? = some (E.getD (i + 1) .non) := by
  by_cases g : i + 1 < E.length
  · rw [List.getElem?_append_left (by rw [List.length_drop]; omega), List.getElem?_drop, List.getD_eq_getElem?_getD, Nat.add_comm 1 i, List.getElem?_eq_getElem g]
    rfl
  · have z : i - (E.drop 1).length = 0 := by rw [List.length_drop]; omega
    rw [List.getElem?_append_right (by rw [List.length_drop]; omega), z, List.getD_eq_getElem?_getD, List.getElem?_eq_none (l := E) (i := i + 1) (by omega)]
    rfl
section
variable {r l i : Nat} {E : List D} {e : D} {d : List D}
theorem lt_at (h : E[i]? = some e) : i < E.length := by
  by_cases g : i < E.length
  · exact g
  · rw [List.getElem?_eq_none (by omega)] at h
    cases h
theorem FO.at' (F : FO r l E) (h : E[i]? = some e) (s : S) : runS p_order_at N_order_at.length [wayX r l d, .int (i : Nat)] s = .ok e s :=
  map_at (F.at_ d s) (List.getElem?_range (lt_at h)) h
theorem FO.fol' (F : FO r l E) (h : E[i]? = some e) (s : S) : runS p_following N_following.length [wayX r l d, e] s = .ok (E.getD (i + 1) .non) s :=
  map_at (F.fol d s) h (nx_at (lt_at h))
theorem FO.rnk' (F : FO r l E) (h : E[i]? = some e) (s : S) : runS p_rank_of_order N_rank_of_order.length [wayX r l d, e] s = .ok (.int (i : Nat)) s :=
  map_at (F.rnk d s) h (List.getElem?_range (lt_at h))
theorem FO.good' (F : FO r l E) (h : E[i]? = some e) : goodB e = true := List.all_eq_true.mp F.good e (List.mem_of_getElem? h)
theorem tup_of (h : goodB e = true) : ∃ ds, e = .tup ds := by
  cases e with
  | tup ds => exact ⟨ds, rfl⟩
  | _ => cases h
theorem num_ok {x y z : Int} (h1 : y ≤ x) (h2 : x ≤ z) (s : S) : runS p_is_number N_is_number.length [.int x, .int y, .int z] s = .ok (.bl true) s := by
  have d1 : decide (y ≤ x) = true := decide_eq_true h1
  have d2 : decide (x ≤ z) = true := decide_eq_true h2
  have e : p_is_number [.fz (.int x), .fz (.int y), .fz (.int z)] s = .ok (.rt (.bl true)) s := by
    unfold p_is_number
    refine ret_ok ?_
    show (chn (intF fun i j => .bl (decide (i ≤ j))) (intF fun i j => .bl (decide (i ≤ j))) (vr 1) (vr 0) (vr 2)) [.fz (.int x), .fz (.int y), .fz (.int z)] s = _
    show (R.bind (bl' (.bl (decide (y ≤ x))) s) fun b s => if b = true then R.ok (D.bl (decide (x ≤ z))) s else R.ok (D.bl false) s) = _
    rw [d1, d2]
    rfl
  show (p_is_number [.fz (.int x), .fz (.int y), .fz (.int z)] s).bind endF = _
  rw [e]
  rfl
/-! ### the generator -/
def rO (w : D) (k n : Nat) (o : D) : Slots := [.fz w, .fz (.int (k : Nat)), .fz (.int (n : Nat)), .fz o]
theorem whl_stop (f : Nat) (w : D) (k n : Nat) : whlYL o_tst o_body (f + 1) (rO w k n .non) = some ([], .nx (rO w k n .non)) := rfl
theorem plY_nx {F : Slots → S → R Fl} {ρ ρ' : Slots} (h : F ρ none = .ok (.nx ρ') none) : plY F ρ = some ([], .nx ρ') := by
  unfold plY
  rw [h]
theorem seqY_nx {f g : Slots → Option (List D × Fl)} {ρ ρ' : Slots} {ys : List D} (h : f ρ = some (ys, .nx ρ')) : seqY f g ρ = thenY ys (g ρ') := by
  unfold seqY
  rw [h]
theorem thenY_nil (r : Option (List D × Fl)) : thenY [] r = r := by
  cases r with
  | none => rfl
  | some p => rfl
theorem whl_step {w x : D} {k n : Nat} {ds : List D} (f : Nat) (h : runS p_following N_following.length [w, .tup ds] none = .ok x none) :
    whlYL o_tst o_body (f + 1) (rO w k n (.tup ds)) = thenY [.tup ds] (whlYL o_tst o_body f (rO w k n x)) := by
  have e1 : plY o_fol (rO w k n (.tup ds)) = some ([], .nx (rO w k n x)) := by
    refine plY_nx ?_
    unfold o_fol
    refine (set_ok (d := x) ?_).trans rfl
    exact (bC_of (ds := [w, .tup ds]) (s' := none) rfl).trans ((nF_of rfl).trans h)
  have e2 : o_body (rO w k n (.tup ds)) = some ([.tup ds], .nx (rO w k n x)) := by
    unfold o_body
    rw [seqY_nx (ys := [.tup ds]) (ρ' := rO w k n (.tup ds)) rfl, seqY_nx e1]
    rfl
  have e3 : o_tst (allS (rO w k n (.tup ds))) none = .ok true none := rfl
  show (match o_tst (allS (rO w k n (.tup ds))) none with
    | .ok b none => if b = true then (match o_body (rO w k n (.tup ds)) with
      | none => none
      | some (ys, .nx ρ2) => thenY ys (whlYL o_tst o_body f ρ2)
      | some (ys, .ct ρ2) => thenY ys (whlYL o_tst o_body f ρ2)
      | some (ys, .bk ρ2) => some (ys, .nx ρ2)
      | some (ys, .rt d) => some (ys, .rt d)) else some ([], .nx (rO w k n (.tup ds)))
    | _ => none) = _
  rw [e3]
  show (match o_body (rO w k n (.tup ds)) with
      | none => none
      | some (ys, .nx ρ2) => thenY ys (whlYL o_tst o_body f ρ2)
      | some (ys, .ct ρ2) => thenY ys (whlYL o_tst o_body f ρ2)
      | some (ys, .bk ρ2) => some (ys, .nx ρ2)
      | some (ys, .rt d) => some (ys, .rt d)) = _
  rw [e2]
theorem whl_run {k n : Nat} (F : FO r l E) : ∀ (m i f : Nat), i + m = E.length → m < f → whlYL o_tst o_body f (rO (wayX r l d) k n (E.getD i .non)) = some (E.drop i, .nx (rO (wayX r l d) k n .non))
  | 0, i, 0, _, h => absurd h (by omega)
  | 0, i, f + 1, h, _ => by
    have z : E.getD i .non = .non := by rw [List.getD_eq_getElem?_getD, List.getElem?_eq_none (by omega)]; rfl
    rw [z, whl_stop, List.drop_eq_nil_of_le (by omega)]
  | m + 1, i, 0, _, h => absurd h (by omega)
  | m + 1, i, f + 1, h, hf => by
    have lt : i < E.length := by omega
    have ei : E[i]? = some E[i] := List.getElem?_eq_getElem lt
    have z : E.getD i .non = E[i] := by rw [List.getD_eq_getElem?_getD, ei]; rfl
    have fo := F.fol' (d := d) ei none
    obtain ⟨ds, ed⟩ := tup_of (F.good' ei)
    rw [z]
    rw [List.drop_eq_getElem_cons lt]
    rw [ed] at fo ⊢
    rw [whl_step f fo, whl_run F m (i + 1) f (by omega) (by omega)]
    rfl
theorem ifS_no {p : Slots → S → R Bool} {F G : Slots → S → R Fl} {ρ : Slots} {s : S} (h : p (allS ρ) s = .ok false s) : ifS p F G ρ s = G ρ s := by
  unfold ifS
  rw [h]
  rfl
theorem ifS_yes {p : Slots → S → R Bool} {F G : Slots → S → R Fl} {ρ : Slots} {s : S} (h : p (allS ρ) s = .ok true s) : ifS p F G ρ s = F ρ s := by
  unfold ifS
  rw [h]
  rfl
theorem bnt_ok {p : Slots → S → R Bool} {ρ : Slots} {s : S} {b : Bool} (h : p ρ s = .ok b s) : bnt p ρ s = .ok (!b) s := by
  unfold bnt
  rw [h]
  rfl
theorem gen_run {k : Nat} (F : FO r l E) (hk : k ≤ E.length) : runY p_orders N_orders.length [wayX r l d, .int (k : Nat)] = some (E.drop k) := by
  obtain ⟨w, hw⟩ : ∃ w, w = wayX r l d := ⟨_, rfl⟩
  have n2 := F.n2
  have c := F.cnt d none
  have a : ∀ e, E[k]? = some e → runS p_order_at N_order_at.length [w, .int (k : Nat)] none = .ok e none := fun e h => by rw [hw]; exact F.at' h none
  have lo : whlYL o_tst o_body 50 (rO w k E.length (E.getD k .non)) = some (E.drop k, .nx (rO w k E.length .non)) := by rw [hw]; exact whl_run F (E.length - k) k 50 (by omega) (by omega)
  rw [← hw] at c ⊢
  have s1 : plY o_tot [.fz w, .fz (.int (k : Nat)), .no, .no] = some ([], .nx [.fz w, .fz (.int (k : Nat)), .fz (.int (E.length : Nat)), .no]) := by
    refine plY_nx ?_
    unfold o_tot
    refine (set_ok (d := .int (E.length : Nat)) ?_).trans rfl
    exact (bC_of (ds := [w]) (s' := none) rfl).trans ((nF_of rfl).trans c)
  have s2 : plY o_num [.fz w, .fz (.int (k : Nat)), .fz (.int (E.length : Nat)), .no] = some ([], .nx [.fz w, .fz (.int (k : Nat)), .fz (.int (E.length : Nat)), .no]) := by
    refine plY_nx ?_
    unfold o_num
    refine ifS_no (bnt_ok (b := true) (tst_ok ?_))
    exact (bC_of (ds := [.int (k : Nat), .int 0, .int (E.length : Nat)]) (s' := none) rfl).trans ((nF_of rfl).trans (num_ok (by omega) (by omega) none))
  have s3 : plY o_non [.fz w, .fz (.int (k : Nat)), .fz (.int (E.length : Nat)), .no] = some ([], .nx (rO w k E.length .non)) := rfl
  have s4 : plY o_at (rO w k E.length .non) = some ([], .nx (rO w k E.length (E.getD k .non))) := by
    refine plY_nx ?_
    unfold o_at
    have t : ∀ b : Bool, decide (((k : Nat) : Int) < (E.length : Nat)) = b → tst (b2 (intF fun i j => .bl (decide (i < j))) (vr 1) (vr 2)) (allS (rO w k E.length .non)) none = .ok b none := fun b hb => by
      refine tst_ok ?_
      show R.ok (D.bl (decide (((k : Nat) : Int) < (E.length : Nat)))) none = _
      rw [hb]
    by_cases g : k < E.length
    · rw [ifS_yes (t true (decide_eq_true (by omega)))]
      have ei : E[k]? = some E[k] := List.getElem?_eq_getElem g
      have z : E.getD k .non = E[k] := by rw [List.getD_eq_getElem?_getD, ei]; rfl
      rw [z]
      refine (set_ok (d := E[k]) ?_).trans rfl
      exact (bC_of (ds := [w, .int (k : Nat)]) (s' := none) rfl).trans ((nF_of rfl).trans (a _ ei))
    · rw [ifS_no (t false (decide_eq_false (by omega)))]
      have z : E.getD k .non = .non := by rw [List.getD_eq_getElem?_getD, List.getElem?_eq_none (by omega)]; rfl
      rw [z]
      rfl
  have all : p_orders [.fz w, .fz (.int (k : Nat)), .no, .no] = some (E.drop k, .nx (rO w k E.length .non)) := by
    unfold p_orders
    rw [seqY_nx s1, seqY_nx s2, seqY_nx s3, seqY_nx s4, seqY_nx lo, thenY_nil, thenY_nil, thenY_nil, thenY_nil]
    show some (E.drop k ++ [], _) = _
    rw [List.append_nil]
  show (match p_orders [.fz w, .fz (.int (k : Nat)), .no, .no] with
    | some (out, .nx _) => some out
    | some (out, .rt .non) => some out
    | _ => none) = _
  rw [all]
end
end W2

/-! K4F: lists of orders compared and cut; _law_first_items. -/
namespace W2
open PySem PySem.Spec PyProof.Rows L2 Pg Pf LamX Pp Tab Rul
section
variable {r l i : Nat} {E X : List D} {e : D} {d : List D}
theorem good_py {x : D} (h : goodB x = true) : x.isPy = true ∧ x.py.canLay0 = true ∧ x.py.depth ≤ 60 := by
  have h1 := (Bool.and_eq_true_iff.mp h).2
  have h2 := Bool.and_eq_true_iff.mp h1
  have h3 := Bool.and_eq_true_iff.mp h2.1
  exact ⟨h3.1, h3.2, of_decide_eq_true h2.2⟩
theorem pl_list : ∀ X : List D, (∀ x ∈ X, goodB x = true) → isPyA X = true ∧ PyData.canLayAll0 (pyA X) = true ∧ PyData.depthAll (pyA X) ≤ 60
  | [], _ => ⟨rfl, rfl, Nat.zero_le _⟩
  | x :: X, h => by
    obtain ⟨a1, a2, a3⟩ := good_py (h x List.mem_cons_self)
    obtain ⟨b1, b2, b3⟩ := pl_list X fun y hy => h y (List.mem_cons_of_mem _ hy)
    refine ⟨?_, ?_, ?_⟩
    · show (x.isPy && isPyA X) = true
      rw [a1, b1]
      rfl
    · show (x.py.canLay0 && PyData.canLayAll0 (pyA X)) = true
      rw [a2, b2]
      rfl
    · show Nat.max x.py.depth (PyData.depthAll (pyA X)) ≤ 60
      exact Nat.max_le.mpr ⟨a3, b3⟩
theorem ok_list (h : ∀ x ∈ X, goodB x = true) : eqOk (.lst X) (.lst X) = true := by
  obtain ⟨b1, b2, b3⟩ := pl_list X h
  have s1 : SeqAt.shaped (D.lst X).py = true := by
    show ((PyData.list (pyA X)).canLay0 && decide ((PyData.list (pyA X)).depth ≤ 64)) = true
    rw [Bool.and_eq_true_iff]
    refine ⟨b2, decide_eq_true ?_⟩
    show PyData.depthAll (pyA X) + 1 ≤ 64
    omega
  unfold eqOk
  rw [s1]
  show (isPyA X && isPyA X && true && true) = true
  rw [b1]
  rfl
theorem eqv_list (h : ∀ x ∈ X, goodB x = true) : PyData.eqv (D.lst X).py (D.lst X).py = true := by
  refine SeqAt.eqv_refl _ ?_
  exact (pl_list X h).2.1
theorem neq_list (h : ∀ x ∈ X, goodB x = true) (s : S) : neqF (.lst X) (.lst X) s = .ok (.bl false) s := by
  unfold neqF
  rw [if_pos (ok_list h), eqv_list h]
  rfl
theorem eq_list (h : ∀ x ∈ X, goodB x = true) (s : S) : eqF (.lst X) (.lst X) s = .ok (.bl true) s := by
  unfold eqF
  rw [if_pos (ok_list h), eqv_list h]
theorem eq_int (x y : Int) (s : S) : eqF (.int x) (.int y) s = .ok (.bl (decide (x = y))) s := by
  have e : eqOk (.int x) (.int y) = true := rfl
  unfold eqF
  rw [if_pos e]
  congr 2
theorem cut_from {n : Nat} (h : n ≤ X.length) : Pp.cutD X (some (n : Nat)) none = X.drop n := by
  unfold Pp.cutD
  rw [HT.sIx_nat, HT.sIx_none, Nat.min_eq_left h]
  exact List.take_of_length_le (by rw [List.length_drop]; omega)
theorem cut_some {n t : Nat} (h : n ≤ X.length) : Pp.cutD X (some (n : Nat)) (some ((n : Nat) + (t : Nat) : Int)) = (X.drop n).take t := by
  unfold Pp.cutD
  have e : ((n : Nat) + (t : Nat) : Int) = ((n + t : Nat) : Int) := by omega
  rw [e, HT.sIx_nat, HT.sIx_nat, Nat.min_eq_left h]
  by_cases g : n + t ≤ X.length
  · rw [Nat.min_eq_left g, Nat.add_sub_cancel_left]
  · rw [Nat.min_eq_right (by omega), List.take_of_length_le (by rw [List.length_drop]; omega), List.take_of_length_le (by rw [List.length_drop]; omega)]
theorem sl_from {f g : Slots → S → R D} {ρ : Slots} {s : S} {n : Nat} (h : n ≤ X.length) (hf : f ρ s = .ok (.lst X) s) (hg : g ρ s = .ok (.int (n : Nat)) s) : slLX f (soO g) noO ρ s = .ok (.lst (X.drop n)) s := by
  unfold slLX soO
  rw [hf]
  show (R.bind (R.bind (g ρ s) _) _) = _
  rw [hg]
  show R.ok (D.lst (Pp.cutD X (some (n : Nat)) none)) s = _
  rw [cut_from h]
theorem sl_some {f g k : Slots → S → R D} {ρ : Slots} {s : S} {n t : Nat} (h : n ≤ X.length) (hf : f ρ s = .ok (.lst X) s) (hg : g ρ s = .ok (.int (n : Nat)) s) (hk : k ρ s = .ok (.int ((n : Nat) + (t : Nat))) s) : slLX f (soO g) (soO k) ρ s = .ok (.lst ((X.drop n).take t)) s := by
  unfold slLX soO
  rw [hf]
  show (R.bind (R.bind (g ρ s) _) _) = _
  rw [hg]
  show (R.bind (R.bind (k ρ s) _) _) = _
  rw [hk]
  show R.ok (D.lst (Pp.cutD X (some (n : Nat)) (some ((n : Nat) + (t : Nat) : Int)))) s = _
  rw [cut_some h]
/-! ### _law_first_items -/
def rF (w : D) (i t : Nat) (acc : List D) (x : Sl) : Slots := [.fz w, .fz (.int (i : Nat)), .fz (.int (t : Nat)), .ow (.ls acc), x]
def b_fi : Slots → S → R Fl := seqS (ifS (tst (b2 eqF (bC lenF (cnsA (vr 3) nilA)) (vr 2))) (retS (vr 3)) nxS) (appS 3 (vr 4))
def k_fi (fl : Fl) (s : S) : R Fl := match fl with
  | .nx ρ => retS (vr 3) ρ s
  | x => .ok x s
theorem fi_loop {w : D} {t : Nat} (s : S) : ∀ (X acc : List D) (x : Sl), acc.length ≤ t → acc.length + X.length ≤ 100 → (forL (gN 4) b_fi X (rF w i t acc x) s).bind k_fi = .ok (.rt (.lst (acc ++ X.take (t - acc.length)))) s
  | [], acc, x, _, _ => by
    rw [List.take_nil, List.append_nil]
    rfl
  | d :: X, acc, x, h, h2 => by
    have h2' : acc.length + (X.length + 1) ≤ 100 := h2
    have te : tst (b2 eqF (bC lenF (cnsA (vr 3) nilA)) (vr 2)) (allS (rF w i t acc (.fz d))) s = .ok (decide ((acc.length : Int) = (t : Nat))) s := by
      refine tst_ok ?_
      exact (b2_ok (f := bC lenF (cnsA (vr 3) nilA)) (g := vr 2) (d := .int (acc.length : Nat)) (x := .int (t : Nat)) (s' := s) rfl rfl).trans (eq_int _ _ s)
    have un : forL (gN 4) b_fi (d :: X) (rF w i t acc x) s = (b_fi (rF w i t acc (.fz d)) s).bind (forK fun ρ s => forL (gN 4) b_fi X ρ s) := rfl
    rw [un]
    by_cases g : acc.length = t
    · have e : b_fi (rF w i t acc (.fz d)) s = .ok (.rt (.lst acc)) s := by
        unfold b_fi seqS
        rw [ifS_yes (te.trans (by rw [decide_eq_true (by omega)]))]
        rfl
      rw [e, g, Nat.sub_self, List.take_zero, List.append_nil]
      rfl
    · have e : b_fi (rF w i t acc (.fz d)) s = .ok (.nx (rF w i t (acc ++ [d]) (.fz d))) s := by
        unfold b_fi
        rw [seq_nx (ρ' := rF w i t acc (.fz d)) ((ifS_no (te.trans (by rw [decide_eq_false (by omega)]))).trans rfl)]
        show (if fits (acc.length + 1) = true then R.ok (Fl.nx (rF w i t (acc ++ [d]) (.fz d))) s else .un) = _
        rw [if_pos (show fits (acc.length + 1) = true from decide_eq_true (by omega))]
      rw [e]
      have q := fi_loop (w := w) (t := t) s X (acc ++ [d]) (.fz d) (by rw [List.length_append]; show acc.length + 1 ≤ t; omega) (by rw [List.length_append]; show acc.length + 1 + X.length ≤ 100; omega)
      show (forL (gN 4) b_fi X (rF w i t (acc ++ [d]) (.fz d)) s).bind k_fi = _
      rw [q, List.length_append, List.append_assoc]
      have z : t - acc.length = (t - (acc.length + 1)) + 1 := by omega
      rw [z, List.take_succ_cons]
      rfl
theorem first_run {i t : Nat} (F : FO r l E) (hi : i ≤ E.length) (s : S) : runS p__law_first_items N__law_first_items.length [wayX r l d, .int (i : Nat), .int (t : Nat)] s = .ok (.lst ((E.drop i).take t)) s := by
  have G := gen_run (d := d) F hi
  have n2 := F.n2
  obtain ⟨w, hw⟩ : ∃ w, w = wayX r l d := ⟨_, rfl⟩
  rw [← hw] at G ⊢
  have it : yNF 2 1 1 (runY p_orders N_orders.length) (cnsA (vr 0) nilA) (cnsA (vr 1) nilA) (rF w i t [] .no) s = .ok (E.drop i) s := by
    show yF 2 (runY p_orders N_orders.length) [w, .int (i : Nat)] s = _
    unfold yF
    rw [if_pos (show [w, D.int (i : Nat)].length = 2 from rfl), G]
  have lo := fi_loop (w := w) (i := i) (t := t) s (E.drop i) [] .no (Nat.zero_le _) (by rw [List.length_drop]; show 0 + _ ≤ 100; omega)
  have e : p__law_first_items [.fz w, .fz (.int (i : Nat)), .fz (.int (t : Nat)), .no, .no] s = .ok (.rt (.lst ((E.drop i).take t))) s := by
    unfold p__law_first_items
    rw [seq_nx (ρ' := rF w i t [] .no) rfl]
    unfold seqS forS
    rw [it]
    exact lo
  show (p__law_first_items [.fz w, .fz (.int (i : Nat)), .fz (.int (t : Nat)), .no, .no] s).bind endF = _
  rw [e]
  rfl
end
end W2

/-! K4G: _law_right is true. -/
namespace W2
open PySem PySem.Spec PyProof.Rows L2 Pg Pf LamX Pp Tab Rul
theorem rsm64 : ((List.range 64).all fun n => rsm (.lst [.int (n : Nat), .int (n : Nat)])) = true := by kernel_rfl
theorem rep_two {n : Nat} (h : n < 64) : reprOk (.lst [.int (n : Nat), .int (n : Nat)]) := repr_sml (List.all_eq_true.mp rsm64 n (List.mem_range.mpr h))
/-- what the law asks of a way whose orders are E -/
structure FW (w : D) (E : List D) : Prop where
  n1 : 1 ≤ E.length
  n2 : E.length ≤ 42
  gen : ∀ k : Nat, k ≤ E.length → runY p_orders N_orders.length [w, .int (k : Nat)] = some (E.drop k)
  fst : ∀ (i t : Nat) s, i ≤ E.length → runS p__law_first_items N__law_first_items.length [w, .int (i : Nat), .int (t : Nat)] s = .ok (.lst ((E.drop i).take t)) s
  cnt : ∀ s, runS p_count_orders N_count_orders.length [w] s = .ok (.int (E.length : Nat)) s
  obr : ∀ (i : Nat) e s, E[i]? = some e → runS p_order_by_rank N_order_by_rank.length [w, .int (i : Nat)] s = .ok e s
  rnk : ∀ (i : Nat) e s, E[i]? = some e → runS p_rank_of_order N_rank_of_order.length [w, e] s = .ok (.int (i : Nat)) s
  good : ∀ e ∈ E, goodB e = true
  rep : reprOk (.lst E)
  rep2 : ∀ e ∈ E, reprOk (.lst [e, e])
def t_obr : Slots → S → R Bool := bnt (tst (bC (nF 3 (runS p_is_number N_is_number.length)) (cnsA (vr 1) (cnsA (kst (.int 0)) (cnsA (b2 (intF fun i j => .int (i - j)) (bC (nF 1 (runS p_count_orders N_count_orders.length)) (cnsA (vr 0) nilA)) (kst (.int 1))) nilA)))))
theorem p_obr_eq : p_order_by_rank = seqS (ifS t_obr (fun _ _ => .un) nxS) (retS (bC (nF 2 (runS p_order_at N_order_at.length)) (cnsA (vr 0) (cnsA (vr 1) nilA)))) := by
  unfold p_order_by_rank t_obr
  rfl
theorem FO.fw {r l : Nat} {E d : List D} (F : FO r l E) : FW (wayX r l d) E where
  n1 := F.n1
  n2 := F.n2
  gen := fun k h => gen_run F h
  fst := fun i t s h => first_run F h s
  cnt := fun s => F.cnt d s
  obr := fun i e s h => by
    have lt := lt_at h
    have c := F.cnt d s
    have a := F.at' (d := d) h s
    generalize wayX r l d = w at c a
    have z1 : bC (nF 1 (runS p_count_orders N_count_orders.length)) (cnsA (vr 0) nilA) [.fz w, .fz (.int (i : Nat))] s = .ok (.int (E.length : Nat)) s := (bC1 (d := w) (s' := s) rfl).trans ((nF_of rfl).trans c)
    have z2 : b2 (intF fun i j => .int (i - j)) (bC (nF 1 (runS p_count_orders N_count_orders.length)) (cnsA (vr 0) nilA)) (kst (.int 1)) [.fz w, .fz (.int (i : Nat))] s = .ok (.int ((E.length : Nat) - 1)) s := b2_ok (op := intF fun i j => .int (i - j)) (d := .int (E.length : Nat)) (x := .int 1) (s' := s) (s'' := s) z1 rfl
    have z3 : cnsA (vr 1) (cnsA (kst (.int 0)) (cnsA (b2 (intF fun i j => .int (i - j)) (bC (nF 1 (runS p_count_orders N_count_orders.length)) (cnsA (vr 0) nilA)) (kst (.int 1))) nilA)) [.fz w, .fz (.int (i : Nat))] s = .ok [.int (i : Nat), .int 0, .int ((E.length : Nat) - 1)] s := cns_ok (d := .int (i : Nat)) (s' := s) rfl (cns_ok (d := .int 0) (s' := s) rfl (cns_ok (s' := s) z2 rfl))
    have z4 : t_obr [.fz w, .fz (.int (i : Nat))] s = .ok false s := bnt_ok (b := true) (tst_ok ((bC_of z3).trans ((nF_of rfl).trans (num_ok (by omega) (by omega) s))))
    have z5 : ifS t_obr (fun _ _ => .un) nxS [.fz w, .fz (.int (i : Nat))] s = .ok (.nx [.fz w, .fz (.int (i : Nat))]) s := ifS_no (G := nxS) (ρ := [.fz w, .fz (.int (i : Nat))]) z4
    have z6 : bC (nF 2 (runS p_order_at N_order_at.length)) (cnsA (vr 0) (cnsA (vr 1) nilA)) [.fz w, .fz (.int (i : Nat))] s = .ok e s := (bC_of (ds := [w, .int (i : Nat)]) (s' := s) rfl).trans ((nF_of rfl).trans a)
    have z7 : retS (bC (nF 2 (runS p_order_at N_order_at.length)) (cnsA (vr 0) (cnsA (vr 1) nilA))) [.fz w, .fz (.int (i : Nat))] s = .ok (.rt e) s := ret_ok (ρ := [.fz w, .fz (.int (i : Nat))]) z6
    have e1 : p_order_by_rank [.fz w, .fz (.int (i : Nat))] s = .ok (.rt e) s := by
      rw [p_obr_eq, seq_nx z5]
      exact z7
    show (p_order_by_rank [.fz w, .fz (.int (i : Nat))] s).bind endF = _
    rw [e1]
    rfl
  rnk := fun i e s h => F.rnk' h s
  good := fun e h => List.all_eq_true.mp F.good e h
  rep := repr_sml F.rep
  rep2 := fun e h => repr_sml (List.all_eq_true.mp F.rep2 e h)
noncomputable def g_all : Slots → S → R (List D) := rgI (yDF 2 [.int 0] (runY p_orders N_orders.length)) (cnsA (vr 1) nilA)
noncomputable def t_1 : Slots → S → R Bool := tst (b2 (strF true) (bC reprF (cnsA (mkL (gnL g_all)) nilA)) (bC reprF (cnsA (vr 2) nilA)))
noncomputable def c_1 : Slots → S → R D := bC (nF 1 (runS p_count_orders N_count_orders.length)) (cnsA (vr 1) nilA)
noncomputable def c_2 : Slots → S → R D := bC (nkF 1 gI1 (runS p_count_orders N_count_orders.length)) (cnsA (vr 1) nilA)
def l_2 : Slots → S → R D := bC lenF (cnsA (vr 2) nilA)
noncomputable def t_2 : Slots → S → R Bool := tst (b2 (strF true) (bC reprF (cnsA (mkL (litL (cnsA c_1 (cnsA c_2 nilA)))) nilA)) (bC reprF (cnsA (mkL (repL (litL (cnsA l_2 nilA)) (kst (.int 2)))) nilA)))
noncomputable def a_4 : Slots → S → R D := bC F_draw (cnsA (vr 0) (cnsA (b2 plusF l_2 (kst (.int 1))) nilA))
noncomputable def t_31 : Slots → S → R Bool := tst (b2 neqF (mkL (gnL (rgI (yF 2 (runY p_orders N_orders.length)) (cnsA (vr 1) (cnsA (vr 4) nilA))))) (slLX (vr 2) (soO (vr 4)) noO))
noncomputable def t_32 : Slots → S → R Bool := tst (b2 neqF (bC (nF 3 (neF (runS p__law_first_items N__law_first_items.length))) (cnsA (vr 1) (cnsA (vr 4) (cnsA (kst (.int 3)) nilA)))) (slLX (vr 2) (soO (vr 4)) (soO (b2 plusF (vr 4) (kst (.int 3))))))
noncomputable def B1 : Slots → S → R Fl := seqS (setF 4 a_4) (ifS (bor t_31 t_32) no_ nxS)
noncomputable def a_8 : Slots → S → R D := bC F_draw (cnsA (vr 0) (cnsA l_2 nilA))
noncomputable def t_4 : Slots → S → R Bool := tst (b2 (strF true) (bC reprF (cnsA (mkL (litL (cnsA (bC (nF 2 (runS p_order_by_rank N_order_by_rank.length)) (cnsA (vr 1) (cnsA (vr 4) nilA))) (cnsA (bC (nkF 2 gI2 (runS p_order_by_rank N_order_by_rank.length)) (cnsA (vr 4) (cnsA (vr 1) nilA))) nilA)))) nilA)) (bC reprF (cnsA (mkL (repL (litL (cnsA (b2 ixF (vr 2) (vr 4)) nilA)) (kst (.int 2)))) nilA)))
noncomputable def t_5 : Slots → S → R Bool := tst (b2 (strF true) (bC reprF (cnsA (mkL (litL (cnsA (bC (nF 2 (runS p_rank_of_order N_rank_of_order.length)) (cnsA (vr 1) (cnsA (b2 ixF (vr 2) (vr 4)) nilA))) (cnsA (bC (nkF 2 gI2 (runS p_rank_of_order N_rank_of_order.length)) (cnsA (b2 ixF (vr 2) (vr 4)) (cnsA (vr 1) nilA))) nilA)))) nilA)) (bC reprF (cnsA (mkL (repL (litL (cnsA (vr 4) nilA)) (kst (.int 2)))) nilA)))
noncomputable def B2 : Slots → S → R Fl := seqS (setF 4 a_8) (seqS (ifS t_4 no_ nxS) (ifS t_5 no_ nxS))
def l_5 : Slots → S → R D := bC lenF (cnsA (vr 5) nilA)
noncomputable def t_6 : Slots → S → R Bool := tst (b2 neqF (bC (nF 3 (neF (runS p__law_first_items N__law_first_items.length))) (cnsA (vr 1) (cnsA l_5 (cnsA (kst (.int 1)) nilA)))) (slLX (vr 2) (soO l_5) (soO (b2 plusF l_5 (kst (.int 1))))))
noncomputable def B3 : Slots → S → R Fl := seqS (appS 5 (vr 6)) (ifS t_6 no_ nxS)
def R3 : Slots → S → R Fl := retS (b2 eqF (vr 5) (vr 2))
theorem p_right_eq : p__law_right = seqS (ifS t_1 no_ nxS) (seqS (ifS t_2 no_ nxS) (seqS (forS (rgI rg1F (cnsA (kst (.int 4)) nilA)) (gN 3) B1) (seqS (forS (rgI rg1F (cnsA (kst (.int 8)) nilA)) (gN 3) B2) (seqS (setW 5 (litL nilA)) (seqS (forS g_all (gN 6) B3) R3))))) := by
  unfold p__law_right t_1 t_2 c_1 c_2 g_all B1 a_4 t_31 t_32 B2 a_8 t_4 t_5 B3 t_6 R3 l_2 l_5
  rfl
def rR (m : Addr) (w : D) (E : List D) (x3 x4 x5 x6 : Sl) : Slots := [.fz (.adr m), .fz w, .fz (.lst E), x3, x4, x5, x6]
theorem all_rR {m : Addr} {w : D} {E : List D} {x3 x4 x5 x6 : Sl} (h3 : x3.all = x3) (h4 : x4.all = x4) (h5 : x5.all = x5) (h6 : x6.all = x6) : allS (rR m w E x3 x4 x5 x6) = rR m w E x3 x4 x5 x6 := by
  show [Sl.fz (.adr m), .fz w, .fz (.lst E), x3.all, x4.all, x5.all, x6.all] = _
  rw [h3, h4, h5, h6]
  rfl
theorem gnL_ok {f : Slots → S → R (List D)} {ρ : Slots} {s : S} {ds : List D} (h : f ρ s = .ok ds s) (hf : fits ds.length = true) : mkL (gnL f) ρ s = .ok (.lst ds) s := by
  unfold mkL gnL
  rw [h]
  show (R.bind (if fits ds.length = true then R.ok ds s else R.un) fun ds s => R.ok (D.lst ds) s) = _
  rw [if_pos hf]
  rfl
theorem rep_ok {f : Slots → S → R D} {ρ : Slots} {s : S} {x : D} (h : f ρ s = .ok x s) (r : reprOk x) : bC reprF (cnsA f nilA) ρ s = .ok (.str x.py.shown) s := (bC1 h).trans (if_pos r)
theorem rep2_ok {f : Slots → S → R D} {ρ : Slots} {s : S} {x : D} (h : f ρ s = .ok x s) : mkL (repL (litL (cnsA f nilA)) (kst (.int 2))) ρ s = .ok (.lst [x, x]) s := by
  have e : litL (cnsA f nilA) ρ s = .ok [x] s := by
    unfold litL
    rw [cns_ok h (show nilA ρ s = .ok [] s from rfl)]
    rfl
  unfold mkL repL
  rw [e]
  rfl
theorem ne_same {f g : Slots → S → R D} {ρ : Slots} {s : S} {x : D} (hf : f ρ s = .ok x s) (hg : g ρ s = .ok x s) (r : reprOk x) : tst (b2 (strF true) (bC reprF (cnsA f nilA)) (bC reprF (cnsA g nilA))) ρ s = .ok false s :=
  tst_ok ((b2_ok (rep_ok hf r) (rep_ok hg r)).trans (ne_str _ _))
theorem lit2_ok {f g : Slots → S → R D} {ρ : Slots} {s : S} {x y : D} (hf : f ρ s = .ok x s) (hg : g ρ s = .ok y s) : mkL (litL (cnsA f (cnsA g nilA))) ρ s = .ok (.lst [x, y]) s :=
  lit_ok (cns_ok hf (cns_ok hg (show nilA ρ s = .ok [] s from rfl))) (by show 2 ≤ 12; decide)
theorem bor_ok {p r : Slots → S → R Bool} {ρ : Slots} {s : S} (h : p ρ s = .ok false s) (h2 : r ρ s = .ok false s) : bor p r ρ s = .ok false s := by
  unfold bor
  rw [h]
  exact h2
section
variable {m a q : Addr} {b : Nat} {w : D} {E : List D} {x3 x4 x5 x6 : Sl} {s : S}
theorem gall_ok (F : FW w E) : g_all (rR m w E x3 x4 x5 x6) s = .ok E s := by
  show yF 2 (runY p_orders N_orders.length) [w, .int ((0 : Nat) : Int)] s = _
  unfold yF
  rw [if_pos (show [w, D.int ((0 : Nat) : Int)].length = 2 from rfl), F.gen 0 (Nat.zero_le _), List.drop_zero]
theorem s_1 (F : FW w E) (h3 : x3.all = x3) (h4 : x4.all = x4) (h5 : x5.all = x5) (h6 : x6.all = x6) : ifS t_1 no_ nxS (rR m w E x3 x4 x5 x6) s = .ok (.nx (rR m w E x3 x4 x5 x6)) s := by
  refine if_no ?_
  rw [all_rR h3 h4 h5 h6]
  have n2 := F.n2
  unfold t_1
  exact ne_same (gnL_ok (gall_ok F) (decide_eq_true (by omega))) rfl F.rep
theorem c1_ok (F : FW w E) : c_1 (rR m w E x3 x4 x5 x6) s = .ok (.int (E.length : Nat)) s := (bC1 (d := w) (s' := s) rfl).trans ((nF_of rfl).trans (F.cnt s))
theorem c2_ok (F : FW w E) : c_2 (rR m w E x3 x4 x5 x6) s = .ok (.int (E.length : Nat)) s := (bC1 (d := w) (s' := s) rfl).trans ((if_pos rfl).trans (F.cnt s))
theorem l2_ok : l_2 (rR m w E x3 x4 x5 x6) s = .ok (.int (E.length : Nat)) s := rfl
theorem s_2 (F : FW w E) (h3 : x3.all = x3) (h4 : x4.all = x4) (h5 : x5.all = x5) (h6 : x6.all = x6) : ifS t_2 no_ nxS (rR m w E x3 x4 x5 x6) s = .ok (.nx (rR m w E x3 x4 x5 x6)) s := by
  refine if_no ?_
  rw [all_rR h3 h4 h5 h6]
  have n2 := F.n2
  unfold t_2
  exact ne_same (lit2_ok (c1_ok F) (c2_ok F)) (rep2_ok l2_ok) (rep_two (by omega))
theorem good_cut (F : FW w E) {X : List D} (h : ∀ x ∈ X, x ∈ E) : ∀ x ∈ X, goodB x = true := fun x hx => F.good x (h x hx)
theorem neq_ok (F : FW w E) {f g : Slots → S → R D} {ρ : Slots} {X : List D} (hX : ∀ x ∈ X, x ∈ E) (hf : f ρ s = .ok (.lst X) s) (hg : g ρ s = .ok (.lst X) s) : tst (b2 neqF f g) ρ s = .ok false s :=
  tst_ok ((b2_ok hf hg).trans (neq_list (good_cut F hX) s))
theorem first_ok (F : FW w E) {f g : Slots → S → R D} {i t : Nat} (h : i ≤ E.length) (hf : f (rR m w E x3 x4 x5 x6) s = .ok (.int (i : Nat)) s) (hg : g (rR m w E x3 x4 x5 x6) s = .ok (.int (t : Nat)) s) :
    bC (nF 3 (neF (runS p__law_first_items N__law_first_items.length))) (cnsA (vr 1) (cnsA f (cnsA g nilA))) (rR m w E x3 x4 x5 x6) s = .ok (.lst ((E.drop i).take t)) s := by
  rw [bC_of (ds := [w, .int (i : Nat), .int (t : Nat)]) (s' := s) (cns_ok (d := w) (s' := s) rfl (cns_ok hf (cns_ok hg (show nilA _ s = .ok [] s from rfl)))), nF_of (n := 3) rfl]
  unfold neF
  rw [F.fst i t s h]
  rfl
theorem s_3 (F : FW w E) {k : Nat} (hk : k ≤ E.length) (h3 : x3.all = x3) (h5 : x5.all = x5) (h6 : x6.all = x6) : bor t_31 t_32 (rR m w E x3 (.fz (.int (k : Nat))) x5 x6) s = .ok false s := by
  have n2 := F.n2
  refine bor_ok ?_ ?_
  · unfold t_31
    refine neq_ok F (X := E.drop k) (fun x hx => List.mem_of_mem_drop hx) (gnL_ok ?_ (decide_eq_true (by rw [List.length_drop]; omega))) (sl_from hk rfl rfl)
    show yF 2 (runY p_orders N_orders.length) [w, .int (k : Nat)] s = _
    unfold yF
    rw [if_pos (show [w, D.int (k : Nat)].length = 2 from rfl), F.gen k hk]
  · unfold t_32
    refine neq_ok F (X := (E.drop k).take 3) (fun x hx => List.mem_of_mem_drop (List.mem_of_mem_take hx)) (first_ok (t := 3) F hk rfl rfl) (sl_some (t := 3) hk rfl rfl ?_)
    rfl
theorem b1_al (F : FW w E) (hb : b ≤ 100000) (h3 : x3.all = x3) (h4 : x4.all = x4) (h5 : x5.all = x5) (h6 : x6.all = x6) : Al (fun f s => ∃ ρ', f = .nx ρ' ∧ ∃ y4, y4.all = y4 ∧ ρ' = rR m w E x3 y4 x5 x6 ∧ s = ms m a q (b + 1)) (B1 (rR m w E x3 x4 x5 x6) (ms m a q b)) := by
  have n1 := F.n1
  have n2 := F.n2
  unfold B1
  refine al_seq (P1 := fun ρ s => ∃ k : Nat, k ≤ E.length ∧ ρ = rR m w E x3 (.fz (.int (k : Nat))) x5 x6 ∧ s = ms m a q (b + 1)) ((al_set (P := fun d s => (∃ i : Int, d = .int i ∧ 0 ≤ i ∧ i < (E.length : Nat) + 1) ∧ s = ms m a q (b + 1)) ?_).imp fun f s ⟨ρ', e1, d, e2, ⟨i, e3, i0, i1⟩, e4⟩ => ?_) ?_
  · unfold a_4
    rw [bC_of (ds := [.adr m, .int ((E.length : Nat) + 1)]) (s' := ms m a q b) rfl]
    exact al_draw (by omega) (by omega) (by omega)
  · obtain ⟨k, rfl⟩ : ∃ k : Nat, i = (k : Int) := ⟨i.toNat, by omega⟩
    subst e3
    exact ⟨ρ', e1, k, by omega, e2, e4⟩
  · rintro ρ s ⟨k, hk, rfl, rfl⟩
    rw [if_no (by rw [all_rR h3 rfl h5 h6]; exact s_3 F hk h3 h5 h6)]
    exact .ok ⟨_, rfl, _, rfl, rfl, rfl⟩
theorem s_45 (F : FW w E) {k : Nat} (hk : k < E.length) (h3 : x3.all = x3) (h5 : x5.all = x5) (h6 : x6.all = x6) : seqS (ifS t_4 no_ nxS) (ifS t_5 no_ nxS) (rR m w E x3 (.fz (.int (k : Nat))) x5 x6) s = .ok (.nx (rR m w E x3 (.fz (.int (k : Nat))) x5 x6)) s := by
  have n2 := F.n2
  have ek : E[k]? = some E[k] := List.getElem?_eq_getElem hk
  have ix : b2 ixF (vr 2) (vr 4) (rR m w E x3 (.fz (.int (k : Nat))) x5 x6) s = .ok E[k] s := by
    refine (b2_ok (d := .lst E) (x := .int (k : Nat)) (s' := s) (s'' := s) rfl rfl).trans ?_
    show (match L2.atI E (k : Int) with
      | some d => R.ok d s
      | none => .un) = _
    rw [L2.atI_nat ek]
  have all := all_rR (m := m) (w := w) (E := E) (x4 := .fz (.int (k : Nat))) h3 rfl h5 h6
  rw [seq_nx (if_no (ρ := rR m w E x3 (.fz (.int (k : Nat))) x5 x6) (by
    rw [all]
    unfold t_4
    refine ne_same (lit2_ok ?_ ?_) (rep2_ok ix) (F.rep2 _ (List.mem_of_getElem? ek))
    · exact (bC_of (ds := [w, .int (k : Nat)]) (s' := s) rfl).trans ((nF_of rfl).trans (F.obr k _ s ek))
    · exact (bC_of (ds := [.int (k : Nat), w]) (s' := s) rfl).trans ((if_pos rfl).trans (F.obr k _ s ek))))]
  refine if_no ?_
  rw [all]
  unfold t_5
  refine ne_same (lit2_ok ?_ ?_) (rep2_ok (x := .int (k : Nat)) rfl) (rep_two (by omega))
  · exact (bC_of (ds := [w, E[k]]) (s' := s) (cns_ok (d := w) (s' := s) rfl (cns_ok ix (show nilA _ s = .ok [] s from rfl)))).trans ((nF_of rfl).trans (F.rnk k _ s ek))
  · exact (bC_of (ds := [E[k], w]) (s' := s) (cns_ok ix (cns_ok (d := w) (s' := s) rfl (show nilA _ s = .ok [] s from rfl)))).trans ((if_pos rfl).trans (F.rnk k _ s ek))
theorem b2_al (F : FW w E) (hb : b ≤ 100000) (h3 : x3.all = x3) (h4 : x4.all = x4) (h5 : x5.all = x5) (h6 : x6.all = x6) : Al (fun f s => ∃ ρ', f = .nx ρ' ∧ ∃ y4, y4.all = y4 ∧ ρ' = rR m w E x3 y4 x5 x6 ∧ s = ms m a q (b + 1)) (B2 (rR m w E x3 x4 x5 x6) (ms m a q b)) := by
  have n1 := F.n1
  have n2 := F.n2
  unfold B2
  refine al_seq (P1 := fun ρ s => ∃ k : Nat, k < E.length ∧ ρ = rR m w E x3 (.fz (.int (k : Nat))) x5 x6 ∧ s = ms m a q (b + 1)) ((al_set (P := fun d s => (∃ i : Int, d = .int i ∧ 0 ≤ i ∧ i < (E.length : Nat)) ∧ s = ms m a q (b + 1)) ?_).imp fun f s ⟨ρ', e1, d, e2, ⟨i, e3, i0, i1⟩, e4⟩ => ?_) ?_
  · unfold a_8
    rw [bC_of (ds := [.adr m, .int (E.length : Nat)]) (s' := ms m a q b) rfl]
    exact al_draw (by omega) (by omega) (by omega)
  · obtain ⟨k, rfl⟩ : ∃ k : Nat, i = (k : Int) := ⟨i.toNat, by omega⟩
    subst e3
    exact ⟨ρ', e1, k, by omega, e2, e4⟩
  · rintro ρ s ⟨k, hk, rfl, rfl⟩
    rw [s_45 F hk h3 h5 h6]
    exact .ok ⟨_, rfl, _, rfl, rfl, rfl⟩
def kR3 (fl : Fl) (s : S) : R Fl := match fl with
  | .nx ρ => R3 ρ s
  | x => .ok x s
theorem s_6 (F : FW w E) {acc : List D} (h : acc.length ≤ E.length) (h3 : x3.all = x3) (h4 : x4.all = x4) (h6 : x6.all = x6) : t_6 (allS (rR m w E x3 x4 (.ow (.ls acc)) x6)) s = .ok false s := by
  have e : allS (rR m w E x3 x4 (.ow (.ls acc)) x6) = rR m w E x3 x4 (.fz (.lst acc)) x6 := by
    show [Sl.fz (.adr m), .fz w, .fz (.lst E), x3.all, x4.all, .fz (.lst acc), x6.all] = _
    rw [h3, h4, h6]
    rfl
  rw [e]
  have l5 : l_5 (rR m w E x3 x4 (.fz (.lst acc)) x6) s = .ok (.int (acc.length : Nat)) s := rfl
  unfold t_6
  exact neq_ok F (X := (E.drop acc.length).take 1) (fun x hx => List.mem_of_mem_drop (List.mem_of_mem_take hx)) (first_ok (t := 1) F h l5 rfl) (sl_some (t := 1) h rfl l5 ((b2_ok l5 (show kst (.int 1) _ s = .ok (.int 1) s from rfl)).trans rfl))
theorem b3_loop (F : FW w E) (h3 : x3.all = x3) (h4 : x4.all = x4) : ∀ (X acc : List D) (x6 : Sl), x6.all = x6 → acc ++ X = E → (forL (gN 6) B3 X (rR m w E x3 x4 (.ow (.ls acc)) x6) s).bind kR3 = .ok (.rt (.bl true)) s
  | [], acc, x6, h6, e => by
    rw [List.append_nil] at e
    subst e
    show retS (b2 eqF (vr 5) (vr 2)) (rR m w acc x3 x4 (.ow (.ls acc)) x6) s = _
    refine ret_ok ?_
    exact (b2_ok (d := .lst acc) (x := .lst acc) (s' := s) (s'' := s) rfl rfl).trans (eq_list F.good s)
  | d :: X, acc, x6, h6, e => by
    have n2 := F.n2
    have e' : (acc ++ [d]) ++ X = E := by rw [List.append_assoc]; exact e
    have le : (acc ++ [d]).length ≤ E.length := by rw [← e', List.length_append (bs := X)]; omega
    have un : forL (gN 6) B3 (d :: X) (rR m w E x3 x4 (.ow (.ls acc)) x6) s = (B3 (rR m w E x3 x4 (.ow (.ls acc)) (.fz d)) s).bind (forK fun ρ s => forL (gN 6) B3 X ρ s) := rfl
    have ap : appS 5 (vr 6) (rR m w E x3 x4 (.ow (.ls acc)) (.fz d)) s = .ok (.nx (rR m w E x3 x4 (.ow (.ls (acc ++ [d]))) (.fz d))) s := by
      show (if fits (acc.length + 1) = true then R.ok (Fl.nx (rR m w E x3 x4 (.ow (.ls (acc ++ [d]))) (.fz d))) s else .un) = _
      rw [if_pos (show fits (acc.length + 1) = true from decide_eq_true (by rw [List.length_append] at le; have : acc.length + 1 ≤ E.length := le; omega))]
    have st : B3 (rR m w E x3 x4 (.ow (.ls acc)) (.fz d)) s = .ok (.nx (rR m w E x3 x4 (.ow (.ls (acc ++ [d]))) (.fz d))) s := by
      unfold B3
      rw [seq_nx ap]
      exact if_no (s_6 F le h3 h4 rfl)
    rw [un, st]
    show (forL (gN 6) B3 X (rR m w E x3 x4 (.ow (.ls (acc ++ [d]))) (.fz d)) s).bind kR3 = _
    exact b3_loop F h3 h4 X (acc ++ [d]) (.fz d) rfl e'
theorem right_run (F : FW w E) (hb : b ≤ 50000) : Al (fun d s => d = .bl true ∧ s = ms m a q (b + 12)) (runS p__law_right N__law_right.length [.adr m, w, .lst E] (ms m a q b)) := by
  have e0 : st0 N__law_right.length [.adr m, w, .lst E] = rR m w E .no .no .no .no := rfl
  unfold runS
  refine Al.bind (P := fun f s => f = .rt (.bl true) ∧ s = ms m a q (b + 12)) ?_ fun f s ⟨e1, e2⟩ => by subst e1; exact .ok ⟨rfl, e2⟩
  rw [e0, p_right_eq, seq_nx (s_1 F rfl rfl rfl rfl), seq_nx (s_2 F rfl rfl rfl rfl)]
  refine al_seq (P1 := fun ρ s => ∃ y3 y4, y3.all = y3 ∧ y4.all = y4 ∧ ρ = rR m w E y3 y4 .no .no ∧ s = ms m a q (b + 4)) ((al_for (v := 3) (F := B1) (n := 4) (fun n ρ s => ∃ y3 y4 b', y3.all = y3 ∧ y4.all = y4 ∧ ρ = rR m w E y3 y4 .no .no ∧ s = ms m a q b' ∧ b' + n = b + 4) _ _ rfl ⟨.no, .no, b, rfl, rfl, rfl, rfl, rfl⟩ ?_).imp fun f s ⟨ρ', e1, y3, y4, b', f3, f4, e2, e3, e4⟩ => ⟨ρ', e1, y3, y4, f3, f4, e2, by rw [e3]; congr 2⟩) ?_
  · rintro t ht n ρ s ⟨y3, y4, b', f3, f4, rfl, rfl, h⟩
    exact (b1_al (a := a) (q := q) (x3 := .fz (.int (t : Nat))) F (b := b') (by omega) rfl f4 rfl rfl).imp fun f s ⟨ρ', e1, z4, g4, e2, e3⟩ => ⟨ρ', e1, _, z4, b' + 1, rfl, g4, e2, e3, by omega⟩
  rintro ρ s ⟨y3, y4, f3, f4, rfl, rfl⟩
  refine al_seq (P1 := fun ρ s => ∃ y3 y4, y3.all = y3 ∧ y4.all = y4 ∧ ρ = rR m w E y3 y4 .no .no ∧ s = ms m a q (b + 12)) ((al_for (v := 3) (F := B2) (n := 8) (fun n ρ s => ∃ y3 y4 b', y3.all = y3 ∧ y4.all = y4 ∧ ρ = rR m w E y3 y4 .no .no ∧ s = ms m a q b' ∧ b' + n = b + 12) _ _ rfl ⟨y3, y4, b + 4, f3, f4, rfl, rfl, rfl⟩ ?_).imp fun f s ⟨ρ', e1, y3, y4, b', f3, f4, e2, e3, e4⟩ => ⟨ρ', e1, y3, y4, f3, f4, e2, by rw [e3]; congr 2⟩) ?_
  · rintro t ht n ρ s ⟨y3, y4, b', f3, f4, rfl, rfl, h⟩
    exact (b2_al (a := a) (q := q) (x3 := .fz (.int (t : Nat))) F (b := b') (by omega) rfl f4 rfl rfl).imp fun f s ⟨ρ', e1, z4, g4, e2, e3⟩ => ⟨ρ', e1, _, z4, b' + 1, rfl, g4, e2, e3, by omega⟩
  rintro ρ s ⟨y3, y4, f3, f4, rfl, rfl⟩
  have s5 : setW 5 (litL nilA) (rR m w E y3 y4 .no .no) (ms m a q (b + 12)) = .ok (.nx (rR m w E y3 y4 (.ow (.ls [])) .no)) (ms m a q (b + 12)) := rfl
  rw [seq_nx s5]
  have s6 : seqS (forS g_all (gN 6) B3) R3 (rR m w E y3 y4 (.ow (.ls [])) .no) (ms m a q (b + 12)) = (forL (gN 6) B3 E (rR m w E y3 y4 (.ow (.ls [])) .no) (ms m a q (b + 12))).bind kR3 := by
    unfold seqS forS
    rw [gall_ok F]
    rfl
  rw [s6, b3_loop F f3 f4 E [] .no rfl rfl]
  exact .ok ⟨rfl, rfl⟩
end
end W2

/-! K4DA: facts. -/
namespace W2
open PySem PySem.Spec PyProof.Rows L2 Pg Pf LamX Pp Tab Rul
theorem three {α β γ : Type} {f : α → γ} {g : β → γ} {L L1 L2 L3 : List α} {M M1 M2 M3 : List β} (e : L = L1 ++ (L2 ++ L3)) (e2 : M = M1 ++ (M2 ++ M3)) (h1 : L1.map f = M1.map g) (h2 : L2.map f = M2.map g) (h3 : L3.map f = M3.map g) : L.map f = M.map g := by
  rw [e, e2, List.map_append, List.map_append, List.map_append, List.map_append, h1, h2, h3]
theorem fo11_all : ∀ s, runS p__law_all_orders N__law_all_orders.length [.int (1 : Nat), .int (1 : Nat)] s = .ok (.lst E11) s := fun s => by kernel_rfl
theorem fo11_cnt : ∀ d s, runS p_count_orders N_count_orders.length [wayX 1 1 d] s = .ok (.int (E11.length : Nat)) s := fun d s => by kernel_rfl
theorem fo11_at : ∀ d s, (List.range E11.length).map (fun i => runS p_order_at N_order_at.length [wayX 1 1 d, .int (i : Nat)] s) = E11.map fun e => .ok e s := fun d s => by kernel_rfl
theorem fo11_rk : ∀ d s, E11.map (fun e => runS p_rank_of_order N_rank_of_order.length [wayX 1 1 d, e] s) = (List.range E11.length).map fun (i : Nat) => .ok (.int i) s := fun d s => by kernel_rfl
theorem fo11_fl : ∀ d s, E11.map (fun e => runS p_following N_following.length [wayX 1 1 d, e] s) = (E11.drop 1 ++ [D.non]).map fun e => .ok e s := fun d s => by kernel_rfl
theorem fo11 : FO 1 1 E11 := ⟨Nat.le_of_ble_eq_true (by kernel_rfl), Nat.le_of_ble_eq_true (by kernel_rfl), fo11_all, fo11_cnt, fo11_at, fo11_fl, fo11_rk, by kernel_rfl, by kernel_rfl, by kernel_rfl⟩
theorem fo12_all : ∀ s, runS p__law_all_orders N__law_all_orders.length [.int (1 : Nat), .int (2 : Nat)] s = .ok (.lst E12) s := fun s => by kernel_rfl
theorem fo12_cnt : ∀ d s, runS p_count_orders N_count_orders.length [wayX 1 2 d] s = .ok (.int (E12.length : Nat)) s := fun d s => by kernel_rfl
theorem fo12_at : ∀ d s, (List.range E12.length).map (fun i => runS p_order_at N_order_at.length [wayX 1 2 d, .int (i : Nat)] s) = E12.map fun e => .ok e s := fun d s => by kernel_rfl
theorem fo12_rk : ∀ d s, E12.map (fun e => runS p_rank_of_order N_rank_of_order.length [wayX 1 2 d, e] s) = (List.range E12.length).map fun (i : Nat) => .ok (.int i) s := fun d s => by kernel_rfl
theorem fo12_fl : ∀ d s, E12.map (fun e => runS p_following N_following.length [wayX 1 2 d, e] s) = (E12.drop 1 ++ [D.non]).map fun e => .ok e s := fun d s => by kernel_rfl
theorem fo12 : FO 1 2 E12 := ⟨Nat.le_of_ble_eq_true (by kernel_rfl), Nat.le_of_ble_eq_true (by kernel_rfl), fo12_all, fo12_cnt, fo12_at, fo12_fl, fo12_rk, by kernel_rfl, by kernel_rfl, by kernel_rfl⟩
theorem fo21_all : ∀ s, runS p__law_all_orders N__law_all_orders.length [.int (2 : Nat), .int (1 : Nat)] s = .ok (.lst E21) s := fun s => by kernel_rfl
theorem fo21_cnt : ∀ d s, runS p_count_orders N_count_orders.length [wayX 2 1 d] s = .ok (.int (E21.length : Nat)) s := fun d s => by kernel_rfl
theorem fo21_at : ∀ d s, (List.range E21.length).map (fun i => runS p_order_at N_order_at.length [wayX 2 1 d, .int (i : Nat)] s) = E21.map fun e => .ok e s := fun d s => by kernel_rfl
theorem fo21_rk : ∀ d s, E21.map (fun e => runS p_rank_of_order N_rank_of_order.length [wayX 2 1 d, e] s) = (List.range E21.length).map fun (i : Nat) => .ok (.int i) s := fun d s => by kernel_rfl
theorem fo21_fl : ∀ d s, E21.map (fun e => runS p_following N_following.length [wayX 2 1 d, e] s) = (E21.drop 1 ++ [D.non]).map fun e => .ok e s := fun d s => by kernel_rfl
theorem fo21 : FO 2 1 E21 := ⟨Nat.le_of_ble_eq_true (by kernel_rfl), Nat.le_of_ble_eq_true (by kernel_rfl), fo21_all, fo21_cnt, fo21_at, fo21_fl, fo21_rk, by kernel_rfl, by kernel_rfl, by kernel_rfl⟩
theorem fo14_all : ∀ s, runS p__law_all_orders N__law_all_orders.length [.int (1 : Nat), .int (4 : Nat)] s = .ok (.lst E14) s := fun s => by kernel_rfl
theorem fo14_cnt : ∀ d s, runS p_count_orders N_count_orders.length [wayX 1 4 d] s = .ok (.int (E14.length : Nat)) s := fun d s => by kernel_rfl
theorem fo14_at : ∀ d s, (List.range E14.length).map (fun i => runS p_order_at N_order_at.length [wayX 1 4 d, .int (i : Nat)] s) = E14.map fun e => .ok e s := fun d s => by kernel_rfl
theorem fo14_rk : ∀ d s, E14.map (fun e => runS p_rank_of_order N_rank_of_order.length [wayX 1 4 d, e] s) = (List.range E14.length).map fun (i : Nat) => .ok (.int i) s := fun d s => by kernel_rfl
theorem fo14_fl : ∀ d s, E14.map (fun e => runS p_following N_following.length [wayX 1 4 d, e] s) = (E14.drop 1 ++ [D.non]).map fun e => .ok e s := fun d s => by kernel_rfl
theorem fo14 : FO 1 4 E14 := ⟨Nat.le_of_ble_eq_true (by kernel_rfl), Nat.le_of_ble_eq_true (by kernel_rfl), fo14_all, fo14_cnt, fo14_at, fo14_fl, fo14_rk, by kernel_rfl, by kernel_rfl, by kernel_rfl⟩
theorem fo31_all : ∀ s, runS p__law_all_orders N__law_all_orders.length [.int (3 : Nat), .int (1 : Nat)] s = .ok (.lst E31) s := fun s => by kernel_rfl
theorem fo31_cnt : ∀ d s, runS p_count_orders N_count_orders.length [wayX 3 1 d] s = .ok (.int (E31.length : Nat)) s := fun d s => by kernel_rfl
theorem fo31_at : ∀ d s, (List.range E31.length).map (fun i => runS p_order_at N_order_at.length [wayX 3 1 d, .int (i : Nat)] s) = E31.map fun e => .ok e s := fun d s => by kernel_rfl
theorem fo31_rk : ∀ d s, E31.map (fun e => runS p_rank_of_order N_rank_of_order.length [wayX 3 1 d, e] s) = (List.range E31.length).map fun (i : Nat) => .ok (.int i) s := fun d s => by kernel_rfl
theorem fo31_fl : ∀ d s, E31.map (fun e => runS p_following N_following.length [wayX 3 1 d, e] s) = (E31.drop 1 ++ [D.non]).map fun e => .ok e s := fun d s => by kernel_rfl
theorem fo31 : FO 3 1 E31 := ⟨Nat.le_of_ble_eq_true (by kernel_rfl), Nat.le_of_ble_eq_true (by kernel_rfl), fo31_all, fo31_cnt, fo31_at, fo31_fl, fo31_rk, by kernel_rfl, by kernel_rfl, by kernel_rfl⟩
theorem fo22_all : ∀ s, runS p__law_all_orders N__law_all_orders.length [.int (2 : Nat), .int (2 : Nat)] s = .ok (.lst E22) s := fun s => by kernel_rfl
theorem fo22_cnt : ∀ d s, runS p_count_orders N_count_orders.length [wayX 2 2 d] s = .ok (.int (E22.length : Nat)) s := fun d s => by kernel_rfl
theorem fo22_at : ∀ d s, (List.range E22.length).map (fun i => runS p_order_at N_order_at.length [wayX 2 2 d, .int (i : Nat)] s) = E22.map fun e => .ok e s := fun d s => by kernel_rfl
theorem fo22_rk : ∀ d s, E22.map (fun e => runS p_rank_of_order N_rank_of_order.length [wayX 2 2 d, e] s) = (List.range E22.length).map fun (i : Nat) => .ok (.int i) s := fun d s => by kernel_rfl
theorem fo22_fl : ∀ d s, E22.map (fun e => runS p_following N_following.length [wayX 2 2 d, e] s) = (E22.drop 1 ++ [D.non]).map fun e => .ok e s := fun d s => by kernel_rfl
theorem fo22 : FO 2 2 E22 := ⟨Nat.le_of_ble_eq_true (by kernel_rfl), Nat.le_of_ble_eq_true (by kernel_rfl), fo22_all, fo22_cnt, fo22_at, fo22_fl, fo22_rk, by kernel_rfl, by kernel_rfl, by kernel_rfl⟩
theorem fo23_all : ∀ s, runS p__law_all_orders N__law_all_orders.length [.int (2 : Nat), .int (3 : Nat)] s = .ok (.lst E23) s := fun s => by kernel_rfl
theorem fo23_cnt : ∀ d s, runS p_count_orders N_count_orders.length [wayX 2 3 d] s = .ok (.int (E23.length : Nat)) s := fun d s => by kernel_rfl
theorem fo23_at : ∀ d s, (List.range E23.length).map (fun i => runS p_order_at N_order_at.length [wayX 2 3 d, .int (i : Nat)] s) = E23.map fun e => .ok e s := fun d s => by kernel_rfl
theorem fo23_rk : ∀ d s, E23.map (fun e => runS p_rank_of_order N_rank_of_order.length [wayX 2 3 d, e] s) = (List.range E23.length).map fun (i : Nat) => .ok (.int i) s := fun d s => by kernel_rfl
theorem fo23_fl : ∀ d s, E23.map (fun e => runS p_following N_following.length [wayX 2 3 d, e] s) = (E23.drop 1 ++ [D.non]).map fun e => .ok e s := fun d s => by kernel_rfl
theorem fo23 : FO 2 3 E23 := ⟨Nat.le_of_ble_eq_true (by kernel_rfl), Nat.le_of_ble_eq_true (by kernel_rfl), fo23_all, fo23_cnt, fo23_at, fo23_fl, fo23_rk, by kernel_rfl, by kernel_rfl, by kernel_rfl⟩
theorem fo32_all : ∀ s, runS p__law_all_orders N__law_all_orders.length [.int (3 : Nat), .int (2 : Nat)] s = .ok (.lst E32) s := fun s => by kernel_rfl
theorem fo32_cnt : ∀ d s, runS p_count_orders N_count_orders.length [wayX 3 2 d] s = .ok (.int (E32.length : Nat)) s := fun d s => by kernel_rfl
theorem fo32_at : ∀ d s, (List.range E32.length).map (fun i => runS p_order_at N_order_at.length [wayX 3 2 d, .int (i : Nat)] s) = E32.map fun e => .ok e s := fun d s => by kernel_rfl
theorem fo32_rk : ∀ d s, E32.map (fun e => runS p_rank_of_order N_rank_of_order.length [wayX 3 2 d, e] s) = (List.range E32.length).map fun (i : Nat) => .ok (.int i) s := fun d s => by kernel_rfl
theorem fo32_fl : ∀ d s, E32.map (fun e => runS p_following N_following.length [wayX 3 2 d, e] s) = (E32.drop 1 ++ [D.non]).map fun e => .ok e s := fun d s => by kernel_rfl
theorem fo32 : FO 3 2 E32 := ⟨Nat.le_of_ble_eq_true (by kernel_rfl), Nat.le_of_ble_eq_true (by kernel_rfl), fo32_all, fo32_cnt, fo32_at, fo32_fl, fo32_rk, by kernel_rfl, by kernel_rfl, by kernel_rfl⟩
end W2

/-! K4DB: facts. -/
namespace W2
open PySem PySem.Spec PyProof.Rows L2 Pg Pf LamX Pp Tab Rul
theorem fo24_all : ∀ s, runS p__law_all_orders N__law_all_orders.length [.int (2 : Nat), .int (4 : Nat)] s = .ok (.lst E24) s := fun s => by kernel_rfl
theorem fo24_cnt : ∀ d s, runS p_count_orders N_count_orders.length [wayX 2 4 d] s = .ok (.int (E24.length : Nat)) s := fun d s => by kernel_rfl
theorem fo24_at : ∀ d s, (List.range E24.length).map (fun i => runS p_order_at N_order_at.length [wayX 2 4 d, .int (i : Nat)] s) = E24.map fun e => .ok e s := fun d s => by kernel_rfl
theorem fo24_rk : ∀ d s, E24.map (fun e => runS p_rank_of_order N_rank_of_order.length [wayX 2 4 d, e] s) = (List.range E24.length).map fun (i : Nat) => .ok (.int i) s := fun d s => by kernel_rfl
theorem fo24_fl : ∀ d s, E24.map (fun e => runS p_following N_following.length [wayX 2 4 d, e] s) = (E24.drop 1 ++ [D.non]).map fun e => .ok e s := fun d s => by kernel_rfl
theorem fo24 : FO 2 4 E24 := ⟨Nat.le_of_ble_eq_true (by kernel_rfl), Nat.le_of_ble_eq_true (by kernel_rfl), fo24_all, fo24_cnt, fo24_at, fo24_fl, fo24_rk, by kernel_rfl, by kernel_rfl, by kernel_rfl⟩
theorem fo42_all : ∀ s, runS p__law_all_orders N__law_all_orders.length [.int (4 : Nat), .int (2 : Nat)] s = .ok (.lst E42) s := fun s => by kernel_rfl
theorem fo42_cnt : ∀ d s, runS p_count_orders N_count_orders.length [wayX 4 2 d] s = .ok (.int (E42.length : Nat)) s := fun d s => by kernel_rfl
theorem fo42_at : ∀ d s, (List.range E42.length).map (fun i => runS p_order_at N_order_at.length [wayX 4 2 d, .int (i : Nat)] s) = E42.map fun e => .ok e s := fun d s => by kernel_rfl
theorem fo42_rk : ∀ d s, E42.map (fun e => runS p_rank_of_order N_rank_of_order.length [wayX 4 2 d, e] s) = (List.range E42.length).map fun (i : Nat) => .ok (.int i) s := fun d s => by kernel_rfl
theorem fo42_fl : ∀ d s, E42.map (fun e => runS p_following N_following.length [wayX 4 2 d, e] s) = (E42.drop 1 ++ [D.non]).map fun e => .ok e s := fun d s => by kernel_rfl
theorem fo42 : FO 4 2 E42 := ⟨Nat.le_of_ble_eq_true (by kernel_rfl), Nat.le_of_ble_eq_true (by kernel_rfl), fo42_all, fo42_cnt, fo42_at, fo42_fl, fo42_rk, by kernel_rfl, by kernel_rfl, by kernel_rfl⟩
end W2

/-! K4DC: facts. -/
namespace W2
open PySem PySem.Spec PyProof.Rows L2 Pg Pf LamX Pp Tab Rul
theorem fo33_all : ∀ s, runS p__law_all_orders N__law_all_orders.length [.int (3 : Nat), .int (3 : Nat)] s = .ok (.lst E33) s := fun s => by kernel_rfl
theorem fo33_cnt : ∀ d s, runS p_count_orders N_count_orders.length [wayX 3 3 d] s = .ok (.int (E33.length : Nat)) s := fun d s => by kernel_rfl
theorem fo33_at0 : ∀ d s, (List.range' 0 14).map (fun i => runS p_order_at N_order_at.length [wayX 3 3 d, .int (i : Nat)] s) = ((E33.drop 0).take 14).map fun e => .ok e s := fun d s => by kernel_rfl
theorem fo33_rk0 : ∀ d s, ((E33.drop 0).take 14).map (fun e => runS p_rank_of_order N_rank_of_order.length [wayX 3 3 d, e] s) = (List.range' 0 14).map fun (i : Nat) => .ok (.int i) s := fun d s => by kernel_rfl
theorem fo33_at1 : ∀ d s, (List.range' 14 14).map (fun i => runS p_order_at N_order_at.length [wayX 3 3 d, .int (i : Nat)] s) = ((E33.drop 14).take 14).map fun e => .ok e s := fun d s => by kernel_rfl
theorem fo33_rk1 : ∀ d s, ((E33.drop 14).take 14).map (fun e => runS p_rank_of_order N_rank_of_order.length [wayX 3 3 d, e] s) = (List.range' 14 14).map fun (i : Nat) => .ok (.int i) s := fun d s => by kernel_rfl
theorem fo33_at2 : ∀ d s, (List.range' 28 14).map (fun i => runS p_order_at N_order_at.length [wayX 3 3 d, .int (i : Nat)] s) = ((E33.drop 28).take 14).map fun e => .ok e s := fun d s => by kernel_rfl
theorem fo33_rk2 : ∀ d s, ((E33.drop 28).take 14).map (fun e => runS p_rank_of_order N_rank_of_order.length [wayX 3 3 d, e] s) = (List.range' 28 14).map fun (i : Nat) => .ok (.int i) s := fun d s => by kernel_rfl
theorem fo33_r : List.range E33.length = List.range' 0 14 ++ (List.range' 14 14 ++ List.range' 28 14) := by kernel_rfl
theorem fo33_e : E33 = (E33.drop 0).take 14 ++ ((E33.drop 14).take 14 ++ (E33.drop 28).take 14) := by kernel_rfl
theorem fo33_at : ∀ d s, (List.range E33.length).map (fun i => runS p_order_at N_order_at.length [wayX 3 3 d, .int (i : Nat)] s) = E33.map fun e => .ok e s := fun d s => three fo33_r fo33_e (fo33_at0 d s) (fo33_at1 d s) (fo33_at2 d s)
theorem fo33_rk : ∀ d s, E33.map (fun e => runS p_rank_of_order N_rank_of_order.length [wayX 3 3 d, e] s) = (List.range E33.length).map fun (i : Nat) => .ok (.int i) s := fun d s => three fo33_e fo33_r (fo33_rk0 d s) (fo33_rk1 d s) (fo33_rk2 d s)
theorem fo33_fl : ∀ d s, E33.map (fun e => runS p_following N_following.length [wayX 3 3 d, e] s) = (E33.drop 1 ++ [D.non]).map fun e => .ok e s := fun d s => by kernel_rfl
theorem fo33 : FO 3 3 E33 := ⟨Nat.le_of_ble_eq_true (by kernel_rfl), Nat.le_of_ble_eq_true (by kernel_rfl), fo33_all, fo33_cnt, fo33_at, fo33_fl, fo33_rk, by kernel_rfl, by kernel_rfl, by kernel_rfl⟩
end W2

/-! K4DD: facts. -/
namespace W2
open PySem PySem.Spec PyProof.Rows L2 Pg Pf LamX Pp Tab Rul
theorem fo25_all : ∀ s, runS p__law_all_orders N__law_all_orders.length [.int (2 : Nat), .int (5 : Nat)] s = .ok (.lst E25) s := fun s => by kernel_rfl
theorem fo25_cnt : ∀ d s, runS p_count_orders N_count_orders.length [wayX 2 5 d] s = .ok (.int (E25.length : Nat)) s := fun d s => by kernel_rfl
theorem fo25_at0 : ∀ d s, (List.range' 0 14).map (fun i => runS p_order_at N_order_at.length [wayX 2 5 d, .int (i : Nat)] s) = ((E25.drop 0).take 14).map fun e => .ok e s := fun d s => by kernel_rfl
theorem fo25_rk0 : ∀ d s, ((E25.drop 0).take 14).map (fun e => runS p_rank_of_order N_rank_of_order.length [wayX 2 5 d, e] s) = (List.range' 0 14).map fun (i : Nat) => .ok (.int i) s := fun d s => by kernel_rfl
theorem fo25_at1 : ∀ d s, (List.range' 14 14).map (fun i => runS p_order_at N_order_at.length [wayX 2 5 d, .int (i : Nat)] s) = ((E25.drop 14).take 14).map fun e => .ok e s := fun d s => by kernel_rfl
theorem fo25_rk1 : ∀ d s, ((E25.drop 14).take 14).map (fun e => runS p_rank_of_order N_rank_of_order.length [wayX 2 5 d, e] s) = (List.range' 14 14).map fun (i : Nat) => .ok (.int i) s := fun d s => by kernel_rfl
theorem fo25_at2 : ∀ d s, (List.range' 28 14).map (fun i => runS p_order_at N_order_at.length [wayX 2 5 d, .int (i : Nat)] s) = ((E25.drop 28).take 14).map fun e => .ok e s := fun d s => by kernel_rfl
theorem fo25_rk2 : ∀ d s, ((E25.drop 28).take 14).map (fun e => runS p_rank_of_order N_rank_of_order.length [wayX 2 5 d, e] s) = (List.range' 28 14).map fun (i : Nat) => .ok (.int i) s := fun d s => by kernel_rfl
theorem fo25_r : List.range E25.length = List.range' 0 14 ++ (List.range' 14 14 ++ List.range' 28 14) := by kernel_rfl
theorem fo25_e : E25 = (E25.drop 0).take 14 ++ ((E25.drop 14).take 14 ++ (E25.drop 28).take 14) := by kernel_rfl
theorem fo25_at : ∀ d s, (List.range E25.length).map (fun i => runS p_order_at N_order_at.length [wayX 2 5 d, .int (i : Nat)] s) = E25.map fun e => .ok e s := fun d s => three fo25_r fo25_e (fo25_at0 d s) (fo25_at1 d s) (fo25_at2 d s)
theorem fo25_rk : ∀ d s, E25.map (fun e => runS p_rank_of_order N_rank_of_order.length [wayX 2 5 d, e] s) = (List.range E25.length).map fun (i : Nat) => .ok (.int i) s := fun d s => three fo25_e fo25_r (fo25_rk0 d s) (fo25_rk1 d s) (fo25_rk2 d s)
theorem fo25_fl : ∀ d s, E25.map (fun e => runS p_following N_following.length [wayX 2 5 d, e] s) = (E25.drop 1 ++ [D.non]).map fun e => .ok e s := fun d s => by kernel_rfl
theorem fo25 : FO 2 5 E25 := ⟨Nat.le_of_ble_eq_true (by kernel_rfl), Nat.le_of_ble_eq_true (by kernel_rfl), fo25_all, fo25_cnt, fo25_at, fo25_fl, fo25_rk, by kernel_rfl, by kernel_rfl, by kernel_rfl⟩
end W2

/-! K4DE: facts. -/
namespace W2
open PySem PySem.Spec PyProof.Rows L2 Pg Pf LamX Pp Tab Rul
theorem fo52_all : ∀ s, runS p__law_all_orders N__law_all_orders.length [.int (5 : Nat), .int (2 : Nat)] s = .ok (.lst E52) s := fun s => by kernel_rfl
theorem fo52_cnt : ∀ d s, runS p_count_orders N_count_orders.length [wayX 5 2 d] s = .ok (.int (E52.length : Nat)) s := fun d s => by kernel_rfl
theorem fo52_at0 : ∀ d s, (List.range' 0 14).map (fun i => runS p_order_at N_order_at.length [wayX 5 2 d, .int (i : Nat)] s) = ((E52.drop 0).take 14).map fun e => .ok e s := fun d s => by kernel_rfl
theorem fo52_rk0 : ∀ d s, ((E52.drop 0).take 14).map (fun e => runS p_rank_of_order N_rank_of_order.length [wayX 5 2 d, e] s) = (List.range' 0 14).map fun (i : Nat) => .ok (.int i) s := fun d s => by kernel_rfl
theorem fo52_at1 : ∀ d s, (List.range' 14 14).map (fun i => runS p_order_at N_order_at.length [wayX 5 2 d, .int (i : Nat)] s) = ((E52.drop 14).take 14).map fun e => .ok e s := fun d s => by kernel_rfl
theorem fo52_rk1 : ∀ d s, ((E52.drop 14).take 14).map (fun e => runS p_rank_of_order N_rank_of_order.length [wayX 5 2 d, e] s) = (List.range' 14 14).map fun (i : Nat) => .ok (.int i) s := fun d s => by kernel_rfl
theorem fo52_at2 : ∀ d s, (List.range' 28 14).map (fun i => runS p_order_at N_order_at.length [wayX 5 2 d, .int (i : Nat)] s) = ((E52.drop 28).take 14).map fun e => .ok e s := fun d s => by kernel_rfl
theorem fo52_rk2 : ∀ d s, ((E52.drop 28).take 14).map (fun e => runS p_rank_of_order N_rank_of_order.length [wayX 5 2 d, e] s) = (List.range' 28 14).map fun (i : Nat) => .ok (.int i) s := fun d s => by kernel_rfl
theorem fo52_r : List.range E52.length = List.range' 0 14 ++ (List.range' 14 14 ++ List.range' 28 14) := by kernel_rfl
theorem fo52_e : E52 = (E52.drop 0).take 14 ++ ((E52.drop 14).take 14 ++ (E52.drop 28).take 14) := by kernel_rfl
theorem fo52_at : ∀ d s, (List.range E52.length).map (fun i => runS p_order_at N_order_at.length [wayX 5 2 d, .int (i : Nat)] s) = E52.map fun e => .ok e s := fun d s => three fo52_r fo52_e (fo52_at0 d s) (fo52_at1 d s) (fo52_at2 d s)
theorem fo52_rk : ∀ d s, E52.map (fun e => runS p_rank_of_order N_rank_of_order.length [wayX 5 2 d, e] s) = (List.range E52.length).map fun (i : Nat) => .ok (.int i) s := fun d s => three fo52_e fo52_r (fo52_rk0 d s) (fo52_rk1 d s) (fo52_rk2 d s)
theorem fo52_fl : ∀ d s, E52.map (fun e => runS p_following N_following.length [wayX 5 2 d, e] s) = (E52.drop 1 ++ [D.non]).map fun e => .ok e s := fun d s => by kernel_rfl
theorem fo52 : FO 5 2 E52 := ⟨Nat.le_of_ble_eq_true (by kernel_rfl), Nat.le_of_ble_eq_true (by kernel_rfl), fo52_all, fo52_cnt, fo52_at, fo52_fl, fo52_rk, by kernel_rfl, by kernel_rfl, by kernel_rfl⟩
end W2

/-! K4H: the law is true. -/
namespace W2
open PySem PySem.Spec PyProof.Rows L2 Pg Pf LamX Pp Tab Rul
def pr_ (i j : Int) : Slots → S → R D := bC tupF (cnsA (kst (.int i)) (cnsA (kst (.int j)) nilA))
noncomputable def u_sz : Slots → S → R D := mkL (litL (cnsA (pr_ 1 1) (cnsA (pr_ 1 4) (cnsA (pr_ 3 1) (cnsA (pr_ 2 2) (cnsA (pr_ 2 3) (cnsA (pr_ 3 2) (cnsA (pr_ 3 3) (cnsA (pr_ 2 4) (cnsA (pr_ 4 2) (cnsA (pr_ 2 5) (cnsA (pr_ 5 2) nilA))))))))))))
noncomputable def u_ix : Slots → S → R D := b2 ixF (vr 3) (bC F_draw (cnsA (vr 1) (cnsA (kst (.int 11)) nilA)))
def u_tg : D → Slots → Option Slots := gT 2 (gsC (gN 4) (gsC (gN 5) gs0))
noncomputable def u_d12 : Slots → S → R D := b2 plusF (kst (.int 1)) (bC F_draw (cnsA (vr 1) (cnsA (kst (.int 12)) nilA)))
noncomputable def u_way : Slots → S → R D := bC F_wayN (cnsA (vr 4) (cnsA (vr 5) (cnsA u_d12 nilA)))
noncomputable def u_r1 : Slots → S → R D := bC (nF 3 (neF (runS p__law_right N__law_right.length))) (cnsA (vr 1) (cnsA (vr 6) (cnsA (bC (nF 2 (runS p__law_all_orders N__law_all_orders.length)) (cnsA (vr 4) (cnsA (vr 5) nilA))) nilA)))
noncomputable def u_net : Slots → S → R D := bC (nF 3 (neF (tell P_net))) (cnsA (vr 1) (cnsA (kst (.int 2)) (cnsA (kst (.int 4)) nilA)))
noncomputable def u_r2 : Slots → S → R D := bC (nF 3 (neF (runS p__law_right N__law_right.length))) (cnsA (vr 1) (cnsA (bC (nF 1 (neF (tell P_lway))) (cnsA (vr 7) nilA)) (cnsA (bC (nF 2 (runS p__law_all_orders N__law_all_orders.length)) (cnsA (b2 ixF (vr 7) (kst (.int 0))) (cnsA (b2 ixF (vr 7) (kst (.int 1))) nilA))) nilA)))
noncomputable def u_bout : Slots → S → R Fl := seqS (setF 3 u_sz) (seqS (asgS u_ix u_tg) (seqS (setF 6 u_way) (seqS (ifS (bnt (tst u_r1)) no_ nxS) (seqS (setF 7 u_net) (ifS (bnt (tst u_r2)) no_ nxS)))))
def u_n : Slots → S → R D := b2 plusF (kst (.int 2)) (bC minF (cnsA (kst (.int 4)) (cnsA (bC lenF (cnsA (vr 0) nilA)) nilA)))
theorem q_law_eq : q_law = seqS (forS (rgI rg1F (cnsA u_n nilA)) (gN 2) u_bout) (retS (kst (.bl true))) := by
  unfold q_law u_bout u_n u_sz u_ix u_tg u_way u_d12 u_r1 u_net u_r2 pr_
  rfl
def szD : List D := [.tup [.int 1, .int 1], .tup [.int 1, .int 4], .tup [.int 3, .int 1], .tup [.int 2, .int 2], .tup [.int 2, .int 3], .tup [.int 3, .int 2], .tup [.int 3, .int 3], .tup [.int 2, .int 4], .tup [.int 4, .int 2], .tup [.int 2, .int 5], .tup [.int 5, .int 2]]
theorem fo_sz (i : Nat) (h : i < 11) : ∃ (r l : Nat) (E : List D), szD[i]? = some (.tup [.int (r : Nat), .int (l : Nat)]) ∧ (1 ≤ r ∧ r ≤ 6 ∧ 1 ≤ l ∧ l ≤ 6) ∧ FO r l E := by
  match i, h with
  | 0, _ => exact ⟨1, 1, E11, rfl, by decide, fo11⟩
  | 1, _ => exact ⟨1, 4, E14, rfl, by decide, fo14⟩
  | 2, _ => exact ⟨3, 1, E31, rfl, by decide, fo31⟩
  | 3, _ => exact ⟨2, 2, E22, rfl, by decide, fo22⟩
  | 4, _ => exact ⟨2, 3, E23, rfl, by decide, fo23⟩
  | 5, _ => exact ⟨3, 2, E32, rfl, by decide, fo32⟩
  | 6, _ => exact ⟨3, 3, E33, rfl, by decide, fo33⟩
  | 7, _ => exact ⟨2, 4, E24, rfl, by decide, fo24⟩
  | 8, _ => exact ⟨4, 2, E42, rfl, by decide, fo42⟩
  | 9, _ => exact ⟨2, 5, E25, rfl, by decide, fo25⟩
  | 10, _ => exact ⟨5, 2, E52, rfl, by decide, fo52⟩
  | n + 11, h => exact absurd h (by omega)
theorem fo_two {e w : Nat} (h1 : 1 ≤ e) (h2 : e ≤ 2) (h3 : 1 ≤ w) (h4 : w ≤ 2) : ∃ E, FO e w E := by
  have he : e = 1 ∨ e = 2 := by omega
  have hw : w = 1 ∨ w = 2 := by omega
  rcases he with rfl | rfl <;> rcases hw with rfl | rfl
  · exact ⟨_, fo11⟩
  · exact ⟨_, fo12⟩
  · exact ⟨_, fo21⟩
  · exact ⟨_, fo22⟩
theorem noex_ok {α : Type} (x : α) (s : S) : noex (.ok x s) = .ok x s := rfl
theorem way_ok {i j n : Nat} (h1 : 1 ≤ i) (h2 : i ≤ 6) (h3 : 1 ≤ j) (h4 : j ≤ 6) (h5 : 1 ≤ n) (h6 : n ≤ 12) (s : S) : F_wayN [.int (i : Nat), .int (j : Nat), .int (n : Nat)] s = .ok (wayD i j n fun _ _ => rangeI n) s := by
  unfold F_wayN
  simp only
  rw [if_pos (by omega)]
  rfl
theorem wayD_X (r l k : Nat) (c : Cf) : wayD r l k c = wayX r l [.int (k : Nat), tabDD r l c] := rfl
section
variable {m a q : Addr} {b : Nat}
theorem net_al4 (hb : b ≤ 50000) : Al (fun d s => ∃ e l k c, d = netDD e l k c ∧ OkN 2 4 e l k c ∧ s = ms m a q (b + 600)) (tell P_net [.adr m, .int 2, .int 4] (ms m a q b)) := by
  have e1 : tell P_net [.adr m, .int 2, .int 4] (ms m a q b) = .an (fun d s' => s' = ms m a q (b + 600) ∧ ∃ e w k c, d = netDD e w k c ∧ OkN 2 4 e w k c) (fun d s' => .ok d s') := by
    refine tell_of ⟨m, a, q, b, 2, 4, rfl, rfl, by omega, by decide, by decide, by decide, by decide, rfl⟩ fun r' ⟨m', a', q', b', most', many', hs, hd, _, _, _, _, _, hr⟩ => ?_
    cases hs
    injection hd with _ hd
    injection hd with h3 hd
    injection hd with h4 _
    injection h3 with h3
    injection h4 with h4
    subst h3 h4
    exact hr
  rw [e1]
  refine .an fun d s ⟨e2, e, w, k, c, e3, o⟩ => .ok ⟨e, w, k, c, e3, o, e2⟩
def rL (m : Addr) (ns : List D) (x2 x3 x4 x5 x6 x7 : Sl) : Slots := [.fz (.rls ns), .fz (.adr m), x2, x3, x4, x5, x6, x7]
theorem all_rL {ns : List D} {x2 x3 x4 x5 x6 x7 : Sl} (h2 : x2.all = x2) (h3 : x3.all = x3) (h4 : x4.all = x4) (h5 : x5.all = x5) (h6 : x6.all = x6) (h7 : x7.all = x7) : allS (rL m ns x2 x3 x4 x5 x6 x7) = rL m ns x2 x3 x4 x5 x6 x7 := by
  show [Sl.fz (.rls ns), .fz (.adr m), x2.all, x3.all, x4.all, x5.all, x6.all, x7.all] = _
  rw [h2, h3, h4, h5, h6, h7]
  rfl
theorem net_ix0 {e l k : Nat} {c : Cf} {ρ : Slots} {s : S} (h : vr 7 ρ s = .ok (netDD e l k c) s) : b2 ixF (vr 7) (kst (.int 0)) ρ s = .ok (.int (e : Nat)) s := by
  rw [b2_ok h (show kst (.int 0) ρ s = .ok (.int 0) s from rfl), net_eq]
  rfl
theorem net_ix1 {e l k : Nat} {c : Cf} {ρ : Slots} {s : S} (h : vr 7 ρ s = .ok (netDD e l k c) s) : b2 ixF (vr 7) (kst (.int 1)) ρ s = .ok (.int (l : Nat)) s := by
  rw [b2_ok h (show kst (.int 1) ρ s = .ok (.int 1) s from rfl), net_eq]
  rfl
theorem r_al {r l : Nat} {E d : List D} (F : FO r l E) (hb : b ≤ 50000) {fa : Slots → S → R (List D)} {ρ : Slots} (h : fa ρ (ms m a q b) = .ok [.adr m, wayX r l d, .lst E] (ms m a q b)) : Al (fun d s => d = .bl true ∧ s = ms m a q (b + 12)) (bC (nF 3 (neF (runS p__law_right N__law_right.length))) fa ρ (ms m a q b)) := by
  rw [bC_of h, nF_of (n := 3) rfl]
  exact (right_run (F.fw (d := d)) hb).noex
theorem bout_al {ns : List D} {x2 x3 x4 x5 x6 x7 : Sl} (h2 : x2.all = x2) (h3 : x3.all = x3) (h4 : x4.all = x4) (h5 : x5.all = x5) (h6 : x6.all = x6) (h7 : x7.all = x7) (hb : b ≤ 40000) :
    Al (fun f s => ∃ ρ', f = .nx ρ' ∧ ∃ y3 y4 y5 y6 y7, y3.all = y3 ∧ y4.all = y4 ∧ y5.all = y5 ∧ y6.all = y6 ∧ y7.all = y7 ∧ ρ' = rL m ns x2 y3 y4 y5 y6 y7 ∧ s = ms m a q (b + 626)) (u_bout (rL m ns x2 x3 x4 x5 x6 x7) (ms m a q b)) := by
  unfold u_bout
  have s3 : setF 3 u_sz (rL m ns x2 x3 x4 x5 x6 x7) (ms m a q b) = .ok (.nx (rL m ns x2 (.fz (.lst szD)) x4 x5 x6 x7)) (ms m a q b) := rfl
  rw [seq_nx s3]
  -- the size
  refine al_seq (P1 := fun ρ s => ∃ (r l : Nat) (E : List D), (1 ≤ r ∧ r ≤ 6 ∧ 1 ≤ l ∧ l ≤ 6) ∧ FO r l E ∧ ρ = rL m ns x2 (.fz (.lst szD)) (.fz (.int (r : Nat))) (.fz (.int (l : Nat))) x6 x7 ∧ s = ms m a q (b + 1)) ?_ ?_
  · unfold asgS
    refine Al.bind (P := fun d s => (∃ (r l : Nat) (E : List D), d = .tup [.int (r : Nat), .int (l : Nat)] ∧ (1 ≤ r ∧ r ≤ 6 ∧ 1 ≤ l ∧ l ≤ 6) ∧ FO r l E) ∧ s = ms m a q (b + 1)) ?_ ?_
    · unfold u_ix b2
      show Al _ ((bC F_draw (cnsA (vr 1) (cnsA (kst (.int 11)) nilA)) (rL m ns x2 (.fz (.lst szD)) x4 x5 x6 x7) (ms m a q b)).bind fun y s => ixF (.lst szD) y s)
      refine Al.bind (P := fun d s => (∃ i : Int, d = .int i ∧ 0 ≤ i ∧ i < 11) ∧ s = ms m a q (b + 1)) ?_ ?_
      · rw [bC_of (ds := [.adr m, .int 11]) (s' := ms m a q b) rfl]
        exact al_draw (by decide) (by decide) (by omega)
      · rintro d s ⟨⟨i, rfl, i0, i1⟩, rfl⟩
        obtain ⟨k, rfl⟩ : ∃ k : Nat, i = (k : Int) := ⟨i.toNat, by omega⟩
        obtain ⟨r, l, E, h, bd, F⟩ := fo_sz k (by omega)
        have e : ixF (.lst szD) (.int (k : Nat)) (ms m a q (b + 1)) = .ok (.tup [.int (r : Nat), .int (l : Nat)]) (ms m a q (b + 1)) := by
          show (match L2.atI szD (k : Int) with
            | some d => R.ok d _
            | none => .un) = _
          rw [L2.atI_nat h]
        rw [e]
        exact .ok ⟨⟨r, l, E, rfl, bd, F⟩, rfl⟩
    · rintro d s ⟨⟨r, l, E, rfl, bd, F⟩, rfl⟩
      exact .ok ⟨_, rfl, r, l, E, bd, F, rfl, rfl⟩
  rintro ρ s ⟨r, l, E, ⟨r1, r2, l1, l2⟩, F, rfl, rfl⟩
  -- the way
  refine al_seq (P1 := fun ρ s => ∃ d : List D, ρ = rL m ns x2 (.fz (.lst szD)) (.fz (.int (r : Nat))) (.fz (.int (l : Nat))) (.fz (wayX r l d)) x7 ∧ s = ms m a q (b + 2)) ((al_set (P := fun w s => (∃ d, w = wayX r l d) ∧ s = ms m a q (b + 2)) ?_).imp fun f s ⟨ρ', e1, w, e2, ⟨d, e3⟩, e4⟩ => ⟨ρ', e1, d, by rw [e2, e3]; rfl, e4⟩) ?_
  · unfold u_way bC
    refine Al.bind (P := fun ds s => (∃ n : Nat, ds = [.int (r : Nat), .int (l : Nat), .int (n : Nat)] ∧ 1 ≤ n ∧ n ≤ 12) ∧ s = ms m a q (b + 2)) ?_ ?_
    · show Al _ (R.bind (R.bind (cnsA u_d12 nilA (rL m ns x2 (.fz (.lst szD)) (.fz (.int (r : Nat))) (.fz (.int (l : Nat))) x6 x7) (ms m a q (b + 1))) fun xs s => .ok (.int (l : Nat) :: xs) s) fun xs s => .ok (.int (r : Nat) :: xs) s)
      refine Al.bind (P := fun ds s => (∃ n : Nat, ds = [.int (l : Nat), .int (n : Nat)] ∧ 1 ≤ n ∧ n ≤ 12) ∧ s = ms m a q (b + 2)) (Al.bind (P := fun ds s => (∃ n : Nat, ds = [.int (n : Nat)] ∧ 1 ≤ n ∧ n ≤ 12) ∧ s = ms m a q (b + 2)) ?_ ?_) ?_
      · unfold cnsA u_d12 b2
        refine Al.bind (P := fun d s => (∃ n : Nat, d = .int (n : Nat) ∧ 1 ≤ n ∧ n ≤ 12) ∧ s = ms m a q (b + 2)) ?_ ?_
        · show Al _ (R.bind (bC F_draw (cnsA (vr 1) (cnsA (kst (.int 12)) nilA)) (rL m ns x2 (.fz (.lst szD)) (.fz (.int (r : Nat))) (.fz (.int (l : Nat))) x6 x7) (ms m a q (b + 1))) fun y s => plusF (.int 1) y s)
          refine Al.bind (P := fun d s => (∃ i : Int, d = .int i ∧ 0 ≤ i ∧ i < 12) ∧ s = ms m a q (b + 2)) ?_ ?_
          · rw [bC_of (ds := [.adr m, .int 12]) (s' := ms m a q (b + 1)) rfl]
            exact al_draw (by decide) (by decide) (by omega)
          · rintro d s ⟨⟨i, rfl, i0, i1⟩, rfl⟩
            obtain ⟨k, hk, k1, k2⟩ : ∃ k : Nat, 1 + i = (k : Int) ∧ 1 ≤ k ∧ k ≤ 12 := ⟨(1 + i).toNat, by omega, by omega, by omega⟩
            show Al _ (R.ok (D.int (1 + i)) _)
            rw [hk]
            exact .ok ⟨⟨k, rfl, k1, k2⟩, rfl⟩
        · rintro d s ⟨⟨n, rfl, n1, n2⟩, rfl⟩
          exact .ok ⟨⟨n, rfl, n1, n2⟩, rfl⟩
      · rintro d s ⟨⟨n, rfl, n1, n2⟩, rfl⟩
        exact .ok ⟨⟨n, rfl, n1, n2⟩, rfl⟩
      · rintro d s ⟨⟨n, rfl, n1, n2⟩, rfl⟩
        exact .ok ⟨⟨n, rfl, n1, n2⟩, rfl⟩
    · rintro d s ⟨⟨n, rfl, n1, n2⟩, rfl⟩
      rw [way_ok r1 r2 l1 l2 n1 n2]
      exact .ok ⟨⟨_, wayD_X _ _ _ _⟩, rfl⟩
  rintro ρ s ⟨d, rfl, rfl⟩
  -- the first question
  refine al_seq (P1 := fun ρ s => ρ = rL m ns x2 (.fz (.lst szD)) (.fz (.int (r : Nat))) (.fz (.int (l : Nat))) (.fz (wayX r l d)) x7 ∧ s = ms m a q (b + 14)) (al_no (Q := fun s => s = ms m a q (b + 14)) (al_nt ?_)) ?_
  · rw [all_rL h2 rfl rfl rfl rfl h7]
    unfold u_r1
    refine r_al F (b := b + 2) (d := d) (by omega) ?_
    refine cns_ok (d := .adr m) (s' := ms m a q (b + 2)) rfl (cns_ok (d := wayX r l d) (s' := ms m a q (b + 2)) rfl (cns_ok (s' := ms m a q (b + 2)) ?_ rfl))
    exact (bC_of (ds := [.int (r : Nat), .int (l : Nat)]) (s' := ms m a q (b + 2)) rfl).trans ((nF_of rfl).trans (F.all _))
  rintro ρ s ⟨rfl, rfl⟩
  -- the net
  refine al_seq (P1 := fun ρ s => ∃ e w k c, OkN 2 4 e w k c ∧ ρ = rL m ns x2 (.fz (.lst szD)) (.fz (.int (r : Nat))) (.fz (.int (l : Nat))) (.fz (wayX r l d)) (.fz (netDD e w k c)) ∧ s = ms m a q (b + 614)) ((al_set (P := fun n s => ∃ e w k c, n = netDD e w k c ∧ OkN 2 4 e w k c ∧ s = ms m a q (b + 614)) ?_).imp fun f s ⟨ρ', e1, n, e2, e, w, k, c, e3, o, e4⟩ => ⟨ρ', e1, e, w, k, c, o, by rw [e2, e3]; rfl, e4⟩) ?_
  · unfold u_net
    rw [bC_of (ds := [.adr m, .int 2, .int 4]) (s' := ms m a q (b + 14)) rfl, nF_of (n := 3) rfl]
    exact (net_al4 (m := m) (a := a) (q := q) (b := b + 14) (by omega)).noex
  rintro ρ s ⟨e, w, k, c, o, rfl, rfl⟩
  -- the second question
  refine (al_no (Q := fun s => s = ms m a q (b + 626)) (al_nt ?_)).imp fun f s ⟨ρ', e1, e2, e3⟩ => ⟨ρ', e1, _, _, _, _, _, rfl, rfl, rfl, rfl, rfl, e2, e3⟩
  rw [all_rL h2 rfl rfl rfl rfl rfl]
  obtain ⟨E2, F2⟩ := fo_two o.1.r1 (by have := o.2.1; omega) o.1.l1 (by have := o.2.2.1; omega)
  unfold u_r2
  refine r_al F2 (b := b + 614) (d := [.int (k : Nat), tabDD e w c]) (by omega) ?_
  have v7 : vr 7 (rL m ns x2 (.fz (.lst szD)) (.fz (.int (r : Nat))) (.fz (.int (l : Nat))) (.fz (wayX r l d)) (.fz (netDD e w k c))) (ms m a q (b + 614)) = .ok (netDD e w k c) (ms m a q (b + 614)) := rfl
  refine cns_ok (d := .adr m) (s' := ms m a q (b + 614)) rfl (cns_ok (s' := ms m a q (b + 614)) ?_ (cns_ok (s' := ms m a q (b + 614)) ?_ rfl))
  · rw [bC1 v7, nF_of (n := 1) rfl]
    unfold neF
    rw [lway_eq o.1, wayD_X]
    rfl
  · exact (bC_of (cns_ok (net_ix0 v7) (cns_ok (net_ix1 v7) (show nilA _ (ms m a q (b + 614)) = .ok [] _ from rfl)))).trans ((nF_of rfl).trans (F2.all _))
theorem n_ok {ns : List D} {x2 x3 x4 x5 x6 x7 : Sl} (s : S) : ∃ n : Nat, n ≤ 6 ∧ u_n (rL m ns x2 x3 x4 x5 x6 x7) s = .ok (.int (n : Nat)) s := by
  have e : u_n (rL m ns x2 x3 x4 x5 x6 x7) s = .ok (.int (2 + (if (ns.length : Int) < 4 then (ns.length : Int) else 4))) s := rfl
  by_cases h : (ns.length : Int) < 4
  · refine ⟨2 + ns.length, by omega, ?_⟩
    rw [e, if_pos h]
    congr 2
  · refine ⟨6, by omega, ?_⟩
    rw [e, if_neg h]
    rfl
theorem law_true (ns : List D) : Al isTrue' (q_law (rL m ns .no .no .no .no .no .no) (ms m a q 0)) := by
  obtain ⟨n, n6, hn⟩ := n_ok (m := m) (ns := ns) (x2 := .no) (x3 := .no) (x4 := .no) (x5 := .no) (x6 := .no) (x7 := .no) (ms m a q 0)
  rw [q_law_eq]
  refine al_seq (P1 := fun ρ s => True) ((al_for (v := 2) (F := u_bout) (n := n) (fun n ρ s => ∃ y2 y3 y4 y5 y6 y7 b', y2.all = y2 ∧ y3.all = y3 ∧ y4.all = y4 ∧ y5.all = y5 ∧ y6.all = y6 ∧ y7.all = y7 ∧ ρ = rL m ns y2 y3 y4 y5 y6 y7 ∧ s = ms m a q b' ∧ b' + n * 626 ≤ 6 * 626) _ _ (rg_of hn (by omega)) ⟨.no, .no, .no, .no, .no, .no, 0, rfl, rfl, rfl, rfl, rfl, rfl, rfl, rfl, by omega⟩ ?_).imp fun f s ⟨ρ', e1, _⟩ => ⟨ρ', e1, trivial⟩) fun ρ s _ => .ok rfl
  rintro t ht n ρ s ⟨y2, y3, y4, y5, y6, y7, b', f2, f3, f4, f5, f6, f7, rfl, rfl, h⟩
  exact (bout_al (a := a) (q := q) (x2 := .fz (.int (t : Nat))) (b := b') rfl f3 f4 f5 f6 f7 (by omega)).imp fun f s ⟨ρ', e1, z3, z4, z5, z6, z7, g3, g4, g5, g6, g7, e2, e3⟩ => ⟨ρ', e1, _, z3, z4, z5, z6, z7, b' + 626, rfl, g3, g4, g5, g6, g7, e2, e3, by omega⟩
end
end W2

/-! K4I: the law. -/
namespace W2
open PySem PySem.Spec PyProof.Rows L2 Pg Pf LamX Pp Tab Rul
@[irreducible] noncomputable def p_law : Slots → S → R Fl := q_law
theorem p_law_eq : p_law = q_law := by unfold p_law; rfl
def slots0 (m : Addr) (ns : List Int) : Slots := rL m (ns.map D.int) .no .no .no .no .no .no
theorem law_true' (m c q : Addr) (ns : List Int) : Al isTrue' (p_law (slots0 m ns) (some ⟨m, c, q, 0⟩)) := by
  rw [p_law_eq]
  exact law_true _
def onlyG (H : Hp) (a : Addr) : Hp := fun p => if p = a then H p else none
theorem onlyG_at (H : Hp) (a : Addr) : onlyG H a a = H a := if_pos rfl
theorem onlyG_of {H : Hp} {a p : Addr} {u : HO} (e : onlyG H a p = some u) : p = a ∧ H a = some u := by
  unfold onlyG at e
  by_cases z : p = a
  · rw [if_pos z, z] at e
    exact ⟨z, e⟩
  · rw [if_neg z] at e
    cases e
/-- of the script no more than the script -/
theorem just_sq {K : PySem.W.Frag} {H : Hp} {a : Addr} {xs : List L2.V} (h : SqL K H a xs) : ∃ G : Hp, Same G H ∧ NoT G ∧ SqL K G a xs := by
  have sm : Same (onlyG H a) H := fun p u e => by
    obtain ⟨z, e⟩ := onlyG_of e
    rw [z]
    exact e
  rcases h with (h | ⟨o, h⟩) | h
  · exact ⟨onlyG H a, sm, fun p ps e => (by have := (onlyG_of e).2; rw [h] at this; cases this), .inl (.inl ((onlyG_at H a).trans h))⟩
  · exact ⟨onlyG H a, sm, fun p ps e => (by have := (onlyG_of e).2; rw [h] at this; cases this), .inl (.inr ⟨o, (onlyG_at H a).trans h⟩)⟩
  · exact ⟨fun _ => none, fun _ _ e => (by cases e), fun _ _ e => (by cases e), .inr h⟩
theorem dva_intL {K : PySem.W.Frag} {Z : Zn} {G : Hp} : ∀ ns : List Int, DvA K Z G (ns.map L2.V.int) (ns.map D.int)
  | [] => .nil
  | _ :: ns => .cons (.int _) (dva_intL ns)
theorem same_none {G H : Hp} (s : Same G H) {p : Addr} (h : H p = none) : G p = none := by
  cases e : G p with
  | none => rfl
  | some o =>
    rw [s p o e] at h
    cases h
section
variable {P : Program} {w : World} {K : PySem.W.Frag} {mg : Str → Option Value} {base : Heap} {Z : Zn} {f : Addr} {fd : FuncData}
theorem ok_law (B : Bt mg) (cB : CalG P w K mg base 3 "_law_begun" (spBegun K)) (cD : CalG P w K mg base 3 "_law_draw" spDraw) (cNet : CalG P w K mg base 5 "_law_net" (spG K Z 3 (tell P_net))) (cLway : CalG P w K mg base 8 "_law_way" (spG K Z 1 (tell P_lway)))
    (cAll : CalD P w K mg base Z 2 "_law_all_orders" 2 (runS p__law_all_orders N__law_all_orders.length)) (cRight : CalG P w K mg base 13 "_law_right" (spG K Z 3 (runS p__law_right N__law_right.length))) (mkW : Ma P w K mg base 4 "Way" (Z.cl 0) (spInit K (Z.cl 0)))
    (F : Fun K "law" "law" s_law f fd) : FnG P w K mg base 14 f fd ["_law_script"] (spLaw K Z.T) := by
  refine okG F sc_law (fun vs H Q E h => ?_) (fun cdv A outer s H vs Q E hr hgd h => ?_)
  · obtain ⟨a, ns, rfl, _⟩ := h
    rfl
  obtain ⟨a, ns, rfl, hS, hl, tT, fin⟩ := h
  have nd := sc_law.nd
  refine ⟨_, pss_cons (ps_set (i := 1) nd rfl (Or.inl rfl) (pe_cG cB hr (by decide) hgd rfl (pa_cons (pv 0) pa_nil)))
    (pss_cons (ps_for PassesOwn.never rfl (pi_range1 rfl B.range (pa_cons (pe_op op_plus pe_int (pe_callB (call_min2 rfl) (by rfl) B.min (by decide +kernel) (pa_cons pe_int (pa_cons (pe_callB call_len_seq (by rfl) B.len PySem.boot_len (pa_cons (pv 0) pa_nil)) pa_nil)))) pa_nil)) (pg_name (i := 2) nd rfl (Or.inl rfl))
    (pss_cons (ps_set (i := 3) nd rfl (Or.inl rfl) (pe_lst (pa_cons (pe_tup (pa_cons pe_int (pa_cons pe_int pa_nil))) (pa_cons (pe_tup (pa_cons pe_int (pa_cons pe_int pa_nil))) (pa_cons (pe_tup (pa_cons pe_int (pa_cons pe_int pa_nil))) (pa_cons (pe_tup (pa_cons pe_int (pa_cons pe_int pa_nil))) (pa_cons (pe_tup (pa_cons pe_int (pa_cons pe_int pa_nil))) (pa_cons (pe_tup (pa_cons pe_int (pa_cons pe_int pa_nil))) (pa_cons (pe_tup (pa_cons pe_int (pa_cons pe_int pa_nil))) (pa_cons (pe_tup (pa_cons pe_int (pa_cons pe_int pa_nil))) (pa_cons (pe_tup (pa_cons pe_int (pa_cons pe_int pa_nil))) (pa_cons (pe_tup (pa_cons pe_int (pa_cons pe_int pa_nil))) (pa_cons (pe_tup (pa_cons pe_int (pa_cons pe_int pa_nil))) pa_nil)))))))))))))
    (pss_cons (ps_asg (pe_ix ix_seq (pv 3) (pe_cG cD hr (by decide) hgd rfl (pa_cons (pv 1) (pa_cons pe_int pa_nil))) (fun _ _ => rfl)) (pg_tup rfl (pgs_cons (pg_name (i := 4) nd rfl (Or.inl rfl)) (pgs_cons (pg_name (i := 5) nd rfl (Or.inl rfl)) pgs_nil))))
    (pss_cons (ps_set (i := 6) nd rfl (Or.inl rfl) (pe_ma mkW hr (by decide) rfl (pa_cons (pv 4) (pa_cons (pv 5) (pa_cons (pe_op op_plus pe_int (pe_cG cD hr (by decide) hgd rfl (pa_cons (pv 1) (pa_cons pe_int pa_nil)))) pa_nil)))))
    (pss_cons (ps_if (pt_not (pt_val (pe_cG cRight hr (by decide) hgd rfl (pa_cons (pv 1) (pa_cons (pv 6) (pa_cons (PP.pe (pp_call cAll hr (by decide) passX0 rfl ⟨(pa_cons (pv 4) (pa_cons (pv 5) pa_nil)), (c_cons (c_var 4) (c_cons (c_var 5) c_nil))⟩)) pa_nil)))))) (pss_one (ps_ret pe_bl)) pss_nil)
    (pss_cons (ps_set (i := 7) nd rfl (Or.inl rfl) (pe_cG cNet hr (by decide) hgd rfl (pa_cons (pv 1) (pa_cons pe_int (pa_cons pe_int pa_nil)))))
    (pss_one (ps_if (pt_not (pt_val (pe_cG cRight hr (by decide) hgd rfl (pa_cons (pv 1) (pa_cons (pe_cG cLway hr (by decide) hgd rfl (pa_cons (pv 7) pa_nil)) (pa_cons (PP.pe (pp_call cAll hr (by decide) passX0 rfl ⟨(pa_cons (pe_ix ix_seq (pv 7) pe_int (fun _ _ => rfl)) (pa_cons (pe_ix ix_seq (pv 7) pe_int (fun _ _ => rfl)) pa_nil)), (c_cons (c_op c2_ix (c_var 7) (c_c fun _ => .int _)) (c_cons (c_op c2_ix (c_var 7) (c_c fun _ => .int _)) c_nil))⟩)) pa_nil)))))) (pss_one (ps_ret pe_bl)) pss_nil))))))))
    (pss_one (ps_ret pe_bl))), ?_⟩
  refine ⟨_, rfl, a, ns, rfl, hS, hl, fun m c q H1 s1 M => ?_⟩
  have cm : CmpS K Z E0 _ q_law := (cs_seq (cs_for (ci_rng1 (c_cons (c_op c2_plus (c_c fun _ => .int _) (c_call cC_min (c_cons (c_c fun _ => .int _) (c_cons (c_call cC_len (c_cons (c_var 0) c_nil)) c_nil)))) c_nil)) (cg_name 2)
    (cs_seq (cs_setF 3 (c_mkL (cl_lit (c_cons (c_tup (c_cons (c_c fun _ => .int _) (c_cons (c_c fun _ => .int _) c_nil))) (c_cons (c_tup (c_cons (c_c fun _ => .int _) (c_cons (c_c fun _ => .int _) c_nil))) (c_cons (c_tup (c_cons (c_c fun _ => .int _) (c_cons (c_c fun _ => .int _) c_nil))) (c_cons (c_tup (c_cons (c_c fun _ => .int _) (c_cons (c_c fun _ => .int _) c_nil))) (c_cons (c_tup (c_cons (c_c fun _ => .int _) (c_cons (c_c fun _ => .int _) c_nil))) (c_cons (c_tup (c_cons (c_c fun _ => .int _) (c_cons (c_c fun _ => .int _) c_nil))) (c_cons (c_tup (c_cons (c_c fun _ => .int _) (c_cons (c_c fun _ => .int _) c_nil))) (c_cons (c_tup (c_cons (c_c fun _ => .int _) (c_cons (c_c fun _ => .int _) c_nil))) (c_cons (c_tup (c_cons (c_c fun _ => .int _) (c_cons (c_c fun _ => .int _) c_nil))) (c_cons (c_tup (c_cons (c_c fun _ => .int _) (c_cons (c_c fun _ => .int _) c_nil))) (c_cons (c_tup (c_cons (c_c fun _ => .int _) (c_cons (c_c fun _ => .int _) c_nil))) c_nil))))))))))))))
    (cs_seq (cs_asg (c_op c2_ix (c_var 3) (c_draw (c_cons (c_var 1) (c_cons (c_c fun _ => .int _) c_nil)))) (cg_tup (cg_cons (cg_name 4) (cg_cons (cg_name 5) cg_nil))))
    (cs_seq (cs_setF 6 (c_mkWay rfl (c_cons (c_var 4) (c_cons (c_var 5) (c_cons (c_op c2_plus (c_c fun _ => .int _) (c_draw (c_cons (c_var 1) (c_cons (c_c fun _ => .int _) c_nil)))) c_nil)))))
    (cs_seq (cs_if (c_not (c_tB (c_callG (c_cons (c_var 1) (c_cons (c_var 6) (c_cons (c_call' (c_cons (c_var 4) (c_cons (c_var 5) c_nil))) c_nil)))))) (cs_ret (c_c fun _ => .bl _)) cs_next)
    (cs_seq (cs_setF 7 (c_callG (c_cons (c_var 1) (c_cons (c_c fun _ => .int _) (c_cons (c_c fun _ => .int _) c_nil)))))
    (cs_if (c_not (c_tB (c_callG (c_cons (c_var 1) (c_cons (c_callG (c_cons (c_var 7) c_nil)) (c_cons (c_call' (c_cons (c_op c2_ix (c_var 7) (c_c fun _ => .int _)) (c_cons (c_op c2_ix (c_var 7) (c_c fun _ => .int _)) c_nil))) c_nil)))))) (cs_ret (c_c fun _ => .bl _)) cs_next)))))))
    (cs_ret (c_c fun _ => .bl _)))
  rw [← p_law_eq] at cm
  obtain ⟨G0, g0, nt, gS⟩ := just_sq hS
  refine cm (some ⟨m, c, q, 0⟩) G0 H1 G0 H1 _ (slots0 m ns) (some ⟨m, c, q, 0⟩) _ ⟨Nx.refl _ _ _, ⟨g0.trans s1, nt, tT.ext s1, M.ob, M.cs, M.gs, same_none g0 M.gm, same_none g0 M.gc, same_none g0 M.gq, M.cq⟩, ⟨fun i d e => ?_, fun i o e => ?_, rfl⟩, fun i o _ e _ => ?_, fun i _ o _ _ _ e _ _ _ => ?_, rfl⟩ (al_ans (law_true' m c q ns) fin)
  · match i, e with
    | 0, e =>
      cases e
      exact ⟨.ref a, rfl, .rls gS (dva_intL ns)⟩
    | 1, e =>
      cases e
      exact ⟨.ref m, rfl, .adr m⟩
    | 2, e | 3, e | 4, e | 5, e | 6, e | 7, e => cases e
    | n + 8, e => cases e
  all_goals
    match i, e with
    | 0, e | 1, e | 2, e | 3, e | 4, e | 5, e | 6, e | 7, e => cases e
    | n + 8, e => cases e
end
end W2

set_option maxHeartbeats 4000000
namespace W2
open PySem PySem.Spec PyProof.Rows L2 Pg Pf Rul Tab LamX Pp
/-- the goal of the head (case hc) from a promise that is kept where nothing is being shown -/
theorem walkG {l : PySem.W.OpenLaw} {n k : Nat} {q : Program} {loose : List Str} {XP : (Str → Option Value) → Heap → Prop} {YP : World → Heap → Prop} {d : DefRec} {K : Params → PySem.W.Frag} {sp : PySem.W.Frag → Sp} {x : Str}
    (most : l.most = some n) (fits : n ≤ sizeLine) (plain : d.params.defaults = []) (room : Room k callerA) (free : callerA.guards = some []) (inY : ∀ (w : World) (h : Heap), YP w h → (K w.params).In h)
    (F : ∀ (w : World) (mg : Str → Option Value) (fa : Addr) (h : Heap), (K w.params).In h → h.Ns mainGlobals mg → mg d.name = some (.ref fa) → ∃ fd : FuncData, (∀ (s : Shared) (u : Value), BindsTo s fd ⟨[u], []⟩ [(x, u)]) ∧ ∀ base : Heap, (K w.params).In base → base.Ns mainGlobals mg → FnG l.prog w (K w.params) mg base k fa fd [x] (sp (K w.params)))
    (ask : ∀ (K : PySem.W.Frag) (H : Hp) (a : Addr) (ns : List Int), ns.length ≤ n → SqL K H a (ns.map V.int) → sp K [.ref a] H (fun v _ => v = .bl true) E0) :
    PySem.W.WalkO q loose XP YP l.row.toRowW d [] (fun f vs => PySem.call f vs) := by
  refine Att.attach_call most plain fun w t0 t1 mg mb fa ob pm cd doc a us ns top Y h1 h2 h3 named obj his len nogen => ?_
  have kin := inY w _ Y
  obtain ⟨fd, binds, kept⟩ := F w mg fa _ kin top.T.g named
  have rel := vals_ints his
  obtain ⟨S, hS⟩ : ∃ S : Obj, S = { cls := .type "list", data := .seq us.toArray } := ⟨_, rfl⟩
  rw [← hS] at obj
  -- the script is tracked unless it is one of the objects that the top has written
  obtain ⟨H, hH⟩ : ∃ H : Hp, H = fun b => if b = a ∧ (K w.params).lookup a = none then some (.frz S (.lst (ns.map V.int))) else none := ⟨_, rfl⟩
  have only : ∀ b u, H b = some u → b = a ∧ (K w.params).lookup a = none ∧ u = .frz S (.lst (ns.map V.int)) := fun b u e => by
    rw [hH] at e
    by_cases c : b = a ∧ (K w.params).lookup a = none
    · exact ⟨c.1, c.2, (Option.some.inj ((if_pos c).symm.trans e)).symm⟩
    · exact absurd ((if_neg c).symm.trans e) (by simp)
  have none_of : ∀ b, (∀ u, H b ≠ some u) → H b = none := fun b z => by
    cases e : H b with
    | none => rfl
    | some u => exact absurd e (z u)
  have written : ∀ {b : Addr} {o : Obj}, (K w.params).lookup b = some o → H b = none := fun {b o} e => none_of b fun u z => by
    obtain ⟨rfl, c, _⟩ := only b u z
    rw [c] at e
    cases e
  have space : ∀ {b : Addr} {m : Str → Option Value}, t1.heap.Ns b m → (hidT t1.heap H).Ns b m := fun {b m} ⟨o, es, ep, g, dd, r⟩ => by
    refine ⟨o, es, ep, hidT_get g (none_of b fun u z => ?_), dd, r⟩
    obtain ⟨rfl, _, _⟩ := only b u z
    rw [obj] at g
    obtain rfl := Option.some.inj g
    rw [hS] at dd
    exact Data.noConfusion dd
  have inH : (K w.params).In (hidT t1.heap H) := fun b o e => hidT_get (kin b o e) (written e)
  have ok : HOk l.prog w H t1.heap := fun b u z => by
    obtain ⟨rfl, _, rfl⟩ := only b u z
    exact ⟨obj, by rw [List.length_map]; exact Nat.le_trans len fits, us, _, rel, by rw [obj, hS]⟩
  have mod : Mod (K w.params) mg (hidT t1.heap H) := { kin := inH, glob := space top.T.g, blt := ⟨mb, space top.T.b, top.T.builtins⟩, nolimit := let ⟨mc, p1, p2⟩ := top.T.nolimit; ⟨mc, space p1, p2⟩ }
  have env : Env0 l.prog w (K w.params) mg (hidT t1.heap H) callerA [] t1 H := { frames := rfl, mod := mod, bs := fun _ _ z => of_hidT z, bsz := Nat.le_of_eq (hidT_size _ _), funs := trivial, frf := fun _ z => absurd z (by simp [frs]), hok := ok, bare := .of_eq nogen }
  have seq : SqL (K w.params) H a (ns.map V.int) := by
    cases c : (K w.params).lookup a with
    | none => exact .inl (.inr ⟨S, by rw [hH]; exact if_pos ⟨rfl, c⟩⟩)
    | some o =>
      have g := kin a o c
      rw [obj] at g
      obtain rfl := Option.some.inj g
      rw [hS] at c
      exact .inr ⟨_, us.toArray, _, c, rfl, rfl, rfl, by rw [List.size_toArray, his.length]; exact Nat.le_trans len fits, rel⟩
  refine codeAny_mono ((kept _ inH (space top.T.g)).run callerA [] t1 H ⟨[.ref a], []⟩ [.ref a] [.ref a] (fun v _ => v = .bl true) E0 room free env (binds t1 (.ref a)) (.cons rfl .nil) (ask _ H a ns len seq)) fun r t2 z => ?_
  match r, z with
  | .ok (.ret u), ⟨v, H', os, bare, un, ok', rv, ev⟩ =>
    have ev' : v = .bl true := ev
    rw [ev'] at rv
    obtain rfl : u = Value.bool true := rv
    refine ⟨rfl, OldK.of_keep fun b o e => ?_, os, bare⟩
    by_cases c : ∃ y, H b = some y
    · obtain ⟨y, hy⟩ := c
      obtain ⟨rfl, _, rfl⟩ := only b y hy
      rw [obj] at e
      rw [← Option.some.inj e]
      exact (ok' b _ (un.frzs b S _ hy)).1
    · exact un.keep b o e (none_of b fun y hy => c ⟨y, hy⟩) (by intro z; simp [frs] at z) (by simp)
theorem sc_get_rights : FnScope ["self"] ["self"] (defScope (inClass (top 13) 5)) := ⟨rfl, rfl, rfl, by decide +kernel, rfl, by decide +kernel, by decide +kernel⟩
theorem sc_get_lefts : FnScope ["self"] ["self"] (defScope (inClass (top 13) 6)) := ⟨rfl, rfl, rfl, by decide +kernel, rfl, by decide +kernel, by decide +kernel⟩
theorem gI2_vals {vs : List L2.V} {us : List Value} (h : Vals vs us) : Vals (gI2 vs) (gI2 us) := by
  match vs, us, h with
  | [], [], h => exact h
  | [_], [_], h => exact h
  | [_, _], [_, _], .cons a (.cons b .nil) => exact .cons b (.cons a .nil)
  | _ :: _ :: _ :: _, _ :: _ :: _ :: _, h => exact h
  | [_], _ :: _ :: _, .cons _ h => cases h
  | _ :: _ :: _, [_], .cons _ h => cases h
  | [_, _], _ :: _ :: _ :: _, .cons _ (.cons _ h) => cases h
  | _ :: _ :: _ :: _, [_, _], .cons _ (.cons _ h) => cases h
/-- what the top has left, and the law kept over it -/
theorem all_mk44 {PP : Program} {w : World} {K : PySem.W.Frag} {h : Heap} {mg : Str → Option Value} {fa C DO f_ni f_nu f_cw f_wp f_ww f_wc f_po f_mx f_fo f_dr f_be f_so f_ne f_wa f_d0 f_d1 f_d2 f_d3 f_d4 f_d5 f_d6 f_d7 f_d8 f_d9 f_d10 f_d11 f_d12 f_d13 f_or f_fi f_ri f_la m_in m_cl m_ck m_le p_rights g_rights p_lefts g_lefts : Addr} (X : K.In h) (G : h.Ns mainGlobals mg) (hfa : mg "law" = some (.ref fa))
    {od_ni an_ni od_nu an_nu od_cw an_cw od_wp an_wp od_ww an_ww od_wc an_wc od_po an_po od_mx an_mx od_fo an_fo od_dr an_dr od_be an_be od_so an_so od_ne an_ne od_wa an_wa od_d0 an_d0 od_d1 an_d1 od_d2 an_d2 od_d3 an_d3 od_d4 an_d4 od_d5 an_d5 od_d6 an_d6 od_d7 an_d7 od_d8 an_d8 od_d9 an_d9 od_d10 an_d10 od_d11 an_d11 od_d12 an_d12 od_d13 an_d13 od_or an_or od_fi an_fi od_ri an_ri od_la an_la od_min an_min od_mcl an_mcl od_mck an_mck od_mle an_mle od_grights an_grights od_glefts an_glefts : Option Addr} {sl_ni sl_nu sl_cw sl_wp sl_ww sl_wc sl_po sl_mx sl_fo sl_dr sl_be sl_so sl_ne sl_wa sl_d0 sl_d1 sl_d2 sl_d3 sl_d4 sl_d5 sl_d6 sl_d7 sl_d8 sl_d9 sl_d10 sl_d11 sl_d12 sl_d13 sl_or sl_fi sl_ri sl_la sl_min sl_mcl sl_mck sl_mle sl_grights sl_glefts : Array (Option Value)} {oc_ni kv_ni dc_ni pm_ni cd_ni ct_ni oc_nu kv_nu dc_nu pm_nu cd_nu ct_nu oc_cw kv_cw dc_cw pm_cw cd_cw ct_cw oc_wp kv_wp dc_wp pm_wp cd_wp ct_wp oc_ww kv_ww dc_ww pm_ww cd_ww ct_ww oc_wc kv_wc dc_wc pm_wc cd_wc ct_wc oc_po kv_po dc_po pm_po cd_po ct_po oc_mx kv_mx dc_mx pm_mx cd_mx ct_mx oc_fo kv_fo dc_fo pm_fo cd_fo ct_fo oc_dr kv_dr dc_dr pm_dr cd_dr ct_dr oc_be kv_be dc_be pm_be cd_be ct_be oc_so kv_so dc_so pm_so cd_so ct_so oc_ne kv_ne dc_ne pm_ne cd_ne ct_ne oc_wa kv_wa dc_wa pm_wa cd_wa ct_wa oc_d0 kv_d0 dc_d0 pm_d0 cd_d0 ct_d0 oc_d1 kv_d1 dc_d1 pm_d1 cd_d1 ct_d1 oc_d2 kv_d2 dc_d2 pm_d2 cd_d2 ct_d2 oc_d3 kv_d3 dc_d3 pm_d3 cd_d3 ct_d3 oc_d4 kv_d4 dc_d4 pm_d4 cd_d4 ct_d4 oc_d5 kv_d5 dc_d5 pm_d5 cd_d5 ct_d5 oc_d6 kv_d6 dc_d6 pm_d6 cd_d6 ct_d6 oc_d7 kv_d7 dc_d7 pm_d7 cd_d7 ct_d7 oc_d8 kv_d8 dc_d8 pm_d8 cd_d8 ct_d8 oc_d9 kv_d9 dc_d9 pm_d9 cd_d9 ct_d9 oc_d10 kv_d10 dc_d10 pm_d10 cd_d10 ct_d10 oc_d11 kv_d11 dc_d11 pm_d11 cd_d11 ct_d11 oc_d12 kv_d12 dc_d12 pm_d12 cd_d12 ct_d12 oc_d13 kv_d13 dc_d13 pm_d13 cd_d13 ct_d13 oc_or dc_or pm_or cd_or ct_or oc_fi kv_fi dc_fi pm_fi cd_fi ct_fi oc_ri kv_ri dc_ri pm_ri cd_ri ct_ri oc_la kv_la dc_la pm_la cd_la ct_la oc_min kv_min dc_min pm_min cd_min ct_min oc_mcl kv_mcl dc_mcl pm_mcl cd_mcl ct_mcl oc_mck kv_mck dc_mck pm_mck cd_mck ct_mck oc_mle kv_mle dc_mle pm_mle cd_mle ct_mle oc_grights kv_grights dc_grights pm_grights cd_grights ct_grights oc_glefts kv_glefts dc_glefts pm_glefts cd_glefts ct_glefts : Value} {rr_rights rr_lefts : List Value} {t6 t12 tS : Tok}
    (aC : PySem.W.nsIn K mainGlobals "Way" = some (some (.ref C)))
    (a_ni : PySem.W.nsIn K mainGlobals "is_int" = some (some (.ref f_ni)))
    (l_ni : K.lookup f_ni = some ⟨oc_ni, od_ni, .func (PySem.W.fnOf "is_int" "is_int" (defArgs s_is_int) (defBody s_is_int) (defScope s_is_int) .none kv_ni dc_ni pm_ni an_ni cd_ni ct_ni), sl_ni⟩)
    (c_ni : PySem.W.codeIn K cd_ni "is_int" = true)
    (k_ni : PySem.W.keepIn K (.ref f_ni) = true)
    (a_nu : PySem.W.nsIn K mainGlobals "is_number" = some (some (.ref f_nu)))
    (l_nu : K.lookup f_nu = some ⟨oc_nu, od_nu, .func (PySem.W.fnOf "is_number" "is_number" (defArgs s_is_number) (defBody s_is_number) (defScope s_is_number) .none kv_nu dc_nu pm_nu an_nu cd_nu ct_nu), sl_nu⟩)
    (c_nu : PySem.W.codeIn K cd_nu "is_number" = true)
    (k_nu : PySem.W.keepIn K (.ref f_nu) = true)
    (a_cw : PySem.W.nsIn K mainGlobals "check_walker" = some (some (.ref f_cw)))
    (l_cw : K.lookup f_cw = some ⟨oc_cw, od_cw, .func (PySem.W.fnOf "check_walker" "check_walker" (defArgs s_check_walker) (defBody s_check_walker) (defScope s_check_walker) .none kv_cw dc_cw pm_cw an_cw cd_cw ct_cw), sl_cw⟩)
    (c_cw : PySem.W.codeIn K cd_cw "check_walker" = true)
    (k_cw : PySem.W.keepIn K (.ref f_cw) = true)
    (a_wp : PySem.W.nsIn K mainGlobals "wrong_part" = some (some (.ref f_wp)))
    (l_wp : K.lookup f_wp = some ⟨oc_wp, od_wp, .func (PySem.W.fnOf "wrong_part" "wrong_part" (defArgs s_wrong_part) (defBody s_wrong_part) (defScope s_wrong_part) .none kv_wp dc_wp pm_wp an_wp cd_wp ct_wp), sl_wp⟩)
    (c_wp : PySem.W.codeIn K cd_wp "wrong_part" = true)
    (k_wp : PySem.W.keepIn K (.ref f_wp) = true)
    (a_ww : PySem.W.nsIn K mainGlobals "way_with" = some (some (.ref f_ww)))
    (l_ww : K.lookup f_ww = some ⟨oc_ww, od_ww, .func (PySem.W.fnOf "way_with" "way_with" (defArgs s_way_with) (defBody s_way_with) (defScope s_way_with) .none kv_ww dc_ww pm_ww an_ww cd_ww ct_ww), sl_ww⟩)
    (c_ww : PySem.W.codeIn K cd_ww "way_with" = true)
    (k_ww : PySem.W.keepIn K (.ref f_ww) = true)
    (a_wc : PySem.W.nsIn K mainGlobals "with_cell" = some (some (.ref f_wc)))
    (l_wc : K.lookup f_wc = some ⟨oc_wc, od_wc, .func (PySem.W.fnOf "with_cell" "with_cell" (defArgs s_with_cell) (defBody s_with_cell) (defScope s_with_cell) .none kv_wc dc_wc pm_wc an_wc cd_wc ct_wc), sl_wc⟩)
    (c_wc : PySem.W.codeIn K cd_wc "with_cell" = true)
    (k_wc : PySem.W.keepIn K (.ref f_wc) = true)
    (a_po : PySem.W.nsIn K mainGlobals "pairs_of" = some (some (.ref f_po)))
    (l_po : K.lookup f_po = some ⟨oc_po, od_po, .func (PySem.W.fnOf "pairs_of" "pairs_of" (defArgs s_pairs_of) (defBody s_pairs_of) (defScope s_pairs_of) .none kv_po dc_po pm_po an_po cd_po ct_po), sl_po⟩)
    (c_po : PySem.W.codeIn K cd_po "pairs_of" = true)
    (k_po : PySem.W.keepIn K (.ref f_po) = true)
    (a_mx : PySem.W.nsIn K mainGlobals "_law_mixed" = some (some (.ref f_mx)))
    (l_mx : K.lookup f_mx = some ⟨oc_mx, od_mx, .func (PySem.W.fnOf "_law_mixed" "_law_mixed" (defArgs s__law_mixed) (defBody s__law_mixed) (defScope s__law_mixed) .none kv_mx dc_mx pm_mx an_mx cd_mx ct_mx), sl_mx⟩)
    (c_mx : PySem.W.codeIn K cd_mx "_law_mixed" = true)
    (k_mx : PySem.W.keepIn K (.ref f_mx) = true)
    (a_fo : PySem.W.nsIn K mainGlobals "_law_folded" = some (some (.ref f_fo)))
    (l_fo : K.lookup f_fo = some ⟨oc_fo, od_fo, .func (PySem.W.fnOf "_law_folded" "_law_folded" (defArgs s__law_folded) (defBody s__law_folded) (defScope s__law_folded) .none kv_fo dc_fo pm_fo an_fo cd_fo ct_fo), sl_fo⟩)
    (c_fo : PySem.W.codeIn K cd_fo "_law_folded" = true)
    (k_fo : PySem.W.keepIn K (.ref f_fo) = true)
    (a_dr : PySem.W.nsIn K mainGlobals "_law_draw" = some (some (.ref f_dr)))
    (l_dr : K.lookup f_dr = some ⟨oc_dr, od_dr, .func (PySem.W.fnOf "_law_draw" "_law_draw" (defArgs s__law_draw) (defBody s__law_draw) (defScope s__law_draw) .none kv_dr dc_dr pm_dr an_dr cd_dr ct_dr), sl_dr⟩)
    (c_dr : PySem.W.codeIn K cd_dr "_law_draw" = true)
    (k_dr : PySem.W.keepIn K (.ref f_dr) = true)
    (a_be : PySem.W.nsIn K mainGlobals "_law_begun" = some (some (.ref f_be)))
    (l_be : K.lookup f_be = some ⟨oc_be, od_be, .func (PySem.W.fnOf "_law_begun" "_law_begun" (defArgs s__law_begun) (defBody s__law_begun) (defScope s__law_begun) .none kv_be dc_be pm_be an_be cd_be ct_be), sl_be⟩)
    (c_be : PySem.W.codeIn K cd_be "_law_begun" = true)
    (k_be : PySem.W.keepIn K (.ref f_be) = true)
    (a_so : PySem.W.nsIn K mainGlobals "_law_some" = some (some (.ref f_so)))
    (l_so : K.lookup f_so = some ⟨oc_so, od_so, .func (PySem.W.fnOf "_law_some" "_law_some" (defArgs s__law_some) (defBody s__law_some) (defScope s__law_some) .none kv_so dc_so pm_so an_so cd_so ct_so), sl_so⟩)
    (c_so : PySem.W.codeIn K cd_so "_law_some" = true)
    (k_so : PySem.W.keepIn K (.ref f_so) = true)
    (a_ne : PySem.W.nsIn K mainGlobals "_law_net" = some (some (.ref f_ne)))
    (l_ne : K.lookup f_ne = some ⟨oc_ne, od_ne, .func (PySem.W.fnOf "_law_net" "_law_net" (defArgs s__law_net) (defBody s__law_net) (defScope s__law_net) .none kv_ne dc_ne pm_ne an_ne cd_ne ct_ne), sl_ne⟩)
    (c_ne : PySem.W.codeIn K cd_ne "_law_net" = true)
    (k_ne : PySem.W.keepIn K (.ref f_ne) = true)
    (a_wa : PySem.W.nsIn K mainGlobals "_law_way" = some (some (.ref f_wa)))
    (l_wa : K.lookup f_wa = some ⟨oc_wa, od_wa, .func (PySem.W.fnOf "_law_way" "_law_way" (defArgs s__law_way) (defBody s__law_way) (defScope s__law_way) .none kv_wa dc_wa pm_wa an_wa cd_wa ct_wa), sl_wa⟩)
    (c_wa : PySem.W.codeIn K cd_wa "_law_way" = true)
    (k_wa : PySem.W.keepIn K (.ref f_wa) = true)
    (a_d0 : PySem.W.nsIn K mainGlobals "is_pair" = some (some (.ref f_d0)))
    (l_d0 : K.lookup f_d0 = some ⟨oc_d0, od_d0, .func (PySem.W.fnOf "is_pair" "is_pair" (defArgs s_is_pair) (defBody s_is_pair) (defScope s_is_pair) .none kv_d0 dc_d0 pm_d0 an_d0 cd_d0 ct_d0), sl_d0⟩)
    (c_d0 : PySem.W.codeIn K cd_d0 "is_pair" = true)
    (k_d0 : PySem.W.keepIn K (.ref f_d0) = true)
    (a_d1 : PySem.W.nsIn K mainGlobals "ready_rights" = some (some (.ref f_d1)))
    (l_d1 : K.lookup f_d1 = some ⟨oc_d1, od_d1, .func (PySem.W.fnOf "ready_rights" "ready_rights" (defArgs s_ready_rights) (defBody s_ready_rights) (defScope s_ready_rights) .none kv_d1 dc_d1 pm_d1 an_d1 cd_d1 ct_d1), sl_d1⟩)
    (c_d1 : PySem.W.codeIn K cd_d1 "ready_rights" = true)
    (k_d1 : PySem.W.keepIn K (.ref f_d1) = true)
    (a_d2 : PySem.W.nsIn K mainGlobals "one_more" = some (some (.ref f_d2)))
    (l_d2 : K.lookup f_d2 = some ⟨oc_d2, od_d2, .func (PySem.W.fnOf "one_more" "one_more" (defArgs s_one_more) (defBody s_one_more) (defScope s_one_more) .none kv_d2 dc_d2 pm_d2 an_d2 cd_d2 ct_d2), sl_d2⟩)
    (c_d2 : PySem.W.codeIn K cd_d2 "one_more" = true)
    (k_d2 : PySem.W.keepIn K (.ref f_d2) = true)
    (a_d3 : PySem.W.nsIn K mainGlobals "count_endings" = some (some (.ref f_d3)))
    (l_d3 : K.lookup f_d3 = some ⟨oc_d3, od_d3, .func (PySem.W.fnOf "count_endings" "count_endings" (defArgs s_count_endings) (defBody s_count_endings) (defScope s_count_endings) .none kv_d3 dc_d3 pm_d3 an_d3 cd_d3 ct_d3), sl_d3⟩)
    (c_d3 : PySem.W.codeIn K cd_d3 "count_endings" = true)
    (k_d3 : PySem.W.keepIn K (.ref f_d3) = true)
    (a_d4 : PySem.W.nsIn K mainGlobals "count_orders" = some (some (.ref f_d4)))
    (l_d4 : K.lookup f_d4 = some ⟨oc_d4, od_d4, .func (PySem.W.fnOf "count_orders" "count_orders" (defArgs s_count_orders) (defBody s_count_orders) (defScope s_count_orders) .none kv_d4 dc_d4 pm_d4 an_d4 cd_d4 ct_d4), sl_d4⟩)
    (c_d4 : PySem.W.codeIn K cd_d4 "count_orders" = true)
    (k_d4 : PySem.W.keepIn K (.ref f_d4) = true)
    (a_d5 : PySem.W.nsIn K mainGlobals "right_at" = some (some (.ref f_d5)))
    (l_d5 : K.lookup f_d5 = some ⟨oc_d5, od_d5, .func (PySem.W.fnOf "right_at" "right_at" (defArgs s_right_at) (defBody s_right_at) (defScope s_right_at) .none kv_d5 dc_d5 pm_d5 an_d5 cd_d5 ct_d5), sl_d5⟩)
    (c_d5 : PySem.W.codeIn K cd_d5 "right_at" = true)
    (k_d5 : PySem.W.keepIn K (.ref f_d5) = true)
    (a_d6 : PySem.W.nsIn K mainGlobals "order_at" = some (some (.ref f_d6)))
    (l_d6 : K.lookup f_d6 = some ⟨oc_d6, od_d6, .func (PySem.W.fnOf "order_at" "order_at" (defArgs s_order_at) (defBody s_order_at) (defScope s_order_at) .none kv_d6 dc_d6 pm_d6 an_d6 cd_d6 ct_d6), sl_d6⟩)
    (c_d6 : PySem.W.codeIn K cd_d6 "order_at" = true)
    (k_d6 : PySem.W.keepIn K (.ref f_d6) = true)
    (a_d7 : PySem.W.nsIn K mainGlobals "order_by_rank" = some (some (.ref f_d7)))
    (l_d7 : K.lookup f_d7 = some ⟨oc_d7, od_d7, .func (PySem.W.fnOf "order_by_rank" "order_by_rank" (defArgs s_order_by_rank) (defBody s_order_by_rank) (defScope s_order_by_rank) .none kv_d7 dc_d7 pm_d7 an_d7 cd_d7 ct_d7), sl_d7⟩)
    (c_d7 : PySem.W.codeIn K cd_d7 "order_by_rank" = true)
    (k_d7 : PySem.W.keepIn K (.ref f_d7) = true)
    (a_d8 : PySem.W.nsIn K mainGlobals "check_order" = some (some (.ref f_d8)))
    (l_d8 : K.lookup f_d8 = some ⟨oc_d8, od_d8, .func (PySem.W.fnOf "check_order" "check_order" (defArgs s_check_order) (defBody s_check_order) (defScope s_check_order) .none kv_d8 dc_d8 pm_d8 an_d8 cd_d8 ct_d8), sl_d8⟩)
    (c_d8 : PySem.W.codeIn K cd_d8 "check_order" = true)
    (k_d8 : PySem.W.keepIn K (.ref f_d8) = true)
    (a_d9 : PySem.W.nsIn K mainGlobals "rank_of_order" = some (some (.ref f_d9)))
    (l_d9 : K.lookup f_d9 = some ⟨oc_d9, od_d9, .func (PySem.W.fnOf "rank_of_order" "rank_of_order" (defArgs s_rank_of_order) (defBody s_rank_of_order) (defScope s_rank_of_order) .none kv_d9 dc_d9 pm_d9 an_d9 cd_d9 ct_d9), sl_d9⟩)
    (c_d9 : PySem.W.codeIn K cd_d9 "rank_of_order" = true)
    (k_d9 : PySem.W.keepIn K (.ref f_d9) = true)
    (a_d10 : PySem.W.nsIn K mainGlobals "least_ending" = some (some (.ref f_d10)))
    (l_d10 : K.lookup f_d10 = some ⟨oc_d10, od_d10, .func (PySem.W.fnOf "least_ending" "least_ending" (defArgs s_least_ending) (defBody s_least_ending) (defScope s_least_ending) .none kv_d10 dc_d10 pm_d10 an_d10 cd_d10 ct_d10), sl_d10⟩)
    (c_d10 : PySem.W.codeIn K cd_d10 "least_ending" = true)
    (k_d10 : PySem.W.keepIn K (.ref f_d10) = true)
    (a_d11 : PySem.W.nsIn K mainGlobals "following" = some (some (.ref f_d11)))
    (l_d11 : K.lookup f_d11 = some ⟨oc_d11, od_d11, .func (PySem.W.fnOf "following" "following" (defArgs s_following) (defBody s_following) (defScope s_following) .none kv_d11 dc_d11 pm_d11 an_d11 cd_d11 ct_d11), sl_d11⟩)
    (c_d11 : PySem.W.codeIn K cd_d11 "following" = true)
    (k_d11 : PySem.W.keepIn K (.ref f_d11) = true)
    (a_d12 : PySem.W.nsIn K mainGlobals "_law_ready" = some (some (.ref f_d12)))
    (l_d12 : K.lookup f_d12 = some ⟨oc_d12, od_d12, .func (PySem.W.fnOf "_law_ready" "_law_ready" (defArgs s__law_ready) (defBody s__law_ready) (defScope s__law_ready) .none kv_d12 dc_d12 pm_d12 an_d12 cd_d12 ct_d12), sl_d12⟩)
    (c_d12 : PySem.W.codeIn K cd_d12 "_law_ready" = true)
    (k_d12 : PySem.W.keepIn K (.ref f_d12) = true)
    (a_d13 : PySem.W.nsIn K mainGlobals "_law_all_orders" = some (some (.ref f_d13)))
    (l_d13 : K.lookup f_d13 = some ⟨oc_d13, od_d13, .func (PySem.W.fnOf "_law_all_orders" "_law_all_orders" (defArgs s__law_all_orders) (defBody s__law_all_orders) (defScope s__law_all_orders) .none kv_d13 dc_d13 pm_d13 an_d13 cd_d13 ct_d13), sl_d13⟩)
    (c_d13 : PySem.W.codeIn K cd_d13 "_law_all_orders" = true)
    (k_d13 : PySem.W.keepIn K (.ref f_d13) = true)
    (a_or : PySem.W.nsIn K mainGlobals "orders" = some (some (.ref f_or)))
    (l_or : K.lookup f_or = some ⟨oc_or, od_or, .func (PySem.W.fnOf "orders" "orders" (defArgs s_orders) (defBody s_orders) (defScope s_orders) .none (.ref DO) dc_or pm_or an_or cd_or ct_or), sl_or⟩)
    (c_or : PySem.W.codeIn K cd_or "orders" = true)
    (k_or : PySem.W.keepIn K (.ref f_or) = true)
    (a_fi : PySem.W.nsIn K mainGlobals "_law_first_items" = some (some (.ref f_fi)))
    (l_fi : K.lookup f_fi = some ⟨oc_fi, od_fi, .func (PySem.W.fnOf "_law_first_items" "_law_first_items" (defArgs s__law_first_items) (defBody s__law_first_items) (defScope s__law_first_items) .none kv_fi dc_fi pm_fi an_fi cd_fi ct_fi), sl_fi⟩)
    (c_fi : PySem.W.codeIn K cd_fi "_law_first_items" = true)
    (k_fi : PySem.W.keepIn K (.ref f_fi) = true)
    (a_ri : PySem.W.nsIn K mainGlobals "_law_right" = some (some (.ref f_ri)))
    (l_ri : K.lookup f_ri = some ⟨oc_ri, od_ri, .func (PySem.W.fnOf "_law_right" "_law_right" (defArgs s__law_right) (defBody s__law_right) (defScope s__law_right) .none kv_ri dc_ri pm_ri an_ri cd_ri ct_ri), sl_ri⟩)
    (c_ri : PySem.W.codeIn K cd_ri "_law_right" = true)
    (k_ri : PySem.W.keepIn K (.ref f_ri) = true)
    (a_la : PySem.W.nsIn K mainGlobals "law" = some (some (.ref f_la)))
    (l_la : K.lookup f_la = some ⟨oc_la, od_la, .func (PySem.W.fnOf "law" "law" (defArgs s_law) (defBody s_law) (defScope s_law) .none kv_la dc_la pm_la an_la cd_la ct_la), sl_la⟩)
    (c_la : PySem.W.codeIn K cd_la "law" = true)
    (k_la : PySem.W.keepIn K (.ref f_la) = true)
    (kwS : PySem.W.nsIn K DO "start" = some (some (.int 0 tS)))
    (ma_in : PySem.W.findIn K (.ref C) "__init__" = some (some (.ref m_in)))
    (mi_in : PySem.W.isFn K (.ref m_in) = true)
    (ml_in : K.lookup m_in = some ⟨oc_min, od_min, .func (PySem.W.fnOf "__init__" "Way.__init__" (defArgs s_Way_init) (defBody s_Way_init) (defScope s_Way_init) .none kv_min dc_min pm_min an_min cd_min ct_min), sl_min⟩)
    (mc_in : PySem.W.codeIn K cd_min "Way.__init__" = true)
    (mk_in : PySem.W.keepIn K (.ref m_in) = true)
    (ma_cl : PySem.W.findIn K (.ref C) "closing" = some (some (.ref m_cl)))
    (mi_cl : PySem.W.isFn K (.ref m_cl) = true)
    (ml_cl : K.lookup m_cl = some ⟨oc_mcl, od_mcl, .func (PySem.W.fnOf "closing" "Way.closing" (defArgs s_closing) (defBody s_closing) (defScope s_closing) .none kv_mcl dc_mcl pm_mcl an_mcl cd_mcl ct_mcl), sl_mcl⟩)
    (mc_cl : PySem.W.codeIn K cd_mcl "Way.closing" = true)
    (mk_cl : PySem.W.keepIn K (.ref m_cl) = true)
    (ma_ck : PySem.W.findIn K (.ref C) "_checked_places" = some (some (.ref m_ck)))
    (mi_ck : PySem.W.isFn K (.ref m_ck) = true)
    (ml_ck : K.lookup m_ck = some ⟨oc_mck, od_mck, .func (PySem.W.fnOf "_checked_places" "Way._checked_places" (defArgs s_checked) (defBody s_checked) (defScope s_checked) .none kv_mck dc_mck pm_mck an_mck cd_mck ct_mck), sl_mck⟩)
    (mc_ck : PySem.W.codeIn K cd_mck "Way._checked_places" = true)
    (mk_ck : PySem.W.keepIn K (.ref m_ck) = true)
    (ma_le : PySem.W.findIn K (.ref C) "__len__" = some (some (.ref m_le)))
    (mi_le : PySem.W.isFn K (.ref m_le) = true)
    (ml_le : K.lookup m_le = some ⟨oc_mle, od_mle, .func (PySem.W.fnOf "__len__" "Way.__len__" (defArgs s_Way___len__) (defBody s_Way___len__) (defScope s_Way___len__) .none kv_mle dc_mle pm_mle an_mle cd_mle ct_mle), sl_mle⟩)
    (mc_le : PySem.W.codeIn K cd_mle "Way.__len__" = true)
    (mk_le : PySem.W.keepIn K (.ref m_le) = true)
    (pa_rights : PySem.W.findIn K (.ref C) "rights" = some (some (.ref p_rights)))
    (pg_rights : PySem.W.specialIn K (.ref p_rights) "__get__" = some (some (.builtin "property.__get__")))
    (pt_rights : PySem.W.takesIn K (.ref p_rights) = some true)
    (pr_rights : PySem.W.recIn K p_rights "property" = some (.ref g_rights :: rr_rights))
    (pl_rights : K.lookup g_rights = some ⟨oc_grights, od_grights, .func (PySem.W.fnOf "rights" "Way.rights" (defArgs (inClass (top 13) 5)) (defBody (inClass (top 13) 5)) (defScope (inClass (top 13) 5)) .none kv_grights dc_grights pm_grights an_grights cd_grights ct_grights), sl_grights⟩)
    (pc_rights : PySem.W.codeIn K cd_grights "Way.rights" = true)
    (pa_lefts : PySem.W.findIn K (.ref C) "lefts" = some (some (.ref p_lefts)))
    (pg_lefts : PySem.W.specialIn K (.ref p_lefts) "__get__" = some (some (.builtin "property.__get__")))
    (pt_lefts : PySem.W.takesIn K (.ref p_lefts) = some true)
    (pr_lefts : PySem.W.recIn K p_lefts "property" = some (.ref g_lefts :: rr_lefts))
    (pl_lefts : K.lookup g_lefts = some ⟨oc_glefts, od_glefts, .func (PySem.W.fnOf "lefts" "Way.lefts" (defArgs (inClass (top 13) 6)) (defBody (inClass (top 13) 6)) (defScope (inClass (top 13) 6)) .none kv_glefts dc_glefts pm_glefts an_glefts cd_glefts ct_glefts), sl_glefts⟩)
    (pc_lefts : PySem.W.codeIn K cd_glefts "Way.lefts" = true)
    (nn_rights : PySem.W.findIn K (.ref C) "_rights" = some none)
    (nn_lefts : PySem.W.findIn K (.ref C) "_lefts" = some none)
    (nn_places : PySem.W.findIn K (.ref C) "_places" = some none)
    (nn_table : PySem.W.findIn K (.ref C) "_table" = some none)
    (x_ic : PySem.W.isClsIn K C = true)
    (x_pg : PySem.W.plainGet K C Str.empty = true)
    (x_hd : PySem.W.hasDictIn K C = true)
    (x_po : PySem.W.plainOver K C = true)
    (x_sa : PySem.W.findIn K (.ref C) "__setattr__" = some (some (.builtin "object.__setattr__")))
    (x_mk : PySem.W.makesIn K C = true)
    (x_kc : PySem.W.keepIn K (.ref C) = true)
    (v_6 : PySem.W.findCls K (.ref C) (.type "type") "MAX_WALKERS" = some (.val (.int 6 t6)))
    (v_12 : PySem.W.findCls K (.ref C) (.type "type") "MAX_PLACES" = some (.val (.int 12 t12)))
    (v_rd : PySem.W.readsIn K C (.type "type") = true)
    (v_ga : PySem.W.specialIn K (.ref C) "__getattribute__" = some (some (.builtin "type.__getattribute__")))
    (z_range : PySem.W.nsIn K mainGlobals "range" = some none)
    (z_enumerate : PySem.W.nsIn K mainGlobals "enumerate" = some none)
    (z_len : PySem.W.nsIn K mainGlobals "len" = some none)
    (z_tuple : PySem.W.nsIn K mainGlobals "tuple" = some none)
    (z_max : PySem.W.nsIn K mainGlobals "max" = some none)
    (z_min : PySem.W.nsIn K mainGlobals "min" = some none)
    (z_repr : PySem.W.nsIn K mainGlobals "repr" = some none)
    (z_zip : PySem.W.nsIn K mainGlobals "zip" = some none)
    (z_isinstance : PySem.W.nsIn K mainGlobals "isinstance" = some none)
    (z_bool : PySem.W.nsIn K mainGlobals "bool" = some none)
    (z_int : PySem.W.nsIn K mainGlobals "int" = some none)
    (z_list : PySem.W.nsIn K mainGlobals "list" = some none)
    (z_reversed : PySem.W.nsIn K mainGlobals "reversed" = some none)
    : ∃ fd : FuncData, (∀ (s : Shared) (v : Value), BindsTo s fd ⟨[v], []⟩ [("_law_script", v)]) ∧ ∀ base : Heap, K.In base → base.Ns mainGlobals mg → FnG PP w K mg base 14 fa fd ["_law_script"] (spLaw K []) := by
  have e := hfa.symm.trans (PySem.W.mg_of X G a_la)
  cases e
  have mC := PySem.W.mg_of X G aC
  have B : Bt mg := ⟨PySem.W.mg_none_of X G z_range, PySem.W.mg_none_of X G z_enumerate, PySem.W.mg_none_of X G z_len, PySem.W.mg_none_of X G z_tuple, PySem.W.mg_none_of X G z_max, PySem.W.mg_none_of X G z_min, PySem.W.mg_none_of X G z_repr, PySem.W.mg_none_of X G z_zip⟩
  have B2 : Bw mg := ⟨PySem.W.mg_none_of X G z_isinstance, PySem.W.mg_none_of X G z_bool, PySem.W.mg_none_of X G z_int⟩
  have bL := PySem.W.mg_none_of X G z_list
  have bRe := PySem.W.mg_none_of X G z_reversed
  have cls : Cls K C := ⟨x_pg, x_hd, x_po, x_sa⟩
  have T0 : Wt K mg C := ⟨cls, nn_rights, nn_lefts, nn_places, nn_table, mC, .type "type", t6, t12, ⟨v_rd, v_ga⟩, ⟨v_6, ⟨_, rfl⟩⟩, ⟨v_12, ⟨_, rfl⟩⟩⟩
  have F_ni := fun_mk (st := s_is_int) l_ni c_ni k_ni
  have b_ni := F_ni.binds (ps := ["value"]) fun _ _ _ _ _ _ us hl => match us, hl with | [_], _ => rfl
  have F_nu := fun_mk (st := s_is_number) l_nu c_nu k_nu
  have b_nu := F_nu.binds (ps := ["value", "low", "high"]) fun _ _ _ _ _ _ us hl => match us, hl with | [_, _, _], _ => rfl
  have F_cw := fun_mk (st := s_check_walker) l_cw c_cw k_cw
  have b_cw := F_cw.binds (ps := ["value", "walkers"]) fun _ _ _ _ _ _ us hl => match us, hl with | [_, _], _ => rfl
  have F_wp := fun_mk (st := s_wrong_part) l_wp c_wp k_wp
  have b_wp := F_wp.binds (ps := ["rights", "lefts", "places"]) fun _ _ _ _ _ _ us hl => match us, hl with | [_, _, _], _ => rfl
  have F_ww := fun_mk (st := s_way_with) l_ww c_ww k_ww
  have b_ww := F_ww.binds (ps := ["places", "table"]) fun _ _ _ _ _ _ us hl => match us, hl with | [_, _], _ => rfl
  have F_wc := fun_mk (st := s_with_cell) l_wc c_wc k_wc
  have b_wc := F_wc.binds (ps := ["table", "right", "left", "cell"]) fun _ _ _ _ _ _ us hl => match us, hl with | [_, _, _, _], _ => rfl
  have F_po := fun_mk (st := s_pairs_of) l_po c_po k_po
  have b_po := F_po.binds (ps := ["way"]) fun _ _ _ _ _ _ us hl => match us, hl with | [_], _ => rfl
  have F_mx := fun_mk (st := s__law_mixed) l_mx c_mx k_mx
  have b_mx := F_mx.binds (ps := ["_law_cell", "_law_n"]) fun _ _ _ _ _ _ us hl => match us, hl with | [_, _], _ => rfl
  have F_fo := fun_mk (st := s__law_folded) l_fo c_fo k_fo
  have b_fo := F_fo.binds (ps := ["_law_script"]) fun _ _ _ _ _ _ us hl => match us, hl with | [_], _ => rfl
  have F_dr := fun_mk (st := s__law_draw) l_dr c_dr k_dr
  have b_dr := F_dr.binds (ps := ["_law_m", "_law_top"]) fun _ _ _ _ _ _ us hl => match us, hl with | [_, _], _ => rfl
  have F_be := fun_mk (st := s__law_begun) l_be c_be k_be
  have b_be := F_be.binds (ps := ["_law_script"]) fun _ _ _ _ _ _ us hl => match us, hl with | [_], _ => rfl
  have F_so := fun_mk (st := s__law_some) l_so c_so k_so
  have b_so := F_so.binds (ps := ["_law_m", "_law_many", "_law_sparse"]) fun _ _ _ _ _ _ us hl => match us, hl with | [_, _, _], _ => rfl
  have F_ne := fun_mk (st := s__law_net) l_ne c_ne k_ne
  have b_ne := F_ne.binds (ps := ["_law_m", "_law_most", "_law_many"]) fun _ _ _ _ _ _ us hl => match us, hl with | [_, _, _], _ => rfl
  have F_wa := fun_mk (st := s__law_way) l_wa c_wa k_wa
  have b_wa := F_wa.binds (ps := ["_law_net_here"]) fun _ _ _ _ _ _ us hl => match us, hl with | [_], _ => rfl
  have F_d0 := fun_mk (st := s_is_pair) l_d0 c_d0 k_d0
  have b_d0 := F_d0.binds (ps := ["way", "value"]) fun _ _ _ _ _ _ us hl => match us, hl with | [_, _], _ => rfl
  have F_d1 := fun_mk (st := s_ready_rights) l_d1 c_d1 k_d1
  have b_d1 := F_d1.binds (ps := ["way", "done"]) fun _ _ _ _ _ _ us hl => match us, hl with | [_, _], _ => rfl
  have F_d2 := fun_mk (st := s_one_more) l_d2 c_d2 k_d2
  have b_d2 := F_d2.binds (ps := ["done", "right"]) fun _ _ _ _ _ _ us hl => match us, hl with | [_, _], _ => rfl
  have F_d3 := fun_mk (st := s_count_endings) l_d3 c_d3 k_d3
  have b_d3 := F_d3.binds (ps := ["way", "done"]) fun _ _ _ _ _ _ us hl => match us, hl with | [_, _], _ => rfl
  have F_d4 := fun_mk (st := s_count_orders) l_d4 c_d4 k_d4
  have b_d4 := F_d4.binds (ps := ["way"]) fun _ _ _ _ _ _ us hl => match us, hl with | [_], _ => rfl
  have F_d5 := fun_mk (st := s_right_at) l_d5 c_d5 k_d5
  have b_d5 := F_d5.binds (ps := ["way", "done", "rank"]) fun _ _ _ _ _ _ us hl => match us, hl with | [_, _, _], _ => rfl
  have F_d6 := fun_mk (st := s_order_at) l_d6 c_d6 k_d6
  have b_d6 := F_d6.binds (ps := ["way", "rank"]) fun _ _ _ _ _ _ us hl => match us, hl with | [_, _], _ => rfl
  have F_d7 := fun_mk (st := s_order_by_rank) l_d7 c_d7 k_d7
  have b_d7 := F_d7.binds (ps := ["way", "rank"]) fun _ _ _ _ _ _ us hl => match us, hl with | [_, _], _ => rfl
  have F_d8 := fun_mk (st := s_check_order) l_d8 c_d8 k_d8
  have b_d8 := F_d8.binds (ps := ["way", "order"]) fun _ _ _ _ _ _ us hl => match us, hl with | [_, _], _ => rfl
  have F_d9 := fun_mk (st := s_rank_of_order) l_d9 c_d9 k_d9
  have b_d9 := F_d9.binds (ps := ["way", "order"]) fun _ _ _ _ _ _ us hl => match us, hl with | [_, _], _ => rfl
  have F_d10 := fun_mk (st := s_least_ending) l_d10 c_d10 k_d10
  have b_d10 := F_d10.binds (ps := ["way", "done"]) fun _ _ _ _ _ _ us hl => match us, hl with | [_, _], _ => rfl
  have F_d11 := fun_mk (st := s_following) l_d11 c_d11 k_d11
  have b_d11 := F_d11.binds (ps := ["way", "order"]) fun _ _ _ _ _ _ us hl => match us, hl with | [_, _], _ => rfl
  have F_d12 := fun_mk (st := s__law_ready) l_d12 c_d12 k_d12
  have b_d12 := F_d12.binds (ps := ["_law_east", "_law_west", "_law_found"]) fun _ _ _ _ _ _ us hl => match us, hl with | [_, _, _], _ => rfl
  have F_d13 := fun_mk (st := s__law_all_orders) l_d13 c_d13 k_d13
  have b_d13 := F_d13.binds (ps := ["_law_east", "_law_west"]) fun _ _ _ _ _ _ us hl => match us, hl with | [_, _], _ => rfl
  have F_or := fun_mk (st := s_orders) l_or c_or k_or
  have F_fi := fun_mk (st := s__law_first_items) l_fi c_fi k_fi
  have b_fi := F_fi.binds (ps := ["_law_road", "_law_number", "_law_most"]) fun _ _ _ _ _ _ us hl => match us, hl with | [_, _, _], _ => rfl
  have F_ri := fun_mk (st := s__law_right) l_ri c_ri k_ri
  have b_ri := F_ri.binds (ps := ["_law_m", "_law_road", "_law_every"]) fun _ _ _ _ _ _ us hl => match us, hl with | [_, _, _], _ => rfl
  have F_la := fun_mk (st := s_law) l_la c_la k_la
  have M_in := fun_mk (st := s_Way_init) ml_in mc_in mk_in
  have d_in := M_in.binds (ps := ["self", "rights", "lefts", "places"]) fun _ _ _ _ _ _ us hl => match us, hl with | [_, _, _, _], _ => rfl
  have M_cl := fun_mk (st := s_closing) ml_cl mc_cl mk_cl
  have M_ck := fun_mk (st := s_checked) ml_ck mc_ck mk_ck
  have d_ck := M_ck.binds (ps := ["self", "values"]) fun _ _ _ _ _ _ us hl => match us, hl with | [_, _], _ => rfl
  have M_le := fun_mk (st := s_Way___len__) ml_le mc_le mk_le
  have d_le := M_le.binds (ps := ["self"]) fun _ _ _ _ _ _ us hl => match us, hl with | [_], _ => rfl
  refine ⟨PySem.W.fnOf "law" "law" (defArgs s_law) (defBody s_law) (defScope s_law) .none kv_la dc_la pm_la an_la cd_la ct_la, fun s v => .of_eq rfl, fun base _ _ => ?_⟩
  let Z : Zn := ⟨[], fun _ => C⟩
  have P_rights : Pr PP w K mg base C "rights" "_rights" := ⟨p_rights, g_rights, _, cls, ⟨pa_rights, pg_rights, pt_rights, _, pr_rights⟩, fn_getter pl_rights pc_rights sc_get_rights rfl rfl cls nn_rights, .all fun us hl => match us, hl with | [_], _ => rfl⟩
  have P_lefts : Pr PP w K mg base C "lefts" "_lefts" := ⟨p_lefts, g_lefts, _, cls, ⟨pa_lefts, pg_lefts, pt_lefts, _, pr_lefts⟩, fn_getter pl_lefts pc_lefts sc_get_lefts rfl rfl cls nn_lefts, .all fun us hl => match us, hl with | [_], _ => rfl⟩
  have C_ni : CalO PP w K mg base 1 "is_int" spInt := ⟨_, _, ["value"], ok_is_int B2 F_ni, PySem.W.mg_of X G a_ni, k_ni, b_ni⟩
  have C_nu : CalO PP w K mg base 2 "is_number" spNum := ⟨_, _, ["value", "low", "high"], ok_is_number C_ni F_nu, PySem.W.mg_of X G a_nu, k_nu, b_nu⟩
  have C_cw : CalO PP w K mg base 3 "check_walker" spChk := ⟨_, _, ["value", "walkers"], ok_check_walker C_nu F_cw, PySem.W.mg_of X G a_cw, k_cw, b_cw⟩
  have C_wp : CalO PP w K mg base 3 "wrong_part" spWrong := ⟨_, _, ["rights", "lefts", "places"], ok_wrong T0 C_nu F_wp, PySem.W.mg_of X G a_wp, k_wp, b_wp⟩
  have mkW : Ma PP w K mg base 4 "Way" C (spInit K C) := ⟨m_in, _, ["self", "rights", "lefts", "places"], ⟨x_mk, ma_in, mi_in, x_kc⟩, ok_init B T0 C_wp M_in, mC, d_in⟩
  have C_ww : CalO PP w K mg base 6 "way_with" (spWith K C) := ⟨_, _, ["places", "table"], ok_way_with B T0 mkW F_ww, PySem.W.mg_of X G a_ww, k_ww, b_ww⟩
  have C_wc : CalO PP w K mg base 2 "with_cell" (spCell K) := ⟨_, _, ["table", "right", "left", "cell"], ok_with_cell F_wc, PySem.W.mg_of X G a_wc, k_wc, b_wc⟩
  have C_po : CalO PP w K mg base 4 "pairs_of" (spPairs K C) := ⟨_, _, ["way"], ok_pairs B P_rights P_lefts F_po, PySem.W.mg_of X G a_po, k_po, b_po⟩
  have moK : Mo PP w K mg base 3 C "_checked_places" (spChecked K C) := ⟨m_ck, _, ["self", "values"], cls, ⟨ma_ck, mi_ck, mk_ck⟩, ok_checked B T0 C_nu M_ck, d_ck⟩
  have clo : Clo PP w K mg base 7 C (spClosing K C) := clo_of cls ⟨ma_cl, mi_cl, mk_cl⟩ M_cl B T0 C_cw moK C_po C_wc C_ww
  have C_mx : CalG PP w K mg base 2 "_law_mixed" spMixed := ⟨_, _, ["_law_cell", "_law_n"], ok_mixed F_mx, PySem.W.mg_of X G a_mx, k_mx, b_mx⟩
  have C_fo : CalG PP w K mg base 2 "_law_folded" (spFolded K) := ⟨_, _, ["_law_script"], ok_folded B F_fo, PySem.W.mg_of X G a_fo, k_fo, b_fo⟩
  have C_dr : CalG PP w K mg base 3 "_law_draw" spDraw := ⟨_, _, ["_law_m", "_law_top"], ok_draw B C_mx F_dr, PySem.W.mg_of X G a_dr, k_dr, b_dr⟩
  have C_be : CalG PP w K mg base 3 "_law_begun" (spBegun K) := ⟨_, _, ["_law_script"], ok_begun B C_fo F_be, PySem.W.mg_of X G a_be, k_be, b_be⟩
  have C_so : CalG PP w K mg base 4 "_law_some" spSome := ⟨_, _, ["_law_m", "_law_many", "_law_sparse"], ok_some B C_dr F_so, PySem.W.mg_of X G a_so, k_so, b_so⟩
  have C_ne : CalG PP w K mg base 5 "_law_net" (spNet K) := ⟨_, _, ["_law_m", "_law_most", "_law_many"], ok_net B C_dr C_so F_ne, PySem.W.mg_of X G a_ne, k_ne, b_ne⟩
  have C_wa : CalG PP w K mg base 8 "_law_way" (spWay K C) := ⟨_, _, ["_law_net_here"], ok_way B mkW clo F_wa, PySem.W.mg_of X G a_wa, k_wa, b_wa⟩
  have cNet : CalG PP w K mg base 5 "_law_net" (spG K Z 3 (tell P_net)) := CalG.imp C_ne net_told
  have cLway : CalG PP w K mg base 8 "_law_way" (spG K Z 1 (tell P_lway)) := CalG.imp C_wa (lway_told rfl)
  have D_ni : CalD PP w K mg base Z 1 "is_int" 1 (runS p_is_int N_is_int.length) := ⟨_, _, ["value"], okD_is_int (Z := Z) B B2 F_ni, PySem.W.mg_of X G a_ni, k_ni, b_ni⟩
  have D_nu : CalD PP w K mg base Z 2 "is_number" 3 (runS p_is_number N_is_number.length) := ⟨_, _, ["value", "low", "high"], okD_is_number (Z := Z) D_ni F_nu, PySem.W.mg_of X G a_nu, k_nu, b_nu⟩
  have D_d0 : CalD PP w K mg base Z 4 "is_pair" 2 (runS p_is_pair N_is_pair.length) := ⟨_, _, ["way", "value"], okD_is_pair (Z := Z) B B2 D_nu P_rights P_lefts F_d0, PySem.W.mg_of X G a_d0, k_d0, b_d0⟩
  have D_po : CalD PP w K mg base Z 3 "pairs_of" 1 (runS p_pairs_of N_pairs_of.length) := ⟨_, _, ["way"], okD_pairs_of (Z := Z) B P_rights P_lefts F_po, PySem.W.mg_of X G a_po, k_po, b_po⟩
  have LEN : LenD PP w K mg base Z 4 0 (runS p_Way___len__ N_Way___len__.length) := ⟨m_le, _, ma_le, mi_le, okD_Way___len__ (Z := Z) B D_po M_le, d_le⟩
  have D_d1 : CalD PP w K mg base Z 3 "ready_rights" 2 (runS p_ready_rights N_ready_rights.length) := ⟨_, _, ["way", "done"], okD_ready_rights (Z := Z) B P_rights P_lefts F_d1, PySem.W.mg_of X G a_d1, k_d1, b_d1⟩
  have D_d2 : CalD PP w K mg base Z 1 "one_more" 2 (runS p_one_more N_one_more.length) := ⟨_, _, ["done", "right"], okD_one_more (Z := Z)  F_d2, PySem.W.mg_of X G a_d2, k_d2, b_d2⟩
  have D_d3 : CalD PP w K mg base Z 4 "count_endings" 2 (runS p_count_endings N_count_endings.length) := ⟨_, _, ["way", "done"], okD_count_endings (Z := Z) B D_po F_d3, PySem.W.mg_of X G a_d3, k_d3, b_d3⟩
  have D_d4 : CalD PP w K mg base Z 5 "count_orders" 1 (runS p_count_orders N_count_orders.length) := ⟨_, _, ["way"], okD_count_orders (Z := Z) P_rights D_d3 F_d4, PySem.W.mg_of X G a_d4, k_d4, b_d4⟩
  have D_d5 : CalD PP w K mg base Z 5 "right_at" 3 (runS p_right_at N_right_at.length) := ⟨_, _, ["way", "done", "rank"], okD_right_at (Z := Z) B D_d1 D_d3 D_d2 F_d5, PySem.W.mg_of X G a_d5, k_d5, b_d5⟩
  have D_d6 : CalD PP w K mg base Z 6 "order_at" 2 (runS p_order_at N_order_at.length) := ⟨_, _, ["way", "rank"], okD_order_at (Z := Z) B P_rights LEN D_d5 F_d6, PySem.W.mg_of X G a_d6, k_d6, b_d6⟩
  have D_d7 : CalD PP w K mg base Z 7 "order_by_rank" 2 (runS p_order_by_rank N_order_by_rank.length) := ⟨_, _, ["way", "rank"], okD_order_by_rank (Z := Z) D_nu D_d4 D_d6 F_d7, PySem.W.mg_of X G a_d7, k_d7, b_d7⟩
  have D_d8 : CalD PP w K mg base Z 6 "check_order" 2 (runS p_check_order N_check_order.length) := ⟨_, _, ["way", "order"], okD_check_order (Z := Z) B B2 P_rights LEN D_d0 D_d1 F_d8, PySem.W.mg_of X G a_d8, k_d8, b_d8⟩
  have D_d9 : CalD PP w K mg base Z 7 "rank_of_order" 2 (runS p_rank_of_order N_rank_of_order.length) := ⟨_, _, ["way", "order"], okD_rank_of_order (Z := Z) B P_rights D_d8 D_d1 D_d3 D_d2 F_d9, PySem.W.mg_of X G a_d9, k_d9, b_d9⟩
  have D_d10 : CalD PP w K mg base Z 4 "least_ending" 2 (runS p_least_ending N_least_ending.length) := ⟨_, _, ["way", "done"], okD_least_ending (Z := Z) B D_po F_d10, PySem.W.mg_of X G a_d10, k_d10, b_d10⟩
  have D_d11 : CalD PP w K mg base Z 5 "following" 2 (runS p_following N_following.length) := ⟨_, _, ["way", "order"], okD_following (Z := Z) B bRe P_rights P_lefts D_d1 D_d10 F_d11, PySem.W.mg_of X G a_d11, k_d11, b_d11⟩
  have D_d12 : CalD PP w K mg base Z 1 "_law_ready" 3 (runS p__law_ready N__law_ready.length) := ⟨_, _, ["_law_east", "_law_west", "_law_found"], okD__law_ready (Z := Z) B F_d12, PySem.W.mg_of X G a_d12, k_d12, b_d12⟩
  have D_d13 : CalD PP w K mg base Z 2 "_law_all_orders" 2 (runS p__law_all_orders N__law_all_orders.length) := ⟨_, _, ["_law_east", "_law_west"], okD__law_all_orders (Z := Z) B D_d12 F_d13, PySem.W.mg_of X G a_d13, k_d13, b_d13⟩
  have cOrd : CalYD PP w K mg base Z 9 "orders" 2 [.int 0] (runY p_orders N_orders.length) := ⟨_, _, ["way", "start"], [.int 0], [.int 0 tS], ok_orders (Z := Z) D_d4 D_nu D_d6 D_d11 F_or, PySem.W.mg_of X G a_or, k_or, (fun s us XX hl => match us, (show us.length = 1 from by rw [List.length_append] at hl; exact Nat.succ.inj hl) with | [u], _ => BindsTo.of_looks fun M => KwChain.looks XX (D := DO) (l := [("start", .int 0 tS)]) (fun p hp => by rw [List.mem_singleton.mp hp]; exact kwS) ⟨_, _, _, _, _, _, rfl, rfl, rfl⟩), .cons ⟨_, rfl⟩ .nil, fun G => .cons (.int 0) .nil⟩
  have cOrdK : CalYK PP w K mg base Z 9 "orders" 2 ["way", "start"] (runY p_orders N_orders.length) := ⟨_, _, ["way", "start"], ok_orders (Z := Z) D_d4 D_nu D_d6 D_d11 F_or, PySem.W.mg_of X G a_or, k_or, ⟨fun s us ws KX h0 h1 => match us, ws, h0, h1 with | [], [_, _], _, _ => .of_eq rfl, fun r rz => rz⟩⟩
  have cOrdN : CalYN PP w K mg base Z 9 "orders" 2 1 ["start"] (runY p_orders N_orders.length) := ⟨_, _, ["way", "start"], ok_orders (Z := Z) D_d4 D_nu D_d6 D_d11 F_or, PySem.W.mg_of X G a_or, k_or, ⟨fun s us ws KX h0 h1 => match us, ws, h0, h1 with | [_], [_], _, _ => .of_eq rfl, fun r rz => r.append rz⟩⟩
  have cCountK : CalDK PP w K mg base Z 5 "count_orders" 1 ["way"] gI1 (runS p_count_orders N_count_orders.length) := ⟨_, _, ["way"], okD_count_orders (Z := Z) P_rights D_d3 F_d4, PySem.W.mg_of X G a_d4, k_d4, ⟨fun s us ws KX h0 h1 => match us, ws, h0, h1 with | [], [_], _, _ => .of_eq rfl, fun r rz => rz⟩⟩
  have cByRankK : CalDK PP w K mg base Z 7 "order_by_rank" 2 ["rank", "way"] gI2 (runS p_order_by_rank N_order_by_rank.length) := ⟨_, _, ["way", "rank"], okD_order_by_rank (Z := Z) D_nu D_d4 D_d6 F_d7, PySem.W.mg_of X G a_d7, k_d7, ⟨fun s us ws KX h0 h1 => match us, ws, h0, h1 with | [], [_, _], _, _ => .of_eq rfl, fun r rz => gI2_vals rz⟩⟩
  have cRankK : CalDK PP w K mg base Z 7 "rank_of_order" 2 ["order", "way"] gI2 (runS p_rank_of_order N_rank_of_order.length) := ⟨_, _, ["way", "order"], okD_rank_of_order (Z := Z) B P_rights D_d8 D_d1 D_d3 D_d2 F_d9, PySem.W.mg_of X G a_d9, k_d9, ⟨fun s us ws KX h0 h1 => match us, ws, h0, h1 with | [], [_, _], _, _ => .of_eq rfl, fun r rz => gI2_vals rz⟩⟩
  have C_fi : CalG PP w K mg base 11 "_law_first_items" (spG K Z 3 (runS p__law_first_items N__law_first_items.length)) := ⟨_, _, ["_law_road", "_law_number", "_law_most"], okD__law_first_items (Z := Z) B cOrdN F_fi, PySem.W.mg_of X G a_fi, k_fi, b_fi⟩
  have C_ri : CalG PP w K mg base 13 "_law_right" (spG K Z 3 (runS p__law_right N__law_right.length)) := ⟨_, _, ["_law_m", "_law_road", "_law_every"], okD__law_right (Z := Z) B bL cOrd cOrdK cOrdN D_d4 cCountK D_d7 cByRankK D_d9 cRankK C_dr C_fi F_ri, PySem.W.mg_of X G a_ri, k_ri, b_ri⟩
  exact ok_law (Z := Z) B C_be C_dr cNet cLway D_d13 C_ri mkW F_la
end W2

open PySem PySem.W PyProof.Rows
set_option maxHeartbeats 0 in
theorem PySem.Challenge.cw_passplaces_k44_whole_orders_listed_holds : PySem.Challenge.rw_passplaces_k44_whole_orders_listed.Holds := by
  w_on; o_law; k_head; (case hw => w_witness2)
  k_fill
  refine W2.walkG (l := PySem.Challenge.rw_passplaces_k44_whole_orders_listed) (n := 63) (k := 14) (x := "_law_script") (sp := fun K => W2.spLaw K []) rfl (by decide) rfl ⟨rfl, by decide, by decide⟩ rfl (fun w h Y => PySem.W.kIn_of Y) ?F (fun K H a ns hl hS => ⟨a, ns, rfl, hS, hl, (fun p hp => by cases hp), fun _ => rfl⟩)
  case F =>
    intro w mg fa h KX G hmg
    refine' W2.all_mk44 KX G hmg ?aC ?a_ni ?l_ni ?c_ni ?k_ni ?a_nu ?l_nu ?c_nu ?k_nu ?a_cw ?l_cw ?c_cw ?k_cw ?a_wp ?l_wp ?c_wp ?k_wp ?a_ww ?l_ww ?c_ww ?k_ww ?a_wc ?l_wc ?c_wc ?k_wc ?a_po ?l_po ?c_po ?k_po ?a_mx ?l_mx ?c_mx ?k_mx ?a_fo ?l_fo ?c_fo ?k_fo ?a_dr ?l_dr ?c_dr ?k_dr ?a_be ?l_be ?c_be ?k_be ?a_so ?l_so ?c_so ?k_so ?a_ne ?l_ne ?c_ne ?k_ne ?a_wa ?l_wa ?c_wa ?k_wa ?a_d0 ?l_d0 ?c_d0 ?k_d0 ?a_d1 ?l_d1 ?c_d1 ?k_d1 ?a_d2 ?l_d2 ?c_d2 ?k_d2 ?a_d3 ?l_d3 ?c_d3 ?k_d3 ?a_d4 ?l_d4 ?c_d4 ?k_d4 ?a_d5 ?l_d5 ?c_d5 ?k_d5 ?a_d6 ?l_d6 ?c_d6 ?k_d6 ?a_d7 ?l_d7 ?c_d7 ?k_d7 ?a_d8 ?l_d8 ?c_d8 ?k_d8 ?a_d9 ?l_d9 ?c_d9 ?k_d9 ?a_d10 ?l_d10 ?c_d10 ?k_d10 ?a_d11 ?l_d11 ?c_d11 ?k_d11 ?a_d12 ?l_d12 ?c_d12 ?k_d12 ?a_d13 ?l_d13 ?c_d13 ?k_d13 ?a_or ?l_or ?c_or ?k_or ?a_fi ?l_fi ?c_fi ?k_fi ?a_ri ?l_ri ?c_ri ?k_ri ?a_la ?l_la ?c_la ?k_la ?kwS ?ma_in ?mi_in ?ml_in ?mc_in ?mk_in ?ma_cl ?mi_cl ?ml_cl ?mc_cl ?mk_cl ?ma_ck ?mi_ck ?ml_ck ?mc_ck ?mk_ck ?ma_le ?mi_le ?ml_le ?mc_le ?mk_le ?pa_rights ?pg_rights ?pt_rights ?pr_rights ?pl_rights ?pc_rights ?pa_lefts ?pg_lefts ?pt_lefts ?pr_lefts ?pl_lefts ?pc_lefts ?nn_rights ?nn_lefts ?nn_places ?nn_table ?x_ic ?x_pg ?x_hd ?x_po ?x_sa ?x_mk ?x_kc ?v_6 ?v_12 ?v_rd ?v_ga ?z_range ?z_enumerate ?z_len ?z_tuple ?z_max ?z_min ?z_repr ?z_zip ?z_isinstance ?z_bool ?z_int ?z_list ?z_reversed
    (case aC => k_is)
    (case a_ni => k_is)
    (case l_ni => k_is)
    (case c_ni => k_is)
    (case k_ni => k_is)
    (case a_nu => k_is)
    (case l_nu => k_is)
    (case c_nu => k_is)
    (case k_nu => k_is)
    (case a_cw => k_is)
    (case l_cw => k_is)
    (case c_cw => k_is)
    (case k_cw => k_is)
    (case a_wp => k_is)
    (case l_wp => k_is)
    (case c_wp => k_is)
    (case k_wp => k_is)
    (case a_ww => k_is)
    (case l_ww => k_is)
    (case c_ww => k_is)
    (case k_ww => k_is)
    (case a_wc => k_is)
    (case l_wc => k_is)
    (case c_wc => k_is)
    (case k_wc => k_is)
    (case a_po => k_is)
    (case l_po => k_is)
    (case c_po => k_is)
    (case k_po => k_is)
    (case a_mx => k_is)
    (case l_mx => k_is)
    (case c_mx => k_is)
    (case k_mx => k_is)
    (case a_fo => k_is)
    (case l_fo => k_is)
    (case c_fo => k_is)
    (case k_fo => k_is)
    (case a_dr => k_is)
    (case l_dr => k_is)
    (case c_dr => k_is)
    (case k_dr => k_is)
    (case a_be => k_is)
    (case l_be => k_is)
    (case c_be => k_is)
    (case k_be => k_is)
    (case a_so => k_is)
    (case l_so => k_is)
    (case c_so => k_is)
    (case k_so => k_is)
    (case a_ne => k_is)
    (case l_ne => k_is)
    (case c_ne => k_is)
    (case k_ne => k_is)
    (case a_wa => k_is)
    (case l_wa => k_is)
    (case c_wa => k_is)
    (case k_wa => k_is)
    (case a_d0 => k_is)
    (case l_d0 => k_is)
    (case c_d0 => k_is)
    (case k_d0 => k_is)
    (case a_d1 => k_is)
    (case l_d1 => k_is)
    (case c_d1 => k_is)
    (case k_d1 => k_is)
    (case a_d2 => k_is)
    (case l_d2 => k_is)
    (case c_d2 => k_is)
    (case k_d2 => k_is)
    (case a_d3 => k_is)
    (case l_d3 => k_is)
    (case c_d3 => k_is)
    (case k_d3 => k_is)
    (case a_d4 => k_is)
    (case l_d4 => k_is)
    (case c_d4 => k_is)
    (case k_d4 => k_is)
    (case a_d5 => k_is)
    (case l_d5 => k_is)
    (case c_d5 => k_is)
    (case k_d5 => k_is)
    (case a_d6 => k_is)
    (case l_d6 => k_is)
    (case c_d6 => k_is)
    (case k_d6 => k_is)
    (case a_d7 => k_is)
    (case l_d7 => k_is)
    (case c_d7 => k_is)
    (case k_d7 => k_is)
    (case a_d8 => k_is)
    (case l_d8 => k_is)
    (case c_d8 => k_is)
    (case k_d8 => k_is)
    (case a_d9 => k_is)
    (case l_d9 => k_is)
    (case c_d9 => k_is)
    (case k_d9 => k_is)
    (case a_d10 => k_is)
    (case l_d10 => k_is)
    (case c_d10 => k_is)
    (case k_d10 => k_is)
    (case a_d11 => k_is)
    (case l_d11 => k_is)
    (case c_d11 => k_is)
    (case k_d11 => k_is)
    (case a_d12 => k_is)
    (case l_d12 => k_is)
    (case c_d12 => k_is)
    (case k_d12 => k_is)
    (case a_d13 => k_is)
    (case l_d13 => k_is)
    (case c_d13 => k_is)
    (case k_d13 => k_is)
    (case a_or => k_is)
    (case l_or => k_is)
    (case c_or => k_is)
    (case k_or => k_is)
    (case a_fi => k_is)
    (case l_fi => k_is)
    (case c_fi => k_is)
    (case k_fi => k_is)
    (case a_ri => k_is)
    (case l_ri => k_is)
    (case c_ri => k_is)
    (case k_ri => k_is)
    (case a_la => k_is)
    (case l_la => k_is)
    (case c_la => k_is)
    (case k_la => k_is)
    (case kwS => k_is)
    (case ma_in => k_is)
    (case mi_in => k_is)
    (case ml_in => k_is)
    (case mc_in => k_is)
    (case mk_in => k_is)
    (case ma_cl => k_is)
    (case mi_cl => k_is)
    (case ml_cl => k_is)
    (case mc_cl => k_is)
    (case mk_cl => k_is)
    (case ma_ck => k_is)
    (case mi_ck => k_is)
    (case ml_ck => k_is)
    (case mc_ck => k_is)
    (case mk_ck => k_is)
    (case ma_le => k_is)
    (case mi_le => k_is)
    (case ml_le => k_is)
    (case mc_le => k_is)
    (case mk_le => k_is)
    (case pa_rights => k_is)
    (case pg_rights => k_is)
    (case pt_rights => k_is)
    (case pr_rights => k_is)
    (case pl_rights => k_is)
    (case pc_rights => k_is)
    (case pa_lefts => k_is)
    (case pg_lefts => k_is)
    (case pt_lefts => k_is)
    (case pr_lefts => k_is)
    (case pl_lefts => k_is)
    (case pc_lefts => k_is)
    (case nn_rights => k_is)
    (case nn_lefts => k_is)
    (case nn_places => k_is)
    (case nn_table => k_is)
    (case x_ic => k_is)
    (case x_pg => k_is)
    (case x_hd => k_is)
    (case x_po => k_is)
    (case x_sa => k_is)
    (case x_mk => k_is)
    (case x_kc => k_is)
    (case v_6 => k_is)
    (case v_12 => k_is)
    (case v_rd => k_is)
    (case v_ga => k_is)
    (case z_range => k_is)
    (case z_enumerate => k_is)
    (case z_len => k_is)
    (case z_tuple => k_is)
    (case z_max => k_is)
    (case z_min => k_is)
    (case z_repr => k_is)
    (case z_zip => k_is)
    (case z_isinstance => k_is)
    (case z_bool => k_is)
    (case z_int => k_is)
    (case z_list => k_is)
    (case z_reversed => k_is)
