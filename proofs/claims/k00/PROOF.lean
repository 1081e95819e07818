import PyProof.Rows.All
import Wide.All
import OpenK.AllK
import Wide.FinOn
import HandS.ForMost
import HandS.TryMany
import HandS.Walk
import KE.GoesEnum
import HandS.Defaults
import KE.KxIndex
import HandS.OwnEq
import HandS.More
import HandS.List
import PyProof.CollectStr
import HandS.ForExc
import HandS.ExcValue
import HandS.ExcIs
import HandS.ExcInit
import HandS.IsInst
import KE.KExcInit
import HandS.StrMore
import HandS.Conv
import HandS.Codes
import HandS.Style
import HandS.ExcField
import KE.GoesMore
import HandS.SortInts
import HandS.MakeKwOnly
import PySem.Challenge.RW_onewayread_k00_looms_made_and_refused
set_option Elab.async false
set_option linter.all false
set_option maxRecDepth 100000
set_option maxHeartbeats 4000000
/-! several except clauses, some of which name the error -/
namespace L2
open PySem PySem.Spec PyProof.Rows
/-- an error at g that has landed in the frame of X -/
def Lnd (X : Cx) (pins : List (Addr × Obj)) (τ : St) (G : Hp) (g : Addr) (cls : Value) (d : Option Addr) (t : Shared) : Prop :=
  ∃ (B : Heap) (t0 : Shared), Inv X pins τ G t0 ∧ (∀ b o, t0.heap.get? b = some o → b ∉ frs X.stack → B.get? b = some o) ∧ t0.heap.UpToSlots t.heap ∧
    HandSPX.FlyingZ B (X.env :: X.outer) g (Zc cls d) t.heap ∧ G g = none ∧ t.os = t0.os ∧ AllBare t.gens ∧ g ≠ X.env.locals ∧ g ∉ X.fs
section
variable {X : Cx} {pins : List (Addr × Obj)} {τ : St} {G : Hp} {g : Addr} {cls : Value} {d : Option Addr} {t : Shared}
theorem Lnd.inv (l : Lnd X pins τ G g cls d t) : Inv X pins τ G t := by
  obtain ⟨B, t0, J, n, u, f, _, o, y, _⟩ := l
  exact J.landed n f.1 u o y
theorem Lnd.as_suite (l : Lnd X pins τ G g cls d t) : ∃ oe, Zc cls d oe ∧ (∃ vs, oe.data = .fields vs) ∧ t.heap.get? g = some oe ∧ Inv (X.suite g ((g, oe) :: (X.pn ++ pins))) [] τ G t := by
  have J := l.inv
  obtain ⟨B, t0, _, _, _, f, z, _, _, n1, n2⟩ := l
  obtain ⟨oe, vs, h1, h2, h3⟩ := f.there
  exact ⟨oe, h2, ⟨vs, h3⟩, h1, J.suite h1 h3 z n1 n2⟩
theorem Lnd.again {M : Model} {A : Around} {E : Value → Shared → Prop} {Q : Unit → Shared → Prop} (l : Lnd X pins τ G g cls d t) (q : ∀ t', Lnd X pins τ G g cls d t' → Q () t') : wpAny M A (setFlight (.ref g) none) Q E t := by
  obtain ⟨B, t0, J, n, u, f, z, o, y, n1, n2⟩ := l
  exact HandSPX.lands_againZ f fun h' f' u' => q _ ⟨B, t0, J, n, u.trans u', f', z, o, y, n1, n2⟩
/-- what the clauses wish, one behind the other; a slot where the clause names the error -/
def wCls (K : PySem.W.Frag) (Wout : WX) (D : Ends) : List (Value × Option Nat × (Addr → Value → Option Addr → TS)) → WX
  | [] => Wout
  | (c, none, ts) :: r => fun cls d τ G => ∃ b, PySem.W.exmOne K cls c = some b ∧ (b = true → ∀ g, G g = none → ts g cls d D τ G) ∧ (b = false → wCls K Wout D r cls d τ G)
  | (c, some i, ts) :: r => fun cls d τ G => ∃ b, PySem.W.exmOne K cls c = some b ∧
      (b = true → ∀ g, G g = none → ts g cls d { nx := fun τ' G' => D.nx (τ'.set i none) G', rt := D.rt, bk := fun τ' G' => D.bk (τ'.set i none) G', ct := fun τ' G' => D.ct (τ'.set i none) G' } (τ.set i (some (.ref g))) G) ∧
      (b = false → wCls K Wout D r cls d τ G)
inductive ClsOk (X : Cx) : List ExceptHandler → List (Value × Option Nat × (Addr → Value → Option Addr → TS)) → Prop
  | nil : ClsOk X [] []
  | plain {x : Str} {c : Value} {ts : Addr → Value → Option Addr → TS} {b : Stmt} {bs : List Stmt} {np hp : Pos} {hds : List ExceptHandler} {l : List (Value × Option Nat × (Addr → Value → Option Addr → TS))} (hc : Names X x c)
      (hsu : ∀ (g : Addr) (oe : Obj) (cls : Value) (d : Option Addr) (pn : List (Addr × Obj)), Zc cls d oe → (∃ vs, oe.data = .fields vs) → PSs (X.suite g ((g, oe) :: pn)) (b :: bs) (ts g cls d)) (r : ClsOk X hds l) :
      ClsOk X (.ExceptHandler (some (.Name x np)) none (b :: bs) hp :: hds) ((c, none, ts) :: l)
  | named {x n : Str} {i : Nat} {c : Value} {ts : Addr → Value → Option Addr → TS} {b : Stmt} {bs : List Stmt} {np hp : Pos} {hds : List ExceptHandler} {l : List (Value × Option Nat × (Addr → Value → Option Addr → TS))} (hc : Names X x c)
      (hN : X.N.Nodup) (hi : X.N[i]? = some n) (hk : X.env.kindOf n = some .local)
      (hsu : ∀ (g : Addr) (oe : Obj) (cls : Value) (d : Option Addr) (pn : List (Addr × Obj)), Zc cls d oe → (∃ vs, oe.data = .fields vs) → PSs (X.suite g ((g, oe) :: pn)) (b :: bs) (ts g cls d)) (r : ClsOk X hds l) :
      ClsOk X (.ExceptHandler (some (.Name x np)) (some n) (b :: bs) hp :: hds) ((c, some i, ts) :: l)
/-- the test of a clause -/
theorem Lnd.test {x : Str} {c : Value} {np hp : Pos} {b : Bool} {R : Result → Shared → Prop} (l : Lnd X pins τ G g cls d t) (hc : Names X x c) (e : PySem.W.exmOne X.K cls c = some b) (q : R (.ok (if b then .brk else .next)) t) :
    codeAny (model X.prog X.w) (X.A.mark (some (.ref g))) (.handlers (.ref g) [.ExceptHandler (some (.Name x np)) none [] hp] X.env) R t := by
  obtain ⟨oe, z, hv, he, S⟩ := l.as_suite
  have ty : PySem.W.Looks (model X.prog X.w) t.heap (typeOf (.ref g)) cls := fun A1 Q1 E1 s1 k1 q1 => wpAny_typeOf_ref (k1 _ _ he) (by rw [z.1]; exact q1)
  refine codeAny_handlers_test ?_
  have look := PySem.W.exm_one (M := model X.prog X.w) l.inv.kIn ty e
  obtain ⟨h1, h2, h3 | ⟨h3, h4, h5⟩⟩ := hc
  · exact ld_glob (X := X.suite g ((g, oe) :: (X.pn ++ pins))) S h1 h3 (look.here (by exact q)) h2
  · exact ld_blt (X := X.suite g ((g, oe) :: (X.pn ++ pins))) S h1 h3 h4 (look.here (by exact q)) h5 h2
/-- the clauses, gone through -/
theorem Lnd.through {Wout : WX} {D : Ends} (hst : X.stack = X.env :: X.outer) (hfr : X.env.frame = some X.env.locals) (tk : Takes X Wout) (ok : X.Ok) {hds : List ExceptHandler} {cl : List (Value × Option Nat × (Addr → Value → Option Addr → TS))} (hk : ClsOk X hds cl) :
    ∀ {t : Shared}, Lnd X pins τ G g cls d t → wCls X.K Wout D cl cls d τ G → wpAny (model X.prog X.w) X.A (handleBy (.ref g) X.env hds) (SP X pins D) X.xe t := by
  induction hk with
  | nil =>
    intro t l wish
    refine wpAny_handleBy_nil ?_
    obtain ⟨B, t0, J, n, u, f, z, o, y, _⟩ := l
    obtain ⟨_, _, _, oe, vs, trb, _, _, hob, _, hda, htr, _⟩ := id f
    have out : wpAny (model X.prog X.w) X.A (setFlight (.ref g) X.env.frame) (fun _ t4 => wpAny (model X.prog X.w) X.A (throw (.ref g) : Sem Flow) (SP X pins D) X.xe t4) X.xe t := by
      rw [hfr]
      exact HandSPX.setFlight_upZ f fun h4 held u4 => wpAny_throw (tk _ _ ⟨g, B, t0, pins, τ, G, cls, d, rfl, J, n, u.trans u4, .inr (.inr (by rw [hst]; exact held)), z, o, y, wish⟩)
    unfold PySem.passOn
    refine wpAny_bind (wpAny_field hob hda htr ?_)
    rw [if_neg (by simp : ¬ ((Value.ref trb == Value.none) = true))]
    first
      | exact wpAny_bind (wpAny_pure (wpAny_bind out))
      | exact wpAny_bind out
  | @plain x c ts b bs np hp hds2 l2 hc hsu r ih =>
    intro t l wish
    obtain ⟨k, e, yes, no⟩ := wish
    refine wpAny_handleBy_cons (l.test hc e ?_) (by intro q; cases q)
    cases k with
    | false => exact ih l (no rfl)
    | true =>
      refine codeAny_handlers_suite (l.again fun t' l' => ?_)
      obtain ⟨oe, z, hv, _, S⟩ := l'.as_suite
      have na : G g = none := by obtain ⟨_, _, _, _, _, _, q, _⟩ := l'; exact q
      refine wpAny_mono ((hsu g oe cls d (X.pn ++ pins) z hv).run [] _ _ G _ S (yes rfl g na)) (fun fl t6 hsp => ?_) (fun _ _ q => q.elim)
      match fl, hsp with
      | .next, ⟨_, _, S6, q6⟩ => exact ⟨_, _, S6.unsuite ok, q6⟩
      | .brk, ⟨_, _, S6, q6⟩ => exact ⟨_, _, S6.unsuite ok, q6⟩
      | .cont, ⟨_, _, S6, q6⟩ => exact ⟨_, _, S6.unsuite ok, q6⟩
      | .ret _, ⟨_, _, _, S6, r6, q6⟩ => exact ⟨_, _, _, S6.unsuite ok, r6, q6⟩
  | @named x n i c ts b bs np hp hds2 l2 hc hN hi hkd hsu r ih =>
    intro t l wish
    obtain ⟨k, e, yes, no⟩ := wish
    refine wpAny_handleBy_cons (l.test hc e ?_) (by intro q; cases q)
    cases k with
    | false => exact ih l (no rfl)
    | true =>
      refine codeAny_handlers_suite_as (l.again fun t' l' => ?_)
      obtain ⟨oe, z, hv, _, S⟩ := l'.as_suite
      have na : G g = none := by obtain ⟨_, _, _, _, _, _, q, _⟩ := l'; exact q
      refine store_ok (X := X.suite g ((g, oe) :: (X.pn ++ pins))) (v := .ref g) S hN hi (.inl hkd) rfl (fun t5 S5 => ?_) (.inr hkd)
      refine wpAny_mono ((hsu g oe cls d (X.pn ++ pins) z hv).run [] t5 _ G _ S5 (yes rfl g na)) (fun fl t6 hsp => ?_) (fun _ _ q => q.elim)
      match fl, hsp with
      | .next, ⟨_, _, S6, q6⟩ => exact gone_ok (S6.unsuite ok) hN hi hkd fun t7 J7 => ⟨_, _, J7, q6⟩
      | .brk, ⟨_, _, S6, q6⟩ => exact gone_ok (S6.unsuite ok) hN hi hkd fun t7 J7 => ⟨_, _, J7, q6⟩
      | .cont, ⟨_, _, S6, q6⟩ => exact gone_ok (S6.unsuite ok) hN hi hkd fun t7 J7 => ⟨_, _, J7, q6⟩
      | .ret _, ⟨_, _, _, S6, r6, q6⟩ => exact gone_ok (S6.unsuite ok) hN hi hkd fun t7 J7 => ⟨_, _, _, J7, r6, q6⟩
/-- try: body / except X: .. / except Y as e: .. -/
theorem ps_try_cls {body : List Stmt} {h₀ : ExceptHandler} {hds : List ExceptHandler} {pos : Pos} {tb : WX → TS} {Wout : WX} {cl : List (Value × Option Nat × (Addr → Value → Option Addr → TS))} (hst : X.stack = X.env :: X.outer) (hfr : X.env.frame = some X.env.locals) (tk : Takes X Wout)
    (hb : ∀ (W : WX) (pn : List (Addr × Obj)) (xe : Value → Shared → Prop), Takes (X.tr pn xe) W → PassesOwn (model X.prog X.w) X.A X.env xe → PSs (X.tr pn xe) body (tb W)) (hh : ClsOk X (h₀ :: hds) cl) :
    PS X (.Try body (h₀ :: hds) [] [] pos) (fun D σ H => tb (wCls X.K Wout D cl) D σ H) := by
  refine ⟨fun ps s0 σ0 H0 D I0 wish => ?_⟩
  have ok := I0.ok
  have frs1 : X.A.frames = some (X.env :: X.outer) := ok.frames.trans (congrArg some hst)
  let caught : Value → Shared → Prop := fun er ta => wpAny (model X.prog X.w) X.A (noteFrame er X.env) (fun _ tb' => wpAny (model X.prog X.w) X.A (setFlight er none) (fun _ tc => wpAny (model X.prog X.w) X.A (handleBy er X.env (h₀ :: hds)) (SP X ps D) X.xe tc) X.xe tb') X.xe ta
  have land : Takes (X.tr (X.pn ++ ps) caught) (wCls X.K Wout D cl) := by
    rintro er ta ⟨g, B, t0, _, τ, G, cls, d, rfl, J0, n, u, sky, na, o, y, q⟩
    have J := J0.ofTry ok
    refine Sky.land (B := B) (a := g) (Z := Zc cls d) (L := X.env.locals) (outer := X.outer) Zc.steady frs1 hfr (by rw [← hst]; exact sky) fun h3 f3 u3 => ?_
    obtain ⟨oe, vs, e1, e2, e3⟩ := f3.there
    have away : g ∉ frs (X.env :: X.outer) := fun hm => by
      obtain ⟨_, o2, q1, q2⟩ := f3.2.2.1.mem hm
      rw [e1] at q1
      cases q1
      exact q2 _ e3
    refine Lnd.through hst hfr tk ok hh ⟨B, t0, J, n, u.trans u3, f3, na, o, y, fun z => ?_, fun hm => ?_⟩ q
    · exact away (List.mem_filterMap.mpr ⟨X.env, List.mem_cons_self, by rw [hfr, z]⟩)
    · obtain ⟨en, m1, m2⟩ := List.mem_filterMap.mp hm
      exact away (List.mem_filterMap.mpr ⟨en, List.mem_cons_of_mem _ m1, m2⟩)
  refine wpAny_Try_except (wpAny_mono ((hb _ (X.pn ++ ps) caught land PassesOwn.looking).run [] s0 σ0 H0 D (I0.toTry _) wish) (fun fl t1 z => ?_) fun _ _ z => z)
  match fl, z with
  | .next, ⟨_, _, J1, q1⟩ => exact wpAny_execs_nil ⟨_, _, J1.ofTry ok, q1⟩
  | .brk, ⟨_, _, J1, q1⟩ => exact ⟨_, _, J1.ofTry ok, q1⟩
  | .cont, ⟨_, _, J1, q1⟩ => exact ⟨_, _, J1.ofTry ok, q1⟩
  | .ret _, ⟨_, _, _, J1, r1, q1⟩ => exact ⟨_, _, _, J1.ofTry ok, r1, q1⟩
end
end L2

set_option Elab.async false
set_option linter.all false
set_option maxRecDepth 100000
set_option maxHeartbeats 4000000
/-! enumerate of a tuple -/
namespace PySem
open Sem (wp)
open PySem.Spec PyProof.Rows
theorem meets_enumerate_newB1 {v : Value} {o : Obj} {H : Heap → Prop} (B : Begins v o H) :
    Meets (Builtin.«enumerate.__new__» ⟨[.type "enumerate", v], []⟩) (fun _ R s => H s.heap ∧
      R (.ok (.ret (.ref (s.heap.push o).objs.size))) { s with heap := (s.heap.push o).push { cls := .type "enumerate", data := .fields #[.none, .bool false, .ref s.heap.objs.size, rawInt 0, .none, .none] } }) :=
  .of_wp fun prog w A R s h => by
    obtain ⟨hp, g, d, tk, os⟩ := s; obtain ⟨h1, h⟩ := h
    have hsub := sub_enumerate
    have q1 : ∀ {A' : Around} {E : Value → Shared → Prop} {Q : Value → Shared → Prop}, Q (.ref hp.objs.size) ⟨hp.push o, g, d, tk, os⟩ → wpAny (model prog w) A' (pyIter v) Q E ⟨hp, g, d, tk, os⟩ :=
      fun q => B.iter prog w _ _ ⟨hp, g, d, tk, os⟩ _ h1 q
    wp_walk using q1
    refine wpAny_stack_any fun st => wpAny_pure ?_
    split
    · rename_i c _ _ _ _ _
      cases (c == Value.type "enumerate")
      · wp_walk using q1
        exact ⟨_, rfl, h⟩
      · wp_walk using q1
        exact ⟨_, rfl, h⟩
    · wp_walk using q1
      exact ⟨_, rfl, h⟩
section
variable {prog : Program} {w : World} {A : Around} {E : Value → Shared → Prop} {s : Shared}
theorem enum_begins1 {v : Value} {o : Obj} {H : Heap → Prop} {Q : Value → Shared → Prop} (B : Begins v o H) (h1 : H s.heap)
    (h : ∀ h', IsEnum h' (s.heap.objs.size + 1) s.heap.objs.size 0 .none → h'.get? s.heap.objs.size = some o → h'.objs.size = s.heap.objs.size + 2 →
      (∀ b o, s.heap.get? b = some o → h'.get? b = some o) → Q (.ref (s.heap.objs.size + 1)) { s with heap := h' }) :
    wpAny (model prog w) A (call (.type "enumerate") [v]) Q E s := by
  refine callType_new F.called_enumerate (by decide) (F.typeCall_enumerate_1 _) (F.newCall_enumerate_1 _) (fun obj => F.args_object_init_2 obj _) F.entry_enumerate_new
    (meets_enumerate_newB1 B) ⟨h1, ?_⟩
  have hz : (s.heap.push o).objs.size = s.heap.objs.size + 1 := Heap.size_push ..
  show _ ∧ _
  rw [hz]
  have he : IsEnum ((s.heap.push o).push { cls := .type "enumerate", data := .fields #[.none, .bool false, .ref s.heap.objs.size, rawInt 0, .none, .none] }) (s.heap.objs.size + 1) s.heap.objs.size 0 .none := by
    have := Heap.get?_push_size (s.heap.push o) (o := { cls := .type "enumerate", data := .fields #[.none, .bool false, .ref s.heap.objs.size, rawInt 0, .none, .none] }) rfl
    rw [hz] at this; exact this
  refine ⟨⟨_, he, rfl⟩, h _ he (Heap.get?_push_of_some _ (Heap.get?_push_size _ B.free)) (by rw [Heap.size_push, hz]) fun b o x => Heap.get?_push_of_some _ (Heap.get?_push_of_some _ x)⟩
end
end PySem
namespace L2
open PySem PySem.Spec PyProof.Rows
/-- the tuple at a, each item in a new pair -/
def IteT (K : PySem.W.Frag) (a : Addr) : It :=
  ⟨fun i H => ∃ (xs : List V) (x : V), SqT K H a xs ∧ xs[i]? = some x, fun i H v H' => ∃ T x, v = .ref T ∧ H T = none ∧ H' = upd H T (.tup [.int (i : Nat), x]) ∧ ∀ xs, SqT K H a xs → xs[i]? = some x, fun i H => ∃ xs : List V, SqT K H a xs ∧ xs.length = i⟩
theorem turn_enumT {P : Program} {w : World} {K : PySem.W.Frag} {elts : List Expr} {kk : Nat} {tpos : Pos} (a e it : Addr) (hn : e ≠ it) (hae : a ≠ e) (hai : a ≠ it) :
    Turn P w K (.Tuple elts kk tpos) (IteT K a) [e, it] e (fun i h => (∃ old, IsEnum h e it ((i : Nat) : Int) old) ∧ h.IsTupleIter it a i) where
  mem := by simp
  obj := fun i h st b hb => by
    obtain ⟨⟨old, he⟩, ⟨o, ho, hc, hd⟩⟩ := st
    have e' : b = e ∨ b = it := by simpa using hb
    rcases e' with z | z
    · rw [z]; exact ⟨_, he, fun v q => nomatch q⟩
    · rw [z]; exact ⟨o, ho, fun v q => by rw [hd] at q; cases q⟩
  keep := fun i h h' st k => by
    obtain ⟨⟨old, he⟩, ⟨o, ho, r⟩⟩ := st
    exact ⟨⟨old, k e (by simp) _ he⟩, ⟨o, k it (by simp) _ ho, r⟩⟩
  item := by
    intro X hP hw hK hc i pins s σ H E I hf st hg
    subst hP hw hK
    obtain ⟨⟨old, he⟩, hit⟩ := st
    obtain ⟨xs, x, hq, hx⟩ := hg
    obtain ⟨its, rv, p, hz⟩ := I.tuple hq
    obtain ⟨u, hu, ru⟩ := rv.get hx
    have hel : e < s.heap.objs.size := Heap.lt_size he
    have hil : it < s.heap.objs.size := by obtain ⟨_, q, _⟩ := hit; exact Heap.lt_size q
    have hlt : i < its.toArray.size := by
      have q := (List.getElem?_eq_some_iff.mp hu).1
      simpa using q
    refine wpAny_pyNext_enum_itemD (Draws.tuple (A := X.A.in1) (I.ok.hd hc) it a hai its.toArray) he ⟨hit, p⟩ hlt hn (by simp [hn]; exact fun z => hae z.symm) fun y h' tk hy ho hst hT hsz hk => ?_
    have hyu : y = u := by
      have q : its.toArray[i]? = some y := hy
      have q2 : its.toArray[i]? = some u := by simpa using hu
      rw [q] at q2
      exact Option.some.inj q2
    subst hyu
    refine ⟨_, rfl, wpAny_letOwnedTupleGo_enum (s := { s with heap := h', toks := tk + 1 }) ho fun h'' he' sb => ?_⟩
    have hT2 : h''.get? s.heap.objs.size = some { cls := .type "tuple", data := .seq #[.int i tk, y] } := (sb.2 _ (Nat.ne_of_gt hel)).trans hT
    have new : ObjOk X.prog X.w (upd H s.heap.objs.size (.tup [.int (i : Nat), x])) h'' s.heap.objs.size (.tup [.int (i : Nat), x]) :=
      ⟨by show 2 ≤ sizeLine; decide, [.int i tk, y], .cons ⟨_, rfl⟩ (.cons ru .nil), ⟨_, hT2, rfl, _, rfl⟩⟩
    have I1 : Inv X pins σ (upd H s.heap.objs.size (.tup [.int (i : Nat), x])) { s with heap := h'', toks := tk + 1 } :=
      I.turnedNew (ch := [e, it]) (fun b ob hb q => (sb.2 b (fun z => hb (by simp [z]))).trans (hk b ob (fun z => hb (by simp [z])) (fun z => hb (by simp [z])) q)) hf (Nat.le_refl _) new
    obtain ⟨oi, hoi, ri⟩ := hst.1
    refine ⟨.ref s.heap.objs.size, _, I1, rfl, ⟨_, x, rfl, I.hok.fresh (Nat.le_refl _), rfl, fun ys hy => by rw [I.tuple_inj hy hq]; exact hx⟩, ⟨⟨y, ?_⟩, ⟨oi, (sb.2 it (Ne.symm hn)).trans hoi, ri⟩⟩, fun b hb => ?_⟩
    · have e1 : ((i + 1 : Nat) : Int) = (i : Int) + 1 := by omega
      rw [e1]; exact he'
    · have hb' : b < s.heap.objs.size := by
        have e' : b = e ∨ b = it := by simpa using hb
        rcases e' with z | z
        · rw [z]; exact hel
        · rw [z]; exact hil
      rw [upd_ne (Nat.ne_of_lt hb')]
      exact (hf b hb).1
  done := by
    intro X hP hw hK hc i pins s σ H E I hf st hg
    subst hP hw hK
    obtain ⟨⟨old, he⟩, hit⟩ := st
    obtain ⟨xs, hq, hx⟩ := hg
    obtain ⟨its, rv, p, hz⟩ := I.tuple hq
    obtain ⟨f0, f1, f2, f3, f4, f5⟩ := hf it (by simp)
    have hl := rv.length
    have hn' : i = its.toArray.size := by simp; omega
    subst hn'
    exact wpAny_pyNext_enum_endD (Draws.tuple (A := X.A.in1) (I.ok.hd hc) it a hai its.toArray) he ⟨hit, p⟩ fun h' eb => ⟨rfl, I.turned (t' := s.toks) (fun b o hb q => eb b o hb q) f0 f1 f3 f4 f5⟩
  self := fun A i s Q E st h => let ⟨⟨_, he⟩, _⟩ := st; wpAny_pyIter_enum he h
def iEnumT (K : PySem.W.Frag) (ta : TA) : TI := fun σ H R => ta σ H fun vs H1 => ∃ a xs, vs = [.ref a] ∧ SqT K H1 a xs ∧ R (IteT K a) H1
theorem pi_enumT {X : Cx} {e : Expr} {ta : TA} {p pos tpos : Pos} {elts : List Expr} {kk : Nat} (hg : Gl X "enumerate") (hm : X.mg "enumerate" = none) (ha : PA X [e] ta) (hs : starEach [e] X.env = [(false, eval e X.env)] := by rfl) :
    PI X (.Tuple elts kk tpos) (.Call (.Name "enumerate" p) [e] [] pos) (iEnumT X.K ta) := by
  refine ⟨fun pins s σ H R I h => ?_⟩
  refine Call_ (ld_blt I hg hm boot_enumerate (PyProof.Rows.callWith_type1 (thn (ha.run pos pins s σ H _ I h) fun us s1 ⟨vs, H1, I1, r1, q1⟩ => ?_) hs rfl))
  obtain ⟨a, xs, ex, hq, q⟩ := q1
  subst ex
  cases r1 with
  | cons r rr =>
    cases rr
    cases r
    obtain ⟨its, rv, p', hz⟩ := I1.tuple hq
    have hal : a < s1.heap.objs.size := by obtain ⟨_, q, _⟩ := p'; exact Heap.lt_size q
    refine enum_begins1 (begins_tuple a its.toArray) (show s1.heap.IsTuple a its.toArray from p') fun h' he hit hsz hk => wpAny_pyIter_enum he ?_
    have I2 : Inv X pins σ H1 { s1 with heap := h' } := I1.kept (t' := s1.toks) hk
    refine ⟨s1.heap.objs.size + 1, [s1.heap.objs.size + 1, s1.heap.objs.size], _, _, H1, rfl, I2, turn_enumT a (s1.heap.objs.size + 1) s1.heap.objs.size (Nat.succ_ne_self _) (Nat.ne_of_lt (Nat.lt_succ_of_lt hal)) (Nat.ne_of_lt hal), ⟨⟨.none, he⟩, ⟨_, hit, rfl, rfl⟩⟩, fun b hb => ?_, q⟩
    have e' : b = s1.heap.objs.size + 1 ∨ b = s1.heap.objs.size := by simpa using hb
    have hle : s1.heap.objs.size ≤ b := by
      rcases e' with z | z
      · rw [z]; exact Nat.le_add_right _ _
      · rw [z]; exact Nat.le_refl _
    exact I1.fpOk hle (I1.hok.fresh hle)
theorem walk_enumT {K : PySem.W.Frag} {a : Addr} {xs : List V} : Walk (IteT K a) xs.length (fun H => SqT K H a xs) (YPair (fun i => some (.int (i : Nat))) (fun i => xs[i]?)) :=
by
  refine ⟨fun i _ hi q => ⟨xs, xs[i], q, by simp [hi]⟩, fun _ q => ⟨xs, q, rfl⟩, fun i H v H' _ q y => ?_⟩
  obtain ⟨T, x, h1, h2, h3, h4⟩ := y
  exact ⟨T, .int (i : Nat), x, h1, h2, h3, rfl, h4 xs q⟩
end L2

set_option Elab.async false
set_option linter.all false
set_option maxRecDepth 100000
set_option maxHeartbeats 4000000
/-! a call by keywords alone; a text times a number -/
namespace L2
open PySem PySem.Spec PyProof.Rows
theorem Fun.kbinds {K : PySem.W.Frag} {x qual : Str} {st : Stmt} {f : Addr} {fd : FuncData} {ps ks : List Str} (F : Fun K x qual st f fd) (g : {α : Type} → List α → List α)
    (h : ∀ (kV doc pm : Value) (an : Option Addr) (cdv ct : Value) (ws : List Value), ws.length = ks.length → bindArgs (PySem.W.fnOf x qual (defArgs st) (defBody st) (defScope st) .none kV doc pm an cdv ct) ⟨[], ks.zip ws⟩ = pure (ps.zip (g ws)))
    (hrel : ∀ {zs : List V} {ws : List Value}, Vals zs ws → Vals (g zs) (g ws)) : KBn K fd ps 0 ks (fun _ ws => g ws) (fun _ zs => g zs) := by
  obtain ⟨oc, od, kV, doc, pm, an, cdv, ct, osl, rfl, lk, hcd⟩ := F.ex
  refine ⟨fun s us ws _ h0 hl => ?_, fun _ r => hrel r⟩
  cases us with
  | nil => exact BindsTo.of_eq (h kV doc pm an cdv ct ws hl)
  | cons a r => cases h0
section
variable {X : Cx} {CX : CXT} {k : Nat} {f : Addr} {fd : FuncData} {ps ks : List Str} {sp : Sp} {E : XK} {x : Str} {p pos : Pos} {kws : List Keyword} {tk : TA} {g : List Value → List Value → List Value} {gV : List V → List V → List V}
theorem pe_callN0 (F : FnOk X.prog X.w X.K X.mg X.base CX k f fd ps sp) (hr : Room k X.A) (hg : Gl X x) (hm : X.mg x = some (.ref f)) (hk : PySem.W.keepIn X.K (.ref f) = true) (hb : KBn X.K fd ps 0 ks g gV) (hx : Passes CX X E)
    (hkw : PK X kws tk) (hall : (backToKw pos (keywordEach kws X.env)).all (·.1.isSome) = true := by rfl) (hks : (backToKw pos (keywordEach kws X.env)).filterMap (·.1) = ks := by rfl)
    (hdb : (x == ("__debug__" : Str)) = false := by decide)
    (hpl : ((backTo pos (starEach [] X.env)).any (·.1) || (backToKw pos (keywordEach kws X.env)).any (·.1.isNone)) = false := by rfl) :
    PE X (.Call (.Name x p) [] kws pos) (tCallN 0 ks.length sp gV E tNil tk) := by
  refine ⟨fun pins s σ H Q I h => ?_⟩
  refine wpAny_Call_Name_kw (ld_glob I hg hm ?_ hdb)
  refine PySem.W.callWith_KW0 (h₀ := X.base) I.ok.mod.kin hk hall ?_ hpl
  refine thn (hkw.run pos pins s σ H _ I h) fun ws s2 ⟨zs, H2, I2, rz, l1, l2, q2⟩ => ⟨I2.kIn, ?_⟩
  rw [hks]
  exact run_fnN (us := []) (vs := []) F hr hb hx I2 .nil rz rfl l2 q2
theorem op_mul_str : OpR X (binaryOp .Mult) (fun x y H Q => ∃ z n, x = .str z ∧ y = .int n ∧ z.length ≤ 16 ∧ -(2 ^ 63 : Int) ≤ n ∧ n ≤ 1048576 ∧ Q (.str (Txt.mul z n)) H) := by
  intro pins s σ H x y v u Q I rx ry h
  obtain ⟨z, n, rfl, rfl, h1, h2, h3, q⟩ := h
  obtain ⟨t, rfl⟩ := rx
  obtain ⟨t', rfl⟩ := ry
  exact SB.mul (mulOk_of 16 1048576 h1 h3 h2 (by decide) (by decide)) fun t' tk => ⟨.str _, H, I.tok _, ⟨_, rfl⟩, q⟩
end
end L2

set_option Elab.async false
set_option linter.all false
set_option maxRecDepth 100000
set_option maxHeartbeats 4000000
/-! x != y of two objects of a class with an own __eq__ and no __ne__ -/
namespace HN
open PySem PySem.Spec PyProof.Rows PySem.SeqAt
section
variable {M : Model} {prog : Program} {w : World} {A : Around} {E : Value → Shared → Prop} {s : Shared} {K : PySem.W.Frag} {x C f : Addr} {ox : Obj} {od : Option Obj} {b tb : Value}
theorem ifBound_objNe {args : List Value} {Q : Option Value → Shared → Prop} (X : K.In s.heap) (I : PySem.W.InstAt s.heap x ox C od) (hs : PySem.W.findIn K (.ref C) "__ne__" = some (some (.builtin "object.__ne__")))
    (h : wpAny M A (call (.builtin "object.__ne__") (.ref x :: args)) (fun v => Q (some v)) E s) : wpAny M A (callSpecialIfBound? (.ref x) "__ne__" args) Q E s := by
  simp only [callSpecialIfBound?, bindSpecialIfBound?]
  refine wpAny_holding (wpAny_bind (wpAny_bind (wpAny_bind (I.type.here ((PySem.W.looks_findIn X hs).here ?_)))))
  refine wpAny_bind (wpAny_askSetting (wpAny_ite ?_))
  have fin : wpAny M A (call (.builtin "object.__ne__") ([.ref x] ++ args) >>= fun v => pure (some v)) Q E s := wpAny_bind (wpAny_mono h (fun v s' h' => wpAny_pure h') fun _ _ h' => h')
  split
  · exact wpAny_bind (wpAny_of_eq (F.cmp_object.ne.bind _) (wpAny_pure (by exact fin)))
  · exact wpAny_tryCatch (wpAny_bind (wpAny_of_eq (F.cmp_object.ne.bind _) (wpAny_pure (by exact fin))))
/-- what object.__ne__ does, where the class's own __eq__ says True -/
theorem entry_ne {R : Fin → Shared → Prop} (hu : A.units < cLine) (X : K.In s.heap) (I : PySem.W.InstAt s.heap x ox C od) (hs : PySem.W.findIn K (.ref C) "__eq__" = some (some (.ref f))) (hf : PySem.W.isFn K (.ref f) = true)
    (h : wpAny M A (call (.ref f) [.ref x, b]) (fun v s' => v = .bool true ∧ R (.done (.ret (.bool false))) s') E s) : wpAny M A (Builtin.«object.__ne__» ⟨[.ref x, b], []⟩) R E s := by
  unfold Builtin.«object.__ne__»
  have q : wpAny M A (callSpecialIfBound? (.ref x) "__eq__" [b]) (fun r s' => r = some (.bool true) ∧ R (.done (.ret (.bool false))) s') E s :=
    PySem.W.ifBound_K X I hs hf (wpAny_mono h (fun v s' ⟨e, z⟩ => ⟨by rw [e], z⟩) fun _ _ z => z)
  repeat (first | with_reducible refine wpAny_cRoomFor hu ?_ | with_reducible refine wpAny_bind (wpAny_mono q (fun r s' ⟨e, z⟩ => ?_) fun _ _ z => z) | wp_step)
  subst e
  refine wpAny_bind (wpAny_truthy_bool ?_)
  exact wpAny_pure z
theorem call_objNe {Q : Value → Shared → Prop} (hu : A.in1.units < cLine) (X : K.In s.heap) (I : PySem.W.InstAt s.heap x ox C od) (hm : PySem.W.mroIn K C (.type "object") = some true) (hs : PySem.W.findIn K (.ref C) "__eq__" = some (some (.ref f))) (hf : PySem.W.isFn K (.ref f) = true)
    (h : wpAny (model prog w) A.in1 (call (.ref f) [.ref x, b]) (fun v s' => v = .bool true ∧ Q (.bool false) s') E s) :
    wpAny (model prog w) A (call (.builtin "object.__ne__") [.ref x, b]) Q E s :=
  wpAny_call (codeAny_call_builtin F.cmp_object.ne.plain F.cmpEntry_ne (PySem.W.check_slot F.cmpKind_ne F.cmpSplit_ne (I.type.andThen (PySem.W.looks_mroIn X hm)) (F.cmpArgs_ne _ _) (entry_ne hu X I hs hf h)))
theorem rc_ne {L : Addr} {h₀ : Heap} {m : Str → Option Value} {Q : Value → Shared → Prop} (hu : A.units < cLine) (hu1 : A.in1.units < cLine) (F : Fr h₀ L s.heap m) (X₀ : K.In h₀) (I : PySem.W.InstAt s.heap x ox C od) (hb : PySem.W.Looks (model prog w) s.heap (typeOf b) tb) (hn : PySem.W.notFirst K C tb = true)
    (hm : PySem.W.mroIn K C (.type "object") = some true) (hne : PySem.W.findIn K (.ref C) "__ne__" = some (some (.builtin "object.__ne__"))) (hs : PySem.W.findIn K (.ref C) "__eq__" = some (some (.ref f))) (hf : PySem.W.isFn K (.ref f) = true)
    (h : wpAny (model prog w) A.in1 (call (.ref f) [.ref x, b]) (fun v s' => v = .bool true ∧ Q (.bool false) s') E s) : wpAny (model prog w) A (richCompare .NotEq (.ref x) b) Q E s := by
  have X := X₀.keeps F.keep
  have one : wpAny (model prog w) A (tryCompare (.ref x) (cmpInfo .NotEq).2.1 b) (fun r s' => ∃ v, r = some v ∧ Q v s') E s := by
    unfold tryCompare
    refine wpAny_bind (ifBound_objNe X I hne (call_objNe hu1 X I hm hs hf (wpAny_mono h (fun v s' hv => ?_) fun _ _ e => e)))
    exact ⟨hv.1, wpAny_pure ⟨_, rfl, hv.2⟩⟩
  unfold richCompare
  simp only [oneThing_ref]
  refine wpAny_holding (wpAny_bind (wpAny_cRoomFor hu ?_))
  refine wpAny_bind (I.type.here (wpAny_bind (hb.here ?_)))
  split
  · rename_i q
    have e : PySem.W.subIn K tb (.ref C) = some false := by
      rcases Bool.or_eq_true_iff.mp hn with e | e
      · rw [beq_iff_eq.mp e] at q; simp at q
      · exact beq_iff_eq.mp e
    refine wpAny_bind ((PySem.W.looks_subIn X e).here ?_)
    simp only [Bool.false_eq_true, if_false]
    refine wpAny_bind (wpAny_mono one (fun r s' z => ?_) fun _ _ e => e)
    obtain ⟨v, rfl, hq⟩ := z
    exact wpAny_pure hq
  · refine wpAny_bind (wpAny_pure ?_)
    simp only [Bool.false_eq_true, if_false]
    refine wpAny_bind (wpAny_mono one (fun r s' z => ?_) fun _ _ e => e)
    obtain ⟨v, rfl, hq⟩ := z
    exact wpAny_pure hq
end
end HN
namespace L2
open PySem PySem.Spec PyProof.Rows
section
variable {X : Cx} {n : Nat}
def rNeG (D : Eqv) : R2 := fun x y H Q => D x y H ∧ ∀ H', Ext H H' → Q (.bl false) H'
/-- x != y, two objects of the class at C, equal by its own __eq__ -/
theorem op_neG {CX : CXT} {C f : Addr} {fd : FuncData} {ps : List Str} {R : Addr → Addr → Hp → Prop} {E : XK} (F : FnOk X.prog X.w X.K X.mg X.base CX n f fd ps (spEq R))
    (hs : PySem.W.findIn X.K (.ref C) "__eq__" = some (some (.ref f))) (hf : PySem.W.isFn X.K (.ref f) = true) (hne : PySem.W.findIn X.K (.ref C) "__ne__" = some (some (.builtin "object.__ne__"))) (hm : PySem.W.mroIn X.K C (.type "object") = some true)
    (hb : Binds X.K fd ps []) (hx : Passes CX X E) (hr : Room (n + 1) X.A) : OpR X (compareOp .NotEq) (rNeG (DIns C R)) := by
  intro pins s σ H x y u v Q I rx ry hq
  obtain ⟨⟨a, b, dx, dy, fs, gs, rfl, rfl, ha, hb', hr'⟩, q⟩ := hq
  cases rx
  cases ry
  have sb : Sub X n X.A.in1 := Sub.in1 ⟨hr, rfl⟩
  obtain ⟨mA, J, _⟩ := ins_get I.hok ha
  obtain ⟨mB, J', _⟩ := ins_get I.hok hb'
  obtain ⟨od, J, _⟩ := J.look
  obtain ⟨od', J', _⟩ := J'.look
  obtain ⟨m, hF⟩ := I.fr
  show wpAny (model X.prog X.w) X.A (richCompare .NotEq (.ref a) (.ref b)) (EP X pins σ Q) X.xe s
  refine HN.rc_ne (tb := .ref C) hr.units0 sb.room.units0 hF I.ok.mod.kin J J'.type (by simp [PySem.W.notFirst]) hm hne hs hf ?_
  have hsp : spEq R [.ref a, .ref b] H (fun v H' => v = .bl true ∧ Ext H H') E := ⟨a, b, rfl, hr', fun H' e => ⟨rfl, e⟩⟩
  have e0 : Env0 X.prog X.w X.K X.mg X.base X.A.in1 X.stack s H := by
    have e := I.env0
    exact ⟨by rw [sb.fr]; exact e.frames, e.mod, e.bs, e.bsz, e.funs, e.frf, e.hok, e.bare⟩
  have hl := F.len _ _ _ _ hsp
  have r2 : Vals [V.ref a, V.ref b] [Value.ref a, Value.ref b] := .cons rfl (.cons rfl .nil)
  refine wpAny_call (codeAny_mono (F.run X.A.in1 X.stack s H ⟨[.ref a, .ref b], []⟩ [.ref a, .ref b] [.ref a, .ref b] _ E sb.room e0 (by
    have := hb s [.ref a, .ref b] I.kIn (by simpa using hl)
    simpa using this) r2 hsp) fun r s' hq => ?_)
  cases r with
  | error e => exact hx pins σ H s e s' I hq
  | ok fl =>
    cases fl with
    | ret w =>
      obtain ⟨z, H', I', rz, ez, ex⟩ := I.after hq
      subst ez
      cases rz
      exact ⟨rfl, .bl false, H', I', rfl, q H' ex⟩
    | next => exact False.elim hq
    | brk => exact False.elim hq
    | cont => exact False.elim hq
end
end L2

set_option Elab.async false
set_option linter.all false
set_option maxRecDepth 100000
set_option maxHeartbeats 4000000
/-! x != y of two objects of a class with an own __eq__ and no __ne__ -/
namespace HNB
open PySem PySem.Spec PyProof.Rows PySem.SeqAt
section
variable {M : Model} {prog : Program} {w : World} {A : Around} {E : Value → Shared → Prop} {s : Shared} {K : PySem.W.Frag} {x C f : Addr} {ox : Obj} {od : Option Obj} {b tb : Value} {rb : Bool}
theorem ifBound_objNe {args : List Value} {Q : Option Value → Shared → Prop} (X : K.In s.heap) (I : PySem.W.InstAt s.heap x ox C od) (hs : PySem.W.findIn K (.ref C) "__ne__" = some (some (.builtin "object.__ne__")))
    (h : wpAny M A (call (.builtin "object.__ne__") (.ref x :: args)) (fun v => Q (some v)) E s) : wpAny M A (callSpecialIfBound? (.ref x) "__ne__" args) Q E s := by
  simp only [callSpecialIfBound?, bindSpecialIfBound?]
  refine wpAny_holding (wpAny_bind (wpAny_bind (wpAny_bind (I.type.here ((PySem.W.looks_findIn X hs).here ?_)))))
  refine wpAny_bind (wpAny_askSetting (wpAny_ite ?_))
  have fin : wpAny M A (call (.builtin "object.__ne__") ([.ref x] ++ args) >>= fun v => pure (some v)) Q E s := wpAny_bind (wpAny_mono h (fun v s' h' => wpAny_pure h') fun _ _ h' => h')
  split
  · exact wpAny_bind (wpAny_of_eq (F.cmp_object.ne.bind _) (wpAny_pure (by exact fin)))
  · exact wpAny_tryCatch (wpAny_bind (wpAny_of_eq (F.cmp_object.ne.bind _) (wpAny_pure (by exact fin))))
/-- what object.__ne__ does, where the class's own __eq__ says True -/
theorem entry_ne {R : Fin → Shared → Prop} (hu : A.units < cLine) (X : K.In s.heap) (I : PySem.W.InstAt s.heap x ox C od) (hs : PySem.W.findIn K (.ref C) "__eq__" = some (some (.ref f))) (hf : PySem.W.isFn K (.ref f) = true)
    (h : wpAny M A (call (.ref f) [.ref x, b]) (fun v s' => v = .bool rb ∧ R (.done (.ret (.bool (!rb)))) s') E s) : wpAny M A (Builtin.«object.__ne__» ⟨[.ref x, b], []⟩) R E s := by
  unfold Builtin.«object.__ne__»
  have q : wpAny M A (callSpecialIfBound? (.ref x) "__eq__" [b]) (fun r s' => r = some (.bool rb) ∧ R (.done (.ret (.bool (!rb)))) s') E s :=
    PySem.W.ifBound_K X I hs hf (wpAny_mono h (fun v s' ⟨e, z⟩ => ⟨by rw [e], z⟩) fun _ _ z => z)
  repeat (first | with_reducible refine wpAny_cRoomFor hu ?_ | with_reducible refine wpAny_bind (wpAny_mono q (fun r s' ⟨e, z⟩ => ?_) fun _ _ z => z) | wp_step)
  subst e
  refine wpAny_bind (wpAny_truthy_bool ?_)
  exact wpAny_pure z
theorem call_objNe {Q : Value → Shared → Prop} (hu : A.in1.units < cLine) (X : K.In s.heap) (I : PySem.W.InstAt s.heap x ox C od) (hm : PySem.W.mroIn K C (.type "object") = some true) (hs : PySem.W.findIn K (.ref C) "__eq__" = some (some (.ref f))) (hf : PySem.W.isFn K (.ref f) = true)
    (h : wpAny (model prog w) A.in1 (call (.ref f) [.ref x, b]) (fun v s' => v = .bool rb ∧ Q (.bool (!rb)) s') E s) :
    wpAny (model prog w) A (call (.builtin "object.__ne__") [.ref x, b]) Q E s :=
  wpAny_call (codeAny_call_builtin F.cmp_object.ne.plain F.cmpEntry_ne (PySem.W.check_slot F.cmpKind_ne F.cmpSplit_ne (I.type.andThen (PySem.W.looks_mroIn X hm)) (F.cmpArgs_ne _ _) (entry_ne (rb := rb) hu X I hs hf h)))
theorem rc_ne {L : Addr} {h₀ : Heap} {m : Str → Option Value} {Q : Value → Shared → Prop} (hu : A.units < cLine) (hu1 : A.in1.units < cLine) (F : Fr h₀ L s.heap m) (X₀ : K.In h₀) (I : PySem.W.InstAt s.heap x ox C od) (hb : PySem.W.Looks (model prog w) s.heap (typeOf b) tb) (hn : PySem.W.notFirst K C tb = true)
    (hm : PySem.W.mroIn K C (.type "object") = some true) (hne : PySem.W.findIn K (.ref C) "__ne__" = some (some (.builtin "object.__ne__"))) (hs : PySem.W.findIn K (.ref C) "__eq__" = some (some (.ref f))) (hf : PySem.W.isFn K (.ref f) = true)
    (h : wpAny (model prog w) A.in1 (call (.ref f) [.ref x, b]) (fun v s' => v = .bool rb ∧ Q (.bool (!rb)) s') E s) : wpAny (model prog w) A (richCompare .NotEq (.ref x) b) Q E s := by
  have X := X₀.keeps F.keep
  have one : wpAny (model prog w) A (tryCompare (.ref x) (cmpInfo .NotEq).2.1 b) (fun r s' => ∃ v, r = some v ∧ Q v s') E s := by
    unfold tryCompare
    refine wpAny_bind (ifBound_objNe X I hne (call_objNe (rb := rb) hu1 X I hm hs hf (wpAny_mono h (fun v s' hv => ?_) fun _ _ e => e)))
    exact ⟨hv.1, wpAny_pure ⟨_, rfl, hv.2⟩⟩
  unfold richCompare
  simp only [oneThing_ref]
  refine wpAny_holding (wpAny_bind (wpAny_cRoomFor hu ?_))
  refine wpAny_bind (I.type.here (wpAny_bind (hb.here ?_)))
  split
  · rename_i q
    have e : PySem.W.subIn K tb (.ref C) = some false := by
      rcases Bool.or_eq_true_iff.mp hn with e | e
      · rw [beq_iff_eq.mp e] at q; simp at q
      · exact beq_iff_eq.mp e
    refine wpAny_bind ((PySem.W.looks_subIn X e).here ?_)
    simp only [Bool.false_eq_true, if_false]
    refine wpAny_bind (wpAny_mono one (fun r s' z => ?_) fun _ _ e => e)
    obtain ⟨v, rfl, hq⟩ := z
    exact wpAny_pure hq
  · refine wpAny_bind (wpAny_pure ?_)
    simp only [Bool.false_eq_true, if_false]
    refine wpAny_bind (wpAny_mono one (fun r s' z => ?_) fun _ _ e => e)
    obtain ⟨v, rfl, hq⟩ := z
    exact wpAny_pure hq
end
end HNB
namespace L2
open PySem PySem.Spec PyProof.Rows
section
variable {X : Cx} {n : Nat}
/-- what the own == says of two objects -/
def spEqB (R : Addr → Addr → Bool → Hp → Prop) : Sp := fun vs H Q _ => ∃ a b r, vs = [.ref a, .ref b] ∧ R a b r H ∧ ∀ H', Ext H H' → Q (.bl r) H'
def rEqB (C : Addr) (R : Addr → Addr → Bool → Hp → Prop) : R2 := fun x y H Q => ∃ a b dx dy fs gs r, x = .ref a ∧ y = .ref b ∧ H a = some (.ins C dx fs) ∧ H b = some (.ins C dy gs) ∧ R a b r H ∧ ∀ H', Ext H H' → Q (.bl r) H'
def rNeB (C : Addr) (R : Addr → Addr → Bool → Hp → Prop) : R2 := fun x y H Q => ∃ a b dx dy fs gs r, x = .ref a ∧ y = .ref b ∧ H a = some (.ins C dx fs) ∧ H b = some (.ins C dy gs) ∧ R a b r H ∧ ∀ H', Ext H H' → Q (.bl (!r)) H'
/-- the call of the own == -/
theorem call_eqB {CX : CXT} {f : Addr} {fd : FuncData} {ps : List Str} {R : Addr → Addr → Bool → Hp → Prop} {E : XK} {A : Around} {pins : List (Addr × Obj)} {σ : St} {H : Hp} {s : Shared} {a b : Addr} {r : Bool} (F : FnOk X.prog X.w X.K X.mg X.base CX n f fd ps (spEqB R))
    (hb : Binds X.K fd ps []) (hx : Passes CX X E) (sb : Sub X n A) (I : Inv X pins σ H s) (hr : R a b r H) :
    wpAny (model X.prog X.w) A (call (.ref f) [.ref a, .ref b]) (fun v s' => v = .bool r ∧ ∃ H', Inv X pins σ H' s' ∧ Ext H H') X.xe s := by
  have hsp : spEqB R [.ref a, .ref b] H (fun v H' => v = .bl r ∧ Ext H H') E := ⟨a, b, r, rfl, hr, fun H' e => ⟨rfl, e⟩⟩
  have e0 : Env0 X.prog X.w X.K X.mg X.base A X.stack s H := by
    obtain ⟨p1, p2, p3, p4, p5, p6, p7, p8⟩ := I.env0
    exact ⟨by rw [sb.fr]; exact p1, p2, p3, p4, p5, p6, p7, p8⟩
  have two : Vals [V.ref a, V.ref b] [Value.ref a, Value.ref b] := .cons rfl (.cons rfl .nil)
  have bd := hb s [.ref a, .ref b] I.kIn (by simpa using F.len _ _ _ _ hsp)
  have go := F.run A X.stack s H ⟨[.ref a, .ref b], []⟩ [.ref a, .ref b] [.ref a, .ref b] _ E sb.room e0 (by simpa using bd) two hsp
  refine wpAny_call (codeAny_mono go fun z t hz => ?_)
  match z, hz with
  | .error e, hz => exact hx pins σ H s e t I hz
  | .ok (.ret w'), hz =>
    obtain ⟨y, H', I', ry, rfl, ex⟩ := I.after hz
    cases ry
    exact ⟨rfl, H', I', ex⟩
  | .ok .next, hz => exact hz.elim
  | .ok .brk, hz => exact hz.elim
  | .ok .cont, hz => exact hz.elim
theorem op_eqB {CX : CXT} {C f : Addr} {fd : FuncData} {ps : List Str} {R : Addr → Addr → Bool → Hp → Prop} {E : XK} (F : FnOk X.prog X.w X.K X.mg X.base CX n f fd ps (spEqB R))
    (hs : PySem.W.findIn X.K (.ref C) "__eq__" = some (some (.ref f))) (hf : PySem.W.isFn X.K (.ref f) = true) (hb : Binds X.K fd ps []) (hx : Passes CX X E) (hr : Room n X.A) : OpR X (compareOp .Eq) (rEqB C R) := by
  intro pins s σ H x y u v Q I rx ry hq
  obtain ⟨a, b, dx, dy, fs, gs, r, rfl, rfl, ha, hb', hR, q⟩ := hq
  cases rx
  cases ry
  obtain ⟨mA, J, _⟩ := ins_get I.hok ha
  obtain ⟨mB, J', _⟩ := ins_get I.hok hb'
  obtain ⟨od, J, _⟩ := J.look
  obtain ⟨od', J', _⟩ := J'.look
  obtain ⟨m, hF⟩ := I.fr
  show wpAny (model X.prog X.w) X.A (richCompare .Eq (.ref a) (.ref b)) (EP X pins σ Q) X.xe s
  refine PySem.W.cmp_K (tb := .ref C) hr.units0 hF I.ok.mod.kin J J'.type (by simp [PySem.W.notFirst]) hs hf (wpAny_mono (call_eqB F hb hx ⟨hr, rfl⟩ I hR) (fun w' t z => ?_) fun _ _ e => e)
  obtain ⟨rfl, H', I', ex⟩ := z
  exact ⟨.bl r, H', I', rfl, q H' ex⟩
theorem op_neB {CX : CXT} {C f : Addr} {fd : FuncData} {ps : List Str} {R : Addr → Addr → Bool → Hp → Prop} {E : XK} (F : FnOk X.prog X.w X.K X.mg X.base CX n f fd ps (spEqB R))
    (hs : PySem.W.findIn X.K (.ref C) "__eq__" = some (some (.ref f))) (hf : PySem.W.isFn X.K (.ref f) = true) (hne : PySem.W.findIn X.K (.ref C) "__ne__" = some (some (.builtin "object.__ne__"))) (hm : PySem.W.mroIn X.K C (.type "object") = some true)
    (hb : Binds X.K fd ps []) (hx : Passes CX X E) (hr : Room (n + 1) X.A) : OpR X (compareOp .NotEq) (rNeB C R) := by
  intro pins s σ H x y u v Q I rx ry hq
  obtain ⟨a, b, dx, dy, fs, gs, r, rfl, rfl, ha, hb', hR, q⟩ := hq
  cases rx
  cases ry
  obtain ⟨mA, J, _⟩ := ins_get I.hok ha
  obtain ⟨mB, J', _⟩ := ins_get I.hok hb'
  obtain ⟨od, J, _⟩ := J.look
  obtain ⟨od', J', _⟩ := J'.look
  obtain ⟨m, hF⟩ := I.fr
  have sb : Sub X n X.A.in1 := Sub.in1 ⟨hr, rfl⟩
  show wpAny (model X.prog X.w) X.A (richCompare .NotEq (.ref a) (.ref b)) (EP X pins σ Q) X.xe s
  refine HNB.rc_ne (tb := .ref C) (rb := r) hr.units0 sb.room.units0 hF I.ok.mod.kin J J'.type (by simp [PySem.W.notFirst]) hm hne hs hf (wpAny_mono (call_eqB F hb hx sb I hR) (fun w' t z => ?_) fun _ _ e => e)
  obtain ⟨rfl, H', I', ex⟩ := z
  exact ⟨rfl, .bl (!r), H', I', rfl, q H' ex⟩
end
end L2

set_option Elab.async false
set_option linter.all false
set_option maxRecDepth 100000
set_option maxHeartbeats 4000000
/-! sorted(text): its signs, ascending -/
namespace L2
open PySem PySem.Spec PyProof.Rows
def sgs (z : Str) : List Str := z.cps.toList.map fun c => ⟨#[c]⟩
def rSortedT : List V → Hp → VK → Prop := fun vs H Q => ∃ z : Str, vs = [V.str z] ∧ z.cps.size < 64 ∧
  ∀ (ys : List Str) (p : Addr), ys.Perm (sgs z) → sortedS ys = true → H p = none → Q (.ref p) (upd H p (.lst (ys.map V.str)))
theorem strs_signs {z : Str} {acc : Array Value} (h : ItemsOf (SignAt z) acc z.cps.size) : StrsAre acc.toList (sgs z) := by
  obtain ⟨hs, hi⟩ := h
  have key : ∀ (l : List Value) (ds : List Nat), l.length = ds.length → (∀ (j : Nat) (v : Value), l[j]? = some v → ∃ (c : Nat) (u : Tok), ds[j]? = some c ∧ v = .str ⟨#[c]⟩ u) → StrsAre l (ds.map fun c => (⟨#[c]⟩ : Str)) := by
    intro l
    induction l with
    | nil =>
      intro ds hl _
      cases ds with
      | nil => exact .nil
      | cons => cases hl
    | cons v r ih =>
      intro ds hl h
      cases ds with
      | nil => cases hl
      | cons d ds =>
        obtain ⟨c, u, h1, rfl⟩ := h 0 v rfl
        cases h1
        exact .cons _ u (ih ds (by simpa using hl) fun j v hj => h (j + 1) v hj)
  unfold sgs
  refine key acc.toList z.cps.toList (by simpa using hs) fun j v hj => ?_
  obtain ⟨c, u, h1, h2⟩ := hi j v (by simpa using hj)
  exact ⟨c, u, by simpa using h1, h2⟩
theorem StrsAre_len {vs : List Value} {ss : List Str} (h : StrsAre vs ss) : vs.length = ss.length := by
  induction h with
  | nil => rfl
  | cons _ _ _ ih => simp [ih]
theorem cr_sortedT {X : Cx} (hc : X.calm = true) : CallR X (.builtin "sorted") rSortedT := by
  intro pins s σ H vs us Q I r h
  obtain ⟨z, rfl, h64, q⟩ := h
  obtain ⟨t, rfl⟩ : ∃ t, us = [Value.str z t] := by
    cases r with
    | cons r1 r2 =>
      cases r2
      obtain ⟨t, rfl⟩ := r1
      exact ⟨t, rfl⟩
  have hh : X.A.handled = none := I.ok.hd hc
  refine Calls.call_function_entry kind_sorted plain_sorted entry_sorted (args_sorted1 _) ?_
  unfold Builtin.«sorted»
  refine wpAny_bind (m := checkCount "sorted" 1 1 _) (wpAny_pure ?_)
  refine wpAny_bind (wpAny_collect_str (A := X.A.in1) hh z t (fun s' acc hk hg hd ho hacc => ?_) (Nat.le_trans (Nat.le_of_lt h64) (by decide)))
  obtain ⟨hp0, g0, d0, t0, o0⟩ := s'
  dsimp only at hg hd ho hk
  subst hg hd ho
  have hS := strs_signs hacc
  have hl : acc.toList.length < 64 := by
    have := hacc.1
    simp
    omega
  refine wpAny_bind (wpAny_newList ?_ (Nat.le_trans (Nat.le_of_lt hl) (by decide)))
  have hoL : (hp0.push (seqObj "list" acc.toList.toArray 0)).get? hp0.objs.size = some (seqObj "list" acc.toList.toArray 0) := Heap.get?_push_size _ rfl
  refine wpAny_bind (wpAny_holding (wpAny_call_entry slot_list_sort ⟨_, hoL, rfl⟩ entry_list_sort (list_sort_treeK strKind_oneLt hoL hS.keysOf (fun v₁ v₂ rest e => keyKind_strs (by rw [← e]; exact hS)) hl fun st' a1 a2 => ⟨_, rfl, ?_⟩) (args_list_sort _)))
  obtain ⟨ss', h1, h2, h3⟩ := sorted_out_str hS a1 a2
  refine wpAny_pure ⟨_, rfl, ?_⟩
  obtain ⟨ep, he⟩ := sortedHeap_at (vs := acc.toList) (out := (arrOf st').map (·.2)) hoL
  have I0 : Inv X pins σ H { s with heap := hp0, toks := t0 } := I.kept hk
  have old : ∀ b u, hp0.get? b = some u → (sortedHeap (hp0.push (seqObj "list" acc.toList.toArray 0)) hp0.objs.size acc.toList ((arrOf st').map (·.2))).get? b = some u := fun b u e => by
    have lt := Heap.lt_size e
    rw [sortedHeap_old (Nat.ne_of_lt lt) (by rw [size_push']; exact Nat.lt_succ_of_lt lt), Heap.get?_push_ne _ _ _ (Nat.ne_of_lt lt)]
    exact e
  have hlen : (ss'.map V.str).length ≤ sizeLine := by
    rw [List.length_map, h2.length_eq, ← StrsAre_len hS]
    exact Nat.le_trans (Nat.le_of_lt hl) (by decide)
  exact ⟨.ref _, upd H hp0.objs.size (.lst (ss'.map V.str)), I0.laid (t' := t0) old (Nat.le_refl _) ⟨hlen, _, ep, vals_of_strs h1, he⟩, rfl, q ss' _ h2 h3 (I0.hok.fresh (Nat.le_refl _))⟩
end L2

set_option Elab.async false
set_option linter.all false
set_option maxRecDepth 100000
set_option maxHeartbeats 4000000
/-! own exceptions without arguments: raised, and as values -/
namespace L2
open PySem PySem.Spec PyProof.Rows
section
variable {X : Cx} {C : Addr} {bmB : List Value} {B newId initId : String}
theorem pmk_own0 {x : Str} {p pos : Pos} (F : ExcBaseFacts B newId initId bmB) (q : PySem.W.excIn X.K C bmB newId = true) (gC : X.mg x = some (.ref C)) (kC : PySem.W.keepIn X.K (.ref C) = true) (r : Raises X (.ref C)) (hg : Gl X x)
    (hdb : (x == ("__debug__" : Str)) = false := by decide) : PMk X (.Call (.Name x p) [] [] pos) (fun _ H Q => Q (.ref C) none H) := by
  intro pins s σ H Q I h
  refine wpAny_Call_Name_kw (ld_glob I hg gC ?_ hdb)
  refine PySem.W.callWith_K0 I.kIn kC ?_
  obtain ⟨bm, N, nm, qn, bs, hdct, sn, sub, ab, col, dd, k0, k1, k2, k3, k5, mN, hC, hN, hni, T⟩ := exc_obj I.kIn q
  refine wpAny_call_exc_subT F T hC hN hni (fun h' e hm => ?_) (by show 0 ≤ sizeLine; exact Nat.zero_le _)
  exact mk_of I hm r h (I.hok.gone hm.new)
/-- X(), as a value -/
theorem pe_exc0 {x : Str} {p pos : Pos} (F : ExcBaseFacts B newId initId bmB) (q : PySem.W.excIn X.K C bmB newId = true) (gC : X.mg x = some (.ref C)) (kC : PySem.W.keepIn X.K (.ref C) = true) (hg : Gl X x)
    (hdb : (x == ("__debug__" : Str)) = false := by decide) : PE X (.Call (.Name x p) [] [] pos) (fun σ H Q => ∀ a, H a = none → Q (.ref a) (upd H a (ExO (.ref C) a))) := by
  refine ⟨fun pins s σ H Q I h => ?_⟩
  refine wpAny_Call_Name_kw (ld_glob I hg gC ?_ hdb)
  refine PySem.W.callWith_K0 I.kIn kC ?_
  obtain ⟨bm, N, nm, qn, bs, hdct, sn, sub, ab, col, dd, k0, k1, k2, k3, k5, mN, hC, hN, hni, T⟩ := exc_obj I.kIn q
  refine wpAny_call_exc_subT F T hC hN hni (fun h' a hm => ?_) (by show 0 ≤ sizeLine; exact Nat.zero_le _)
  have hn : H a = none := I.hok.gone hm.new
  obtain ⟨t, ht, _, _⟩ := hm.there
  exact ⟨.ref a, upd H a (ExO (.ref C) a), I.laidN hm.keeps hm.new hn (exO_ok ht ⟨rfl, rfl⟩ rfl rfl rfl (show 4 < 6 by decide)), rfl, h a hn⟩
end
end L2

set_option Elab.async false
set_option linter.all false
set_option maxRecDepth 100000
set_option maxHeartbeats 4000000
/-! own exceptions with an __init__ of their own that stores its arguments, over Exception: the stores -/
namespace PySem
namespace ExX
open Builtin Builtin.ObjectAttr PySem.W PySem.Calls PyProof.Rows PySem.HandSPX
abbrev exTail : List Value := [.type "Exception", .type "BaseException", .type "object"]
/-- own classes, then Exception's mro -/
def refsEX : List Value → Bool
  | .ref _ :: r => refsEX r
  | l => l == exTail
theorem refsEX_cases : ∀ l : List Value, refsEX l = true → (∃ c r, l = .ref c :: r ∧ refsEX r = true) ∨ l = exTail := by
  intro l e
  unfold refsEX at e
  split at e
  · exact .inl ⟨_, _, rfl, e⟩
  · exact .inr (beq_iff_eq.mp e)
theorem refsEX_pass (self : Value) : ∀ l : List Value, refsEX l = true → refuseLoop self "__setattr__" l = pure () := by
  intro l
  induction l with
  | nil => intro e; exact absurd e (by decide)
  | cons a r ih =>
    intro e
    rcases refsEX_cases (a :: r) e with ⟨c, r', q, h⟩ | q
    · obtain ⟨rfl, rfl⟩ := List.cons.inj q
      rw [refuseLoop_ref]; exact ih h
    · rw [q]; exact F.store_Exception.passes self
theorem refsEX_contains (X : String) : ∀ l : List Value, refsEX l = true → l.contains (.type X) = exTail.contains (.type X) := by
  intro l
  induction l with
  | nil => intro e; exact absurd e (by decide)
  | cons a r ih =>
    intro e
    rcases refsEX_cases (a :: r) e with ⟨c, r', q, h⟩ | q
    · obtain ⟨rfl, rfl⟩ := List.cons.inj q
      rw [List.contains_cons, ih h]; rfl
    · rw [q]
theorem refsEX_ne {l : List Value} (e : refsEX l = true) : l.isEmpty = false := by
  cases l with
  | nil => exact absurd e (by decide)
  | cons _ _ => rfl
section
variable {prog : Program} {w : World} {A : Around} {E : Value → Shared → Prop} {R : Result → Shared → Prop} {hp : Heap} {g : Array GenState} {d : Drawn} {t : Nat} {os : OsState}
theorem osa_new {K : W.Frag} {name : Str} {tk : Tok} {v : Value} {x C : Addr} {fv : Array Value} {cd : ClassData}
    (X : K.In hp) (hx : hp.get? x = some { cls := .ref C, data := .fields fv }) (hcd : W.clsIn K C = some cd) (hm : refsEX cd.mro = true) (hh : cd.hasDict = true) (ha : W.findIn K (.ref C) name = some none)
    (hq : ∀ h' tk' dx, (∀ b o, b ≠ x → hp.get? b = some o → h'.get? b = some o) → hp.objs.size ≤ dx → dx ≠ x → h'.get? x = some { cls := .ref C, dict := some dx, data := .fields fv } →
      h'.Ns1 dx (fun y => if y = name then some v else none) → R (.ok (.ret .none)) ⟨h', g, d, tk', os⟩) :
    codeAny (model prog w) A (.call (.builtin "object.__setattr__") ⟨[.ref x, .str name tk, v], []⟩) R ⟨hp, g, d, t, os⟩ := by
  have I : W.InstAt hp x { cls := .ref C, data := .fields fv } C none := ⟨hx, rfl, rfl, trivial⟩
  have SF := F.store_object
  have ne := refsEX_ne hm
  have hob : cd.mro.contains (.type "object") = true := (refsEX_contains "object" _ hm).trans (by decide +kernel)
  have hxs : x ≠ hp.objs.size := Nat.ne_of_lt (Heap.lt_size hx)
  have sub : W.Looks (model prog w) hp (isInstance (.ref x) (.type "object")) true := I.type.andThen (W.looks_mroIn X (by unfold W.mroIn; rw [hcd, Option.bind_some, if_neg (by rw [ne]; decide), hob]))
  refine codeAny_call_builtin SF.slot.plain SF.entry (@W.check_slot (model prog w) _ _ ⟨hp, g, d, t, os⟩ "object.__setattr__" "object" "__setattr__" (.ref x) [.str name tk, v] [] _ SF.kind SF.split sub (SF.args (.ref x) (.str name tk) v) ?_)
  have hmr : W.Looks (model prog w) hp (mroOf (.ref C)) cd.mro := (W.looks_clsIn X hcd).andThen .now
  have L3 : W.Looks (model prog w) hp (storeTaker? none) none := .now
  have hcls : W.Looks (model prog w) hp (classData C) cd := W.looks_clsIn X hcd
  rw [W.osa_eq, refuse_eq]
  refine wpAny_bind (wpAny_bind (I.type.at (wpAny_bind (hmr.at ?_))))
  rw [refsEX_pass _ _ hm]
  refine wpAny_pure (wpAny_bind (I.type.at (wpAny_bind ((W.looks_findIn X ha).at (wpAny_bind (L3.at ?_))))))
  show wpAny _ _ (storeInOwnDict (.ref x) (.ref C) (.str name tk) name v false) _ _ _
  obtain ⟨nm, bs, mro, ns, qn, hd, sn, sb, ab, col, del⟩ := cd
  dsimp only at hh
  subst hh
  unfold storeInOwnDict ownDictForStores
  repeat (first | with_reducible refine store_in_new ?_ ?_ | with_reducible refine wpAny_loadPart_at hx ?_ | with_reducible refine hcls.at ?_ | wp_step)
  · exact ⟨_, #[], _, (Heap.get?_update_ne _ _ _ _ hxs.symm).trans (Heap.get?_push_at rfl rfl), rfl, fun e he => absurd he (by simp), fun _ => rfl⟩
  · intro h' tk' hn' hs
    have hx₁ : (hp.push { cls := .type "dict", data := .dict #[] }).get? x = some { cls := .ref C, data := .fields fv } := Heap.get?_push_of_some _ hx
    refine hq h' tk' hp.objs.size (fun b o hb ho => ?_) (Nat.le_refl _) hxs.symm ?_ hn'
    · exact (hs.2 b (Nat.ne_of_lt (Heap.lt_size ho))).trans ((Heap.get?_update_ne _ _ _ _ hb).trans (Heap.get?_push_of_some _ ho))
    · exact (hs.2 x hxs).trans (Heap.get?_update_self _ hx₁ rfl)
theorem osa_old {K : W.Frag} {name : Str} {tk : Tok} {v : Value} {x C dx : Addr} {fv : Array Value} {cd : ClassData} {m0 : Str → Option Value} {nl : List Str}
    (X : K.In hp) (hx : hp.get? x = some { cls := .ref C, dict := some dx, data := .fields fv }) (hns : hp.Ns1 dx m0) (hw : Within m0 nl) (hz : nl.length ≤ 1000) (hcd : W.clsIn K C = some cd) (hm : refsEX cd.mro = true) (hh : cd.hasDict = true)
    (ha : W.findIn K (.ref C) name = some none)
    (hq : ∀ h' tk', (∀ b o, b ≠ dx → hp.get? b = some o → h'.get? b = some o) → h'.Ns1 dx (fun y => if y = name then some v else m0 y) → R (.ok (.ret .none)) ⟨h', g, d, tk', os⟩) :
    codeAny (model prog w) A (.call (.builtin "object.__setattr__") ⟨[.ref x, .str name tk, v], []⟩) R ⟨hp, g, d, t, os⟩ := by
  obtain ⟨oD, esD, epD, hoD, hdD, _⟩ := hns.count hw
  have I : W.InstAt hp x { cls := .ref C, dict := some dx, data := .fields fv } C (some oD) := ⟨hx, rfl, rfl, hoD⟩
  have SF := F.store_object
  have ne := refsEX_ne hm
  have hob : cd.mro.contains (.type "object") = true := (refsEX_contains "object" _ hm).trans (by decide +kernel)
  have sub : W.Looks (model prog w) hp (isInstance (.ref x) (.type "object")) true := I.type.andThen (W.looks_mroIn X (by unfold W.mroIn; rw [hcd, Option.bind_some, if_neg (by rw [ne]; decide), hob]))
  refine codeAny_call_builtin SF.slot.plain SF.entry (@W.check_slot (model prog w) _ _ ⟨hp, g, d, t, os⟩ "object.__setattr__" "object" "__setattr__" (.ref x) [.str name tk, v] [] _ SF.kind SF.split sub (SF.args (.ref x) (.str name tk) v) ?_)
  have hmr : W.Looks (model prog w) hp (mroOf (.ref C)) cd.mro := (W.looks_clsIn X hcd).andThen .now
  have L3 : W.Looks (model prog w) hp (storeTaker? none) none := .now
  have hcls : W.Looks (model prog w) hp (classData C) cd := W.looks_clsIn X hcd
  rw [W.osa_eq, refuse_eq]
  refine wpAny_bind (wpAny_bind (I.type.at (wpAny_bind (hmr.at ?_))))
  rw [refsEX_pass _ _ hm]
  refine wpAny_pure (wpAny_bind (I.type.at (wpAny_bind ((W.looks_findIn X ha).at (wpAny_bind (L3.at ?_))))))
  show wpAny _ _ (storeInOwnDict (.ref x) (.ref C) (.str name tk) name v false) _ _ _
  obtain ⟨nm, bs, mro, ns, qn, hd, sn, sb, ab, col, del⟩ := cd
  dsimp only at hh
  subst hh
  unfold storeInOwnDict ownDictForStores
  repeat (first | with_reducible refine PySem.OEX.store_in_old hns hw hz ?_ | with_reducible refine wpAny_loadPart_at hx ?_ | with_reducible refine hcls.at ?_ | wp_step)
  intro h' tk' hn' hs
  exact hq h' tk' (fun b o hb ho => (hs.2 b hb).trans ho) hn'
end
end ExX
end PySem

set_option Elab.async false
set_option linter.all false
set_option maxRecDepth 100000
set_option maxHeartbeats 4000000
namespace PySem
namespace ExX
open PySem.W PySem.Calls PyProof.Rows PySem.HandSPX
/-- what the written part says of an own exception class, at C, over Exception, and of its __init__, at fI -/
structure ExcT (K : W.Frag) (mg : Str → Option Value) (C fI : Addr) (cn : Str) (fs : List Str) (qual : Str) (st : Stmt) : Prop where
  gC : mg cn = some (.ref C)
  cls : ∃ nm q N bs bm sn sub ab col dd k0 k1 k2 k3 k5, K.lookup C = some (excClassObj nm q C N bs bm true sn sub ab col dd k0 k1 k2 k3 k5 "Exception.__new__") ∧ refsEX bm = true
  sa : findIn K (.ref C) "__setattr__" = some (some (.builtin "object.__setattr__"))
  ga : findIn K (.ref C) "__getattribute__" = some (some (.builtin "BaseException.__getattribute__"))
  gg : findIn K (.ref C) "__getattr__" = some none
  no : ∀ f ∈ fs, findIn K (.ref C) f = some none
  iC : findIn K (.ref C) "__init__" = some (some (.ref fI))
  tC : typeIn K (.ref fI) = some (.type "function")
  kC : keepIn K (.ref C) = true
  exC : subIn K (.ref C) (.type "BaseException") = some true
  tyC : typeIn K (.ref C) = some (.type "type")
  hdC : hasDictIn K C = true
  fn : ∃ (oc : Value) (od : Option Addr) (kV doc pm : Value) (an : Option Addr) (cdv ct : Value) (osl : Array (Option Value)),
    K.lookup fI = some ⟨oc, od, .func (fnOf "__init__" qual (L2.defArgs st) (L2.defBody st) (L2.defScope st) .none kV doc pm an cdv ct), osl⟩ ∧ codeIn K cdv qual = true
theorem ldC {M : Model} {s : Shared} {name : Str} {scope : Scope} {L a : Addr} {cd : Value} {m : Str → Option Value} {x : Str} {pos : Pos} {v : Value} {Q : Value → Shared → Prop} {A : Around} {E : Value → Shared → Prop} (hn : s.heap.Ns L m) (hv : m x = some v) (h : Q v s)
    (hk : scope.kind = .function := by rfl) (hl : (envOfC name scope L a cd).kindOf x = some .local := by rfl) (hd : (x == ("__debug__" : Str)) = false := by decide) :
    wpAny M A (eval (.Name x pos) (envOfC name scope L a cd)) Q E s := wpAny_Name (wpAny_loadName_local hk hl hn hv h) hd
end ExX
end PySem
namespace PySem
namespace ExX
open PySem.W PySem.Calls PyProof.Rows PySem.HandSPX
/-- a made exception of the class at C: itself at e, its dict at d, the fields m -/
structure OwnMade (h h' : Heap) (e C d : Addr) (m : Str → Option Value) : Prop where
  keep : ∀ b o, h.get? b = some o → h'.get? b = some o
  new : h.objs.size ≤ e
  obj : ∃ oe vs, h'.get? e = some oe ∧ oe.cls = .ref C ∧ oe.dict = some d ∧ oe.data = .fields vs ∧ vs[1]? = some .none
  dbig : h.objs.size ≤ d
  dne : d ≠ e
  ns : h'.Ns1 d m
end ExX
end PySem
namespace L2
open PySem PySem.Spec PyProof.Rows PySem.ExX
/-- an exception object of the class at C, its own dict at d, not raised -/
def ExD (C d e : Addr) : HO := .ext fun h => ∃ (oe : Obj) (vs : Array Value), h.get? e = some oe ∧ Zc (.ref C) (some d) oe ∧ oe.data = .fields vs ∧ vs[1]? = some .none
theorem exD_ok {P : Program} {w : World} {H : Hp} {h : Heap} {C d e : Addr} {oe : Obj} {vs : Array Value} (he : h.get? e = some oe) (z : Zc (.ref C) (some d) oe) (hd : oe.data = .fields vs) (h1 : vs[1]? = some .none) : ObjOk P w H h e (ExD C d e) :=
  ⟨⟨oe, vs, he, z, hd, h1⟩, ⟨oe, he⟩, fun _ _ ⟨o, v, q, r⟩ k => ⟨o, v, k o q, r⟩⟩
section
variable {X : Cx} {pins : List (Addr × Obj)} {σ : St} {H : Hp} {hp h' : Heap} {g : Array GenState} {dr : Drawn} {tk tk' : Nat} {os : OsState} {e C d : Addr} {m : Str → Option Value} {fs : List (Str × V)}
/-- the heap without the exception itself: its dict laid -/
theorem own_split (I : Inv X pins σ H ⟨hp, g, dr, tk, os⟩) (M : OwnMade hp h' e C d m) (rel : ∀ f, RelO (fs.lookup f) (m f)) :
    ∃ G' : Heap, (∀ b o, G'.get? b = some o → h'.get? b = some o) ∧ G'.get? e = none ∧ Inv X pins σ (upd H d (.xd fs)) ⟨G', g, dr, tk', os⟩ := by
  have hns := M.ns
  obtain ⟨G', g1, g2⟩ := restrict h' fun b => decide (b ≠ e)
  have gk : ∀ b, b ≠ e → G'.get? b = h'.get? b := fun b hb => g1 b (decide_eq_true hb)
  have ge : G'.get? e = none := g2 e (by simp)
  have old : ∀ b o, hp.get? b = some o → G'.get? b = some o := fun b o q => (gk b (Nat.ne_of_lt (Nat.lt_of_lt_of_le (Heap.lt_size q) M.new))).trans (M.keep b o q)
  have ob : ObjOk X.prog X.w (upd H d (.xd fs)) G' d (.xd fs) := ⟨_, hns.at (fun o q => (gk d M.dne).trans q), fun f => rel f⟩
  have J : Inv X pins σ (upd H d (.xd fs)) ⟨G', g, dr, tk', os⟩ := I.laid (t' := tk') old M.dbig ob
  refine ⟨G', fun b o q => ?_, ge, J⟩
  by_cases hb : b = e
  · rw [hb, ge] at q; cases q
  · exact (gk b hb).symm.trans q
theorem own_value (I : Inv X pins σ H ⟨hp, g, dr, tk, os⟩) (M : OwnMade hp h' e C d m) (rel : ∀ f, RelO (fs.lookup f) (m f)) :
    Inv X pins σ (upd (upd H d (.xd fs)) e (ExD C d e)) ⟨h', g, dr, tk', os⟩ := by
  obtain ⟨G', k, ge, J⟩ := own_split (tk' := tk') I M rel
  obtain ⟨oe, vs, hoe, hc, hd, hdat, h1⟩ := M.obj
  have hn : upd H d (.xd fs) e = none := by
    rw [upd_ne (Ne.symm M.dne)]
    exact I.hok.fresh M.new
  exact J.laidN k ge hn (exD_ok hoe ⟨hc, hd⟩ hdat h1)
theorem own_raise {Q : XK} (I : Inv X pins σ H ⟨hp, g, dr, tk, os⟩) (M : OwnMade hp h' e C d m) (rel : ∀ f, RelO (fs.lookup f) (m f)) (r : Raises X (.ref C)) (q : ∀ d, H d = none → Q (.ref C) (some d) (upd H d (.xd fs))) :
    MkP X pins σ Q (.ref e) ⟨h', g, dr, tk', os⟩ := by
  obtain ⟨G', k, ge, J⟩ := own_split (tk' := tk') I M rel
  obtain ⟨oe, vs, hoe, hc, hd, hdat, h1⟩ := M.obj
  refine ⟨e, oe, vs, ⟨G', g, dr, tk', os⟩, _, .ref C, some d, rfl, J, k, ge, hoe, ⟨hc, hd⟩, hdat, h1, ?_, rfl, I.bare, r, q d (I.hok.fresh M.dbig)⟩
  rw [upd_ne (Ne.symm M.dne)]
  exact I.hok.fresh M.new
end
end L2

set_option Elab.async false
set_option linter.all false
set_option maxRecDepth 100000
set_option maxHeartbeats 4000000
/-! isinstance of exception objects that are values, whatever own dict they have -/
namespace PySem.W
open PySem PySem.Spec PySem.Calls PyProof.Rows
section
variable {prog : Program} {w : World} {A : Around} {E : Value → Shared → Prop} {s : Shared} {K : Frag} {x D : Addr} {ox : Obj} {od : Option Obj}
theorem findObj_dataZ {C : Addr} {name : Str} {a g : Value} (hc : (clsIn K C).isSome = true) (ha : findIn K (.ref C) name = some (some a)) (hg : specialIn K a "__get__" = some (some g)) (ht : takesIn K a = some true) : findObj K C od name = some (.bind g a) := by
  obtain ⟨cd, hc⟩ := Option.isSome_iff_exists.mp hc
  unfold findObj
  rw [hc, Option.bind_some, ha, Option.bind_some]
  simp [hg, ht]
theorem kin_classZ {Q : Option Value → Shared → Prop} (hga : findIn K (.ref D) "__getattribute__" = some (some (.builtin "BaseException.__getattribute__"))) (hgt : findIn K (.ref D) "__getattr__" = some none) (hsub : subIn K (.ref D) (.type "BaseException") = some true)
    (hdct : hasDictIn K D = true) (ha : findIn K (.ref D) "__class__" = some (some (.builtin "object.__class__")))
    (hn : specialIn K (.builtin "object.__class__") "__get__" = some (some (.builtin "getset_descriptor.__get__"))) (htk : takesIn K (.builtin "object.__class__") = some true) (hm : mroIn K D (.type "object") = some true)
    (X : K.In s.heap) (I : InstAt s.heap x ox D od) (h : Q (some (.ref D)) { s with toks := s.toks + 1 }) : wpAny (model prog w) A (getAttr? (.ref x) "__class__") Q E s := by
  have hf : findObj K D od "__class__" = some (.bind (.builtin "getset_descriptor.__get__") (.builtin "object.__class__")) := findObj_dataZ (by obtain ⟨cd, hc, _⟩ := any_some hdct; rw [hc]; rfl) ha hn htk
  obtain ⟨hp, g, d, t, os⟩ := s
  have L0 := I.type (M := model prog w)
  have L1 := looks_findIn (M := model prog w) X hga
  have L2 := looks_findIn (M := model prog w) X hgt
  have L3 := looks_find (M := model prog w) X I hf
  have sub : Looks (model prog w) hp (isInstance (.ref x) (.type "BaseException")) true := L0.andThen (looks_subIn X hsub)
  have hx0 : (false && onTheHeap (Value.builtin "BaseException.__getattribute__")) = false := rfl
  have hx2 : (Value.builtin "BaseException.__getattribute__" == Value.builtin "object.__getattribute__") = false := by decide +kernel
  have hx1 : (onTheHeap (Value.ref D) && Value.builtin "BaseException.__getattribute__" == Value.builtin "object.__getattribute__") = false := by rw [hx2]; rfl
  unfold getAttr? getAttrBy? getAttrBy
  refine wpAny_bind (wpAny_mkText (wpAny_bind (wpAny_attempt (wpAny_holding (wpAny_bind (L0.at (wpAny_bind (L1.at ?_))))))))
  show wpAny _ _ (if (onTheHeap (Value.ref D) && Value.builtin "BaseException.__getattribute__" == Value.builtin "object.__getattribute__") = true then _ else _) _ _ _
  rw [hx1, if_neg Bool.false_ne_true]
  unfold getAttrByItsOwn hookBefore
  refine wpAny_bind ?_
  rw [if_pos (show onTheHeap (Value.ref D) = true from rfl)]
  refine L2.at ?_
  refine wpAny_bind (wpAny_attempt (wpAny_holding ?_))
  unfold callGetattribute
  rw [hx0, if_neg Bool.false_ne_true]
  unfold boundAndCalled
  rw [PySem.F.excAttr_ValueError.ga.bind (.ref x)]
  refine wpAny_bind (wpAny_pure ?_)
  show wpAny _ _ (call (.builtin "BaseException.__getattribute__") [.ref x, .str "__class__" t]) _ _ _
  refine wpAny_call (codeAny_call_builtin PySem.F.excAttr_ValueError.ga.plain PySem.F.entry_bexc_ga ?_)
  refine @check_slot (model prog w) _ _ ⟨hp, g, d, t + 1, os⟩ "BaseException.__getattribute__" "BaseException" "__getattribute__" (.ref x) [.str "__class__" t] [] _ (by decide +kernel) (by decide +kernel) sub (PySem.F.args_bexc_ga (.ref x) (.str "__class__" t)) ?_
  unfold Builtin.«object.__getattribute__»
  refine wpAny_bind (wpAny_of_eq (a := ((Value.ref x : Value), [Value.str "__class__" t])) (by first | rfl | (simp only [slotArgs]; rfl)) ?_)
  refine wpAny_bind (wpAny_pure (wpAny_bind (L0.at (wpAny_bind (L3.at ?_)))))
  show wpAny _ _ (holding [Value.builtin "object.__class__"] (call (.builtin "getset_descriptor.__get__") [.builtin "object.__class__", .ref x, .ref D]) >>= ret) _ _ _
  refine wpAny_bind (wpAny_holding (wpAny_call (class_get (s := ⟨hp, g, d, t + 1, os⟩) (ox := ox) (od := od) X I hm ?_)))
  refine wpAny_pure ?_
  show wpAny _ _ (handedOut (.ref D)) _ _ _
  rw [handedOut_of (v := .ref D) rfl]
  first
    | exact wpAny_pure (wpAny_pure h)
    | exact wpAny_pure h
    | exact wpAny_pure (wpAny_bind (wpAny_pure (wpAny_pure h)))
theorem kitx_excZ (hga : findIn K (.ref D) "__getattribute__" = some (some (.builtin "BaseException.__getattribute__"))) (hgt : findIn K (.ref D) "__getattr__" = some none) (hsub : subIn K (.ref D) (.type "BaseException") = some true) (hdct : hasDictIn K D = true) (ha : findIn K (.ref D) "__class__" = some (some (.builtin "object.__class__")))
    (hn : specialIn K (.builtin "object.__class__") "__get__" = some (some (.builtin "getset_descriptor.__get__"))) (htk : takesIn K (.builtin "object.__class__") = some true) (hm : mroIn K D (.type "object") = some true) :
    KitX K (.ref x) (.ref D) (fun h => InstAt h x ox D od) where
  ty := fun _ _ _ I => I.type
  it := fun _ _ X _ => by
    obtain ⟨cdD, hcD, _⟩ := any_some hdct
    unfold clsIn at hcD
    split at hcD
    · rename_i c' d' cd' sl' ho
      intro A' Q' E' s' k q
      unfold isType loadHead
      exact wpAny_bind (wpAny_loadPart (k _ _ (X _ _ ho)) (wpAny_pure q))
    · cases hcD
  ne := (handS_kitx_exc (x := x) (ox := ox) hga hgt hsub hdct ha hn htk hm).ne
  ca := fun X I k => kin_classZ hga hgt hsub hdct ha hn htk hm X I k
end
end PySem.W
namespace L2
open PySem PySem.Spec PyProof.Rows PySem.ExX
/-- the type of a value: also of an exception object that is a value -/
inductive TyZ (K : PySem.W.Frag) (H : Hp) : V → Value → Prop where
  | x {v : V} {t : Value} (h : TyX K H v t) : TyZ K H v t
  | exo {a C : Addr} (e : H a = some (ExO (.ref C) a)) (c : ExcC K C) : TyZ K H (.ref a) (.ref C)
  | exd {a C d : Addr} {fs : List (Str × V)} (e : H a = some (ExD C d a)) (ed : H d = some (.xd fs)) (c : ExcC K C) : TyZ K H (.ref a) (.ref C)
section
variable {X : Cx} {pins : List (Addr × Obj)} {σ : St} {H : Hp} {s : Shared}
theorem kit_ofZ {x : V} {u t : Value} (I : Inv X pins σ H s) (rx : RelV x u) (ty : TyZ X.K H x t) : ∃ P : Heap → Prop, PySem.W.KitX X.K u t P ∧ P s.heap ∧ u ≠ .builtin "__main__.__loader__#opaque" := by
  cases ty with
  | x h => exact kit_of I rx h
  | @exo a C e c =>
    cases (show u = Value.ref a from rx)
    obtain ⟨⟨oe, vs, ho, hz, hd, _, _⟩, _, _⟩ := I.hok a _ e
    have J : PySem.W.InstAt s.heap a oe C none := by
      obtain ⟨oc, od, oda, osl⟩ := oe
      obtain ⟨h1, h2⟩ := hz
      dsimp only at h1 h2 hd
      subst h1 h2 hd
      exact ⟨ho, rfl, rfl, trivial⟩
    exact ⟨_, PySem.W.kitx_excZ c.hg c.hk c.hs c.hd c.ha c.hn c.ht c.hm, J, fun z => nomatch z⟩
  | @exd a C d fs e ed c =>
    cases (show u = Value.ref a from rx)
    obtain ⟨⟨oe, vs, ho, hz, hd, _⟩, _, _⟩ := I.hok a _ e
    obtain ⟨mA, hns, _⟩ := (show ObjOk X.prog X.w H s.heap d (.xd fs) from I.hok d _ ed)
    obtain ⟨od, hod, _⟩ := lookIn_ns hns
    have J : PySem.W.InstAt s.heap a oe C (some od) := by
      obtain ⟨oc, odd, oda, osl⟩ := oe
      obtain ⟨h1, h2⟩ := hz
      dsimp only at h1 h2 hd
      subst h1 h2 hd
      exact ⟨ho, rfl, rfl, hod⟩
    exact ⟨_, PySem.W.kitx_excZ c.hg c.hk c.hs c.hd c.ha c.hn c.ht c.hm, J, fun z => nomatch z⟩
end
def rIsiZ (K : PySem.W.Frag) : List V → Hp → VK → Prop := fun xs H Q => ∃ (x c : V) (t u : Value) (b : Bool), xs = [x, c] ∧ ClsV c u ∧ TyZ K H x t ∧ PySem.W.kitOne K t u = some b ∧ Q (.bl b) H
def rIsiTZ (K : PySem.W.Frag) : List V → Hp → VK → Prop := fun xs H Q => ∃ (x : V) (tp : Addr) (cs : List V) (t : Value) (us : List Value) (b : Bool), xs = [x, .ref tp] ∧ H tp = some (.tup cs) ∧ Paired ClsV cs us ∧ TyZ K H x t ∧ PySem.W.kitAny K t us = some b ∧ Q (.bl b) H
section
variable {X : Cx} {K : PySem.W.Frag}
theorem call_isiZ (hK : X.K = K) : CallR X (.builtin "isinstance") (rIsiZ K) := by
  subst hK
  intro pins s σ H xs us Q I r h
  obtain ⟨x, c, t, u, b, rfl, k, ty, e, q⟩ := h
  obtain ⟨u1, u2, rfl, r1, r2⟩ := vals2 r
  have e2 := k.eq r2
  subst e2
  obtain ⟨P, Z, p, hx⟩ := kit_ofZ I r1 ty
  exact PySem.W.kia_one Z I.kIn p e hx fun tk => ⟨.bl b, H, I.tok tk, rfl, q⟩
theorem call_isiTZ (hK : X.K = K) : CallR X (.builtin "isinstance") (rIsiTZ K) := by
  subst hK
  intro pins s σ H xs us Q I r h
  obtain ⟨x, tp, cs, t, ws, b, rfl, hT, k, ty, e, q⟩ := h
  obtain ⟨u1, u2, rfl, r1, r2⟩ := vals2 r
  cases (show u2 = Value.ref tp from r2)
  obtain ⟨P, Z, p, hx⟩ := kit_ofZ I r1 ty
  obtain ⟨_, its, rv, o, h1, h2, n, h3⟩ := (show ObjOk X.prog X.w H s.heap tp (.tup cs) from I.hok tp _ hT)
  have e3 := ClsV.all k rv
  subst e3
  obtain ⟨oc, od, dt, sl⟩ := o
  simp only at h2 h3
  subst h2 h3
  exact PySem.W.kia_tup Z I.kIn p h1 e hx fun tk => ⟨.bl b, H, I.tok tk, rfl, q⟩
end
end L2

set_option Elab.async false
set_option linter.all false
set_option maxRecDepth 100000
set_option maxHeartbeats 4000000
namespace PySem
namespace ExX
open PySem.W PySem.Calls PyProof.Rows
theorem refsEX_of : ∀ l : List Value, excTail exTail l = true → refsEX l = true := by
  intro l
  induction l with
  | nil => intro h; exact absurd h (by decide +kernel)
  | cons a r ih =>
    intro h
    rcases excTail_cases (bmB := exTail) (a :: r) h with ⟨c, r', e, q⟩ | e
    · cases e
      exact ih q
    · rw [e]; rfl
theorem excT_cls {K : Frag} {C : Addr} (q : excInitIn K C exTail "Exception.__new__" = true) (hd : hasDictIn K C = true) :
    ∃ nm q N bs bm sn sub ab col dd k0 k1 k2 k3 k5, K.lookup C = some (excClassObj nm q C N bs bm true sn sub ab col dd k0 k1 k2 k3 k5 "Exception.__new__") ∧ refsEX bm = true := by
  unfold excInitIn at q
  split at q
  · rename_i dd cd sl ho
    split at q
    · rename_i C' bm k0 k1 k2 k3 n k5 hm hs
      simp only [Bool.and_eq_true, beq_iff_eq, Bool.not_eq_true'] at q
      obtain ⟨⟨⟨rfl, rfl⟩, hdel⟩, ht⟩ := q
      obtain ⟨nm, bs, mro, ns, qn, hd', sn, sub, ab, col, del⟩ := cd
      dsimp only at hm hdel
      subst hm hdel
      have hsl : sl = #[k0, k1, k2, k3, some (.builtin "Exception.__new__"), k5] := by
        obtain ⟨l⟩ := sl
        simp only at hs
        rw [hs]
      subst hsl
      have e : hd' = true := by
        unfold hasDictIn at hd
        have hc : clsIn K C' = some ⟨nm, bs, .ref C' :: bm, ns, qn, hd', sn, sub, ab, col, false⟩ := by unfold clsIn; rw [ho]
        rw [hc] at hd
        simpa using hd
      subst e
      exact ⟨nm, qn, ns, bs, bm, sn, sub, ab, col, dd, k0, k1, k2, k3, k5, ho, refsEX_of _ ht⟩
    · cases q
  · cases q
end ExX
end PySem

set_option Elab.async false
set_option linter.all false
set_option maxRecDepth 100000
/-! the rules whose reading names the written part, with that part a letter of its own (within a comprehension the place's own name of it can't be found by unification) -/
namespace L2
open PySem PySem.Spec PyProof.Rows
variable {X : Cx} {K : PySem.W.Frag}
theorem ix_listK (h : X.K = K) : IxR X (rIxL K) := by subst h; exact ix_list
theorem ix_tupK (h : X.K = K) : IxR X (rIxT K) := by subst h; exact ix_tup
theorem call_tuple_ofK (h : X.K = K) : CallR X (.type "tuple") (fun xs H Q => ∃ p ys, xs = [.ref p] ∧ ((SqL K H p ys ∧ ∀ l, H l = none → Q (.ref l) (upd H l (.tup ys))) ∨ (SqT K H p ys ∧ Q (.ref p) H))) := by subst h; exact call_tuple_of
theorem call_list_ofK (h : X.K = K) : CallR X (.type "list") (fun xs H Q => ∃ p ys, xs = [.ref p] ∧ (SqL K H p ys ∨ SqT K H p ys) ∧ ∀ l, H l = none → Q (.ref l) (upd H l (.lst ys))) := by subst h; exact call_list_of
theorem call_len_seqK (h : X.K = K) : CallR X (.builtin "len") (fun xs H Q => ∃ p ys, xs = [.ref p] ∧ (SqL K H p ys ∨ SqT K H p ys) ∧ Q (.int ys.length) H) := by subst h; exact call_len_seq
theorem call_isiK' (h : X.K = K) : CallR X (.builtin "isinstance") (rIsi K) := by subst h; exact call_isi
theorem call_isiTK (h : X.K = K) : CallR X (.builtin "isinstance") (rIsiT K) := by subst h; exact call_isiT
theorem sl_listK (h : X.K = K) : SlR X (rSlL K) := by subst h; exact sl_list
theorem cr_allK (h : X.K = K) (hc : X.calm = true) : CallR X (.builtin "all") (rAll K) := by subst h; exact cr_all hc
theorem cr_anyK (h : X.K = K) (hc : X.calm = true) : CallR X (.builtin "any") (rAny K) := by subst h; exact cr_any hc
theorem cr_sumK (h : X.K = K) (hc : X.calm = true) : CallR X (.builtin "sum") (rSum K) := by subst h; exact cr_sum hc
end L2

set_option Elab.async false
set_option linter.all false
set_option maxRecDepth 100000
set_option maxHeartbeats 4000000
namespace J
open PySem L2
def topS (i : Nat) : Stmt := PySem.Challenge.pw_onewayread_k00_looms_made_and_refused.main.body.getD i (.Pass ⟨0, 0, 0, 0⟩)
abbrev s_InvalidLoom_init : Stmt := inClass (topS 2) 0
abbrev N_InvalidLoom_init : List Str := ["self", "part", "at"]
abbrev P_InvalidLoom_init : List Str := ["self", "part", "at"]
theorem sc_InvalidLoom_init : FnScope N_InvalidLoom_init P_InvalidLoom_init (defScope s_InvalidLoom_init) := ⟨rfl, rfl, rfl, by decide +kernel, rfl, by decide +kernel, by decide +kernel⟩
abbrev s_is_number : Stmt := topS 7
abbrev N_is_number : List Str := ["thing", "low", "high"]
abbrev P_is_number : List Str := ["thing", "low", "high"]
theorem sc_is_number : FnScope N_is_number P_is_number (defScope s_is_number) := ⟨rfl, rfl, rfl, by decide +kernel, rfl, by decide +kernel, by decide +kernel⟩
abbrev s_is_sequence : Stmt := topS 8
abbrev N_is_sequence : List Str := ["thing", "fewest", "most"]
abbrev P_is_sequence : List Str := ["thing", "fewest", "most"]
theorem sc_is_sequence : FnScope N_is_sequence P_is_sequence (defScope s_is_sequence) := ⟨rfl, rfl, rfl, by decide +kernel, rfl, by decide +kernel, by decide +kernel⟩
abbrev s_is_signs : Stmt := topS 9
abbrev N_is_signs : List Str := ["thing", "letters", "sign", "one", "other"]
abbrev P_is_signs : List Str := ["thing"]
theorem sc_is_signs : FnScope N_is_signs P_is_signs (defScope s_is_signs) := ⟨rfl, rfl, rfl, by decide +kernel, rfl, by decide +kernel, by decide +kernel⟩
abbrev s_is_string_over : Stmt := topS 10
abbrev N_is_string_over : List Str := ["signs", "thing", "fewest", "most", "sign"]
abbrev P_is_string_over : List Str := ["signs", "thing", "fewest", "most"]
theorem sc_is_string_over : FnScope N_is_string_over P_is_string_over (defScope s_is_string_over) := ⟨rfl, rfl, rfl, by decide +kernel, rfl, by decide +kernel, by decide +kernel⟩
abbrev s_is_word : Stmt := topS 11
abbrev N_is_word : List Str := ["signs", "thing"]
abbrev P_is_word : List Str := ["signs", "thing"]
theorem sc_is_word : FnScope N_is_word P_is_word (defScope s_is_word) := ⟨rfl, rfl, rfl, by decide +kernel, rfl, by decide +kernel, by decide +kernel⟩
abbrev s_check_signs : Stmt := topS 12
abbrev N_check_signs : List Str := ["signs"]
abbrev P_check_signs : List Str := ["signs"]
theorem sc_check_signs : FnScope N_check_signs P_check_signs (defScope s_check_signs) := ⟨rfl, rfl, rfl, by decide +kernel, rfl, by decide +kernel, by decide +kernel⟩
abbrev s_is_arc : Stmt := topS 15
abbrev N_is_arc : List Str := ["signs", "thing", "state", "word", "goal"]
abbrev P_is_arc : List Str := ["signs", "thing"]
theorem sc_is_arc : FnScope N_is_arc P_is_arc (defScope s_is_arc) := ⟨rfl, rfl, rfl, by decide +kernel, rfl, by decide +kernel, by decide +kernel⟩
abbrev s_Loom_init : Stmt := inClass (topS 16) 0
abbrev N_Loom_init : List Str := ["self", "signs", "arcs", "at", "arc"]
abbrev P_Loom_init : List Str := ["self", "signs", "arcs"]
theorem sc_Loom_init : FnScope N_Loom_init P_Loom_init (defScope s_Loom_init) := ⟨rfl, rfl, rfl, by decide +kernel, rfl, by decide +kernel, by decide +kernel⟩
abbrev s_Loom_eq : Stmt := inClass (topS 16) 1
abbrev N_Loom_eq : List Str := ["self", "other"]
abbrev P_Loom_eq : List Str := ["self", "other"]
theorem sc_Loom_eq : FnScope N_Loom_eq P_Loom_eq (defScope s_Loom_eq) := ⟨rfl, rfl, rfl, by decide +kernel, rfl, by decide +kernel, by decide +kernel⟩
abbrev s_l_state : Stmt := topS 18
abbrev N_l_state : List Str := ["_law_script"]
abbrev P_l_state : List Str := ["_law_script"]
theorem sc_l_state : FnScope N_l_state P_l_state (defScope s_l_state) := ⟨rfl, rfl, rfl, by decide +kernel, rfl, by decide +kernel, by decide +kernel⟩
abbrev s_l_draw : Stmt := topS 19
abbrev N_l_draw : List Str := ["_law_state_here", "_law_many", "_law_digit", "_law_cell", "_law_number"]
abbrev P_l_draw : List Str := ["_law_state_here", "_law_many"]
theorem sc_l_draw : FnScope N_l_draw P_l_draw (defScope s_l_draw) := ⟨rfl, rfl, rfl, by decide +kernel, rfl, by decide +kernel, by decide +kernel⟩
abbrev s_l_word : Stmt := topS 20
abbrev N_l_word : List Str := ["_law_state_here", "_law_signs", "_law_most", "_law_size", "_law_k"]
abbrev P_l_word : List Str := ["_law_state_here", "_law_signs", "_law_most"]
theorem sc_l_word : FnScope N_l_word P_l_word (defScope s_l_word) := ⟨rfl, rfl, rfl, by decide +kernel, rfl, by decide +kernel, by decide +kernel⟩
abbrev s_l_loom : Stmt := topS 21
abbrev N_l_loom : List Str := ["_law_state_here", "_law_signs", "_law_places", "_law_many", "_law_most", "_law_arcs", "_law_k", "_law_start"]
abbrev P_l_loom : List Str := ["_law_state_here"]
theorem sc_l_loom : FnScope N_l_loom P_l_loom (defScope s_l_loom) := ⟨rfl, rfl, rfl, by decide +kernel, rfl, by decide +kernel, by decide +kernel⟩
abbrev s_l_told : Stmt := topS 22
abbrev N_l_told : List Str := ["_law_signs", "_law_arcs", "_law_found", "e"]
abbrev P_l_told : List Str := ["_law_signs", "_law_arcs"]
theorem sc_l_told : FnScope N_l_told P_l_told (defScope s_l_told) := ⟨rfl, rfl, rfl, by decide +kernel, rfl, by decide +kernel, by decide +kernel⟩
abbrev s_l_wrong_arc : Stmt := topS 23
abbrev N_l_wrong_arc : List Str := ["_law_state_here", "_law_signs", "_law_word_here", "_law_some"]
abbrev P_l_wrong_arc : List Str := ["_law_state_here", "_law_signs"]
theorem sc_l_wrong_arc : FnScope N_l_wrong_arc P_l_wrong_arc (defScope s_l_wrong_arc) := ⟨rfl, rfl, rfl, by decide +kernel, rfl, by decide +kernel, by decide +kernel⟩
abbrev s_law : Stmt := topS 24
abbrev N_law : List Str := ["_law_script", "_law_state_here", "_law_turn", "_law_signs", "_law_arcs", "_law_one", "_law_other", "_law_kept", "_law_bads", "_law_bad", "_law_some", "_law_first", "_law_second", "_law_due", "_law_long_one"]
abbrev P_law : List Str := ["_law_script"]
theorem sc_law : FnScope N_law P_law (defScope s_law) := ⟨rfl, rfl, rfl, by decide +kernel, rfl, by decide +kernel, by decide +kernel⟩
/-- what the top has written -/
structure Tx (K : PySem.W.Frag) (mg : Str → Option Value) : Type where
  f_InvalidLoom_init : Addr
  fd_InvalidLoom_init : FuncData
  F_InvalidLoom_init : Fun K "__init__" "InvalidLoom.__init__" s_InvalidLoom_init f_InvalidLoom_init fd_InvalidLoom_init
  b_InvalidLoom_init : Binds K fd_InvalidLoom_init P_InvalidLoom_init []
  f_is_number : Addr
  fd_is_number : FuncData
  F_is_number : Fun K "is_number" "is_number" s_is_number f_is_number fd_is_number
  b_is_number : Binds K fd_is_number P_is_number []
  m_is_number : mg "is_number" = some (.ref f_is_number)
  f_is_sequence : Addr
  fd_is_sequence : FuncData
  F_is_sequence : Fun K "is_sequence" "is_sequence" s_is_sequence f_is_sequence fd_is_sequence
  b_is_sequence : Binds K fd_is_sequence P_is_sequence []
  m_is_sequence : mg "is_sequence" = some (.ref f_is_sequence)
  f_is_signs : Addr
  fd_is_signs : FuncData
  F_is_signs : Fun K "is_signs" "is_signs" s_is_signs f_is_signs fd_is_signs
  b_is_signs : Binds K fd_is_signs P_is_signs []
  m_is_signs : mg "is_signs" = some (.ref f_is_signs)
  f_is_string_over : Addr
  fd_is_string_over : FuncData
  F_is_string_over : Fun K "is_string_over" "is_string_over" s_is_string_over f_is_string_over fd_is_string_over
  b_is_string_over : Binds K fd_is_string_over P_is_string_over []
  m_is_string_over : mg "is_string_over" = some (.ref f_is_string_over)
  f_is_word : Addr
  fd_is_word : FuncData
  F_is_word : Fun K "is_word" "is_word" s_is_word f_is_word fd_is_word
  b_is_word : Binds K fd_is_word P_is_word []
  m_is_word : mg "is_word" = some (.ref f_is_word)
  f_check_signs : Addr
  fd_check_signs : FuncData
  F_check_signs : Fun K "check_signs" "check_signs" s_check_signs f_check_signs fd_check_signs
  b_check_signs : Binds K fd_check_signs P_check_signs []
  m_check_signs : mg "check_signs" = some (.ref f_check_signs)
  f_is_arc : Addr
  fd_is_arc : FuncData
  F_is_arc : Fun K "is_arc" "is_arc" s_is_arc f_is_arc fd_is_arc
  b_is_arc : Binds K fd_is_arc P_is_arc []
  m_is_arc : mg "is_arc" = some (.ref f_is_arc)
  f_Loom_init : Addr
  fd_Loom_init : FuncData
  F_Loom_init : Fun K "__init__" "Loom.__init__" s_Loom_init f_Loom_init fd_Loom_init
  b_Loom_init : Binds K fd_Loom_init P_Loom_init []
  f_Loom_eq : Addr
  fd_Loom_eq : FuncData
  F_Loom_eq : Fun K "__eq__" "Loom.__eq__" s_Loom_eq f_Loom_eq fd_Loom_eq
  b_Loom_eq : Binds K fd_Loom_eq P_Loom_eq []
  f_l_state : Addr
  fd_l_state : FuncData
  F_l_state : Fun K "_law_state" "_law_state" s_l_state f_l_state fd_l_state
  b_l_state : Binds K fd_l_state P_l_state []
  m_l_state : mg "_law_state" = some (.ref f_l_state)
  f_l_draw : Addr
  fd_l_draw : FuncData
  F_l_draw : Fun K "_law_draw" "_law_draw" s_l_draw f_l_draw fd_l_draw
  b_l_draw : Binds K fd_l_draw P_l_draw []
  m_l_draw : mg "_law_draw" = some (.ref f_l_draw)
  f_l_word : Addr
  fd_l_word : FuncData
  F_l_word : Fun K "_law_word" "_law_word" s_l_word f_l_word fd_l_word
  b_l_word : Binds K fd_l_word P_l_word []
  m_l_word : mg "_law_word" = some (.ref f_l_word)
  f_l_loom : Addr
  fd_l_loom : FuncData
  F_l_loom : Fun K "_law_loom" "_law_loom" s_l_loom f_l_loom fd_l_loom
  b_l_loom : Binds K fd_l_loom P_l_loom []
  m_l_loom : mg "_law_loom" = some (.ref f_l_loom)
  f_l_told : Addr
  fd_l_told : FuncData
  F_l_told : Fun K "_law_told" "_law_told" s_l_told f_l_told fd_l_told
  b_l_told : Binds K fd_l_told P_l_told []
  m_l_told : mg "_law_told" = some (.ref f_l_told)
  f_l_wrong_arc : Addr
  fd_l_wrong_arc : FuncData
  F_l_wrong_arc : Fun K "_law_wrong_arc" "_law_wrong_arc" s_l_wrong_arc f_l_wrong_arc fd_l_wrong_arc
  b_l_wrong_arc : Binds K fd_l_wrong_arc P_l_wrong_arc []
  m_l_wrong_arc : mg "_law_wrong_arc" = some (.ref f_l_wrong_arc)
  f_law : Addr
  fd_law : FuncData
  F_law : Fun K "law" "law" s_law f_law fd_law
  b_law : Binds K fd_law P_law []
  m_law : mg "law" = some (.ref f_law)
  n_Exception : mg "Exception" = none
  n_all : mg "all" = none
  n_bool : mg "bool" = none
  n_enumerate : mg "enumerate" = none
  n_int : mg "int" = none
  n_isinstance : mg "isinstance" = none
  n_len : mg "len" = none
  n_list : mg "list" = none
  n_range : mg "range" = none
  n_sorted : mg "sorted" = none
  n_str : mg "str" = none
  n_tuple : mg "tuple" = none
  n_zip : mg "zip" = none
  t_MOST_SIGNS : Tok
  g_MOST_SIGNS : mg "MOST_SIGNS" = some (.int 4 t_MOST_SIGNS)
  t_LONGEST_WORD : Tok
  g_LONGEST_WORD : mg "LONGEST_WORD" = some (.int 12 t_LONGEST_WORD)
  t_LAST_STATE : Tok
  g_LAST_STATE : mg "LAST_STATE" = some (.int 63 t_LAST_STATE)
  t_MOST_ARCS : Tok
  g_MOST_ARCS : mg "MOST_ARCS" = some (.int 200 t_MOST_ARCS)
  C_Loom : Addr
  M_Loom : Mk K C_Loom f_Loom_init
  cl_Loom : Cls K C_Loom
  g_Loom : mg "Loom" = some (.ref C_Loom)
  na_Loom_signs : NoAttr K C_Loom "signs"
  na_Loom_arcs : NoAttr K C_Loom "arcs"
  C_ReadError : Addr
  C_InvalidLoom : Addr
  g_ReadError : mg "ReadError" = some (.ref C_ReadError)
  kc_ReadError : PySem.W.keepIn K (.ref C_ReadError) = true
  E_ReadError : ExcC K C_ReadError
  ty_ReadError : PySem.W.typeIn K (.ref C_ReadError) = some (.type "type")
  in_ReadError : PySem.W.excIn K C_ReadError [.type "Exception", .type "BaseException", .type "object"] "Exception.__new__" = true
  g_InvalidLoom : mg "InvalidLoom" = some (.ref C_InvalidLoom)
  kc_InvalidLoom : PySem.W.keepIn K (.ref C_InvalidLoom) = true
  E_InvalidLoom : ExcC K C_InvalidLoom
  ty_InvalidLoom : PySem.W.typeIn K (.ref C_InvalidLoom) = some (.type "type")
  X_InvalidLoom : PySem.ExX.ExcT K mg C_InvalidLoom f_InvalidLoom_init "InvalidLoom" ["part", "at"] "InvalidLoom.__init__" s_InvalidLoom_init
  ic_Loom : PySem.W.findIn K (.ref C_Loom) "__class__" = some (some (.builtin "object.__class__"))
  ig : PySem.W.specialIn K (.builtin "object.__class__") "__get__" = some (some (.builtin "getset_descriptor.__get__"))
  it : PySem.W.takesIn K (.builtin "object.__class__") = some true
  im_Loom : PySem.W.mroIn K C_Loom (.type "object") = some true
  si_InvalidLoom : PySem.W.subIn K (.ref C_InvalidLoom) (.type "int") = some false
  si_Loom : PySem.W.subIn K (.ref C_Loom) (.type "int") = some false
  sl_InvalidLoom : PySem.W.subIn K (.ref C_InvalidLoom) (.type "list") = some false
  st_InvalidLoom : PySem.W.subIn K (.ref C_InvalidLoom) (.type "tuple") = some false
  sl_Loom : PySem.W.subIn K (.ref C_Loom) (.type "list") = some false
  st_Loom : PySem.W.subIn K (.ref C_Loom) (.type "tuple") = some false
  cl_InvalidLoom : PySem.W.isClsIn K C_InvalidLoom = true
  ss_InvalidLoom : PySem.W.subIn K (.ref C_InvalidLoom) (.ref C_InvalidLoom) = some true
  sr_InvalidLoom : PySem.W.subIn K (.ref C_InvalidLoom) (.ref C_ReadError) = some true
  cl_ReadError : PySem.W.isClsIn K C_ReadError = true
  nx_InvalidLoom_at : PySem.W.findIn K (.ref C_InvalidLoom) "at" = some none
  nx_InvalidLoom_part : PySem.W.findIn K (.ref C_InvalidLoom) "part" = some none
  sstr_Loom : PySem.W.subIn K (.ref C_Loom) (.type "str") = some false
  eq_Loom : PySem.W.findIn K (.ref C_Loom) "__eq__" = some (some (.ref f_Loom_eq))
  fn_Loom_eq : PySem.W.isFn K (.ref f_Loom_eq) = true
  ne_Loom : PySem.W.findIn K (.ref C_Loom) "__ne__" = some (some (.builtin "object.__ne__"))
  sx_InvalidLoom : PySem.W.subIn K (.ref C_InvalidLoom) (.type "Exception") = some true
end J

set_option Elab.async false
set_option linter.all false
set_option maxRecDepth 100000
set_option maxHeartbeats 4000000
namespace J
open PySem L2
/-! ### frames -/
/-- all that was tracked but what stands at p is as it was -/
def Ex (p : Addr) (H H' : Hp) : Prop := ∀ b o, b ≠ p → H b = some o → H' b = some o
theorem Ex.refl (p : Addr) (H : Hp) : Ex p H H := fun _ _ _ h => h
theorem Ex.trans {p : Addr} {H H1 H2 : Hp} (a : Ex p H H1) (b : Ex p H1 H2) : Ex p H H2 := fun c o n h => b c o n (a c o n h)
theorem Ex.upd {p : Addr} {H : Hp} (o : HO) : Ex p H (upd H p o) := fun c u n h => by rw [upd_ne n]; exact h
theorem Ex.new {p q : Addr} {H : Hp} (o : HO) (h : H q = none) : Ex p H (L2.upd H q o) := fun c u n e => by
  rw [upd_ne (ne_of_none e h)]; exact e
theorem Same.ex {p : Addr} {H H' : Hp} (s : Same H H') : Ex p H H' := fun c o _ h => s c o h
theorem Same.new {q : Addr} {H : Hp} (o : HO) (h : H q = none) : Same H (L2.upd H q o) := fun c u e => by
  rw [upd_ne (ne_of_none e h)]; exact e
/-! ### the pool of draws -/
def stv (l : Addr) (a b c d e : Int) : List V := [.ref l, .int a, .int b, .int c, .int d, .int e]
def StAt (ns : List Int) (l : Addr) (H : Hp) (p : Addr) : Prop := ∃ (a b c d e : Int), H l = some (.lst (ns.map V.int)) ∧ H p = some (.lst (stv l a b c d e)) ∧ 0 ≤ a
theorem StAt.there {ns : List Int} {l : Addr} {H : Hp} {p : Addr} (h : StAt ns l H p) : (∃ o, H p = some o) ∧ ∃ o, H l = some o := by
  obtain ⟨a, b, c, d, e, h1, h2, h3⟩ := h
  exact ⟨⟨_, h2⟩, _, h1⟩
theorem hp_ne {H : Hp} {p q : Addr} {o : HO} (h : H p = some o) (hq : H q = none) : q ≠ p := by
  intro z
  rw [z, h] at hq
  cases hq
theorem StAt.ne {ns : List Int} {l : Addr} {H : Hp} {p q : Addr} (h : StAt ns l H p) (hq : H q = none) : q ≠ p ∧ q ≠ l := by
  obtain ⟨⟨o, h1⟩, u, h2⟩ := h.there
  exact ⟨hp_ne h1 hq, hp_ne h2 hq⟩
theorem StAt.same {ns : List Int} {l : Addr} {H H' : Hp} {p : Addr} (h : StAt ns l H p) (s : Same H H') : StAt ns l H' p := by
  obtain ⟨a, b, c, d, e, h1, h2, h3⟩ := h
  exact ⟨a, b, c, d, e, s _ _ h1, s _ _ h2, h3⟩
theorem StAt.upd {ns : List Int} {l : Addr} {H : Hp} {p q : Addr} {o : HO} (h : StAt ns l H p) (n : q ≠ p ∧ q ≠ l) : StAt ns l (L2.upd H q o) p := by
  obtain ⟨a, b, c, d, e, h1, h2, h3⟩ := h
  exact ⟨a, b, c, d, e, by rw [upd_ne n.2.symm]; exact h1, by rw [upd_ne n.1.symm]; exact h2, h3⟩
theorem Ex.free {p q : Addr} {H H' : Hp} (x : Ex p H H') (hq : H' q = none) (n : q ≠ p) : H q = none := by
  cases e : H q with
  | none => rfl
  | some o => rw [x _ _ n e] at hq; cases hq
theorem Ex.updNew {p q : Addr} {H H' : Hp} {o : HO} (x : Ex p H H') (hq : H q = none) : Ex p H (L2.upd H' q o) := fun b u n e => by
  rw [upd_ne (ne_of_none e hq)]; exact x b u n e
def spState (K : PySem.W.Frag) (ns : List Int) : Sp := fun vs H Q _ => ∃ a : Addr, vs = [.ref a] ∧ SqL K H a (ns.map V.int) ∧ ∀ H' p l, Same H H' → H p = none → H l = none → StAt ns l H' p → Q (.ref p) H'
def spDraw (ns : List Int) : Sp := fun vs H Q _ => ∃ (p l : Addr) (m : Int), vs = [.ref p, .int m] ∧ StAt ns l H p ∧ 0 < m ∧ m < 1073741824 ∧
  ∀ H' (r : Int), Ex p H H' → StAt ns l H' p → 0 ≤ r → r < m → Q (.int r) H'
theorem fm_nonneg (a : Int) {b : Int} (h : 0 < b) : 0 ≤ a.fmod b := Int.fmod_nonneg_of_pos a h
theorem fm_lt (a : Int) {b : Int} (h : 0 < b) : a.fmod b < b := Int.fmod_lt_of_pos a h
theorem atI_ints {ns : List Int} {a : Int} (h0 : 0 ≤ a) (h1 : a < ns.length) : ∃ n, atI (ns.map V.int) a = some (V.int n) := by
  obtain ⟨j, rfl⟩ := Int.eq_ofNat_of_zero_le h0
  have hj : j < ns.length := by exact_mod_cast h1
  exact ⟨ns[j], atI_nat (by rw [List.getElem?_map, List.getElem?_eq_getElem hj]; rfl)⟩
section
variable {P : Program} {w : World} {K : PySem.W.Frag} {mg : Str → Option Value} {base : Heap}
theorem ok_l_state (T : Tx K mg) (ns : List Int) : FnOk P w K mg base CX0 1 T.f_l_state T.fd_l_state P_l_state (spState K ns) := by
  refine T.F_l_state.ok sc_l_state (fun vs H Q E h => ?_) (fun cdv A outer s H vs Q E hr h => ?_)
  · obtain ⟨a, rfl, _⟩ := h
    rfl
  · obtain ⟨a, rfl, hS, k⟩ := h
    refine ⟨_, (pss_one (ps_ret (pe_lst (pa_cons (pe_callTy (call_list_ofK (K := K) rfl) rfl T.n_list (by decide +kernel) (pa_cons (pv 0) pa_nil)) (pa_cons pe_int (pa_cons pe_int (pa_cons pe_int (pa_cons pe_int (pa_cons pe_int pa_nil))))))))), ?_⟩
    refine ⟨_, rfl, a, _, rfl, .inl hS, fun l hl => ?_⟩
    refine ⟨by show 6 ≤ sizeLine; decide, fun p hp => ?_⟩
    have nlp : l ≠ p := fun q => by
      rw [q, upd_same] at hp
      cases hp
    have hp0 : H p = none := by rw [upd_ne nlp.symm] at hp; exact hp
    refine k _ p l ((Same.new _ hl).trans (Same.new _ hp)) hp0 hl ⟨0, 0, 0, 0, 0, ?_, upd_same, Int.le_refl _⟩
    rw [upd_ne nlp, upd_same]
theorem ok_l_draw (T : Tx K mg) (ns : List Int) : FnOk P w K mg base CX0 1 T.f_l_draw T.fd_l_draw P_l_draw (spDraw ns) := by
  refine T.F_l_draw.ok sc_l_draw (fun vs H Q E h => ?_) (fun cdv A outer s H vs Q E hr h => ?_)
  · obtain ⟨p, l, m, rfl, _⟩ := h
    rfl
  · obtain ⟨p, l, m, rfl, hst, hm, hm2, k⟩ := h
    refine ⟨_, (C8.pss_cut (ps_if (PW.pt (pw_and (pt_cmpR op_gt (pe_ix (ix_listK (K := K) rfl) (pv 0) pe_int (fun _ _ => rfl)) pe_int (nomark _)) (pw_and1 (pt_cmpR op_lt (pe_ix (ix_listK (K := K) rfl) (pv 0) pe_int (fun _ _ => rfl)) pe_int (nomark _))))) (pss_cons (ps_set (i := 2) sc_l_draw.nd rfl (Or.inl rfl) (pe_op op_modN (pe_callTy call_int1 rfl T.n_int (by decide +kernel) (pa_cons (pe_ix (ix_listK (K := K) rfl) (pv 0) pe_int (fun _ _ => rfl)) pa_nil)) (pv 1)))
        (pss_cons (ps_asg (pe_op op_fdivN (pe_ix (ix_listK (K := K) rfl) (pv 0) pe_int (fun _ _ => rfl)) (pv 1)) (pg_sub (pv 0) pe_int set_list))
        (pss_cons (ps_asg (pe_op op_add (pe_ix (ix_listK (K := K) rfl) (pv 0) pe_int (fun _ _ => rfl)) pe_int) (pg_sub (pv 0) pe_int set_list))
        (pss_one (ps_ret (pv 2)))))) pss_nil)
        (pss_cons (ps_asg (pe_op op_add (pe_ix (ix_listK (K := K) rfl) (pv 0) pe_int (fun _ _ => rfl)) pe_int) (pg_sub (pv 0) pe_int set_list))
        (C8.pss_cut (ps_if (pt_cmpR op_lt (pe_ix (ix_listK (K := K) rfl) (pv 0) pe_int (fun _ _ => rfl)) (pe_callB (call_len_seqK (K := K) rfl) rfl T.n_len (by decide +kernel) (pa_cons (pe_ix (ix_listK (K := K) rfl) (pv 0) pe_int (fun _ _ => rfl)) pa_nil)) (nomark _)) (pss_cons (ps_set (i := 3) sc_l_draw.nd rfl (Or.inl rfl) (pe_ix (ix_listK (K := K) rfl) (pe_ix (ix_listK (K := K) rfl) (pv 0) pe_int (fun _ _ => rfl)) (pe_ix (ix_listK (K := K) rfl) (pv 0) pe_int (fun _ _ => rfl)) (fun _ _ => rfl)))
        (pss_cons (ps_asg (pe_op op_add (pe_ix (ix_listK (K := K) rfl) (pv 0) pe_int (fun _ _ => rfl)) pe_int) (pg_sub (pv 0) pe_int set_list))
        (pss_cons (ps_asg (pe_op op_modN (pe_op op_add (pe_op op_mul (pe_ix (ix_listK (K := K) rfl) (pv 0) pe_int (fun _ _ => rfl)) pe_int) (pe_callTy call_int1 rfl T.n_int (by decide +kernel) (pa_cons (pv 3) pa_nil))) (pe_op op_pow pe_int pe_int)) (pg_sub (pv 0) pe_int set_list))
        (pss_one (ps_if (pt_cmpR op_ge (pv 3) (pe_op op_pow pe_int pe_int) (nomark _)) (pss_cons (ps_asg (pe_op op_fdivN (pv 3) (pv 1)) (pg_sub (pv 0) pe_int set_list))
        (pss_cons (ps_asg pe_int (pg_sub (pv 0) pe_int set_list))
        (pss_one (ps_ret (pe_op op_modN (pe_callTy call_int1 rfl T.n_int (by decide +kernel) (pa_cons (pv 3) pa_nil)) (pv 1)))))) pss_nil))))) pss_nil)
        (pss_cons (ps_set (i := 4) sc_l_draw.nd rfl (Or.inl rfl) (pe_op op_modN (pe_op op_mul (pe_op op_add (pe_op op_add (pe_op op_mul (pe_callTy call_int1 rfl T.n_int (by decide +kernel) (pa_cons (pe_ix (ix_listK (K := K) rfl) (pv 0) pe_int (fun _ _ => rfl)) pa_nil)) pe_int) (pe_op op_mul pe_int (pe_ix (ix_listK (K := K) rfl) (pv 0) pe_int (fun _ _ => rfl)))) pe_int) pe_int) pe_int))
        (pss_cons (ps_set (i := 4) sc_l_draw.nd rfl (Or.inl rfl) (pe_op op_modN (pe_op op_mul (pv 4) (pe_op op_add (pe_op op_fdivN (pv 4) pe_int) pe_int)) pe_int))
        (pss_cons (ps_set (i := 4) sc_l_draw.nd rfl (Or.inl rfl) (pe_op op_modN (pe_op op_mul (pv 4) (pe_op op_add (pe_op op_fdivN (pv 4) pe_int) pe_int)) pe_int))
        (pss_one (ps_ret (pe_op op_modN (pv 4) (pv 1)))))))))), ?_⟩
    obtain ⟨a, b, c, d, e, hl, hp, ha⟩ := hst
    have npl : p ≠ l := by
      intro q
      rw [q, hl] at hp
      injection hp with hp
      injection hp with hp
      cases ns with
      | nil => cases hp
      | cons x r => cases hp
    have nlp := npl.symm
    -- the Mid behind the first if: as at the start
    refine ⟨fun σ' H' => σ' = [some (.ref p), some (.int m), none, none, none] ∧ H' = H, ?_, ?_⟩
    · refine ⟨_, rfl, _, _, _, _, rfl, rfl, SqL.of hp, rfl, _, _, rfl, rfl, _, rfl, ?_⟩
      refine ite2 (fun c1 => ?_) (fun c1 => ?_)
      · refine ⟨_, rfl, _, _, _, _, rfl, rfl, SqL.of hp, rfl, _, _, rfl, rfl, _, rfl, ?_⟩
        refine ite2 (fun c2 => ?_) (fun c2 => ?_)
        · refine ⟨_, rfl, _, _, _, _, rfl, rfl, SqL.of hp, rfl, .inl ⟨_, rfl, _, rfl, _, _, rfl, rfl, by omega, ?_⟩⟩
          refine ⟨_, rfl, _, _, _, _, rfl, rfl, SqL.of hp, rfl, _, rfl, _, _, rfl, rfl, ⟨by omega, by omega⟩, _, rfl, p, _, _, _, rfl, rfl, hp, rfl, ?_⟩
          refine ⟨_, rfl, _, _, _, _, rfl, rfl, SqL.of upd_same, rfl, _, _, rfl, rfl, _, rfl, p, _, _, _, rfl, rfl, upd_same, rfl, ?_⟩
          refine ⟨_, rfl, k _ _ ((Ex.upd _).trans (Ex.upd _)) ⟨_, _, _, _, _, ?_, upd_same, ?_⟩ (fm_nonneg _ hm) (fm_lt _ hm)⟩
          · rw [upd_ne nlp, upd_ne nlp]; exact hl
          · exact ha
        · exact ⟨rfl, rfl⟩
      · exact iteF ⟨rfl, rfl⟩
    · rintro σ' H' ⟨rfl, rfl⟩
      refine ⟨_, rfl, _, _, _, _, rfl, rfl, SqL.of hp, rfl, _, _, rfl, rfl, _, rfl, p, _, _, _, rfl, rfl, hp, rfl, ?_⟩
      refine ⟨fun σ2 H2 => ∃ v a b c d e, σ2 = [some (.ref p), some (.int m), none, v, none] ∧ Ex p H' H2 ∧ H2 l = some (.lst (ns.map V.int)) ∧ H2 p = some (.lst (stv l a b c d e)) ∧ 0 ≤ a, ?_, ?_⟩
      · refine ⟨_, rfl, _, _, _, _, rfl, rfl, SqL.of upd_same, rfl, _, rfl, _, _, _, _, rfl, rfl, SqL.of upd_same, rfl, l, _, rfl, .inl (SqL.of (by rw [upd_ne nlp]; exact hl)), _, _, rfl, rfl, _, rfl, ?_⟩
        refine ite2 (fun c1 => ?_) (fun c1 => ?_)
        · rw [List.length_map] at c1
          obtain ⟨n, hn⟩ := atI_ints (ns := ns) ha (by simpa using c1)
          refine ⟨_, rfl, _, _, _, _, rfl, rfl, SqL.of upd_same, rfl, _, rfl, _, _, _, _, rfl, rfl, SqL.of upd_same, rfl, l, _, _, _, rfl, rfl, SqL.of (by rw [upd_ne nlp]; exact hl), hn, ?_⟩
          refine ⟨_, rfl, _, _, _, _, rfl, rfl, SqL.of upd_same, rfl, _, _, rfl, rfl, _, rfl, p, _, _, _, rfl, rfl, upd_same, rfl, ?_⟩
          refine ⟨_, rfl, _, _, _, _, rfl, rfl, SqL.of upd_same, rfl, _, _, rfl, rfl, .inr (by decide), _, rfl, .inl ⟨_, rfl, _, _, rfl, rfl, _, _, rfl, rfl, ⟨by decide, by decide, by decide⟩, _, _, rfl, rfl, (by decide : (10 : Int) ^ 18 ≠ 0), _, rfl, p, _, _, _, rfl, rfl, upd_same, rfl, ?_⟩⟩
          refine ⟨_, rfl, _, _, rfl, rfl, ⟨by decide, by decide, by decide⟩, _, _, rfl, rfl, _, rfl, ?_⟩
          have el : ∀ {o1 o2 o3 : HO}, upd (upd (upd H' p o1) p o2) p o3 l = some (.lst (ns.map V.int)) := fun {o1 o2 o3} => by rw [upd_ne nlp, upd_ne nlp, upd_ne nlp]; exact hl
          refine ite2 (fun c2 => ?_) (fun c2 => ?_)
          · refine ⟨_, rfl, _, rfl, _, _, rfl, rfl, ⟨by omega, by omega⟩, _, rfl, p, _, _, _, rfl, rfl, upd_same, rfl, ?_⟩
            refine ⟨_, rfl, p, _, _, _, rfl, rfl, upd_same, rfl, ?_⟩
            refine ⟨_, rfl, .inl ⟨_, rfl, _, rfl, _, _, rfl, rfl, by omega, ?_⟩⟩
            refine k _ _ (((((Ex.upd _).trans (Ex.upd _)).trans (Ex.upd _)).trans (Ex.upd _)).trans (Ex.upd _)) ⟨_, _, _, _, _, ?_, upd_same, ?_⟩ (fm_nonneg _ hm) (fm_lt _ hm)
            · rw [upd_ne nlp, upd_ne nlp]; exact el
            · omega
          · exact ⟨_, _, _, _, _, _, rfl, ((Ex.upd _).trans (Ex.upd _)).trans (Ex.upd _), el, upd_same, by omega⟩
        · exact ⟨_, _, _, _, _, _, rfl, Ex.upd _, by rw [upd_ne nlp]; exact hl, upd_same, ha⟩
      · rintro σ2 H2 ⟨v, a, b, c, d, e, rfl, x2, hl2, hp2, ha2⟩
        refine ⟨_, rfl, _, _, _, _, rfl, rfl, SqL.of hp2, rfl, .inl ⟨_, rfl, _, _, rfl, rfl, .inr (by decide), _, rfl, _, _, _, _, rfl, rfl, SqL.of hp2, rfl, _, _, rfl, rfl, .inl (by decide), _, _, rfl, rfl, _, _, rfl, rfl, _, _, rfl, rfl, .inr (by decide), _, _, rfl, rfl, (by decide : (2147483647 : Int) ≠ 0), ?_⟩⟩
        have hx0 := fm_nonneg ((e * 1000003 + 7919 * d + 1) * 48271) (b := 2147483647) (by decide)
        have hx1 := fm_lt ((e * 1000003 + 7919 * d + 1) * 48271) (b := 2147483647) (by decide)
        refine ⟨_, rfl, _, rfl, _, _, rfl, rfl, ⟨by decide, by decide⟩, _, _, rfl, rfl, _, _, rfl, rfl, .inl ⟨Int.lt_of_lt_of_le (by decide) hx0, Int.lt_trans hx1 (by decide)⟩, _, _, rfl, rfl, (by decide : (2147483647 : Int) ≠ 0), ?_⟩
        refine ⟨_, rfl, _, rfl, _, _, rfl, rfl, ⟨by decide, by decide⟩, _, _, rfl, rfl, _, _, rfl, rfl, .inl ⟨Int.lt_of_lt_of_le (by decide) (fm_nonneg _ (by decide)), Int.lt_trans (fm_lt _ (by decide)) (by decide)⟩, _, _, rfl, rfl, (by decide : (2147483399 : Int) ≠ 0), ?_⟩
        refine ⟨_, rfl, _, rfl, _, _, rfl, rfl, by omega, ?_⟩
        exact k _ _ x2 ⟨_, _, _, _, _, hl2, hp2, ha2⟩ (fm_nonneg _ hm) (fm_lt _ hm)
end
end J


set_option Elab.async false
set_option linter.all false
set_option maxRecDepth 100000
set_option maxHeartbeats 4000000
namespace J
open PySem L2

theorem joinL_nil : ∀ ys : List (List Nat), TL.joinL [] ys = ys.flatten
  | [] => rfl
  | [p] => by simp [TL.joinL]
  | p :: q :: r => by
    show p ++ ([] ++ TL.joinL [] (q :: r)) = _
    rw [joinL_nil (q :: r)]
    simp
theorem join_flat (ys : List (List Nat)) : Txt.join (SX.S []) (ys.map SX.S) = SX.S ys.flatten := by rw [SX.join_S, joinL_nil]
theorem emptyS : Str.ofString "" = SX.S [] := rfl
theorem sum_ones (us : List Nat) : ((us.map fun c => SX.S [c]).map (·.length)).sum = us.length := by
  induction us with
  | nil => rfl
  | cons a r ih => simp only [List.map_cons, List.sum_cons, ih, SX.S_len, List.length_cons, List.length_nil]; omega
theorem atI_mem {α : Type} {xs : List α} {i : Int} (h0 : 0 ≤ i) (h1 : i < xs.length) : ∃ v, v ∈ xs ∧ atI xs i = some v := by
  obtain ⟨j, rfl⟩ := Int.eq_ofNat_of_zero_le h0
  have hj : j < xs.length := by exact_mod_cast h1
  exact ⟨xs[j], List.getElem_mem hj, atI_nat (List.getElem?_eq_getElem hj)⟩
/-- signs that a loom may have -/
def Signs (sg : List Nat) : Prop := sg ∈ ([[97], [97, 98], [97, 98, 99], [120, 122], [98, 100, 107, 122], [113, 119]] : List (List Nat))
theorem Signs.len {sg : List Nat} (h : Signs sg) : 1 ≤ sg.length ∧ sg.length ≤ 4 := by
  revert sg; unfold Signs; decide
/-- a word over the signs -/
def Word (sg u : List Nat) : Prop := 1 ≤ u.length ∧ u.length ≤ 12 ∧ ∀ c ∈ u, c ∈ sg
def spWord (ns : List Int) : Sp := fun vs H Q _ => ∃ (p l : Addr) (sg : List Nat) (m : Int), vs = [.ref p, .str (SX.S sg), .int m] ∧ StAt ns l H p ∧ Signs sg ∧ 0 < m ∧ m ≤ 12 ∧
  ∀ H' u, Ex p H H' → StAt ns l H' p → Word sg u → Q (.str (SX.S u)) H'
theorem sizeLine16 : (16777216 : Nat) ≤ sizeLine := by decide
theorem le_size {n : Nat} (h : n ≤ 100000) : n ≤ sizeLine := Nat.le_trans h (by decide)
theorem lt_size {n : Nat} (h : n ≤ 100000) : n < sizeLine := Nat.lt_of_le_of_lt h (by decide)
section
variable {P : Program} {w : World} {K : PySem.W.Frag} {mg : Str → Option Value} {base : Heap}

theorem ok_l_word (T : Tx K mg) (ns : List Int) : FnOk P w K mg base CX0 2 T.f_l_word T.fd_l_word P_l_word (spWord ns) := by
  have G_l_draw : FnOk P w K mg base CX0 1 T.f_l_draw T.fd_l_draw P_l_draw (spDraw ns) := ok_l_draw T ns
  refine T.F_l_word.ok sc_l_word (fun vs H Q E h => ?_) (fun cdv A outer s H vs Q E hr h => ?_)
  · obtain ⟨p, l, sg, m, rfl, _⟩ := h
    rfl
  · obtain ⟨p, l, sg, m, rfl, hst, hsg, hm, hm2, k⟩ := h
    refine ⟨_, (pss_cons (ps_set (i := 3) sc_l_word.nd rfl (Or.inl rfl) (pe_op op_add pe_int (pe_call G_l_draw (hr.mono (by decide)) rfl T.m_l_draw T.F_l_draw.kp T.b_l_draw .nil pass0 (pa_cons (pv 0) (pa_cons (pv 2) pa_nil)))))
        (pss_one (ps_ret (pe_join pe_str (pe_lc (own := [("_law_k", 4)]) (g := (gName 4)) rfl sc_l_word.nd (pi_range1 rfl T.n_range (pa_cons (pv 3) pa_nil)) (blkOk_by (N := N_l_word) (sc := defScope s_l_word) (by decide +kernel)) (fun _ _ _ _ _ => (pg_name (i := 4) sc_l_word.nd rfl (Or.inl rfl))) (fun _ _ _ _ _ => pts_nil) (fun _ _ _ _ _ => (pe_ix ix_str (pv 1) (pe_call G_l_draw (hr.mono (by decide)) rfl T.m_l_draw T.F_l_draw.kp T.b_l_draw .nil pass0 (pa_cons (pv 0) (pa_cons (pe_callB call_len_str rfl T.n_len (by decide +kernel) (pa_cons (pv 1) pa_nil)) pa_nil))) (fun _ _ => rfl)))))))), ?_⟩
    have hlen := hsg.len
    refine ⟨_, rfl, _, rfl, p, l, m, rfl, hst, hm, by omega, fun H1 r x1 st1 r0 r1 => ⟨_, _, rfl, rfl, ?_⟩⟩
    refine ⟨⟨_, rfl⟩, _, rfl, _, rfl, by omega, by omega, fun D hD => lc_range (lo := 0) (n := (1 + r).toNat) (fun i H' => ∃ us : List Nat, us.length = i ∧ (∀ c ∈ us, c ∈ sg) ∧ H' D = some (.lst ((us.map fun c => SX.S [c]).map V.str)) ∧ Ex p H H' ∧ StAt ns l H' p) ?_ ?_ ?_⟩
    · exact ⟨[], rfl, fun _ h => (nomatch h), upd_same, x1.trans (Ex.new _ hD), st1.same (Same.new _ hD)⟩
    · rintro i H2 hi ⟨us, rfl, hu, hDs, x2, st2⟩
      refine ⟨rfl, ?_⟩
      refine ⟨_, rfl, _, rfl, _, rfl, _, rfl, le_size (by rw [SX.S_len]; omega), p, l, _, rfl, st2, by rw [SX.S_len]; omega, by rw [SX.S_len]; omega, fun H3 r3 x3 st3 r30 r31 => ?_⟩
      rw [SX.S_len] at r31
      obtain ⟨c, hc, hat⟩ := atI_mem (xs := sg) r30 r31
      have nD := st1.ne hD
      refine ⟨_, _, c, rfl, rfl, le_size (by rw [SX.S_len]; omega), hat, _, x3 _ _ nD.1 hDs, lt_size (by simp; omega), us ++ [c], by simp, ?_, ?_, (x2.trans x3).updNew (x1.free hD nD.1), st3.upd nD⟩
      · intro d hd
        rcases List.mem_append.mp hd with h | h
        · exact hu d h
        · rw [List.mem_singleton.mp h]; exact hc
      · rw [upd_same]; simp
    · rintro H2 ⟨us, hl, hu, hDs, x2, st2⟩
      have hf : ∀ l : List Nat, (l.map fun c => [c]).flatten = l := fun l => by induction l with
        | nil => rfl
        | cons a l ih => simpa using ih
      refine ⟨_, _, us.map fun c => SX.S [c], rfl, rfl, .inl (SqL.of hDs), ?_, ?_⟩
      · rw [sum_ones, emptyS, SX.S_len]
        simp
        omega
      · have e : us.map (fun c => SX.S [c]) = (us.map fun c => [c]).map SX.S := by rw [List.map_map]; rfl
        rw [e, emptyS, join_flat, hf]
        exact k _ us x2 st2 ⟨by omega, by omega, hu⟩
end
end J


set_option Elab.async false
set_option linter.all false
set_option maxRecDepth 100000
set_option maxHeartbeats 4000000
namespace J
open PySem L2

/-- an arc: its state, its word, where it leads -/
abbrev Arc := Nat × List Nat × Nat
def arcHO (a : Arc) : HO := .tup [.int (a.1 : Int), .str (SX.S a.2.1), .int (a.2.2 : Int)]
def Arcs (H : Hp) (vs : List V) (as : List Arc) : Prop := vs.length = as.length ∧ ∀ (i : Nat) (a : Arc), as[i]? = some a → ∃ t, vs[i]? = some (V.ref t) ∧ H t = some (arcHO a)
theorem Arcs.same {H H' : Hp} {vs : List V} {as : List Arc} (h : Arcs H vs as) (s : Same H H') : Arcs H' vs as :=
  ⟨h.1, fun i a e => by obtain ⟨t, h1, h2⟩ := h.2 i a e; exact ⟨t, h1, s _ _ h2⟩⟩
theorem Arcs.ex {H H' : Hp} {p : Addr} {xs : List V} {vs : List V} {as : List Arc} (h : Arcs H vs as) (x : Ex p H H') (hp : H p = some (.lst xs)) : Arcs H' vs as :=
  ⟨h.1, fun i a e => by
    obtain ⟨t, h1, h2⟩ := h.2 i a e
    exact ⟨t, h1, x _ _ (fun z => by rw [z, hp] at h2; cases h2) h2⟩⟩
theorem Arcs.snoc {H : Hp} {vs : List V} {as : List Arc} {t : Addr} {a : Arc} (h : Arcs H vs as) (ht : H t = some (arcHO a)) : Arcs H (vs ++ [V.ref t]) (as ++ [a]) := by
  refine ⟨by simp [h.1], fun i b e => ?_⟩
  by_cases hi : i < as.length
  · rw [List.getElem?_append_left hi] at e
    rw [List.getElem?_append_left (by rw [h.1]; exact hi)]
    exact h.2 i b e
  · rw [List.getElem?_append_right (by omega)] at e
    have e0 : i - as.length = 0 := by
      have q := (List.getElem?_eq_some_iff.mp e).1
      simp at q
      omega
    rw [e0] at e
    cases e
    refine ⟨t, ?_, ht⟩
    rw [List.getElem?_append_right (by rw [h.1]; omega), h.1, e0]
    rfl
theorem Arcs.updL {H : Hp} {vs xs : List V} {as : List Arc} {p : Addr} {o : HO} (h : Arcs H vs as) (hp : H p = some (.lst xs)) : Arcs (upd H p o) vs as := h.ex (Ex.upd o) hp
theorem Arcs.st {ns : List Int} {l p : Addr} {H H' : Hp} {vs : List V} {as : List Arc} (h : Arcs H vs as) (st : StAt ns l H p) (x : Ex p H H') : Arcs H' vs as := by
  obtain ⟨a, b, c, d, e, h1, h2, h3⟩ := st
  exact h.ex x h2
theorem Arcs.nil (H : Hp) : Arcs H [] [] := ⟨rfl, fun i a e => by simp at e⟩
theorem ex_upd_lst {p : Addr} {H : Hp} {o : HO} : Ex p H (upd H p o) := Ex.upd o
def OkArc (sg : List Nat) (a : Arc) : Prop := a.1 ≤ 63 ∧ Word sg a.2.1 ∧ a.2.2 ≤ 63
def OkArcs (sg : List Nat) (as : List Arc) : Prop := 1 ≤ as.length ∧ as.length ≤ 13 ∧ (∀ a ∈ as, OkArc sg a) ∧ ∃ a : Arc, as[0]? = some a ∧ a.1 = 0
/-- what a place's menu hands out: a list of states -/
def Pl (p l : Addr) (H : Hp) (v : V) : Prop := ∃ a, ∃ xs : List Nat, v = .ref a ∧ a ≠ p ∧ a ≠ l ∧ H a = some (.lst (xs.map fun n : Nat => V.int (n : Int))) ∧ 1 ≤ xs.length ∧ xs.length ≤ 4 ∧ ∀ x ∈ xs, x ≤ 63
theorem Pl.same {p l : Addr} {H H' : Hp} {v : V} (h : Pl p l H v) (s : Same H H') : Pl p l H' v := by
  obtain ⟨a, xs, h1, h2, h3, h4, h5⟩ := h
  exact ⟨a, xs, h1, h2, h3, s _ _ h4, h5⟩
theorem Pl.ex {p l : Addr} {H H' : Hp} {v : V} (h : Pl p l H v) (s : Ex p H H') : Pl p l H' v := by
  obtain ⟨a, xs, h1, h2, h3, h4, h5⟩ := h
  exact ⟨a, xs, h1, h2, h3, s _ _ h2 h4, h5⟩
theorem Pl.new {p l a : Addr} {H : Hp} (xs : List Nat) (n : a ≠ p ∧ a ≠ l) (h : 1 ≤ xs.length ∧ xs.length ≤ 4) (hx : ∀ x ∈ xs, x ≤ 63) {vs : List V} (e : vs = xs.map fun n : Nat => V.int (n : Int)) : Pl p l (upd H a (.lst vs)) (.ref a) :=
  ⟨a, xs, rfl, n.1, n.2, by rw [upd_same, e], h.1, h.2, hx⟩
theorem signs_menu {v : V} (h : v ∈ ([.str "a", .str "ab", .str "ab", .str "ab", .str "abc", .str "xz", .str "bdkz", .str "qw"] : List V)) : ∃ sg, v = .str (SX.S sg) ∧ Signs sg := by
  simp only [List.mem_cons, List.not_mem_nil, or_false] at h
  rcases h with rfl | rfl | rfl | rfl | rfl | rfl | rfl | rfl
  · exact ⟨[97], rfl, by unfold Signs; decide⟩
  · exact ⟨[97, 98], rfl, by unfold Signs; decide⟩
  · exact ⟨[97, 98], rfl, by unfold Signs; decide⟩
  · exact ⟨[97, 98], rfl, by unfold Signs; decide⟩
  · exact ⟨[97, 98, 99], rfl, by unfold Signs; decide⟩
  · exact ⟨[120, 122], rfl, by unfold Signs; decide⟩
  · exact ⟨[98, 100, 107, 122], rfl, by unfold Signs; decide⟩
  · exact ⟨[113, 119], rfl, by unfold Signs; decide⟩
theorem most_menu {v : V} (h : v ∈ ([.int 1, .int 2, .int 2, .int 3, .int 3, .int 4] : List V)) : ∃ m : Int, v = .int m ∧ 0 < m ∧ m ≤ 12 := by
  simp only [List.mem_cons, List.not_mem_nil, or_false] at h
  rcases h with rfl | rfl | rfl | rfl | rfl | rfl <;> exact ⟨_, rfl, by decide, by decide⟩
def spLoom (ns : List Int) : Sp := fun vs H Q _ => ∃ (p l : Addr), vs = [.ref p] ∧ StAt ns l H p ∧
  ∀ (H' : Hp) (q r : Addr) (sg : List Nat) (us : List V) (as : List Arc), Ex p H H' → StAt ns l H' p → H q = none → H r = none → H' q = some (.tup [.str (SX.S sg), .ref r]) → H' r = some (.lst us) → Arcs H' us as → OkArcs sg as → Signs sg → Q (.ref q) H'
section
variable {P : Program} {w : World} {K : PySem.W.Frag} {mg : Str → Option Value} {base : Heap}

theorem ok_l_loom (T : Tx K mg) (ns : List Int) : FnOk P w K mg base CX0 3 T.f_l_loom T.fd_l_loom P_l_loom (spLoom ns) := by
  have G_l_draw : FnOk P w K mg base CX0 1 T.f_l_draw T.fd_l_draw P_l_draw (spDraw ns) := ok_l_draw T ns
  have G_l_word : FnOk P w K mg base CX0 2 T.f_l_word T.fd_l_word P_l_word (spWord ns) := ok_l_word T ns
  refine T.F_l_loom.ok sc_l_loom (fun vs H Q E h => ?_) (fun cdv A outer s H vs Q E hr h => ?_)
  · obtain ⟨p, l, rfl, _⟩ := h
    rfl
  · obtain ⟨p, l, rfl, hst, k⟩ := h
    refine ⟨_, (pss_cons (ps_set (i := 1) sc_l_loom.nd rfl (Or.inl rfl) (pe_ix (ix_listK (K := K) rfl) (pe_lst (pa_cons pe_str (pa_cons pe_str (pa_cons pe_str (pa_cons pe_str (pa_cons pe_str (pa_cons pe_str (pa_cons pe_str (pa_cons pe_str pa_nil))))))))) (pe_call G_l_draw (hr.mono (by decide)) rfl T.m_l_draw T.F_l_draw.kp T.b_l_draw .nil pass0 (pa_cons (pv 0) (pa_cons pe_int pa_nil))) (fun _ _ => rfl)))
        (pss_cons (ps_set (i := 2) sc_l_loom.nd rfl (Or.inl rfl) (pe_ix (ix_listK (K := K) rfl) (pe_lst (pa_cons (pe_lst (pa_cons pe_int pa_nil)) (pa_cons (pe_lst (pa_cons pe_int pa_nil)) (pa_cons (pe_lst (pa_cons pe_int (pa_cons pe_int pa_nil))) (pa_cons (pe_lst (pa_cons pe_int (pa_cons pe_int pa_nil))) (pa_cons (pe_lst (pa_cons pe_int (pa_cons pe_int (pa_cons pe_int pa_nil)))) (pa_cons (pe_lst (pa_cons pe_int (pa_cons pe_int pa_nil))) (pa_cons (pe_lst (pa_cons pe_int (pa_cons pe_int (pa_cons pe_int pa_nil)))) (pa_cons (pe_lst (pa_cons pe_int (pa_cons pe_int (pa_cons pe_int (pa_cons pe_int pa_nil))))) pa_nil))))))))) (pe_call G_l_draw (hr.mono (by decide)) rfl T.m_l_draw T.F_l_draw.kp T.b_l_draw .nil pass0 (pa_cons (pv 0) (pa_cons pe_int pa_nil))) (fun _ _ => rfl)))
        (pss_cons (ps_set (i := 3) sc_l_loom.nd rfl (Or.inl rfl) (pe_op op_add pe_int (pe_call G_l_draw (hr.mono (by decide)) rfl T.m_l_draw T.F_l_draw.kp T.b_l_draw .nil pass0 (pa_cons (pv 0) (pa_cons pe_int pa_nil)))))
        (C8.pss_cut (ps_if (pt_cmpR op_eq (pe_call G_l_draw (hr.mono (by decide)) rfl T.m_l_draw T.F_l_draw.kp T.b_l_draw .nil pass0 (pa_cons (pv 0) (pa_cons pe_int pa_nil))) pe_int (nomark _)) (pss_one (ps_set (i := 3) sc_l_loom.nd rfl (Or.inl rfl) (pe_op op_add pe_int (pe_call G_l_draw (hr.mono (by decide)) rfl T.m_l_draw T.F_l_draw.kp T.b_l_draw .nil pass0 (pa_cons (pv 0) (pa_cons pe_int pa_nil)))))) pss_nil)
        (pss_cons (ps_set (i := 4) sc_l_loom.nd rfl (Or.inl rfl) (pe_ix (ix_listK (K := K) rfl) (pe_lst (pa_cons pe_int (pa_cons pe_int (pa_cons pe_int (pa_cons pe_int (pa_cons pe_int (pa_cons pe_int pa_nil))))))) (pe_call G_l_draw (hr.mono (by decide)) rfl T.m_l_draw T.F_l_draw.kp T.b_l_draw .nil pass0 (pa_cons (pv 0) (pa_cons pe_int pa_nil))) (fun _ _ => rfl)))
        (C8.pss_cut (ps_if (pt_cmpR op_eq (pe_call G_l_draw (hr.mono (by decide)) rfl T.m_l_draw T.F_l_draw.kp T.b_l_draw .nil pass0 (pa_cons (pv 0) (pa_cons pe_int pa_nil))) pe_int (nomark _)) (pss_one (ps_set (i := 4) sc_l_loom.nd rfl (Or.inl rfl) pe_int)) pss_nil)
        (pss_cons (ps_set (i := 5) sc_l_loom.nd rfl (Or.inl rfl) (pe_lst pa_nil))
        (pss_cons (ps_for PassesOwn.never rfl (pi_range1 rfl T.n_range (pa_cons (pv 3) pa_nil)) (pg_name (i := 6) sc_l_loom.nd rfl (Or.inl rfl)) (pss_cons (ps_set (i := 7) sc_l_loom.nd rfl (Or.inl rfl) (pe_ix (ix_listK (K := K) rfl) (pv 2) (pe_call G_l_draw (hr.mono (by decide)) rfl T.m_l_draw T.F_l_draw.kp T.b_l_draw .nil pass0 (pa_cons (pv 0) (pa_cons (pe_callB (call_len_seqK (K := K) rfl) rfl T.n_len (by decide +kernel) (pa_cons (pv 2) pa_nil)) pa_nil))) (fun _ _ => rfl)))
        (C8.pss_cut (ps_if (pt_cmpR op_eq (pv 6) pe_int (nomark _)) (pss_one (ps_set (i := 7) sc_l_loom.nd rfl (Or.inl rfl) pe_int)) pss_nil)
        (pss_one (ps_expr (pe_bm PySem.F.plainAttrs_list PySem.F.slot_list_append PySem.F.type_list_append mt_append (pv 5) (pa_cons (pe_tup (pa_cons (pv 7) (pa_cons (pe_call G_l_word (hr.mono (by decide)) rfl T.m_l_word T.F_l_word.kp T.b_l_word .nil pass0 (pa_cons (pv 0) (pa_cons (pv 1) (pa_cons (pv 4) pa_nil)))) (pa_cons (pe_ix (ix_listK (K := K) rfl) (pv 2) (pe_call G_l_draw (hr.mono (by decide)) rfl T.m_l_draw T.F_l_draw.kp T.b_l_draw .nil pass0 (pa_cons (pv 0) (pa_cons (pe_callB (call_len_seqK (K := K) rfl) rfl T.n_len (by decide +kernel) (pa_cons (pv 2) pa_nil)) pa_nil))) (fun _ _ => rfl)) pa_nil)))) pa_nil)))))))
        (C8.pss_cut (ps_if (pt_cmpR op_eq (pe_call G_l_draw (hr.mono (by decide)) rfl T.m_l_draw T.F_l_draw.kp T.b_l_draw .nil pass0 (pa_cons (pv 0) (pa_cons pe_int pa_nil))) pe_int (nomark _)) (pss_one (ps_expr (pe_bm PySem.F.plainAttrs_list PySem.F.slot_list_append PySem.F.type_list_append mt_append (pv 5) (pa_cons (pe_ix (ix_listK (K := K) rfl) (pv 5) (pe_call G_l_draw (hr.mono (by decide)) rfl T.m_l_draw T.F_l_draw.kp T.b_l_draw .nil pass0 (pa_cons (pv 0) (pa_cons (pe_callB (call_len_seqK (K := K) rfl) rfl T.n_len (by decide +kernel) (pa_cons (pv 5) pa_nil)) pa_nil))) (fun _ _ => rfl)) pa_nil)))) pss_nil)
        (pss_one (ps_ret (pe_tup (pa_cons (pv 1) (pa_cons (pv 5) pa_nil)))))))))))))), ?_⟩
    -- the signs
    refine ⟨le_size (by decide), fun D hD => ?_⟩
    have stD := hst.same (Same.new (.lst [.str "a", .str "ab", .str "ab", .str "ab", .str "abc", .str "xz", .str "bdkz", .str "qw"]) hD)
    have nD := hst.ne hD
    refine ⟨_, rfl, p, l, 8, rfl, stD, by decide, by decide, fun H1 r x1 st1 r0 r1 => ?_⟩
    obtain ⟨v, hv, hat⟩ := atI_mem (xs := ([.str "a", .str "ab", .str "ab", .str "ab", .str "abc", .str "xz", .str "bdkz", .str "qw"] : List V)) r0 (by simpa using r1)
    refine ⟨_, _, _, v, rfl, rfl, SqL.of (x1 _ _ nD.1 upd_same), hat, ?_⟩
    obtain ⟨sg, rfl, hsg⟩ := signs_menu hv
    have X1 : Ex p H H1 := (Ex.new _ hD).trans x1
    -- the places
    refine ⟨le_size (by decide), fun l1 h1 => ⟨le_size (by decide), fun l2 h2 => ⟨le_size (by decide), fun l3 h3 => ⟨le_size (by decide), fun l4 h4 => ⟨le_size (by decide), fun l5 h5 => ⟨le_size (by decide), fun l6 h6 => ⟨le_size (by decide), fun l7 h7 => ⟨le_size (by decide), fun l8 h8 => ⟨le_size (show 8 ≤ 100000 by decide), fun l9 h9 => ?_⟩⟩⟩⟩⟩⟩⟩⟩⟩
    have s1 := Same.new (.lst [V.int 0]) h1
    have s2 := Same.new (.lst [V.int 0]) h2
    have s3 := Same.new (.lst [V.int 0, V.int 1]) h3
    have s4 := Same.new (.lst [V.int 0, V.int 1]) h4
    have s5 := Same.new (.lst [V.int 0, V.int 1, V.int 2]) h5
    have s6 := Same.new (.lst [V.int 0, V.int 63]) h6
    have s7 := Same.new (.lst [V.int 0, V.int 7, V.int 12]) h7
    have s8 := Same.new (.lst [V.int 0, V.int 2, V.int 3, V.int 1]) h8
    have s9 := Same.new (.lst [V.ref l1, V.ref l2, V.ref l3, V.ref l4, V.ref l5, V.ref l6, V.ref l7, V.ref l8]) h9
    have t1 := st1.same s1
    have t2 := t1.same s2
    have t3 := t2.same s3
    have t4 := t3.same s4
    have t5 := t4.same s5
    have t6 := t5.same s6
    have t7 := t6.same s7
    have t8 := t7.same s8
    have t9 := t8.same s9
    have hPl : ∀ v ∈ ([V.ref l1, V.ref l2, V.ref l3, V.ref l4, V.ref l5, V.ref l6, V.ref l7, V.ref l8] : List V), Pl p l _ v := fun v hv => by
      simp only [List.mem_cons, List.not_mem_nil, or_false] at hv
      rcases hv with rfl | rfl | rfl | rfl | rfl | rfl | rfl | rfl
      · exact (Pl.new [0] (st1.ne h1) (by decide) (by decide) rfl).same (s2.trans (s3.trans (s4.trans (s5.trans (s6.trans (s7.trans (s8.trans s9)))))))
      · exact (Pl.new [0] (t1.ne h2) (by decide) (by decide) rfl).same (s3.trans (s4.trans (s5.trans (s6.trans (s7.trans (s8.trans s9))))))
      · exact (Pl.new [0, 1] (t2.ne h3) (by decide) (by decide) rfl).same (s4.trans (s5.trans (s6.trans (s7.trans (s8.trans s9)))))
      · exact (Pl.new [0, 1] (t3.ne h4) (by decide) (by decide) rfl).same (s5.trans (s6.trans (s7.trans (s8.trans s9))))
      · exact (Pl.new [0, 1, 2] (t4.ne h5) (by decide) (by decide) rfl).same (s6.trans (s7.trans (s8.trans s9)))
      · exact (Pl.new [0, 63] (t5.ne h6) (by decide) (by decide) rfl).same (s7.trans (s8.trans s9))
      · exact (Pl.new [0, 7, 12] (t6.ne h7) (by decide) (by decide) rfl).same (s8.trans s9)
      · exact (Pl.new [0, 2, 3, 1] (t7.ne h8) (by decide) (by decide) rfl).same s9
    have n9 := t8.ne h9
    refine ⟨_, rfl, p, l, 8, rfl, t9, by decide, by decide, fun H2 r2 x2 st2 r20 r21 => ?_⟩
    obtain ⟨v, hv, hat⟩ := atI_mem (xs := ([V.ref l1, V.ref l2, V.ref l3, V.ref l4, V.ref l5, V.ref l6, V.ref l7, V.ref l8] : List V)) r20 (by simpa using r21)
    refine ⟨_, _, _, v, rfl, rfl, SqL.of (x2 _ _ n9.1 upd_same), hat, ?_⟩
    have pl2 := (hPl v hv).ex x2
    have X2 : Ex p H H2 := X1.trans ((Same.ex (s1.trans (s2.trans (s3.trans (s4.trans (s5.trans (s6.trans (s7.trans (s8.trans s9))))))))).trans x2)
    clear hPl t1 t2 t3 t4 t5 t6 t7 t8 t9 s1 s2 s3 s4 s5 s6 s7 s8 s9
    -- how many
    refine ⟨_, rfl, p, l, 6, rfl, st2, by decide, by decide, fun H3 r3 x3 st3 r30 r31 => ⟨_, _, rfl, rfl, ?_⟩⟩
    refine ⟨fun σ' H' => ∃ m : Int, σ' = [some (.ref p), some (.str (SX.S sg)), some v, some (.int m), none, none, none, none] ∧ 1 ≤ m ∧ m ≤ 12 ∧ Ex p H H' ∧ StAt ns l H' p ∧ Pl p l H' v, ?_, ?_⟩
    · refine ⟨_, rfl, p, l, 12, rfl, st3, by decide, by decide, fun H4 r4 x4 st4 r40 r41 => ⟨rfl, _, rfl, ?_⟩⟩
      refine ite2 (fun c => ?_) (fun c => ?_)
      · refine ⟨_, rfl, p, l, 5, rfl, st4, by decide, by decide, fun H5 r5 x5 st5 r50 r51 => ⟨_, _, rfl, rfl, ?_⟩⟩
        exact ⟨8 + r5, rfl, by omega, by omega, X2.trans (x3.trans (x4.trans x5)), st5, ((pl2.ex x3).ex x4).ex x5⟩
      · exact ⟨1 + r3, rfl, by omega, by omega, X2.trans (x3.trans x4), st4, (pl2.ex x3).ex x4⟩
    · rintro σ3 H3' ⟨many, rfl, m1, m2, X3, st3', pl3⟩
      -- the greatest length
      refine ⟨le_size (by decide), fun D3 hD3 => ?_⟩
      have nD3 := st3'.ne hD3
      have sD3 := Same.new (.lst [V.int 1, V.int 2, V.int 2, V.int 3, V.int 3, V.int 4]) hD3
      refine ⟨_, rfl, p, l, 6, rfl, st3'.same sD3, by decide, by decide, fun H4 r4 x4 st4 r40 r41 => ?_⟩
      obtain ⟨vm, hvm, hat4⟩ := atI_mem (xs := ([V.int 1, V.int 2, V.int 2, V.int 3, V.int 3, V.int 4] : List V)) r40 (by simpa using r41)
      refine ⟨_, _, _, vm, rfl, rfl, SqL.of (x4 _ _ nD3.1 upd_same), hat4, ?_⟩
      obtain ⟨mo, rfl, mo1, mo2⟩ := most_menu hvm
      have X4 : Ex p H H4 := X3.trans ((Same.ex sD3).trans x4)
      have pl4 := (pl3.same sD3).ex x4
      refine ⟨fun σ' H' => ∃ mo : Int, σ' = [some (.ref p), some (.str (SX.S sg)), some v, some (.int many), some (.int mo), none, none, none] ∧ 0 < mo ∧ mo ≤ 12 ∧ Ex p H H' ∧ StAt ns l H' p ∧ Pl p l H' v, ?_, ?_⟩
      · refine ⟨_, rfl, p, l, 16, rfl, st4, by decide, by decide, fun H5 r5 x5 st5 r50 r51 => ⟨rfl, _, rfl, ?_⟩⟩
        refine ite2 (fun c => ?_) (fun c => ?_)
        · exact ⟨12, rfl, by decide, by decide, X4.trans x5, st5, pl4.ex x5⟩
        · exact ⟨mo, rfl, mo1, mo2, X4.trans x5, st5, pl4.ex x5⟩
      · rintro σ5 H5 ⟨mo, rfl, mo1, mo2, X5, st5, pl5⟩
        -- the arcs
        refine ⟨Nat.zero_le _, fun Ar hA => ?_⟩
        have nA := st5.ne hA
        have hA0 := X5.free hA nA.1
        have sA := Same.new (.lst []) hA
        refine ⟨_, rfl, _, rfl, by omega, by omega, for_range (lo := 0) (n := many.toNat) (fun i σ H' => ∃ (us : List V) (as : List Arc) (v6 v7 : Option V), σ = [some (.ref p), some (.str (SX.S sg)), some v, some (.int many), some (.int mo), some (.ref Ar), v6, v7] ∧
          as.length = i ∧ (∀ a ∈ as, OkArc sg a) ∧ (0 < i → ∃ a : Arc, as[0]? = some a ∧ a.1 = 0) ∧ H' Ar = some (.lst us) ∧ Arcs H' us as ∧ Ex p H H' ∧ StAt ns l H' p ∧ Pl p l H' v) ?_ ?_ ?_⟩
        · exact ⟨[], [], none, none, rfl, rfl, fun _ h => (nomatch h), fun h => absurd h (Nat.lt_irrefl _), upd_same, Arcs.nil _, X5.updNew hA0, st5.upd nA, pl5.same sA⟩
        · rintro i σ H6 hi ⟨us, as, v6, v7, rfl, rfl, hok, hz, hAr, harc, X6, st6, pl6⟩
          obtain ⟨pa, xs, rfl, np, nl, hpa, xl1, xl2, xb⟩ := pl6
          have nApa : Ar ≠ pa := by
            obtain ⟨a', xs', e', _, _, h', _⟩ := pl5
            cases e'
            exact hp_ne h' hA
          -- the start
          refine ⟨_, rfl, _, rfl, _, rfl, pa, _, rfl, .inl (SqL.of hpa), p, l, _, rfl, st6, by rw [List.length_map]; omega, by rw [List.length_map]; omega, fun H7 r7 x7 st7 r70 r71 => ?_⟩
          obtain ⟨vs7, hvs7, hat7⟩ := atI_mem r70 r71
          obtain ⟨s7, hs7, rfl⟩ := List.mem_map.mp hvs7
          refine ⟨_, _, _, _, rfl, rfl, SqL.of (x7 _ _ np hpa), hat7, ?_⟩
          refine ⟨fun σ' H' => ∃ s8 : Nat, σ' = [some (.ref p), some (.str (SX.S sg)), some (.ref pa), some (.int many), some (.int mo), some (.ref Ar), some (.int (0 + (as.length : Int))), some (.int (s8 : Int))] ∧ s8 ≤ 63 ∧ (as.length = 0 → s8 = 0) ∧ H' = H7, ?_, ?_⟩
          · refine ⟨_, rfl, rfl, _, rfl, ?_⟩
            refine ite2 (fun c => ?_) (fun c => ?_)
            · exact ⟨0, rfl, by omega, fun _ => rfl, rfl⟩
            · refine ⟨s7, rfl, xb _ hs7, fun z => absurd ?_ c, rfl⟩
              rw [z]
              decide
          · rintro σ8 H8 ⟨s8, rfl, hs8, hz8, rfl⟩
            have hln : as.length ≤ 100000 := by clear hz; omega
            have hA7 := x7 _ _ nA.1 hAr
            have arc7 := harc.st st6 x7
            refine ⟨_, rfl, .inl ⟨rfl, _, SqL.of hA7⟩, _, rfl, _, rfl, _, rfl, _, rfl, p, l, sg, mo, rfl, st7, hsg, mo1, mo2, fun H9 u9 x9 st9 hw9 => ?_⟩
            have hpa9 := x9 _ _ np (x7 _ _ np hpa)
            refine ⟨_, rfl, _, rfl, _, rfl, pa, _, rfl, .inl (SqL.of hpa9), p, l, _, rfl, st9, by rw [List.length_map]; omega, by rw [List.length_map]; omega, fun H10 r10 x10 st10 r100 r101 => ?_⟩
            obtain ⟨vs10, hvs10, hat10⟩ := atI_mem r100 r101
            obtain ⟨s10, hs10, rfl⟩ := List.mem_map.mp hvs10
            refine ⟨_, _, _, _, rfl, rfl, SqL.of (x10 _ _ np hpa9), hat10, le_size (show 3 ≤ 100000 by decide), fun t ht => ?_⟩
            have nt := st10.ne ht
            have hA10 := x10 _ _ nA.1 (x9 _ _ nA.1 hA7)
            have nAt : t ≠ Ar := hp_ne hA10 ht
            have st := Same.new (arcHO (s8, u9, s10)) ht
            have X11 : Ex p H (upd H10 t (arcHO (s8, u9, s10))) := X6.trans (x7.trans (x9.trans (x10.trans (Same.ex st))))
            refine ⟨Ar, us, _, rfl, rfl, st _ _ hA10, lt_size (by rw [harc.1]; exact hln), ?_⟩
            have arc10 := ((arc7.st st7 x9).st st9 x10).same st
            have nn := (arc10.snoc (t := t) (a := (s8, u9, s10)) upd_same)
            refine ⟨us ++ [.ref t], as ++ [(s8, u9, s10)], _, _, rfl, by simp, ?_, fun _ => ?_, upd_same, ?_, X11.updNew hA0, (st10.same st).upd nA, ?_⟩
            · intro a ha
              rcases List.mem_append.mp ha with h | h
              · exact hok a h
              · rw [List.mem_singleton.mp h]
                exact ⟨hs8, hw9, xb _ hs10⟩
            · by_cases h0 : as.length = 0
              · have e : as = [] := List.eq_nil_of_length_eq_zero h0
                subst e
                exact ⟨_, rfl, hz8 rfl⟩
              · obtain ⟨a, ha, ha0⟩ := hz (by omega)
                exact ⟨a, by rw [List.getElem?_append_left (by omega)]; exact ha, ha0⟩
            · exact nn.updL (st _ _ hA10)
            · exact ⟨pa, xs, rfl, np, nl, by rw [upd_ne nApa.symm]; exact st _ _ (x10 _ _ np hpa9), xl1, xl2, xb⟩
        · rintro σ H6 ⟨us, as, v6, v7, rfl, hl, hok, hz, hAr, harc, X6, st6, pl6⟩
          have hl1 : 1 ≤ as.length ∧ as.length ≤ 12 := by clear hz; omega
          obtain ⟨a0, ha0, hz0⟩ := hz (by omega)
          refine ⟨fun σ' H' => ∃ (us : List V) (as : List Arc), σ' = [some (.ref p), some (.str (SX.S sg)), some v, some (.int many), some (.int mo), some (.ref Ar), v6, v7] ∧ OkArcs sg as ∧ H' Ar = some (.lst us) ∧ Arcs H' us as ∧ Ex p H H' ∧ StAt ns l H' p, ?_, ?_⟩
          · refine ⟨_, rfl, p, l, 4, rfl, st6, by decide, by decide, fun H7 r7 x7 st7 r70 r71 => ⟨rfl, _, rfl, ?_⟩⟩
            have hA7 := x7 _ _ nA.1 hAr
            have arc7 := harc.st st6 x7
            refine ite2 (fun c => ?_) (fun c => ?_)
            · refine ⟨_, rfl, .inl ⟨rfl, _, SqL.of hA7⟩, _, rfl, _, rfl, _, rfl, Ar, us, rfl, .inl (SqL.of hA7), p, l, _, rfl, st7, by rw [harc.1]; omega, by rw [harc.1]; omega, fun H8 r8 x8 st8 r80 r81 => ?_⟩
              have hA8 := x8 _ _ nA.1 hA7
              have arc8 := arc7.st st7 x8
              obtain ⟨j, rfl⟩ := Int.eq_ofNat_of_zero_le r80
              have hj : j < as.length := by rw [harc.1] at r81; exact_mod_cast r81
              obtain ⟨t, ht1, ht2⟩ := arc8.2 j as[j] (List.getElem?_eq_getElem hj)
              refine ⟨_, _, _, _, rfl, rfl, SqL.of hA8, atI_nat ht1, Ar, us, _, rfl, rfl, hA8, lt_size (by rw [harc.1]; omega), ?_⟩
              refine ⟨us ++ [.ref t], as ++ [as[j]], rfl, ⟨by simp, by simp; omega, ?_, a0, by rw [List.getElem?_append_left (by omega)]; exact ha0, hz0⟩, upd_same, (arc8.snoc ht2).updL hA8, (X6.trans (x7.trans x8)).updNew hA0, st8.upd nA⟩
              intro a ha
              rcases List.mem_append.mp ha with h | h
              · exact hok a h
              · rw [List.mem_singleton.mp h]
                exact hok _ (List.getElem_mem hj)
            · exact ⟨us, as, rfl, ⟨hl1.1, by omega, hok, a0, ha0, hz0⟩, hA7, arc7, X6.trans x7, st7⟩
          · rintro σ9 H9 ⟨us, as, rfl, hok, hA9, arc9, X9, st9⟩
            refine ⟨_, rfl, _, rfl, le_size (show 2 ≤ 100000 by decide), fun q hq => ?_⟩
            have sq := Same.new (.tup [.str (SX.S sg), .ref Ar]) hq
            refine k _ q Ar sg us as (X9.trans (Same.ex sq)) (st9.same sq) (X9.free hq (st9.ne hq).1) hA0 upd_same (sq _ _ hA9) (arc9.same sq) hok hsg
end
end J


set_option Elab.async false
set_option linter.all false
set_option maxRecDepth 100000
set_option maxHeartbeats 4000000
/-! zip of two texts, in a for and in a comprehension -/
namespace L2
open PySem PySem.Spec PyProof.Rows
/-- two texts at once, the signs in new pairs -/
def ItzS (x y : Str) : It :=
  ⟨fun i _ => i < min x.cps.size y.cps.size,
    fun i H v H' => ∃ T c d, v = .ref T ∧ H T = none ∧ H' = upd H T (.tup [.str ⟨#[c]⟩, .str ⟨#[d]⟩]) ∧ x.cps[i]? = some c ∧ y.cps[i]? = some d,
    fun i _ => i = min x.cps.size y.cps.size⟩
theorem turn_zipS {P : Program} {w : World} {K : PySem.W.Frag} {elts : List Expr} {kk : Nat} {tpos : Pos} {x y : Str} {t1 t2 : Tok} {z TI TO i1 i2 : Addr} (D : ZipSep2 z TI TO i1 i2 [i1] [i2]) :
    Turn P w K (.Tuple elts kk tpos) (ItzS x y) [z, TI, TO, i1, i2] z (fun i h => IsZip h z TI TO .none ∧ IsTupOf2 h TI (.ref i1) (.ref i2) ∧ (∃ x y, IsTupOf2 h TO x y) ∧ h.IsStrIter i1 (strIterType x) x t1 i ∧ h.IsStrIter i2 (strIterType y) y t2 i) where
  mem := by simp
  obj := fun i h st c hc => by
    obtain ⟨hz, hTI, ⟨x, y, hTO⟩, ⟨o1, e1, _, d1⟩, ⟨o2, e2, _, d2⟩⟩ := st
    have e' : c = z ∨ c = TI ∨ c = TO ∨ c = i1 ∨ c = i2 := by simpa using hc
    rcases e' with q | q | q | q | q
    · rw [q]; exact ⟨_, hz, fun v q => nomatch q⟩
    · rw [q]; exact ⟨_, hTI, fun v q => nomatch q⟩
    · rw [q]; exact ⟨_, hTO, fun v q => nomatch q⟩
    · rw [q]; exact ⟨o1, e1, fun v q => by rw [d1] at q; cases q⟩
    · rw [q]; exact ⟨o2, e2, fun v q => by rw [d2] at q; cases q⟩
  keep := fun i h h' st k => by
    obtain ⟨hz, hTI, ⟨x, y, hTO⟩, ⟨o1, e1, r1⟩, ⟨o2, e2, r2⟩⟩ := st
    exact ⟨k z (by simp) _ hz, k TI (by simp) _ hTI, ⟨x, y, k TO (by simp) _ hTO⟩, ⟨o1, k i1 (by simp) _ e1, r1⟩, ⟨o2, k i2 (by simp) _ e2, r2⟩⟩
  item := by
    intro X hP hw hK hc i pins s σ H E I hf st hg
    subst hP hw hK
    obtain ⟨hz, hTI, ⟨x0, y0, hTO⟩, h1, h2⟩ := st
    have hg' : i < min x.cps.size y.cps.size := hg
    have hzl : z < s.heap.objs.size := Heap.lt_size hz
    have hd := I.ok.hd hc
    refine wpAny_pyNext_zipD2_item D (Draws.text (A := X.A.in1) hd i1 x t1) (Draws.text (A := X.A.in1) hd i2 y t2) hz hTI hTO h1 h2 (by omega) (by omega) fun u u2 h' tk p1 p2 z' TO' h1' h2' hT hsz hk => ?_
    obtain ⟨c, tc, hcx, rfl⟩ := p1
    obtain ⟨d, td, hdy, rfl⟩ := p2
    refine ⟨_, rfl, wpAny_letOwnedTupleGo_zip (s := { s with heap := h', toks := tk }) z' fun h'' z'' sb => ?_⟩
    have hT2 : h''.get? s.heap.objs.size = some { cls := .type "tuple", data := .seq #[.str ⟨#[c]⟩ tc, .str ⟨#[d]⟩ td] } := (sb.2 _ (Nat.ne_of_gt hzl)).trans hT
    have new : ObjOk X.prog X.w (upd H s.heap.objs.size (.tup [.str ⟨#[c]⟩, .str ⟨#[d]⟩])) h'' s.heap.objs.size (.tup [.str ⟨#[c]⟩, .str ⟨#[d]⟩]) :=
      ⟨by show 2 ≤ sizeLine; decide, [.str ⟨#[c]⟩ tc, .str ⟨#[d]⟩ td], .cons ⟨_, rfl⟩ (.cons ⟨_, rfl⟩ .nil), ⟨_, hT2, rfl, _, rfl⟩⟩
    have I1 : Inv X pins σ (upd H s.heap.objs.size (.tup [.str ⟨#[c]⟩, .str ⟨#[d]⟩])) { s with heap := h'', toks := tk } :=
      I.turnedNew (t' := tk) (ch := [z, TI, TO, i1, i2]) (fun c o hb q => (sb.2 c (fun q' => hb (by simp [q']))).trans (hk c o (fun q' => hb (by simp [q'])) (fun q' => hb (by simp [q'])) (fun q' => hb (by simp [q'])) (fun q' => hb (by simp [q'])) q)) hf (Nat.le_refl _) new
    have nz1 : i1 ≠ z := D.zi1.symm
    have nz2 : i2 ≠ z := D.zi2.symm
    refine ⟨.ref s.heap.objs.size, _, I1, rfl, ⟨_, c, d, rfl, I.hok.fresh (Nat.le_refl _), rfl, hcx, hdy⟩, ⟨z'', ?_, ⟨_, _, (sb.2 _ D.TOz).trans TO'⟩, ?_, ?_⟩, fun c hcm => ?_⟩
    · exact (sb.2 _ D.TIz).trans (hk _ _ D.TIz D.TITO D.TIi1 D.TIi2 hTI)
    · obtain ⟨o, e, r⟩ := h1'
      exact ⟨o, (sb.2 _ nz1).trans e, r⟩
    · obtain ⟨o, e, r⟩ := h2'
      exact ⟨o, (sb.2 _ nz2).trans e, r⟩
    · have hlt : c < s.heap.objs.size := by
        have e' : c = z ∨ c = TI ∨ c = TO ∨ c = i1 ∨ c = i2 := by simpa using hcm
        rcases e' with q | q | q | q | q
        · rw [q]; exact hzl
        · rw [q]; exact Heap.lt_size hTI
        · rw [q]; exact Heap.lt_size hTO
        · rw [q]; obtain ⟨_, e1, _⟩ := h1; exact Heap.lt_size e1
        · rw [q]; obtain ⟨_, e2, _⟩ := h2; exact Heap.lt_size e2
      rw [upd_ne (Nat.ne_of_lt hlt)]
      exact (hf c hcm).1
  done := by
    intro X hP hw hK hc i pins s σ H E I hf st hg
    subst hP hw hK
    obtain ⟨hz, hTI, ⟨x0, y0, hTO⟩, h1, h2⟩ := st
    have hg' : i = min x.cps.size y.cps.size := hg
    have hd := I.ok.hd hc
    exact wpAny_pyNext_zipD2_end D (Draws.text (A := X.A.in1) hd i1 x t1) (Draws.text (A := X.A.in1) hd i2 y t2) hz hTI hTO h1 h2 (by omega) (by omega) (by omega) fun h' tk hk => ⟨rfl, I.turnedL (t' := tk) (ch := [z, TI, TO, i1, i2]) (fun c o hb q =>
      hk c o (fun q' => hb (by simp [q'])) (fun q' => hb (by simp [q'])) (fun q' => hb (by simp [q'])) (fun q' => hb (by simp [q'])) q) hf⟩
  self := fun A i s Q E st h => wpAny_pyIter_zip st.1 h
def iZipS (ta : TA) : TI := fun σ H R => ta σ H fun vs H1 => ∃ x y, vs = [.str x, .str y] ∧ R (ItzS x y) H1
theorem pi_zipS {X : Cx} {e e2 : Expr} {ta : TA} {p pos tpos : Pos} {elts : List Expr} {kk : Nat} (hg : Gl X "zip") (hm : X.mg "zip" = none) (ha : PA X [e, e2] ta)
    (hs : starEach [e, e2] X.env = (false, eval e X.env) :: starEach [e2] X.env := by rfl) (hpl : (backTo pos (starEach [e2] X.env)).any (·.1) = false := by rfl) :
    PI X (.Tuple elts kk tpos) (.Call (.Name "zip" p) [e, e2] [] pos) (iZipS ta) := by
  refine ⟨fun pins s σ H R I h => ?_⟩
  refine Call_ (ld_blt I hg hm PyProof.Rows.boot_zip (PyProof.Rows.callWith_type1 (thn (ha.run pos pins s σ H _ I h) fun us s1 ⟨vs, H1, I1, r1, q1⟩ => ?_) hs hpl))
  obtain ⟨x, y, ex, q⟩ := q1
  subst ex
  cases r1 with
  | cons r rr =>
    cases rr with
    | cons r' rr =>
      cases rr
      obtain ⟨t1, rfl⟩ := r
      obtain ⟨t2, rfl⟩ := r'
      refine zip_begins2 (begins_text x t1) (begins_text y t2) trivial trivial fun h' hz hTI hTO h1 h2 hsz hk => wpAny_pyIter_zip hz ?_
      have I2 : Inv X pins σ H1 { s1 with heap := h' } := I1.kept (t' := s1.toks) hk
      generalize hn : s1.heap.objs.size = n at hz hTI hTO h1 h2 hsz ⊢
      have D : ZipSep2 (n + 4) (n + 2) (n + 3) n (n + 1) [n] [n + 1] := by constructor <;> simp <;> omega
      refine ⟨n + 4, [n + 4, n + 2, n + 3, n, n + 1], _, _, H1, rfl, I2, turn_zipS (t1 := t1) (t2 := t2) D, ⟨hz, hTI, ⟨_, _, hTO⟩, ⟨_, h1, rfl, rfl⟩, ⟨_, h2, rfl, rfl⟩⟩, fun c hcm => ?_, q⟩
      have e' : c = n + 4 ∨ c = n + 2 ∨ c = n + 3 ∨ c = n ∨ c = n + 1 := by simpa using hcm
      have hle : s1.heap.objs.size ≤ c := by
        rw [hn]
        rcases e' with q | q | q | q | q
        · rw [q]; exact Nat.le_add_right _ _
        · rw [q]; exact Nat.le_add_right _ _
        · rw [q]; exact Nat.le_add_right _ _
        · rw [q]; exact Nat.le_refl _
        · rw [q]; exact Nat.le_add_right _ _
      exact I1.fpOk hle (I1.hok.fresh hle)
end L2

set_option Elab.async false
set_option linter.all false
set_option maxRecDepth 100000
set_option maxHeartbeats 4000000
namespace J
open PySem L2

def spNumber : Sp := fun vs H Q _ => ∃ i lo hi : Int, vs = [.int i, .int lo, .int hi] ∧ ∀ b : Bool, (b = true ↔ lo ≤ i ∧ i ≤ hi) → Q (.bl b) H
def spSequence (K : PySem.W.Frag) : Sp := fun vs H Q _ => ∃ (a : Addr) (xs : List V) (lo hi : Int), vs = [.ref a, .int lo, .int hi] ∧ H a = some (.lst xs) ∧ ∀ (H' : Hp) (b : Bool), Same H H' → (b = true ↔ lo ≤ xs.length ∧ xs.length ≤ hi) → Q (.bl b) H'
def spOver : Sp := fun vs H Q _ => ∃ (sg u : List Nat) (lo hi : Int), vs = [.str (SX.S sg), .str (SX.S u), .int lo, .int hi] ∧ lo ≤ u.length ∧ u.length ≤ hi ∧ hi ≤ 100000 ∧ (∀ c ∈ u, c ∈ sg) ∧ ∀ H' : Hp, Same H H' → Q (.bl true) H'
def spIsWord : Sp := fun vs H Q _ => ∃ (sg u : List Nat), vs = [.str (SX.S sg), .str (SX.S u)] ∧ Word sg u ∧ ∀ H' : Hp, Same H H' → Q (.bl true) H'
def spSigns : Sp := fun vs H Q _ => ∃ sg : List Nat, vs = [.str (SX.S sg)] ∧ Signs sg ∧ ∀ H' : Hp, Same H H' → Q (.bl true) H'
def spArc : Sp := fun vs H Q _ => ∃ (sg : List Nat) (t : Addr) (a : Arc), vs = [.str (SX.S sg), .ref t] ∧ H t = some (arcHO a) ∧ OkArc sg a ∧ ∀ H' : Hp, Same H H' → Q (.bl true) H'
def spState1 : Sp := fun vs H Q _ => ∃ i : Int, vs = [.int i] ∧ 0 ≤ i ∧ i ≤ 63 ∧ Q .non H
def spText1 : Sp := fun vs H Q _ => ∃ (sg u : List Nat), vs = [.str (SX.S sg), .str (SX.S u)] ∧ u.length ≤ 2000 ∧ (∀ c ∈ u, c ∈ sg) ∧ ∀ H' : Hp, Same H H' → Q .non H'
theorem rep_snoc (n : Nat) : (HO.lst ((List.replicate n true).map V.bl ++ [V.bl true])) = HO.lst ((List.replicate (n + 1) true).map V.bl) := by
  congr 1
  rw [List.replicate_succ']
  simp
theorem _root_.L2.Same.updNew {q : Addr} {H H' : Hp} {o : HO} (x : Same H H') (hq : H q = none) : Same H (L2.upd H' q o) := fun b u e => by
  rw [upd_ne (ne_of_none e hq)]; exact x b u e
theorem all_true {n : Nat} : (List.replicate n true).all id = true := by simp
section
variable {P : Program} {w : World} {K : PySem.W.Frag} {mg : Str → Option Value} {base : Heap}

theorem ok_is_number (T : Tx K mg) : FnOk P w K mg base CX0 1 T.f_is_number T.fd_is_number P_is_number spNumber := by
  refine T.F_is_number.ok sc_is_number (fun vs H Q E h => ?_) (fun cdv A outer s H vs Q E hr h => ?_)
  · obtain ⟨i, lo, hi, rfl, _⟩ := h
    rfl
  · obtain ⟨i, lo, hi, rfl, k⟩ := h
    refine ⟨_, (pss_one (ps_ret (pe_and (pe_callB (call_isiK' (K := K) rfl) rfl T.n_isinstance (by decide +kernel) (pa_cons (pv 0) (pa_cons (pe_bltn (v := V.ty "int") (u := .type "int") rfl T.n_int (by decide +kernel) rfl) pa_nil))) (pe_and (pe_not (pe_callB (call_isiK' (K := K) rfl) rfl T.n_isinstance (by decide +kernel) (pa_cons (pv 0) (pa_cons (pe_bltn (v := V.ty "bool") (u := .type "bool") rfl T.n_bool (by decide +kernel) rfl) pa_nil)))) (pe_one (pe_chain op_le op_le (pv 1) (pv 0) (pv 2))))))), ?_⟩
    refine ⟨_, rfl, _, _, _, _, true, rfl, .ty "int", .base (.int i), kit_ty (by decide +kernel), true, rfl, ?_⟩
    refine ⟨_, rfl, _, _, _, _, false, rfl, .ty "bool", .base (.int i), kit_ty (by decide +kernel), false, rfl, true, rfl, ?_⟩
    refine ⟨_, rfl, _, rfl, _, _, rfl, rfl, _, rfl, ?_⟩
    refine ite2 (fun c => ?_) (fun c => ?_)
    · refine ⟨_, rfl, _, _, rfl, rfl, k _ ?_⟩
      have c1 := of_decide_eq_true c
      constructor
      · intro h; exact ⟨c1, of_decide_eq_true h⟩
      · intro h; exact decide_eq_true h.2
    · refine k _ ?_
      constructor
      · intro h; cases h
      · intro h; exact absurd (decide_eq_true h.1) c

theorem ok_is_sequence (T : Tx K mg) : FnOk P w K mg base CX0 1 T.f_is_sequence T.fd_is_sequence P_is_sequence (spSequence K) := by
  refine T.F_is_sequence.ok sc_is_sequence (fun vs H Q E h => ?_) (fun cdv A outer s H vs Q E hr h => ?_)
  · obtain ⟨a, xs, lo, hi, rfl, _⟩ := h
    rfl
  · obtain ⟨a, xs, lo, hi, rfl, ha, k⟩ := h
    refine ⟨_, (pss_one (ps_ret (pe_and (pe_callB (call_isiTK (K := K) rfl) rfl T.n_isinstance (by decide +kernel) (pa_cons (pv 0) (pa_cons (pe_tup (pa_cons (pe_bltn (v := V.ty "list") (u := .type "list") rfl T.n_list (by decide +kernel) rfl) (pa_cons (pe_bltn (v := V.ty "tuple") (u := .type "tuple") rfl T.n_tuple (by decide +kernel) rfl) pa_nil))) pa_nil))) (pe_one (pe_chain op_le op_le (pv 1) (pe_callB (call_len_seqK (K := K) rfl) rfl T.n_len (by decide +kernel) (pa_cons (pv 0) pa_nil)) (pv 2)))))), ?_⟩
    refine ⟨_, rfl, le_size (by decide), fun t ht => ?_⟩
    have st := Same.new (.tup [V.ty "list", V.ty "tuple"]) ht
    refine ⟨_, _, _, _, [.type "list", .type "tuple"], true, rfl, upd_same, .cons (.ty _) (.cons (.ty _) .nil), .base (.lst (st _ _ ha)), kitAny_cons (b := true) (kit_ty (by decide +kernel)) (fun q => nomatch q) (fun _ => rfl), true, rfl, ?_⟩
    refine ⟨_, rfl, _, rfl, a, xs, rfl, .inl (SqL.of (st _ _ ha)), _, _, rfl, rfl, _, rfl, ?_⟩
    refine ite2 (fun c => ?_) (fun c => ?_)
    · refine ⟨_, rfl, _, _, rfl, rfl, k _ _ st ?_⟩
      have c1 := of_decide_eq_true c
      constructor
      · intro h; exact ⟨c1, of_decide_eq_true h⟩
      · intro h; exact decide_eq_true h.2
    · refine k _ _ st ?_
      constructor
      · intro h; cases h
      · intro h; exact absurd (decide_eq_true h.1) c

theorem ok_is_string_over (T : Tx K mg) : FnOk P w K mg base CX0 1 T.f_is_string_over T.fd_is_string_over P_is_string_over spOver := by
  refine T.F_is_string_over.ok sc_is_string_over (fun vs H Q E h => ?_) (fun cdv A outer s H vs Q E hr h => ?_)
  · obtain ⟨sg, u, lo, hi, rfl, _⟩ := h
    rfl
  · obtain ⟨sg, u, lo, hi, rfl, h1, h2, h3, hu, k⟩ := h
    refine ⟨_, (pss_cons (ps_if (PW.pt (pw_or (pt_not (pt_val (pe_callB (call_isiK' (K := K) rfl) rfl T.n_isinstance (by decide +kernel) (pa_cons (pv 1) (pa_cons (pe_bltn (v := V.ty "str") (u := .type "str") rfl T.n_str (by decide +kernel) rfl) pa_nil))))) (pw_or1 (pt_not (pt_chain op_le op_le (pv 2) (pe_callB call_len_str rfl T.n_len (by decide +kernel) (pa_cons (pv 1) pa_nil)) (pv 3)))))) (pss_one (ps_ret pe_bl)) pss_nil)
        (pss_one (ps_ret (pe_callB (cr_allK (K := K) rfl rfl) rfl T.n_all (by decide +kernel) (pa_cons (pe_lc (own := [("sign", 4)]) (g := (gName 4)) rfl sc_is_string_over.nd (pi_str (pv 1)) (blkOk_by (N := N_is_string_over) (sc := defScope s_is_string_over) (by decide +kernel)) (fun _ _ _ _ _ => (pg_name (i := 4) sc_is_string_over.nd rfl (Or.inl rfl))) (fun _ _ _ _ _ => pts_nil) (fun _ _ _ _ _ => (pe_cmpR op_in_sign (pv 4) (pv 0) rfl))) pa_nil))))), ?_⟩
    have hl : (SX.S u).length ≤ sizeLine := le_size (by rw [SX.S_len]; omega)
    refine ⟨_, rfl, _, _, _, _, true, rfl, .ty "str", .base (.str _), kit_ty (by decide +kernel), true, rfl, ?_⟩
    have e : ((SX.S u).length : Int) = u.length := by rw [SX.S_len]
    refine ⟨_, rfl, _, rfl, _, rfl, hl, _, _, rfl, rfl, true, congrArg V.bl (decide_eq_true (by rw [e]; exact h1)), ?_⟩
    refine ⟨_, rfl, _, _, rfl, rfl, true, congrArg V.bl (decide_eq_true (by rw [e]; exact h2)), ?_⟩
    refine ⟨_, rfl, _, rfl, fun D hD => lc_it (walk_str (z := SX.S u)) (fun i H' => H' D = some (.lst ((List.replicate i true).map V.bl)) ∧ Same H H') ⟨upd_same, Same.new _ hD⟩ (fun _ _ _ _ => trivial) ?_ ?_⟩
    · rintro i x H1 H2 hi ⟨hDl, sm⟩ ⟨rfl, c, hc, rfl⟩
      have hcu : c ∈ u := by
        have q : u[i]? = some c := by simpa using hc
        exact List.mem_of_getElem? q
      have hi2 : i ≤ 100000 := by
        have q : i < (SX.S u).length := hi
        rw [SX.S_len] at q
        omega
      refine ⟨rfl, _, rfl, _, rfl, c, _, rfl, rfl, _, hDl, lt_size (by simp; exact hi2), ?_, sm.updNew hD⟩
      rw [upd_same, decide_eq_true (by simpa using hu c hcu), rep_snoc]
    · rintro H1 ⟨hDl, sm⟩
      refine ⟨D, _, rfl, SqL.of hDl, ?_⟩
      rw [all_true]
      exact k _ sm

theorem ok_is_word (T : Tx K mg) : FnOk P w K mg base CX0 2 T.f_is_word T.fd_is_word P_is_word spIsWord := by
  have G_is_string_over : FnOk P w K mg base CX0 1 T.f_is_string_over T.fd_is_string_over P_is_string_over spOver := ok_is_string_over T
  refine T.F_is_word.ok sc_is_word (fun vs H Q E h => ?_) (fun cdv A outer s H vs Q E hr h => ?_)
  · obtain ⟨sg, u, rfl, _⟩ := h
    rfl
  · obtain ⟨sg, u, rfl, ⟨h1, h2, h3⟩, k⟩ := h
    refine ⟨_, (pss_one (ps_ret (pe_call G_is_string_over (hr.mono (by decide)) rfl T.m_is_string_over T.F_is_string_over.kp T.b_is_string_over .nil pass0 (pa_cons (pv 0) (pa_cons (pv 1) (pa_cons pe_int (pa_cons (pe_glob (v := V.int 12) rfl T.g_LONGEST_WORD ⟨_, rfl⟩) pa_nil))))))), ?_⟩
    exact ⟨_, rfl, _, rfl, sg, u, 1, 12, rfl, by omega, by omega, by omega, h3, k⟩
theorem ok_is_arc (T : Tx K mg) : FnOk P w K mg base CX0 3 T.f_is_arc T.fd_is_arc P_is_arc spArc := by
  have G_is_number : FnOk P w K mg base CX0 1 T.f_is_number T.fd_is_number P_is_number spNumber := ok_is_number T
  have G_is_word : FnOk P w K mg base CX0 2 T.f_is_word T.fd_is_word P_is_word spIsWord := ok_is_word T
  refine T.F_is_arc.ok sc_is_arc (fun vs H Q E h => ?_) (fun cdv A outer s H vs Q E hr h => ?_)
  · obtain ⟨sg, t, a, rfl, _⟩ := h
    rfl
  · obtain ⟨sg, t, ⟨s1, u, g1⟩, rfl, ht, ⟨hs, hw, hg⟩, k⟩ := h
    refine ⟨_, (pss_cons (ps_if (PW.pt (pw_or (pt_not (pt_val (pe_callB (call_isiK' (K := K) rfl) rfl T.n_isinstance (by decide +kernel) (pa_cons (pv 1) (pa_cons (pe_bltn (v := V.ty "tuple") (u := .type "tuple") rfl T.n_tuple (by decide +kernel) rfl) pa_nil))))) (pw_or1 (pt_cmpR op_ne (pe_callB (call_len_seqK (K := K) rfl) rfl T.n_len (by decide +kernel) (pa_cons (pv 1) pa_nil)) pe_int (nomark _))))) (pss_one (ps_ret pe_bl)) pss_nil)
        (pss_cons (ps_asg (pv 1) (pg_tup rfl (pgs_cons (pg_name (i := 2) sc_is_arc.nd rfl (Or.inl rfl)) (pgs_cons (pg_name (i := 3) sc_is_arc.nd rfl (Or.inl rfl)) (pgs_cons (pg_name (i := 4) sc_is_arc.nd rfl (Or.inl rfl)) pgs_nil)))))
        (pss_one (ps_ret (pe_and (pe_call G_is_number (hr.mono (by decide)) rfl T.m_is_number T.F_is_number.kp T.b_is_number .nil pass0 (pa_cons (pv 2) (pa_cons pe_int (pa_cons (pe_glob (v := V.int 63) rfl T.g_LAST_STATE ⟨_, rfl⟩) pa_nil)))) (pe_and (pe_call G_is_word (hr.mono (by decide)) rfl T.m_is_word T.F_is_word.kp T.b_is_word .nil pass0 (pa_cons (pv 0) (pa_cons (pv 3) pa_nil))) (pe_one (pe_call G_is_number (hr.mono (by decide)) rfl T.m_is_number T.F_is_number.kp T.b_is_number .nil pass0 (pa_cons (pv 4) (pa_cons pe_int (pa_cons (pe_glob (v := V.int 63) rfl T.g_LAST_STATE ⟨_, rfl⟩) pa_nil))))))))))), ?_⟩
    refine ⟨_, rfl, _, _, _, _, true, rfl, .ty "tuple", .base (.tup ht), kit_ty (by decide +kernel), true, rfl, ?_⟩
    refine ⟨_, rfl, t, _, rfl, .inr (SqT.of ht), rfl, false, rfl, ?_⟩
    refine ⟨_, rfl, t, _, rfl, SqT.of ht, rfl, ?_⟩
    have e1 : (0 : Int) ≤ ((s1 : Nat) : Int) ∧ ((s1 : Nat) : Int) ≤ 63 := by omega
    have e2 : (0 : Int) ≤ ((g1 : Nat) : Int) ∧ ((g1 : Nat) : Int) ≤ 63 := by have hg' : g1 ≤ 63 := hg; omega
    refine ⟨_, _, rfl, _, _, rfl, _, _, rfl, rfl, ?_⟩
    refine ⟨_, rfl, _, 0, 63, rfl, fun b hb => ⟨b, rfl, ?_⟩⟩
    rw [hb.mpr e1]
    refine ⟨_, rfl, _, rfl, sg, u, rfl, hw, fun H' sm => ⟨true, rfl, ?_⟩⟩
    refine ⟨_, rfl, _, 0, 63, rfl, fun b hb => ?_⟩
    rw [hb.mpr e2]
    exact k H' sm
end
end J


set_option Elab.async false
set_option linter.all false
set_option maxRecDepth 100000
set_option maxHeartbeats 4000000
namespace J
open PySem L2

theorem walk_zipS {x y : Str} : Walk (ItzS x y) (min x.cps.size y.cps.size) (fun _ => True) (fun i H v H' => ∃ T c d, v = .ref T ∧ H T = none ∧ H' = upd H T (.tup [.str ⟨#[c]⟩, .str ⟨#[d]⟩]) ∧ x.cps[i]? = some c ∧ y.cps[i]? = some d) :=
  ⟨fun _ _ h _ => h, fun _ _ => rfl, fun _ _ _ _ _ _ h => h⟩
theorem signs_le {sg : List Nat} (h : Signs sg) : ∀ c ∈ sg, (!decide ([c] < ([97] : List Nat))) = true ∧ (!decide (([122] : List Nat) < [c])) = true := by
  revert sg; unfold Signs; decide
theorem signs_up {sg : List Nat} (h : Signs sg) : ∀ p ∈ sg.zip (sg.drop 1), decide ([p.1] < [p.2]) = true := by
  revert sg; unfold Signs; decide
theorem signs_pair {sg : List Nat} (h : Signs sg) {i c d : Nat} (h1 : sg[i]? = some c) (h2 : (sg.drop 1)[i]? = some d) : decide ([c] < [d]) = true :=
  signs_up h (c, d) (List.mem_of_getElem? (i := i) (by rw [List.getElem?_zip_eq_some]; exact ⟨h1, h2⟩))
section
variable {P : Program} {w : World} {K : PySem.W.Frag} {mg : Str → Option Value} {base : Heap}

theorem ok_is_signs (T : Tx K mg) : FnOk P w K mg base CX0 1 T.f_is_signs T.fd_is_signs P_is_signs spSigns := by
  refine T.F_is_signs.ok sc_is_signs (fun vs H Q E h => ?_) (fun cdv A outer s H vs Q E hr h => ?_)
  · obtain ⟨sg, rfl, _⟩ := h
    rfl
  · obtain ⟨sg, rfl, hsg, k⟩ := h
    refine ⟨_, (pss_cons (ps_if (PW.pt (pw_or (pt_not (pt_val (pe_callB (call_isiK' (K := K) rfl) rfl T.n_isinstance (by decide +kernel) (pa_cons (pv 0) (pa_cons (pe_bltn (v := V.ty "str") (u := .type "str") rfl T.n_str (by decide +kernel) rfl) pa_nil))))) (pw_or1 (pt_not (pt_chain op_le op_le pe_int (pe_callB call_len_str rfl T.n_len (by decide +kernel) (pa_cons (pv 0) pa_nil)) (pe_glob (v := V.int 4) rfl T.g_MOST_SIGNS ⟨_, rfl⟩)))))) (pss_one (ps_ret pe_bl)) pss_nil)
        (pss_cons (ps_set (i := 1) sc_is_signs.nd rfl (Or.inl rfl) (pe_callB (cr_allK (K := K) rfl rfl) rfl T.n_all (by decide +kernel) (pa_cons (pe_lc (own := [("sign", 2)]) (g := (gName 2)) rfl sc_is_signs.nd (pi_str (pv 0)) (blkOk_by (N := N_is_signs) (sc := defScope s_is_signs) (by decide +kernel)) (fun _ _ _ _ _ => (pg_name (i := 2) sc_is_signs.nd rfl (Or.inl rfl))) (fun _ _ _ _ _ => pts_nil) (fun _ _ _ _ _ => (pe_chain op_le_str op_le_str pe_str (pv 2) pe_str))) pa_nil)))
        (pss_one (ps_ret (pe_and (pv 1) (pe_one (pe_callB (cr_allK (K := K) rfl rfl) rfl T.n_all (by decide +kernel) (pa_cons (pe_lc (own := [("one", 3), ("other", 4)]) (g := (gTup K 2 (gCons (gName 3) (gCons (gName 4) gNil)))) rfl sc_is_signs.nd (pi_zipS rfl T.n_zip (pa_cons (pv 0) (pa_cons (pe_slice sl_str (pv 0) (po_some pe_int) po_none) pa_nil))) (blkOk_by (N := N_is_signs) (sc := defScope s_is_signs) (by decide +kernel)) (fun _ _ _ _ _ => (pg_tup rfl (pgs_cons (pg_name (i := 3) sc_is_signs.nd rfl (Or.inl rfl)) (pgs_cons (pg_name (i := 4) sc_is_signs.nd rfl (Or.inl rfl)) pgs_nil)))) (fun _ _ _ _ _ => pts_nil) (fun _ _ _ _ _ => (pe_cmpR op_lt_str (pv 3) (pv 4) (nomark _)))) pa_nil)))))))), ?_⟩
    have hlen := hsg.len
    have hl : (SX.S sg).length ≤ sizeLine := le_size (by rw [SX.S_len]; omega)
    have e : ((SX.S sg).length : Int) = sg.length := by rw [SX.S_len]
    refine ⟨_, rfl, _, _, _, _, true, rfl, .ty "str", .base (.str _), kit_ty (by decide +kernel), true, rfl, ?_⟩
    refine ⟨_, rfl, _, rfl, hl, _, _, rfl, rfl, true, congrArg V.bl (decide_eq_true (by rw [e]; omega)), ?_⟩
    refine ⟨_, _, rfl, rfl, true, congrArg V.bl (decide_eq_true (by rw [e]; omega)), ?_⟩
    refine ⟨_, rfl, _, rfl, fun D hD => lc_it (walk_str (z := SX.S sg)) (fun i H' => H' D = some (.lst ((List.replicate i true).map V.bl)) ∧ Same H H') ⟨upd_same, Same.new _ hD⟩ (fun _ _ _ _ => trivial) ?_ ?_⟩
    · rintro i x H1 H2 hi ⟨hDl, sm⟩ ⟨rfl, c, hc, rfl⟩
      have hcu : c ∈ sg := by
        have q : sg[i]? = some c := by simpa using hc
        exact List.mem_of_getElem? q
      have hi2 : i ≤ 100000 := by
        have q : i < (SX.S sg).length := hi
        rw [SX.S_len] at q
        omega
      obtain ⟨l1, l2⟩ := signs_le hsg c hcu
      refine ⟨rfl, _, rfl, _, _, rfl, rfl, true, congrArg V.bl l1, _, _, rfl, rfl, _, hDl, lt_size (by simp; exact hi2), ?_, sm.updNew hD⟩
      rw [upd_same]
      show some (HO.lst (_ ++ [V.bl (!decide (([122] : List Nat) < [c]))])) = _
      rw [l2, rep_snoc]
    · rintro H1 ⟨hDl, sm⟩
      refine ⟨D, _, rfl, SqL.of hDl, ?_⟩
      rw [all_true]
      refine ⟨_, rfl, true, rfl, ?_⟩
      refine ⟨_, rfl, _, rfl, _, rfl, _, rfl, hl, ?_⟩
      rw [C8.cutS_slice, SX.slice_from (by decide)]
      refine ⟨_, _, rfl, fun D2 hD2 => lc_it (walk_zipS (x := SX.S sg) (y := SX.S (sg.drop 1))) (fun i H' => H' D2 = some (.lst ((List.replicate i true).map V.bl)) ∧ Same H H') ⟨upd_same, sm.trans (Same.new _ hD2)⟩ (fun _ _ _ _ => trivial) ?_ ?_⟩
      · rintro i x H2 H3 hi ⟨hDl2, sm2⟩ ⟨t, c, d, rfl, ht, rfl, hc, hd⟩
        have hcu : sg[i]? = some c := by simpa using hc
        have hdu : (sg.drop 1)[i]? = some d := by simpa using hd
        have hi2 : i ≤ 100000 := by
          have q := (List.getElem?_eq_some_iff.mp hcu).1
          omega
        have nt : D2 ≠ t := fun z => hp_ne hDl2 ht z.symm
        refine ⟨t, _, rfl, SqT.of upd_same, rfl, _, _, rfl, _, _, rfl, rfl, rfl, _, rfl, _, rfl, _, _, rfl, rfl, _, by rw [upd_ne nt]; exact hDl2, lt_size (by simp; exact hi2), ?_, (sm2.trans (Same.new _ ht)).updNew (sm.free hD2)⟩
        rw [upd_same]
        show some (HO.lst (_ ++ [V.bl (decide ([c] < [d]))])) = _
        rw [signs_pair hsg hcu hdu, rep_snoc]
      · rintro H2 ⟨hDl2, sm2⟩
        refine ⟨D2, _, rfl, SqL.of hDl2, ?_⟩
        rw [all_true]
        exact k _ sm2
end
end J


set_option Elab.async false
set_option linter.all false
set_option maxRecDepth 100000
set_option maxHeartbeats 4000000
namespace J
open PySem L2
/-- arcs that a loom may have -/
def OkW (sg : List Nat) (as : List Arc) : Prop := 1 ≤ as.length ∧ as.length ≤ 200 ∧ ∀ a ∈ as, OkArc sg a
theorem OkArcs.w {sg : List Nat} {as : List Arc} (h : OkArcs sg as) : OkW sg as := ⟨h.1, by have := h.2.1; omega, h.2.2.1⟩
/-- a loom's fields -/
def lf (sg : List Nat) (T : Addr) : List (Str × V) := putF "arcs" (.ref T) (putF "signs" (.str (SX.S sg)) [])
theorem ne_sa : ¬ (("signs" : Str) = "arcs") := by decide +kernel
theorem lf_signs (sg : List Nat) (T : Addr) : (lf sg T).lookup ("signs" : Str) = some (.str (SX.S sg)) := by
  unfold lf
  rw [lookup_putF, if_neg ne_sa, lookup_putF, if_pos rfl]
theorem lf_arcs (sg : List Nat) (T : Addr) : (lf sg T).lookup ("arcs" : Str) = some (.ref T) := by
  unfold lf
  rw [lookup_putF, if_pos rfl]
/-- a loom stands at p -/
def LoomAt (C : Addr) (H : Hp) (p : Addr) (sg : List Nat) (us : List V) (as : List Arc) : Prop := ∃ dx T, H p = some (.ins C dx (lf sg T)) ∧ H T = some (.tup us) ∧ Arcs H us as ∧ OkW sg as ∧ Signs sg
def spInit (C : Addr) : Sp := fun vs H Q _ => ∃ (p dx a : Addr) (sg : List Nat) (us : List V) (as : List Arc), vs = [.ref p, .str (SX.S sg), .ref a] ∧ H p = some (.ins C dx []) ∧ H a = some (.lst us) ∧ Arcs H us as ∧ OkW sg as ∧ Signs sg ∧
  ∀ (H' : Hp) (T : Addr), Ex p H H' → H T = none → H' T = some (.tup us) → H' p = some (.ins C dx (lf sg T)) → Q .non H'
theorem take_snoc {α : Type} {l : List α} {i : Nat} {x : α} (h : l[i]? = some x) : l.take i ++ [x] = l.take (i + 1) := by
  rw [List.take_add_one, h]
  rfl
def spChkSigns : Sp := fun vs H Q _ => ∃ sg : List Nat, vs = [.str (SX.S sg)] ∧ Signs sg ∧ ∀ H', Same H H' → Q .non H'
section
variable {P : Program} {w : World} {K : PySem.W.Frag} {mg : Str → Option Value} {base : Heap}
theorem ok_check_signs (T : Tx K mg) : FnOk P w K mg base CX0 2 T.f_check_signs T.fd_check_signs P_check_signs spChkSigns := by
  have G_is_signs : FnOk P w K mg base CX0 1 T.f_is_signs T.fd_is_signs P_is_signs spSigns := ok_is_signs T
  refine T.F_check_signs.ok sc_check_signs (fun vs H Q E h => ?_) (fun cdv A outer s H vs Q E hr h => ?_)
  · obtain ⟨sg, rfl, _⟩ := h
    rfl
  · obtain ⟨sg, rfl, hsg, k⟩ := h
    refine ⟨_, (pss_one (ps_if (pt_not (pt_val (pe_call G_is_signs (hr.mono (by decide)) rfl T.m_is_signs T.F_is_signs.kp T.b_is_signs .nil pass0 (pa_cons (pv 0) pa_nil)))) (pss_one ps_never) pss_nil)), ?_⟩
    refine ⟨_, rfl, sg, rfl, hsg, fun H1 s1 => ⟨true, rfl, ?_⟩⟩
    exact k _ s1
theorem ok_Loom_init (T : Tx K mg) : FnOk P w K mg base CX0 4 T.f_Loom_init T.fd_Loom_init P_Loom_init (spInit T.C_Loom) := by
  have G_check_signs : FnOk P w K mg base CX0 2 T.f_check_signs T.fd_check_signs P_check_signs spChkSigns := ok_check_signs T
  have G_is_sequence : FnOk P w K mg base CX0 1 T.f_is_sequence T.fd_is_sequence P_is_sequence (spSequence K) := ok_is_sequence T
  have G_is_arc : FnOk P w K mg base CX0 3 T.f_is_arc T.fd_is_arc P_is_arc spArc := ok_is_arc T
  refine T.F_Loom_init.ok sc_Loom_init (fun vs H Q E h => ?_) (fun cdv A outer s H vs Q E hr h => ?_)
  · obtain ⟨p, dx, a, sg, us, as, rfl, _⟩ := h
    rfl
  · obtain ⟨p, dx, a, sg, us, as, rfl, hp, ha, harc, hok, hsg, k⟩ := h
    refine ⟨_, (pss_cons (ps_expr (pe_call G_check_signs (hr.mono (by decide)) rfl T.m_check_signs T.F_check_signs.kp T.b_check_signs .nil pass0 (pa_cons (pv 1) pa_nil)))
        (pss_cons (ps_if (pt_not (pt_val (pe_call G_is_sequence (hr.mono (by decide)) rfl T.m_is_sequence T.F_is_sequence.kp T.b_is_sequence .nil pass0 (pa_cons (pv 2) (pa_cons pe_int (pa_cons (pe_glob (v := V.int 200) rfl T.g_MOST_ARCS ⟨_, rfl⟩) pa_nil)))))) (pss_one ps_never) pss_nil)
        (pss_cons (ps_for PassesOwn.never rfl (pi_enum rfl T.n_enumerate (pa_cons (pv 2) pa_nil)) (pg_tup rfl (pgs_cons (pg_name (i := 3) sc_Loom_init.nd rfl (Or.inl rfl)) (pgs_cons (pg_name (i := 4) sc_Loom_init.nd rfl (Or.inl rfl)) pgs_nil))) (pss_one (ps_if (pt_not (pt_val (pe_call G_is_arc (hr.mono (by decide)) rfl T.m_is_arc T.F_is_arc.kp T.b_is_arc .nil pass0 (pa_cons (pv 1) (pa_cons (pv 4) pa_nil))))) (pss_one ps_never) pss_nil)))
        (pss_cons (ps_fld (pv 0) (pv 1) rfl)
        (pss_one (ps_fld (pv 0) (pe_callTy (call_tuple_ofK (K := K) rfl) rfl T.n_tuple (by decide +kernel) (pa_cons (pe_lc (own := [("arc", 4)]) (g := (gName 4)) rfl sc_Loom_init.nd (pi_list (pv 2)) (blkOk_by (N := N_Loom_init) (sc := defScope s_Loom_init) (by decide +kernel)) (fun _ _ _ _ _ => (pg_name (i := 4) sc_Loom_init.nd rfl (Or.inl rfl))) (fun _ _ _ _ _ => pts_nil) (fun _ _ _ _ _ => (pe_callTy (call_tuple_ofK (K := K) rfl) rfl T.n_tuple (by decide +kernel) (pa_cons (pv 4) pa_nil)))) pa_nil)) rfl)))))), ?_⟩
    refine ⟨_, rfl, sg, rfl, hsg, fun H1 s1 => ?_⟩
    refine ⟨_, rfl, a, us, 1, 200, rfl, s1 _ _ ha, fun H2 b s2 hb => ⟨b, rfl, ?_⟩⟩
    have hl := hok.2.1
    have hl0 := hok.1
    have hl2 := harc.1
    rw [hb.mpr ⟨by omega, by omega⟩]
    have s12 := s1.trans s2
    refine ⟨_, rfl, a, us, rfl, SqL.of (s12 _ _ ha), for_it walk_enum (fun i σ H' => ∃ v3 v4, σ = [some (.ref p), some (.str (SX.S sg)), some (.ref a), v3, v4] ∧ Same H H') ⟨_, _, rfl, s12⟩ (fun i σ H' _ ⟨_, _, _, sm⟩ => SqL.of (sm _ _ ha)) ?_ ?_⟩
    · rintro i x σ H3 H4 hi ⟨v3, v4, rfl, s3⟩ ⟨tp, x1, y1, rfl, ht, rfl, hx1, hy1⟩
      cases hx1
      have hia : i < as.length := by omega
      obtain ⟨t, hut, htt⟩ := harc.2 i as[i] (List.getElem?_eq_getElem hia)
      replace hy1 : us[i]? = some y1 := hy1
      rw [hut] at hy1
      cases hy1
      have sn := Same.new (.tup [V.int (i : Int), .ref t]) ht
      refine ⟨tp, _, rfl, SqT.of upd_same, rfl, _, _, rfl, _, _, rfl, rfl, ?_⟩
      refine ⟨_, rfl, _, rfl, sg, t, as[i], rfl, sn _ _ (s3 _ _ htt), hok.2.2 _ (List.getElem_mem hia), fun H5 s5 => ⟨true, rfl, ?_⟩⟩
      exact ⟨_, _, rfl, s3.trans (sn.trans s5)⟩
    · rintro σ H3 ⟨v3, v4, rfl, s3⟩
      have hp3 := s3 _ _ hp
      refine ⟨_, rfl, _, rfl, p, _, dx, _, rfl, hp3, T.cl_Loom, T.na_Loom_signs, (by show 0 < 1000; decide), ?_⟩
      have x3 : Ex p H (upd H3 p (.ins T.C_Loom dx (putF "signs" (.str (SX.S sg)) []))) := (Same.ex s3).trans (Ex.upd _)
      have nap : a ≠ p := fun z => by rw [z, hp] at ha; cases ha
      refine ⟨_, rfl, a, rfl, ⟨_, SqL.of (x3 _ _ nap ha)⟩, fun D hD => lc_list (K := K) (a := a) (xs := us) (fun i H' => H' D = some (.lst (us.take i)) ∧ Ex p H H' ∧ H' p = some (.ins T.C_Loom dx (putF "signs" (.str (SX.S sg)) []))) ?_ ?_ ?_ ?_⟩
      · have nDp : D ≠ p := hp_ne upd_same hD
        exact ⟨upd_same, x3.trans (Ex.new _ hD), by rw [upd_ne nDp.symm]; exact upd_same⟩
      · rintro i H4 hi ⟨_, x4, _⟩
        exact SqL.of (x4 _ _ nap ha)
      · rintro i y H4 hy ⟨hDl, x4, hp4⟩
        have hia : i < us.length := (List.getElem?_eq_some_iff.mp hy).1
        obtain ⟨t, hut, htt⟩ := harc.2 i as[i] (List.getElem?_eq_getElem (by omega))
        rw [hut] at hy
        cases hy
        have ntp : t ≠ p := fun z => by rw [z, hp] at htt; cases htt
        have nDp : D ≠ p := hp_ne upd_same hD
        refine ⟨rfl, _, rfl, t, _, rfl, .inr ⟨SqT.of (x4 _ _ ntp htt), _, hDl, lt_size (by simp; omega), ?_, x4.updNew (x3.free hD nDp), by rw [upd_ne nDp.symm]; exact hp4⟩⟩
        rw [upd_same, take_snoc hut]
      · rintro H4 ⟨hDl, x4, hp4⟩
        rw [List.take_length] at hDl
        refine ⟨D, us, rfl, .inl ⟨SqL.of hDl, fun T1 hT1 => ?_⟩⟩
        have nT : T1 ≠ p := hp_ne hp4 hT1
        refine ⟨_, rfl, p, _, dx, _, rfl, by rw [upd_ne nT.symm]; exact hp4, T.cl_Loom, T.na_Loom_arcs, (by show 1 < 1000; decide), ?_⟩
        exact k _ T1 ((x4.trans (Ex.new _ hT1)).trans (Ex.upd _)) (x4.free hT1 nT) (by rw [upd_ne nT]; exact upd_same) upd_same
end
end J


set_option Elab.async false
set_option linter.all false
set_option maxRecDepth 100000
set_option maxHeartbeats 4000000
namespace J
open PySem L2
abbrev nats (l : List Nat) : List V := l.map fun n : Nat => V.int (n : Int)
def leavTo (as : List Arc) (g : Nat) (i : Nat) : List Nat := (List.range i).filter fun j => decide (as[j]?.map (·.1) = some g)
/-- the numbers of the arcs that leave g -/
def leav (as : List Arc) (g : Nat) : List Nat := leavTo as g as.length
theorem leavTo_snoc {as : List Arc} {g i : Nat} {a : Arc} (h : as[i]? = some a) : leavTo as g (i + 1) = leavTo as g i ++ if a.1 = g then [i] else [] := by
  unfold leavTo
  rw [List.range_succ, List.filter_append]
  congr 1
  by_cases c : a.1 = g
  · simp [h, c]
  · simp [h, c]
theorem leavTo_len (as : List Arc) (g : Nat) : ∀ i, (leavTo as g i).length ≤ i := fun i => by
  unfold leavTo
  exact Nat.le_trans (List.length_filter_le _ _) (by simp)
theorem leav_mem {as : List Arc} {g i : Nat} (h : i ∈ leav as g) : ∃ a, as[i]? = some a ∧ a.1 = g := by
  unfold leav leavTo at h
  have q := (List.mem_filter.mp h).2
  rw [decide_eq_true_eq] at q
  cases e : as[i]? with
  | none => rw [e] at q; cases q
  | some a => rw [e] at q; exact ⟨a, rfl, Option.some.inj q⟩
theorem leav_lt {as : List Arc} {g i : Nat} (h : i ∈ leav as g) : i < as.length := by
  obtain ⟨a, ha, _⟩ := leav_mem h
  exact (List.getElem?_eq_some_iff.mp ha).1
/-- a list of arcs stands at a -/
def ArcL (H : Hp) (a : Addr) (as : List Arc) : Prop := ∃ us, H a = some (.lst us) ∧ Arcs H us as
theorem ArcL.same {H H' : Hp} {a : Addr} {as : List Arc} (h : ArcL H a as) (s : Same H H') : ArcL H' a as := by
  obtain ⟨us, h1, h2⟩ := h
  exact ⟨us, s _ _ h1, h2.same s⟩
theorem ArcL.ex {ns : List Int} {l p : Addr} {H H' : Hp} {a : Addr} {as : List Arc} (h : ArcL H a as) (st : StAt ns l H p) (s : Ex p H H') (n : a ≠ p) : ArcL H' a as := by
  obtain ⟨us, h1, h2⟩ := h
  exact ⟨us, s _ _ n h1, h2.st st s⟩
def spLeaving : Sp := fun vs H Q _ => ∃ (a : Addr) (as : List Arc) (g : Nat), vs = [.ref a, .int (g : Int)] ∧ ArcL H a as ∧ as.length ≤ 100000 ∧
  ∀ (H' : Hp) (p : Addr), Same H H' → H p = none → H' p = some (.lst (nats (leav as g))) → Q (.ref p) H'
def spMade (C : Addr) : Sp := fun vs H Q _ => ∃ (q a : Addr) (sg : List Nat) (us : List V) (as : List Arc), vs = [.ref q] ∧ H q = some (.tup [.str (SX.S sg), .ref a]) ∧ H a = some (.lst us) ∧ Arcs H us as ∧ OkW sg as ∧ Signs sg ∧
  ∀ (H' : Hp) (p : Addr), Same H H' → H p = none → LoomAt C H' p sg us as → Q (.ref p) H'
def spInteger : Sp := fun vs H Q _ => ∃ i : Int, vs = [.int i] ∧ Q (.bl true) H
section
variable {P : Program} {w : World} {K : PySem.W.Frag} {mg : Str → Option Value} {base : Heap}
end
end J


set_option Elab.async false
set_option linter.all false
set_option maxRecDepth 100000
set_option maxHeartbeats 4000000
namespace J
open PySem L2
theorem pi_or {X : Cx} {tg l : Expr} {ti tj : TI} (h1 : PI X tg l ti) (h2 : PI X tg l tj) : PI X tg l (fun σ H R => ti σ H R ∨ tj σ H R) := ⟨fun pins s σ H R I h => h.elim (h1.run pins s σ H R I) (h2.run pins s σ H R I)⟩
theorem TyZ_same {K : PySem.W.Frag} {H H' : Hp} {x : V} {t : Value} (h : TyZ K H x t) (s : Same H H') : TyZ K H' x t := by
  cases h with
  | x h =>
    refine .x ?_
    cases h with
    | base h =>
      refine .base ?_
      cases h with
      | non => exact .non
      | bl b => exact .bl b
      | int i => exact .int i
      | str z => exact .str z
      | flt z => exact .flt z
      | lst e => exact .lst (s _ _ e)
      | frz e => exact .frz (s _ _ e)
      | tup e => exact .tup (s _ _ e)
      | dK e => exact .dK (s _ _ e)
      | dT e => exact .dT (s _ _ e)
      | ins e cl ha hn htk hm => exact .ins (s _ _ e) cl ha hn htk hm
    | byt b => exact .byt b
    | set e => exact .set (s _ _ e)
    | kList e c => exact .kList e c
    | kTuple e c => exact .kTuple e c
    | kDict e c => exact .kDict e c
    | fTuple e => exact .fTuple (s _ _ e)
    | fDict e => exact .fDict (s _ _ e)
  | exo e c => exact .exo (s _ _ e) c
  | exd e ed c => exact .exd (s _ _ e) (s _ _ ed) c
/-- what may stand in a row -/
inductive It (K : PySem.W.Frag) (H : Hp) : V → Prop
  | int (i : Int) : It K H (.int i)
  | bl (b : Bool) : It K H (.bl b)
  | other {x : V} {t : Value} (h : TyZ K H x t) (n : PySem.W.kitOne K t (.type "int") = some false) (ni : ∀ i, x ≠ .int i) : It K H x
theorem It.same {K : PySem.W.Frag} {H H' : Hp} {x : V} (h : It K H x) (s : Same H H') : It K H' x := by
  cases h with
  | int i => exact .int i
  | bl b => exact .bl b
  | other h n ni => exact .other (TyZ_same h s) n ni
/-- a list or a tuple -/
def Seq (H : Hp) (a : Addr) (xs : List V) : Prop := H a = some (.lst xs) ∨ H a = some (.tup xs)
theorem Seq.same {H H' : Hp} {a : Addr} {xs : List V} (h : Seq H a xs) (s : Same H H') : Seq H' a xs := h.imp (s _ _) (s _ _)
/-- things: sequences of such items, and what is none -/
inductive Thg (K : PySem.W.Frag) (H : Hp) : V → Option (List V) → Prop
  | seq {a : Addr} {xs : List V} (h : Seq H a xs) (hi : ∀ x ∈ xs, It K H x) (hl : xs.length ≤ 100000) : Thg K H (.ref a) (some xs)
  | non {x : V} {t : Value} (h : TyZ K H x t) (n : PySem.W.kitAny K t [.type "list", .type "tuple"] = some false) : Thg K H x none
theorem Thg.same {K : PySem.W.Frag} {H H' : Hp} {x : V} {d : Option (List V)} (h : Thg K H x d) (s : Same H H') : Thg K H' x d := by
  cases h with
  | seq h hi hl => exact .seq (h.same s) (fun x hx => (hi x hx).same s) hl
  | non h n => exact .non (TyZ_same h s) n
/-- the first item that does not fit -/
def flt (as : List Arc) : Nat → List V → Nat → Option Nat
  | _, [], _ => none
  | g, v :: r, i => match v with
    | .int k => if 0 ≤ k ∧ k < as.length then (match as[k.toNat]? with
        | some a => if a.1 = g then flt as a.2.2 r (i + 1) else some i
        | none => some i) else some i
    | _ => some i
def fltV (as : List Arc) (g : Nat) : Option (List V) → V
  | none => .int (-1)
  | some xs => if xs.length ≤ 2000 then (match flt as g xs 0 with
    | none => .non
    | some i => .int (i : Nat)) else .int (-1)
/-- at an item: it fits, and where it leads, or not -/
def fits (as : List Arc) (g : Nat) (v : V) : Option Nat := match v with
  | .int k => if 0 ≤ k ∧ k < as.length then (match as[k.toNat]? with
    | some a => if a.1 = g then some a.2.2 else none
    | none => none) else none
  | _ => none
theorem flt_some {as : List Arc} {g g' i : Nat} {v : V} {r : List V} (h : fits as g v = some g') : flt as g (v :: r) i = flt as g' r (i + 1) := by
  unfold fits at h
  conv => lhs; unfold flt
  cases v with
  | int k =>
    dsimp only at h ⊢
    by_cases c : 0 ≤ k ∧ k < as.length
    · rw [if_pos c] at h ⊢
      cases ea : as[k.toNat]? with
      | none =>
        rw [ea] at h
        cases h
      | some a =>
        rw [ea] at h
        dsimp only at h ⊢
        by_cases e : a.1 = g
        · rw [if_pos e] at h ⊢
          cases h
          rfl
        · rw [if_neg e] at h
          cases h
    · rw [if_neg c] at h
      cases h
  | _ => cases h
theorem flt_none {as : List Arc} {g i : Nat} {v : V} {r : List V} (h : fits as g v = none) : flt as g (v :: r) i = some i := by
  unfold fits at h
  unfold flt
  cases v with
  | int k =>
    dsimp only at h ⊢
    by_cases c : 0 ≤ k ∧ k < as.length
    · rw [if_pos c] at h ⊢
      cases ea : as[k.toNat]? with
      | none => rfl
      | some a =>
        rw [ea] at h
        dsimp only at h ⊢
        by_cases e : a.1 = g
        · rw [if_pos e] at h
          cases h
        · rw [if_neg e]
    · rw [if_neg c]
  | _ => rfl
def spNumG (K : PySem.W.Frag) : Sp := fun vs H Q _ => ∃ (x : V) (hi : Int), vs = [x, .int 0, .int hi] ∧ It K H x ∧ ∀ b : Bool, (b = true ↔ ∃ i, x = .int i ∧ 0 ≤ i ∧ i ≤ hi) → Q (.bl b) H
def spSeqG (K : PySem.W.Frag) : Sp := fun vs H Q _ => ∃ (x : V) (d : Option (List V)) (hi : Int), vs = [x, .int 0, .int hi] ∧ Thg K H x d ∧ ∀ (H' : Hp) (b : Bool), Same H H' → (b = true ↔ ∃ xs, d = some xs ∧ (xs.length : Int) ≤ hi) → Q (.bl b) H'
def spMisfit (K : PySem.W.Frag) (C : Addr) : Sp := fun vs H Q _ => ∃ (q : Addr) (sg : List Nat) (us : List V) (as : List Arc) (g : Nat) (x : V) (d : Option (List V)), vs = [.ref q, .int (g : Nat), x] ∧ LoomAt C H q sg us as ∧ g ≤ 63 ∧ Thg K H x d ∧
  ∀ H', Same H H' → Q (fltV as g d) H'
theorem LoomAt.same {C : Addr} {H H' : Hp} {p : Addr} {sg : List Nat} {us : List V} {as : List Arc} (h : LoomAt C H p sg us as) (s : Same H H') : LoomAt C H' p sg us as := by
  obtain ⟨dx, T, h1, h2, h3, h4, h5⟩ := h
  exact ⟨dx, T, s _ _ h1, s _ _ h2, h3.same s, h4, h5⟩
section
variable {P : Program} {w : World} {K : PySem.W.Frag} {mg : Str → Option Value} {base : Heap}
theorem ok_is_numberG (T : Tx K mg) : FnOk P w K mg base CX0 1 T.f_is_number T.fd_is_number P_is_number (spNumG K) := by
  refine T.F_is_number.ok sc_is_number (fun vs H Q E h => ?_) (fun cdv A outer s H vs Q E hr h => ?_)
  · obtain ⟨x, hi, rfl, _⟩ := h
    rfl
  · obtain ⟨x, hi, rfl, ho, k⟩ := h
    refine ⟨_, (pss_one (ps_ret (pe_and (pe_callB (call_isiZ (K := K) rfl) rfl T.n_isinstance (by decide +kernel) (pa_cons (pv 0) (pa_cons (pe_bltn (v := V.ty "int") (u := .type "int") rfl T.n_int (by decide +kernel) rfl) pa_nil))) (pe_and (pe_not (pe_callB (call_isiZ (K := K) rfl) rfl T.n_isinstance (by decide +kernel) (pa_cons (pv 0) (pa_cons (pe_bltn (v := V.ty "bool") (u := .type "bool") rfl T.n_bool (by decide +kernel) rfl) pa_nil)))) (pe_one (pe_chain op_le op_le (pv 1) (pv 0) (pv 2))))))), ?_⟩
    cases ho with
    | other h n ni => exact ⟨_, rfl, _, _, _, _, false, rfl, .ty "int", h, n, false, rfl, k false ⟨fun z => Bool.noConfusion z, fun ⟨i, e, _⟩ => absurd e (ni i)⟩⟩
    | bl b =>
      refine ⟨_, rfl, _, _, _, _, true, rfl, .ty "int", .x (.base (.bl b)), kit_ty (by decide +kernel), true, rfl, ?_⟩
      exact ⟨_, rfl, _, _, _, _, true, rfl, .ty "bool", .x (.base (.bl b)), kit_ty (by decide +kernel), true, rfl, false, rfl, k false ⟨fun z => Bool.noConfusion z, fun ⟨i, e, _⟩ => nomatch e⟩⟩
    | int i =>
      refine ⟨_, rfl, _, _, _, _, true, rfl, .ty "int", .x (.base (.int i)), kit_ty (by decide +kernel), true, rfl, ?_⟩
      refine ⟨_, rfl, _, _, _, _, false, rfl, .ty "bool", .x (.base (.int i)), kit_ty (by decide +kernel), false, rfl, true, rfl, ?_⟩
      refine ⟨_, rfl, _, rfl, _, _, rfl, rfl, _, rfl, ?_⟩
      refine ite2 (fun c => ?_) (fun c => ?_)
      · refine ⟨_, rfl, _, _, rfl, rfl, k _ ?_⟩
        have c1 := of_decide_eq_true c
        constructor
        · intro h; exact ⟨i, rfl, c1, of_decide_eq_true h⟩
        · rintro ⟨j, e, _, h⟩; cases e; exact decide_eq_true h
      · refine k _ ?_
        constructor
        · intro h; cases h
        · rintro ⟨j, e, h, _⟩; cases e; exact absurd (decide_eq_true h) c
theorem ok_is_sequenceG (T : Tx K mg) : FnOk P w K mg base CX0 1 T.f_is_sequence T.fd_is_sequence P_is_sequence (spSeqG K) := by
  refine T.F_is_sequence.ok sc_is_sequence (fun vs H Q E h => ?_) (fun cdv A outer s H vs Q E hr h => ?_)
  · obtain ⟨x, d, hi, rfl, _⟩ := h
    rfl
  · obtain ⟨x, d, hi, rfl, ho, k⟩ := h
    refine ⟨_, (pss_one (ps_ret (pe_and (pe_callB (call_isiTZ (K := K) rfl) rfl T.n_isinstance (by decide +kernel) (pa_cons (pv 0) (pa_cons (pe_tup (pa_cons (pe_bltn (v := V.ty "list") (u := .type "list") rfl T.n_list (by decide +kernel) rfl) (pa_cons (pe_bltn (v := V.ty "tuple") (u := .type "tuple") rfl T.n_tuple (by decide +kernel) rfl) pa_nil))) pa_nil))) (pe_one (pe_chain op_le op_le (pv 1) (pe_callB (call_len_seqK (K := K) rfl) rfl T.n_len (by decide +kernel) (pa_cons (pv 0) pa_nil)) (pv 2)))))), ?_⟩
    refine ⟨_, rfl, le_size (by decide), fun t ht => ?_⟩
    have st := Same.new (.tup [V.ty "list", V.ty "tuple"]) ht
    cases ho with
    | non h n =>
      exact ⟨_, _, _, _, [.type "list", .type "tuple"], false, rfl, upd_same, .cons (.ty _) (.cons (.ty _) .nil), TyZ_same h st, n, false, rfl, k _ false st ⟨fun z => Bool.noConfusion z, fun ⟨xs, e, _⟩ => nomatch e⟩⟩
    | @seq a xs h hit hl =>
      have two : ∃ tv, TyZ K (upd H t (.tup [V.ty "list", V.ty "tuple"])) (.ref a) tv ∧ PySem.W.kitAny K tv [.type "list", .type "tuple"] = some true := by
        rcases h with ha | ha
        · exact ⟨_, .x (.base (.lst (st _ _ ha))), kitAny_cons (b := true) (kit_ty (by decide +kernel)) (fun q => nomatch q) (fun _ => rfl)⟩
        · exact ⟨_, .x (.base (.tup (st _ _ ha))), kitAny_cons (b := false) (kit_ty (by decide +kernel)) (fun _ => kitAny_cons (b := true) (kit_ty (by decide +kernel)) (fun q => nomatch q) (fun _ => rfl)) (fun q => nomatch q)⟩
      have one : SqL K (upd H t (.tup [V.ty "list", V.ty "tuple"])) a xs ∨ SqT K (upd H t (.tup [V.ty "list", V.ty "tuple"])) a xs := (h.same st).elim (fun z => .inl (SqL.of z)) fun z => .inr (SqT.of z)
      obtain ⟨tv, htv, hkt⟩ := two
      refine ⟨_, _, _, _, [.type "list", .type "tuple"], true, rfl, upd_same, .cons (.ty _) (.cons (.ty _) .nil), htv, hkt, true, rfl, ?_⟩
      refine ⟨_, rfl, _, rfl, a, xs, rfl, one, _, _, rfl, rfl, _, rfl, ?_⟩
      refine ite2 (fun c => ?_) (fun c => ?_)
      · refine ⟨_, rfl, _, _, rfl, rfl, k _ _ st ?_⟩
        constructor
        · intro h; exact ⟨xs, rfl, of_decide_eq_true h⟩
        · rintro ⟨ys, e, h⟩; cases e; exact decide_eq_true h
      · exact absurd (decide_eq_true (by omega)) c
end
end J


namespace PySem
namespace ExX
section
variable {prog : Program} {w : World} {A : Around} {E : Value → Shared → Prop} {R : Result → Shared → Prop} {s : Shared} {K : W.Frag} {mg : Str → Option Value} {C fI : Addr}
open PySem.W PySem.Calls PyProof.Rows PySem.HandSPX
theorem init_InvalidLoom (T : ExcT K mg C fI "InvalidLoom" ["part", "at"] "InvalidLoom.__init__" J.s_InvalidLoom_init) {x t0 : Addr} {v0 v1 : Value} (X : K.In s.heap) (hlim : s.heap.NoLimit) (hx : s.heap.get? x = some (excO C t0)) (hnx : K.lookup x = none) (hroom : A.depth < recursionLimit)
    (hq : ∀ h' tk dx, (∀ b o, b ≠ x → s.heap.get? b = some o → h'.get? b = some o) → h'.get? x = some { cls := .ref C, dict := some dx, data := .fields #[.ref t0, .none, .none, .none, .bool false, .none] } → s.heap.objs.size ≤ dx → dx ≠ x →
      h'.Ns1 dx (fun y => if y = "at" then some v1 else if y = "part" then some v0 else none) → R (.ok (.ret .none)) { s with heap := h', toks := tk }) :
    codeAny (model prog w) A (.call (.ref fI) ⟨[.ref x, v0, v1], []⟩) R s := by
  obtain ⟨oc, od, kV, doc, pm, an, cdv, ct, osl, ho, hcd⟩ := T.fn
  obtain ⟨nm, q, N, bs, bm, sn, sub, ab, col, dd, k0, k1, k2, k3, k5, hC, hbm⟩ := T.cls
  have hcl : clsIn K C = some { name := nm, bases := bs, mro := .ref C :: bm, ns := N, qualname := q, hasDict := true, slotNames := sn, subclasses := sub, abstract := ab, collection := col, hasDel := false } := by unfold clsIn; rw [hC] <;> rfl
  refine Att.call_fn (binds := [("self", .ref x), ("part", v0), ("at", v1)]) X hlim ho hcd hroom (BindsTo.of_eq (by first | rfl | with_unfolding_all rfl)) (by first | rfl | decide | with_unfolding_all rfl) (fun s₁ IC => ?_) rfl rfl rfl
  obtain ⟨h₁, tk₁, rfl⟩ := IC.toInCall.same
  have k : ∀ b o, s.heap.get? b = some o → h₁.get? b = some o := IC.toInCall.keep
  have hn := IC.toInCall.ns
  have hxL : s.heap.objs.size ≠ x := Nat.ne_of_gt (Heap.lt_size hx)
  have X₁ : K.In h₁ := X.keeps k
  have hx₁ := k _ _ hx
  have z : s.heap.objs.size < h₁.objs.size := hn.lt
  show wpAny _ _ (execs _ _) _ _ _
  refine wpAny_execs_cons (plainObj_wpAny_Assign_Attribute ?_)
  refine ldC (v := v0) hn (by first | rfl | with_unfolding_all rfl | kernel_rfl) (ldC (v := .ref x) hn (by first | rfl | with_unfolding_all rfl | kernel_rfl) ?_)
  refine set_plain X₁ (ox := excO C t0) (od := none) ⟨hx₁, rfl, rfl, trivial⟩ T.sa ?_
  refine osa_new X₁ hx₁ hcl (show refsEX (.ref C :: bm) = true from hbm) rfl (T.no "part" (by simp)) (fun h₃ tk₃ dx k₃ dn dne hx₃ hn₃ => ?_)
  show wpAny _ _ (execs _ _) _ _ _
  have X₃ : K.In h₃ := fun b o e => k₃ b o (fun q => by rw [q, hnx] at e; cases e) (X₁ b o e)
  have hn3 := hn.at fun o q => k₃ _ o hxL q
  refine wpAny_execs_cons (plainObj_wpAny_Assign_Attribute ?_)
  refine ldC (v := v1) hn3 (by first | rfl | with_unfolding_all rfl | kernel_rfl) (ldC (v := .ref x) hn3 (by first | rfl | with_unfolding_all rfl | kernel_rfl) ?_)
  obtain ⟨oD, esD, epD, hoD, hdD, _⟩ := hn₃.count (Within.cons "part" v0 Within.nil)
  refine set_plain X₃ (ox := { cls := .ref C, dict := some dx, data := .fields #[.ref t0, .none, .none, .none, .bool false, .none] }) (od := some oD) ⟨hx₃, rfl, rfl, hoD⟩ T.sa ?_
  refine osa_old X₃ hx₃ hn₃ (Within.cons "part" v0 Within.nil) (by decide) hcl (show refsEX (.ref C :: bm) = true from hbm) rfl (T.no "at" (by simp)) (fun h₄ tk₄ k₄ hn₄ => ?_)
  show wpAny _ _ (execs _ _) _ _ _
  have low : ∀ b o, s.heap.get? b = some o → b ≠ dx := fun b o e q => by
    have lt := Heap.lt_size e
    rw [q] at lt
    exact absurd lt (Nat.not_lt.mpr (Nat.le_of_lt (Nat.lt_of_lt_of_le z dn)))
  exact wpAny_execs_nil (hq h₄ tk₄ dx (fun b o hb e => k₄ b o (low b o e) (k₃ b o hb (k b o e))) (k₄ _ _ dne.symm hx₃) (Nat.le_of_lt (Nat.lt_of_lt_of_le z dn)) dne hn₄)
theorem made_InvalidLoom (T : ExcT K mg C fI "InvalidLoom" ["part", "at"] "InvalidLoom.__init__" J.s_InvalidLoom_init) {v0 v1 : Value} (X : K.In s.heap) (hlim : s.heap.NoLimit) (hroom : A.depth + 1 < recursionLimit)
    (hq : ∀ h' tk e d, OwnMade s.heap h' e C d (fun y => if y = "at" then some v1 else if y = "part" then some v0 else none) → R (.ok (.ret (.ref e))) { s with heap := h', toks := tk }) :
    codeAny (model prog w) A (.call (.ref C) ⟨[v0, v1], []⟩) R s := by
  obtain ⟨nm, q, N, bs, bm, sn, sub, ab, col, dd, k0, k1, k2, k3, k5, hC, hbm⟩ := T.cls
  obtain ⟨hp, g, dr, tk, os⟩ := s
  have k : ∀ b o, hp.get? b = some o → ((hp.push (kdv_tup [v0, v1])).push (excO C hp.objs.size)).get? b = some o := fun b o e => Heap.get?_push_of_some _ (Heap.get?_push_of_some _ e)
  have hget : ((hp.push (kdv_tup [v0, v1])).push (excO C hp.objs.size)).get? (hp.objs.size + 1) = some (excO C hp.objs.size) := by heap_get
  have hnx : K.lookup (hp.objs.size + 1) = none := by
    cases e : K.lookup (hp.objs.size + 1) with
    | none => rfl
    | some o =>
      have z : hp.get? (hp.objs.size + 1) = some o := X _ _ e
      exact absurd (Nat.lt_of_succ_lt (Heap.lt_size z)) (Nat.lt_irrefl _)
  refine call_own F.excBase_Exception (fun X => refsEX_contains X bm hbm) (X _ _ hC) (looks_findIn X T.iC) (fun self => bind_fn X self T.tC) (by show 2 ≤ sizeLine; rw [sizeLine_eq]; decide) ?_
  refine init_InvalidLoom (s := ⟨(hp.push (kdv_tup [v0, v1])).push (excO C hp.objs.size), g, dr, tk, os⟩) T (X.keeps k) (hlim.keeps k) hget hnx ?_ fun h' tk' dx k' hx dn dne hns => ?_
  · show A.depth + 1 < recursionLimit
    exact hroom
  · have old : ∀ b o, hp.get? b = some o → h'.get? b = some o := fun b o e => k' b o (Nat.ne_of_lt (Nat.lt_succ_of_lt (Heap.lt_size e))) (k b o e)
    have z : hp.objs.size + 1 + 1 ≤ dx := by
      first
        | (simpa only [Heap.size_push] using dn)
        | exact dn
        | (have q := dn; rw [Heap.size_push, Heap.size_push] at q; exact q)
    exact ⟨rfl, hq h' tk' (hp.objs.size + 1) dx ⟨old, Nat.le_succ _, ⟨_, _, hx, rfl, rfl, rfl, rfl⟩, Nat.le_trans (Nat.le_trans (Nat.le_succ _) (Nat.le_succ _)) z, dne, hns⟩⟩
end
end ExX
end PySem
namespace L2
open PySem PySem.Spec PyProof.Rows PySem.ExX
def fs_InvalidLoom (x0 x1 : V) : List (Str × V) := [(("at" : Str), x1), (("part" : Str), x0)]
theorem rel_InvalidLoom {x0 x1 : V} {v0 v1 : Value} (r0 : RelV x0 v0) (r1 : RelV x1 v1) (f : Str) : RelO (List.lookup f (fs_InvalidLoom x0 x1)) ((fun y : Str => if y = "at" then some v1 else if y = "part" then some v0 else none) f) := by
  unfold fs_InvalidLoom
  exact (fun g => relO_put (f := "at") r1 (fun g => relO_put (f := "part") (fs := []) (mA := fun _ => none) r0 (fun _ => trivial) g) g) f
section
variable {X : Cx} {C fI : Addr} {es : List Expr} {e : Expr} {ta : TA} {p pos : Pos} {k : Nat}
def tV_InvalidLoom (C : Addr) (ta : TA) : TE := fun σ H Q => ta σ H fun vs H1 => ∃ x0 x1, vs = [x0, x1] ∧ ∀ e d, H1 e = none → H1 d = none → d ≠ e → Q (.ref e) (upd (upd H1 d (.xd (fs_InvalidLoom x0 x1))) e (ExD C d e))
/-- InvalidLoom(..) as a value -/
theorem pe_InvalidLoom (T : ExcT X.K X.mg C fI "InvalidLoom" ["part", "at"] "InvalidLoom.__init__" J.s_InvalidLoom_init) (hr : Room k X.A) (ha : PA X (e :: es) ta) (hg : Gl X "InvalidLoom" := by rfl)
    (he : starEach (e :: es) X.env = (false, eval e X.env) :: starEach es X.env := by rfl) (hpl : (backTo pos (starEach es X.env)).any (·.1) = false := by rfl) :
    PE X (.Call (.Name "InvalidLoom" p) (e :: es) [] pos) (tV_InvalidLoom C ta) := by
  refine ⟨fun pins s σ H Q I h => ?_⟩
  refine wpAny_Call_Name_kw (ld_glob I hg T.gC ?_)
  refine PySem.W.callWith_K (h₀ := X.base) I.ok.mod.kin T.kC (thn (ha.run pos pins s σ H _ I h) fun us s1 hh => ?_) he hpl
  obtain ⟨vs, H1, I1, r1, x0, x1, ev, q1⟩ := hh
  subst ev
  refine ⟨I1.kIn, ?_⟩
  cases r1 with
  | cons r0 rn =>
  cases rn with
  | cons r1 rn =>
  cases rn
  have hlim := I1.nolimit
  obtain ⟨hp, g, dr, tk, os⟩ := s1
  refine wpAny_call (made_InvalidLoom T I1.kIn hlim (by have := hr.dp; omega) fun h' tk' e d M => ?_)
  exact ⟨.ref e, _, own_value (tk' := tk') I1 M (rel_InvalidLoom r0 r1), rfl, q1 e d (I1.hok.fresh M.new) (I1.hok.fresh M.dbig) M.dne⟩
def tMk_InvalidLoom (C : Addr) (ta : TA) : St → Hp → XK → Prop := fun σ H Q => ta σ H fun vs H1 => ∃ x0 x1, vs = [x0, x1] ∧ ∀ d, H1 d = none → Q (.ref C) (some d) (upd H1 d (.xd (fs_InvalidLoom x0 x1)))
/-- InvalidLoom(..) to be raised -/
theorem pmk_InvalidLoom (T : ExcT X.K X.mg C fI "InvalidLoom" ["part", "at"] "InvalidLoom.__init__" J.s_InvalidLoom_init) (hr : Room k X.A) (ha : PA X (e :: es) ta) (hg : Gl X "InvalidLoom" := by rfl)
    (he : starEach (e :: es) X.env = (false, eval e X.env) :: starEach es X.env := by rfl) (hpl : (backTo pos (starEach es X.env)).any (·.1) = false := by rfl) :
    PMk X (.Call (.Name "InvalidLoom" p) (e :: es) [] pos) (tMk_InvalidLoom C ta) := by
  intro pins s σ H Q I h
  refine wpAny_Call_Name_kw (ld_glob I hg T.gC ?_)
  refine PySem.W.callWith_K (h₀ := X.base) I.ok.mod.kin T.kC (thn (ha.run pos pins s σ H _ I h) fun us s1 hh => ?_) he hpl
  obtain ⟨vs, H1, I1, r1, x0, x1, ev, q1⟩ := hh
  subst ev
  refine ⟨I1.kIn, ?_⟩
  cases r1 with
  | cons r0 rn =>
  cases rn with
  | cons r1 rn =>
  cases rn
  have hlim := I1.nolimit
  obtain ⟨hp, g, dr, tk, os⟩ := s1
  refine wpAny_call (made_InvalidLoom T I1.kIn hlim (by have := hr.dp; omega) fun h' tk' e d M => ?_)
  exact own_raise (tk' := tk') I1 M (rel_InvalidLoom r0 r1) (raises_own T.exC T.tyC) q1
end
end L2

set_option Elab.async false
set_option linter.all false
set_option maxRecDepth 100000
set_option maxHeartbeats 4000000
namespace J
open PySem L2
/-- a thing: a string, or what is none -/
inductive Wd (K : PySem.W.Frag) (H : Hp) : V → Option (List Nat) → Prop
  | str (u : List Nat) (hl : u.length ≤ 1000) : Wd K H (.str (SX.S u)) (some u)
  | non {x : V} {t : Value} (h : TyZ K H x t) (n : PySem.W.kitOne K t (.type "str") = some false) : Wd K H x none
theorem Wd.same {K : PySem.W.Frag} {H H' : Hp} {x : V} {u : Option (List Nat)} (h : Wd K H x u) (s : Same H H') : Wd K H' x u := by
  cases h with
  | str u hl => exact .str u hl
  | non h n => exact .non (TyZ_same h s) n
def lowB (c : Nat) : Bool := decide (97 ≤ c) && decide (c ≤ 122)
def ascB (p : Nat × Nat) : Bool := decide (p.1 < p.2)
def sgB (sg : List Nat) : Bool := decide (1 ≤ sg.length) && (decide (sg.length ≤ 4) && (sg.all lowB && (sg.zip (sg.drop 1)).all ascB))
def sgO : Option (List Nat) → Bool
  | none => false
  | some sg => sgB sg
def wdB (sg u : List Nat) (lo hi : Int) : Bool := decide (lo ≤ u.length) && (decide ((u.length : Int) ≤ hi) && u.all fun c => decide (c ∈ sg))
def wdO (sg : List Nat) (lo hi : Int) : Option (List Nat) → Bool
  | none => false
  | some u => wdB sg u lo hi
theorem one_lt {c d : Nat} : ([c] < ([d] : List Nat)) ↔ c < d := by
  rw [List.cons_lt_cons_iff]
  constructor
  · rintro (h | ⟨_, h⟩)
    · exact h
    · exact absurd h (List.lt_irrefl _)
  · exact .inl
theorem all_map {α : Type} (f : α → Bool) (l : List α) : (l.map f).all id = l.all f := by
  rw [List.all_map]
  rfl
theorem take_bl {α : Type} (f : α → Bool) (l : List α) {i : Nat} {c : α} (h : l[i]? = some c) : ((l.take i).map fun c => V.bl (f c)) ++ [V.bl (f c)] = (l.take (i + 1)).map fun c => V.bl (f c) := by
  rw [← take_snoc h, List.map_append]
  rfl
def spSgX (K : PySem.W.Frag) : Sp := fun vs H Q _ => ∃ x u, vs = [x] ∧ Wd K H x u ∧ ∀ H', Same H H' → Q (.bl (sgO u)) H'
def spOverX (K : PySem.W.Frag) : Sp := fun vs H Q _ => ∃ (sg : List Nat) (x : V) (u : Option (List Nat)) (lo hi : Int), vs = [.str (SX.S sg), x, .int lo, .int hi] ∧ Wd K H x u ∧ ∀ H', Same H H' → Q (.bl (wdO sg lo hi u)) H'
def spWordX (K : PySem.W.Frag) : Sp := fun vs H Q _ => ∃ (sg : List Nat) (x : V) (u : Option (List Nat)), vs = [.str (SX.S sg), x] ∧ Wd K H x u ∧ ∀ H', Same H H' → Q (.bl (wdO sg 1 12 u)) H'
section
variable {P : Program} {w : World} {K : PySem.W.Frag} {mg : Str → Option Value} {base : Heap}
theorem ok_is_string_overX (T : Tx K mg) : FnOk P w K mg base CX0 1 T.f_is_string_over T.fd_is_string_over P_is_string_over (spOverX K) := by
  refine T.F_is_string_over.ok sc_is_string_over (fun vs H Q E h => ?_) (fun cdv A outer s H vs Q E hr h => ?_)
  · obtain ⟨sg, x, u, lo, hi, rfl, _⟩ := h
    rfl
  · obtain ⟨sg, x, u, lo, hi, rfl, hw, k⟩ := h
    refine ⟨_, (pss_cons (ps_if (PW.pt (pw_or (pt_not (pt_val (pe_callB (call_isiZ (K := K) rfl) rfl T.n_isinstance (by decide +kernel) (pa_cons (pv 1) (pa_cons (pe_bltn (v := V.ty "str") (u := .type "str") rfl T.n_str (by decide +kernel) rfl) pa_nil))))) (pw_or1 (pt_not (pt_chain op_le op_le (pv 2) (pe_callB call_len_str rfl T.n_len (by decide +kernel) (pa_cons (pv 1) pa_nil)) (pv 3)))))) (pss_one (ps_ret pe_bl)) pss_nil)
        (pss_one (ps_ret (pe_callB (cr_allK (K := K) rfl rfl) rfl T.n_all (by decide +kernel) (pa_cons (pe_lc (own := [("sign", 4)]) (g := (gName 4)) rfl sc_is_string_over.nd (pi_str (pv 1)) (blkOk_by (N := N_is_string_over) (sc := defScope s_is_string_over) (by decide +kernel)) (fun _ _ _ _ _ => (pg_name (i := 4) sc_is_string_over.nd rfl (Or.inl rfl))) (fun _ _ _ _ _ => pts_nil) (fun _ _ _ _ _ => (pe_cmpR op_in_sign (pv 4) (pv 0) rfl))) pa_nil))))), ?_⟩
    cases hw with
    | non h n => exact ⟨_, rfl, _, _, _, _, false, rfl, .ty "str", h, n, false, rfl, iteT (iteT (k _ (Same.refl _)))⟩
    | str u hl0 =>
      have hl : (SX.S u).length ≤ sizeLine := le_size (by rw [SX.S_len]; omega)
      refine ⟨_, rfl, _, _, _, _, true, rfl, .ty "str", .x (.base (.str _)), kit_ty (by decide +kernel), true, rfl, iteF ?_⟩
      have e : ((SX.S u).length : Int) = u.length := by rw [SX.S_len]
      refine ⟨_, rfl, _, rfl, _, rfl, hl, _, _, rfl, rfl, _, rfl, ?_⟩
      refine ite2 (fun c1 => ?_) (fun c1 => ?_)
      · have d1 := of_decide_eq_true c1
        rw [e] at d1
        refine ⟨_, rfl, _, _, rfl, rfl, _, rfl, ?_⟩
        by_cases d2 : ((SX.S u).length : Int) ≤ hi
        · rw [decide_eq_true d2]
          refine iteF ?_
          refine ⟨_, rfl, _, rfl, fun D hD => lc_it (walk_str (z := SX.S u)) (fun i H' => H' D = some (.lst ((u.take i).map fun c => V.bl (decide (c ∈ sg)))) ∧ Same H H') ⟨upd_same, Same.new _ hD⟩ (fun _ _ _ _ => trivial) ?_ ?_⟩
          · rintro i x H1 H2 hi ⟨hDl, sm⟩ ⟨rfl, c, hc, rfl⟩
            have hcu : u[i]? = some c := by simpa using hc
            refine ⟨rfl, _, rfl, _, rfl, c, _, rfl, rfl, _, hDl, lt_size (by rw [List.length_map, List.length_take]; omega), ?_, sm.updNew hD⟩
            rw [upd_same]
            have q : decide (c ∈ (SX.S sg).cps.toList) = decide (c ∈ sg) := by simp
            rw [q, take_bl (fun c => decide (c ∈ sg)) u hcu]
          · rintro H1 ⟨hDl, sm⟩
            have z := k H1 sm
            refine ⟨D, u.map fun c => decide (c ∈ sg), rfl, ?_, ?_⟩
            · rw [List.map_map]
              have q : (SX.S u).cps.size = u.length := by simp
              rw [q, List.take_length] at hDl
              exact SqL.of hDl
            · rw [all_map]
              dsimp only [wdO, wdB] at z
              rw [decide_eq_true d1, decide_eq_true (by rw [← e]; exact d2 : (u.length : Int) ≤ hi), Bool.true_and, Bool.true_and] at z
              exact z
        · rw [decide_eq_false d2]
          have z := k H (Same.refl _)
          dsimp only [wdO, wdB] at z
          rw [decide_eq_false (by rw [← e]; exact d2 : ¬ (u.length : Int) ≤ hi), Bool.false_and, Bool.and_false] at z
          exact iteT z
      · have z := k H (Same.refl _)
        dsimp only [wdO, wdB] at z
        rw [decide_eq_false (fun q => c1 (decide_eq_true (by rw [e]; exact q))), Bool.false_and] at z
        exact ⟨false, rfl, iteT z⟩
theorem ok_is_wordX (T : Tx K mg) : FnOk P w K mg base CX0 2 T.f_is_word T.fd_is_word P_is_word (spWordX K) := by
  have G_is_string_over : FnOk P w K mg base CX0 1 T.f_is_string_over T.fd_is_string_over P_is_string_over (spOverX K) := ok_is_string_overX T
  refine T.F_is_word.ok sc_is_word (fun vs H Q E h => ?_) (fun cdv A outer s H vs Q E hr h => ?_)
  · obtain ⟨sg, x, u, rfl, _⟩ := h
    rfl
  · obtain ⟨sg, x, u, rfl, hw, k⟩ := h
    refine ⟨_, (pss_one (ps_ret (pe_call G_is_string_over (hr.mono (by decide)) rfl T.m_is_string_over T.F_is_string_over.kp T.b_is_string_over .nil pass0 (pa_cons (pv 0) (pa_cons (pv 1) (pa_cons pe_int (pa_cons (pe_glob (v := V.int 12) rfl T.g_LONGEST_WORD ⟨_, rfl⟩) pa_nil))))))), ?_⟩
    exact ⟨_, rfl, _, rfl, sg, x, u, 1, 12, rfl, hw, k⟩
end
end J


set_option Elab.async false
set_option linter.all false
set_option maxRecDepth 100000
set_option maxHeartbeats 4000000
namespace J
open PySem L2
def spChkX (K : PySem.W.Frag) (C : Addr) : Sp := fun vs H Q E => ∃ x u, vs = [x] ∧ Wd K H x u ∧ ((sgO u = true ∧ ∀ H', Same H H' → Q .non H') ∨
  (sgO u = false ∧ ∀ H' e, Same H H' → H' e = some (.xd (fs_InvalidLoom (.str "signs") (.int (-1)))) → E (.ref C) (some e) H'))
/-- what is asked whether it is an arc: three parts, or none -/
abbrev Tri := V × Option (List Nat) × V
inductive Ai (K : PySem.W.Frag) (H : Hp) : V → Option Tri → Prop
  | tri {t : Addr} {a b c : V} {u : Option (List Nat)} (h : H t = some (.tup [a, b, c])) (ha : It K H a) (hb : Wd K H b u) (hc : It K H c) : Ai K H (.ref t) (some (a, u, c))
  | oth {t : Addr} {xs : List V} (h : H t = some (.tup xs)) (hl : xs.length ≠ 3) : Ai K H (.ref t) none
  | non {x : V} {t : Value} (h : TyZ K H x t) (n : PySem.W.kitOne K t (.type "tuple") = some false) : Ai K H x none
theorem Ai.same {K : PySem.W.Frag} {H H' : Hp} {x : V} {d : Option Tri} (h : Ai K H x d) (s : Same H H') : Ai K H' x d := by
  cases h with
  | tri h ha hb hc => exact .tri (s _ _ h) (ha.same s) (hb.same s) (hc.same s)
  | oth h hl => exact .oth (s _ _ h) hl
  | non h n => exact .non (TyZ_same h s) n
def numB : V → Bool
  | .int i => decide (0 ≤ i ∧ i ≤ 63)
  | _ => false
def arcB (sg : List Nat) : Option Tri → Bool
  | none => false
  | some (a, u, c) => numB a && (wdO sg 1 12 u && numB c)
def spArcX (K : PySem.W.Frag) : Sp := fun vs H Q _ => ∃ (sg : List Nat) (x : V) (d : Option Tri), vs = [.str (SX.S sg), x] ∧ Ai K H x d ∧ ∀ H', Same H H' → Q (.bl (arcB sg d)) H'
/-- what is asked whether it is arcs -/
inductive At (K : PySem.W.Frag) (H : Hp) : V → Option (List V × List (Option Tri)) → Prop
  | seq {a : Addr} {xs : List V} {ds : List (Option Tri)} (h : Seq H a xs) (hi : ∀ (i : Nat) (x : V), xs[i]? = some x → ∃ d, ds[i]? = some d ∧ Ai K H x d) (hd : ds.length = xs.length) (hl : xs.length ≤ 1000) : At K H (.ref a) (some (xs, ds))
  | non {x : V} {t : Value} (h : TyZ K H x t) (n : PySem.W.kitAny K t [.type "list", .type "tuple"] = some false) : At K H x none
theorem At.same {K : PySem.W.Frag} {H H' : Hp} {x : V} {d : Option (List V × List (Option Tri))} (h : At K H x d) (s : Same H H') : At K H' x d := by
  cases h with
  | seq h hi hd hl => exact .seq (h.same s) (fun i x e => by obtain ⟨d, h1, h2⟩ := hi i x e; exact ⟨d, h1, h2.same s⟩) hd hl
  | non h n => exact .non (TyZ_same h s) n
/-- the first that is no arc -/
def fb (sg : List Nat) : List (Option Tri) → Nat → Option Nat
  | [], _ => none
  | d :: r, i => if arcB sg d then fb sg r (i + 1) else some i
def initO (u : Option (List Nat)) (d : Option (List V × List (Option Tri))) : Option (Str × Int) := match u with
  | none => some ("signs", -1)
  | some sg => if sgB sg = true then (match d with
    | none => some ("arcs", -1)
    | some (_, ds) => if 1 ≤ ds.length ∧ ds.length ≤ 200 then (match fb sg ds 0 with
      | none => none
      | some i => some ("arcs", (i : Nat))) else some ("arcs", -1)) else some ("signs", -1)
def spSeqA (K : PySem.W.Frag) : Sp := fun vs H Q _ => ∃ (x : V) (d : Option (List V × List (Option Tri))), vs = [x, .int 1, .int 200] ∧ At K H x d ∧ ∀ (H' : Hp) (b : Bool), Same H H' → (b = true ↔ ∃ xs ds, d = some (xs, ds) ∧ 1 ≤ ds.length ∧ ds.length ≤ 200) → Q (.bl b) H'
section
variable {P : Program} {w : World} {K : PySem.W.Frag} {mg : Str → Option Value} {base : Heap}
theorem ok_is_signsX (T : Tx K mg) : FnOk P w K mg base CX0 1 T.f_is_signs T.fd_is_signs P_is_signs (spSgX K) := by
  refine T.F_is_signs.ok sc_is_signs (fun vs H Q E h => ?_) (fun cdv A outer s H vs Q E hr h => ?_)
  · obtain ⟨x, u, rfl, _⟩ := h
    rfl
  · obtain ⟨x, u, rfl, hw, k⟩ := h
    refine ⟨_, (pss_cons (ps_if (PW.pt (pw_or (pt_not (pt_val (pe_callB (call_isiZ (K := K) rfl) rfl T.n_isinstance (by decide +kernel) (pa_cons (pv 0) (pa_cons (pe_bltn (v := V.ty "str") (u := .type "str") rfl T.n_str (by decide +kernel) rfl) pa_nil))))) (pw_or1 (pt_not (pt_chain op_le op_le pe_int (pe_callB call_len_str rfl T.n_len (by decide +kernel) (pa_cons (pv 0) pa_nil)) (pe_glob (v := V.int 4) rfl T.g_MOST_SIGNS ⟨_, rfl⟩)))))) (pss_one (ps_ret pe_bl)) pss_nil)
        (pss_cons (ps_set (i := 1) sc_is_signs.nd rfl (Or.inl rfl) (pe_callB (cr_allK (K := K) rfl rfl) rfl T.n_all (by decide +kernel) (pa_cons (pe_lc (own := [("sign", 2)]) (g := (gName 2)) rfl sc_is_signs.nd (pi_str (pv 0)) (blkOk_by (N := N_is_signs) (sc := defScope s_is_signs) (by decide +kernel)) (fun _ _ _ _ _ => (pg_name (i := 2) sc_is_signs.nd rfl (Or.inl rfl))) (fun _ _ _ _ _ => pts_nil) (fun _ _ _ _ _ => (pe_chain op_le_str op_le_str pe_str (pv 2) pe_str))) pa_nil)))
        (pss_one (ps_ret (pe_and (pv 1) (pe_one (pe_callB (cr_allK (K := K) rfl rfl) rfl T.n_all (by decide +kernel) (pa_cons (pe_lc (own := [("one", 3), ("other", 4)]) (g := (gTup K 2 (gCons (gName 3) (gCons (gName 4) gNil)))) rfl sc_is_signs.nd (pi_zipS rfl T.n_zip (pa_cons (pv 0) (pa_cons (pe_slice sl_str (pv 0) (po_some pe_int) po_none) pa_nil))) (blkOk_by (N := N_is_signs) (sc := defScope s_is_signs) (by decide +kernel)) (fun _ _ _ _ _ => (pg_tup rfl (pgs_cons (pg_name (i := 3) sc_is_signs.nd rfl (Or.inl rfl)) (pgs_cons (pg_name (i := 4) sc_is_signs.nd rfl (Or.inl rfl)) pgs_nil)))) (fun _ _ _ _ _ => pts_nil) (fun _ _ _ _ _ => (pe_cmpR op_lt_str (pv 3) (pv 4) (nomark _)))) pa_nil)))))))), ?_⟩
    cases hw with
    | non h n => exact ⟨_, rfl, _, _, _, _, false, rfl, .ty "str", h, n, false, rfl, iteT (iteT (k _ (Same.refl _)))⟩
    | str sg hl0 =>
      have hl : (SX.S sg).length ≤ sizeLine := le_size (by rw [SX.S_len]; omega)
      have e : ((SX.S sg).length : Int) = sg.length := by rw [SX.S_len]
      refine ⟨_, rfl, _, _, _, _, true, rfl, .ty "str", .x (.base (.str _)), kit_ty (by decide +kernel), true, rfl, iteF ?_⟩
      refine ⟨_, rfl, _, rfl, hl, _, _, rfl, rfl, _, rfl, ?_⟩
      refine ite2 (fun c1 => ?_) (fun c1 => ?_)
      · have d1 := of_decide_eq_true c1
        rw [e] at d1
        refine ⟨_, _, rfl, rfl, _, rfl, ?_⟩
        by_cases d2 : ((SX.S sg).length : Int) ≤ 4
        · rw [decide_eq_true d2]
          refine iteF ?_
          refine ⟨_, rfl, _, rfl, fun D hD => lc_it (walk_str (z := SX.S sg)) (fun i H' => H' D = some (.lst ((sg.take i).map fun c => V.bl (lowB c))) ∧ Same H H') ⟨upd_same, Same.new _ hD⟩ (fun _ _ _ _ => trivial) ?_ ?_⟩
          · rintro i x H1 H2 hi ⟨hDl, sm⟩ ⟨rfl, c, hc, rfl⟩
            have hcu : sg[i]? = some c := by simpa using hc
            refine ⟨rfl, _, rfl, _, _, rfl, rfl, ?_⟩
            have l1 : (!decide ([c] < ([97] : List Nat))) = decide (97 ≤ c) := by
              rw [Bool.eq_iff_iff]; simp [one_lt]
            have l2 : (!decide (([122] : List Nat) < [c])) = decide (c ≤ 122) := by
              rw [Bool.eq_iff_iff]; simp [one_lt]
            by_cases q : 97 ≤ c
            · refine ⟨true, congrArg V.bl (l1.trans (decide_eq_true q)), iteT ?_⟩
              refine ⟨_, _, rfl, rfl, _, hDl, lt_size (by rw [List.length_map, List.length_take]; omega), ?_, sm.updNew hD⟩
              rw [upd_same]
              show some (HO.lst (_ ++ [V.bl (!decide (([122] : List Nat) < [c]))])) = _
              have q2 : lowB c = decide (c ≤ 122) := by unfold lowB; rw [decide_eq_true q, Bool.true_and]
              rw [l2, ← q2, take_bl lowB sg hcu]
            · refine ⟨false, congrArg V.bl (l1.trans (decide_eq_false q)), iteF ?_⟩
              refine ⟨_, hDl, lt_size (by rw [List.length_map, List.length_take]; omega), ?_, sm.updNew hD⟩
              rw [upd_same]
              have q2 : lowB c = false := by unfold lowB; rw [decide_eq_false q, Bool.false_and]
              rw [← q2, take_bl lowB sg hcu]
          · rintro H1 ⟨hDl, sm⟩
            have sz : (SX.S sg).cps.size = sg.length := by simp
            rw [sz, List.take_length] at hDl
            refine ⟨D, sg.map lowB, rfl, by rw [List.map_map]; exact SqL.of hDl, ?_⟩
            rw [all_map]
            refine ⟨_, rfl, _, rfl, ?_⟩
            refine ite2 (fun c3 => ?_) (fun c3 => ?_)
            · refine ⟨_, rfl, _, rfl, _, rfl, _, rfl, hl, ?_⟩
              rw [C8.cutS_slice, SX.slice_from (by decide)]
              refine ⟨_, _, rfl, fun D2 hD2 => lc_it (walk_zipS (x := SX.S sg) (y := SX.S (sg.drop 1))) (fun i H' => H' D2 = some (.lst (((sg.zip (sg.drop 1)).take i).map fun c => V.bl (ascB c))) ∧ Same H H') ⟨upd_same, sm.trans (Same.new _ hD2)⟩ (fun _ _ _ _ => trivial) ?_ ?_⟩
              · rintro i x H2 H3 hi ⟨hDl2, sm2⟩ ⟨t, c, d, rfl, ht, rfl, hc, hd⟩
                have hcu : sg[i]? = some c := by simpa using hc
                have hdu : (sg.drop 1)[i]? = some d := by simpa using hd
                have hz : (sg.zip (sg.drop 1))[i]? = some (c, d) := by
                  rw [List.getElem?_zip_eq_some]
                  exact ⟨hcu, hdu⟩
                have nt : D2 ≠ t := fun z => hp_ne hDl2 ht z.symm
                refine ⟨t, _, rfl, SqT.of upd_same, rfl, _, _, rfl, _, _, rfl, rfl, rfl, _, rfl, _, rfl, _, _, rfl, rfl, _, by rw [upd_ne nt]; exact hDl2, lt_size (by rw [List.length_map, List.length_take, List.length_zip]; omega), ?_, (sm2.trans (Same.new _ ht)).updNew (sm.free hD2)⟩
                rw [upd_same]
                show some (HO.lst (_ ++ [V.bl (decide ([c] < [d]))])) = _
                have q3 : decide ([c] < ([d] : List Nat)) = ascB (c, d) := by
                  unfold ascB
                  rw [Bool.eq_iff_iff]
                  simp [one_lt]
                rw [q3, take_bl ascB _ hz]
              · rintro H2 ⟨hDl2, sm2⟩
                have z := k H2 sm2
                have szz : min (SX.S sg).cps.size (SX.S (sg.drop 1)).cps.size = (sg.zip (sg.drop 1)).length := by simp
                rw [szz, List.take_length] at hDl2
                refine ⟨D2, (sg.zip (sg.drop 1)).map ascB, rfl, by rw [List.map_map]; exact SqL.of hDl2, ?_⟩
                rw [all_map]
                dsimp only [sgO, sgB] at z
                rw [decide_eq_true (by omega : 1 ≤ sg.length), decide_eq_true (by omega : sg.length ≤ 4), c3, Bool.true_and, Bool.true_and, Bool.true_and] at z
                exact z
            · have z := k H1 sm
              dsimp only [sgO, sgB] at z
              rw [eq_false_of_ne_true c3, Bool.false_and, Bool.and_false, Bool.and_false] at z
              exact z
        · rw [decide_eq_false d2]
          have z := k H (Same.refl _)
          dsimp only [sgO, sgB] at z
          rw [decide_eq_false (by omega : ¬ sg.length ≤ 4), Bool.false_and, Bool.and_false] at z
          exact iteT z
      · have z := k H (Same.refl _)
        dsimp only [sgO, sgB] at z
        rw [decide_eq_false (fun q => c1 (decide_eq_true (by rw [e]; omega)) : ¬ 1 ≤ sg.length), Bool.false_and] at z
        exact ⟨false, rfl, iteT z⟩
theorem ok_check_signsX (T : Tx K mg) : FnOk P w K mg base (L2.CX P w) 4 T.f_check_signs T.fd_check_signs P_check_signs (spChkX K T.C_InvalidLoom) := by
  have G_is_signs : FnOk P w K mg base CX0 1 T.f_is_signs T.fd_is_signs P_is_signs (spSgX K) := ok_is_signsX T
  refine T.F_check_signs.okX sc_check_signs (fun vs H Q E h => ?_) (fun cdv A outer s H vs Q E hr h => ?_)
  · obtain ⟨x, u, rfl, _⟩ := h
    rfl
  · obtain ⟨x, u, rfl, hw, h⟩ := h
    refine ⟨_, (pss_one (ps_if (pt_not (pt_val (pe_call G_is_signs (hr.mono (by decide)) rfl T.m_is_signs T.F_is_signs.kp T.b_is_signs .nil pass0 (pa_cons (pv 0) pa_nil)))) (pss_one (ps_raise rfl (takes_of rfl rfl rfl rfl) (pmk_InvalidLoom (k := 3) T.X_InvalidLoom (hr.mono (by decide)) (pa_cons pe_str (pa_cons (pe_un un_neg pe_int) pa_nil))))) pss_nil)), ?_⟩
    refine ⟨_, rfl, x, u, rfl, hw, fun H1 s1 => ?_⟩
    rcases h with ⟨e, k⟩ | ⟨e, k⟩
    · rw [e]
      exact ⟨_, rfl, iteF (k _ s1)⟩
    · rw [e]
      refine ⟨_, rfl, iteT ?_⟩
      refine ⟨_, rfl, _, _, rfl, fun x hx => ?_⟩
      exact k _ x (s1.trans (Same.new _ hx)) upd_same
end
end J


set_option Elab.async false
set_option linter.all false
set_option maxRecDepth 100000
set_option maxHeartbeats 4000000
namespace J
open PySem L2
theorem numB_iff {a : V} {b : Bool} (h : b = true ↔ ∃ i, a = .int i ∧ 0 ≤ i ∧ i ≤ 63) : b = numB a := by
  rw [Bool.eq_iff_iff, h]
  unfold numB
  constructor
  · rintro ⟨i, rfl, h0, h1⟩
    exact decide_eq_true ⟨h0, h1⟩
  · intro z
    cases a with
    | int i => exact ⟨i, rfl, of_decide_eq_true z⟩
    | _ => cases z
/-- a loom stands at p, of any signs -/
def LoomG (C : Addr) (H : Hp) (p : Addr) (sg : List Nat) (us : List V) (as : List Arc) : Prop := ∃ dx T, H p = some (.ins C dx (lf sg T)) ∧ H T = some (.tup us) ∧ Arcs H us as
theorem LoomG.same {C : Addr} {H H' : Hp} {p : Addr} {sg : List Nat} {us : List V} {as : List Arc} (h : LoomG C H p sg us as) (s : Same H H') : LoomG C H' p sg us as := by
  obtain ⟨dx, T, h1, h2, h3⟩ := h
  exact ⟨dx, T, s _ _ h1, s _ _ h2, h3.same s⟩
def triA : Option Tri → Arc
  | some (.int a, some u, .int c) => (a.toNat, u, c.toNat)
  | _ => (0, [], 0)
theorem wdO_word {sg : List Nat} {u : Option (List Nat)} (h : wdO sg 1 12 u = true) : ∃ z, u = some z ∧ Word sg z := by
  cases u with
  | none => cases h
  | some z =>
    dsimp only [wdO, wdB] at h
    obtain ⟨h1, h2⟩ := Bool.and_eq_true_iff.mp h
    obtain ⟨h2, h3⟩ := Bool.and_eq_true_iff.mp h2
    have d1 := of_decide_eq_true h1
    have d2 := of_decide_eq_true h2
    exact ⟨z, rfl, by omega, by omega, fun c hc => of_decide_eq_true (List.all_eq_true.mp h3 c hc)⟩
theorem numB_nat {a : V} (h : numB a = true) : ∃ n : Nat, a = .int (n : Nat) ∧ n ≤ 63 := by
  cases a with
  | int i =>
    have z : decide (0 ≤ i ∧ i ≤ 63) = true := h
    obtain ⟨h0, h1⟩ := of_decide_eq_true z
    obtain ⟨n, rfl⟩ := Int.eq_ofNat_of_zero_le h0
    exact ⟨n, rfl, by omega⟩
  | _ => cases h
theorem arcB_arc {K : PySem.W.Frag} {H : Hp} {x : V} {sg : List Nat} {d : Option Tri} (hx : Ai K H x d) (h : arcB sg d = true) : OkArc sg (triA d) ∧ ∃ t, x = .ref t ∧ H t = some (.tup [.int ((triA d).1 : Nat), .str (SX.S (triA d).2.1), .int ((triA d).2.2 : Nat)]) := by
  cases hx with
  | oth _ _ => cases h
  | non _ _ => cases h
  | @tri t a b c u ht ha hb hc =>
    obtain ⟨h1, h2⟩ := Bool.and_eq_true_iff.mp h
    obtain ⟨h4, h3⟩ := Bool.and_eq_true_iff.mp h2
    obtain ⟨m, rfl, hm⟩ := numB_nat h1
    obtain ⟨n, rfl, hn⟩ := numB_nat h3
    obtain ⟨z, rfl, hz⟩ := wdO_word h4
    cases hb with
    | str _ hl => exact ⟨⟨hm, hz, hn⟩, t, rfl, ht⟩
theorem fb_none {sg : List Nat} : ∀ {ds : List (Option Tri)} {i : Nat}, fb sg ds i = none → ∀ d ∈ ds, arcB sg d = true
  | [], _, _, d, hd => nomatch hd
  | e :: r, i, h, d, hd => by
    unfold fb at h
    by_cases c : arcB sg e = true
    · rw [if_pos c] at h
      rcases List.mem_cons.mp hd with rfl | hd
      · exact c
      · exact fb_none h d hd
    · rw [if_neg c] at h; cases h
theorem fb_none_of {sg : List Nat} : ∀ {ds : List (Option Tri)} {i : Nat}, (∀ d ∈ ds, arcB sg d = true) → fb sg ds i = none
  | [], _, _ => rfl
  | e :: r, i, h => by
    unfold fb
    rw [if_pos (h e (by simp))]
    exact fb_none_of fun d hd => h d (by simp [hd])
/-- the arcs that were made of the things -/
theorem at_arcs {K : PySem.W.Frag} {H : Hp} {sg : List Nat} {xs : List V} {ds : List (Option Tri)} (hi : ∀ (i : Nat) (x : V), xs[i]? = some x → ∃ d, ds[i]? = some d ∧ Ai K H x d) (hd : ds.length = xs.length) (h : ∀ d ∈ ds, arcB sg d = true) : Arcs H xs (ds.map triA) ∧ ∀ a ∈ ds.map triA, OkArc sg a := by
  refine ⟨⟨by rw [List.length_map, hd], fun i a ea => ?_⟩, fun a ha => ?_⟩
  · rw [List.getElem?_map] at ea
    obtain ⟨d, ed, rfl⟩ := Option.map_eq_some_iff.mp ea
    have hl := (List.getElem?_eq_some_iff.mp ed).1
    obtain ⟨d', ed', hx⟩ := hi i xs[i] (List.getElem?_eq_getElem (by omega))
    rw [ed] at ed'
    cases ed'
    obtain ⟨_, t, e, ht⟩ := arcB_arc hx (h d (List.mem_of_getElem? ed))
    exact ⟨t, by rw [List.getElem?_eq_getElem (by omega : i < xs.length), e], ht⟩
  · obtain ⟨d, hm, rfl⟩ := List.mem_map.mp ha
    obtain ⟨i, ed⟩ := List.mem_iff_getElem?.mp hm
    have hl := (List.getElem?_eq_some_iff.mp ed).1
    obtain ⟨d', ed', hx⟩ := hi i xs[i] (List.getElem?_eq_getElem (by omega))
    rw [ed] at ed'
    cases ed'
    exact (arcB_arc hx (h d hm)).1
/-- what becomes of the making of a loom: the signs, the arcs, or where it is wrong -/
def spInitX (K : PySem.W.Frag) (C CI : Addr) : Sp := fun vs H Q E => ∃ (p dx : Addr) (x y : V) (u : Option (List Nat)) (d : Option (List V × List (Option Tri))), vs = [.ref p, x, y] ∧ H p = some (.ins C dx []) ∧ Wd K H x u ∧ At K H y d ∧
  ((∃ sg xs ds, u = some sg ∧ d = some (xs, ds) ∧ initO u d = none ∧ ∀ (H' : Hp) (T : Addr), Ex p H H' → H T = none → H' T = some (.tup xs) → H' p = some (.ins C dx (lf sg T)) → Q .non H') ∨
   (∃ part i, initO u d = some (part, i) ∧ ∀ H' e, Same H H' → H' e = some (.xd (fs_InvalidLoom (.str part) (.int i))) → E (.ref CI) (some e) H'))
section
variable {P : Program} {w : World} {K : PySem.W.Frag} {mg : Str → Option Value} {base : Heap}
theorem ok_is_sequenceA (T : Tx K mg) : FnOk P w K mg base CX0 1 T.f_is_sequence T.fd_is_sequence P_is_sequence (spSeqA K) := by
  refine T.F_is_sequence.ok sc_is_sequence (fun vs H Q E h => ?_) (fun cdv A outer s H vs Q E hr h => ?_)
  · obtain ⟨x, d, rfl, _⟩ := h
    rfl
  · obtain ⟨x, d, rfl, ho, k⟩ := h
    refine ⟨_, (pss_one (ps_ret (pe_and (pe_callB (call_isiTZ (K := K) rfl) rfl T.n_isinstance (by decide +kernel) (pa_cons (pv 0) (pa_cons (pe_tup (pa_cons (pe_bltn (v := V.ty "list") (u := .type "list") rfl T.n_list (by decide +kernel) rfl) (pa_cons (pe_bltn (v := V.ty "tuple") (u := .type "tuple") rfl T.n_tuple (by decide +kernel) rfl) pa_nil))) pa_nil))) (pe_one (pe_chain op_le op_le (pv 1) (pe_callB (call_len_seqK (K := K) rfl) rfl T.n_len (by decide +kernel) (pa_cons (pv 0) pa_nil)) (pv 2)))))), ?_⟩
    refine ⟨_, rfl, le_size (by decide), fun t ht => ?_⟩
    have st := Same.new (.tup [V.ty "list", V.ty "tuple"]) ht
    cases ho with
    | non h n =>
      exact ⟨_, _, _, _, [.type "list", .type "tuple"], false, rfl, upd_same, .cons (.ty _) (.cons (.ty _) .nil), TyZ_same h st, n, false, rfl, k _ false st ⟨fun z => Bool.noConfusion z, fun ⟨xs, ds, e, _⟩ => nomatch e⟩⟩
    | @seq a xs ds h hit hd hl =>
      have two : ∃ tv, TyZ K (upd H t (.tup [V.ty "list", V.ty "tuple"])) (.ref a) tv ∧ PySem.W.kitAny K tv [.type "list", .type "tuple"] = some true := by
        rcases h with ha | ha
        · exact ⟨_, .x (.base (.lst (st _ _ ha))), kitAny_cons (b := true) (kit_ty (by decide +kernel)) (fun q => nomatch q) (fun _ => rfl)⟩
        · exact ⟨_, .x (.base (.tup (st _ _ ha))), kitAny_cons (b := false) (kit_ty (by decide +kernel)) (fun _ => kitAny_cons (b := true) (kit_ty (by decide +kernel)) (fun q => nomatch q) (fun _ => rfl)) (fun q => nomatch q)⟩
      have one : SqL K (upd H t (.tup [V.ty "list", V.ty "tuple"])) a xs ∨ SqT K (upd H t (.tup [V.ty "list", V.ty "tuple"])) a xs := (h.same st).elim (fun z => .inl (SqL.of z)) fun z => .inr (SqT.of z)
      obtain ⟨tv, htv, hkt⟩ := two
      refine ⟨_, _, _, _, [.type "list", .type "tuple"], true, rfl, upd_same, .cons (.ty _) (.cons (.ty _) .nil), htv, hkt, true, rfl, ?_⟩
      refine ⟨_, rfl, _, rfl, a, xs, rfl, one, _, _, rfl, rfl, _, rfl, ?_⟩
      refine ite2 (fun c => ?_) (fun c => ?_)
      · have c1 := of_decide_eq_true c
        refine ⟨_, rfl, _, _, rfl, rfl, k _ _ st ?_⟩
        constructor
        · intro h
          have h2 := of_decide_eq_true h
          exact ⟨xs, ds, rfl, by omega, by omega⟩
        · rintro ⟨ys, es, e, h1, h2⟩; cases e; exact decide_eq_true (by omega)
      · refine k _ _ st ?_
        constructor
        · intro h; cases h
        · rintro ⟨ys, es, e, h1, h2⟩; cases e; exact absurd (decide_eq_true (by omega)) c
theorem ok_is_arcX (T : Tx K mg) : FnOk P w K mg base CX0 3 T.f_is_arc T.fd_is_arc P_is_arc (spArcX K) := by
  have G_is_number : FnOk P w K mg base CX0 1 T.f_is_number T.fd_is_number P_is_number (spNumG K) := ok_is_numberG T
  have G_is_word : FnOk P w K mg base CX0 2 T.f_is_word T.fd_is_word P_is_word (spWordX K) := ok_is_wordX T
  refine T.F_is_arc.ok sc_is_arc (fun vs H Q E h => ?_) (fun cdv A outer s H vs Q E hr h => ?_)
  · obtain ⟨sg, x, d, rfl, _⟩ := h
    rfl
  · obtain ⟨sg, x, d, rfl, hd, k⟩ := h
    refine ⟨_, (pss_cons (ps_if (PW.pt (pw_or (pt_not (pt_val (pe_callB (call_isiZ (K := K) rfl) rfl T.n_isinstance (by decide +kernel) (pa_cons (pv 1) (pa_cons (pe_bltn (v := V.ty "tuple") (u := .type "tuple") rfl T.n_tuple (by decide +kernel) rfl) pa_nil))))) (pw_or1 (pt_cmpR op_ne (pe_callB (call_len_seqK (K := K) rfl) rfl T.n_len (by decide +kernel) (pa_cons (pv 1) pa_nil)) pe_int (nomark _))))) (pss_one (ps_ret pe_bl)) pss_nil)
        (pss_cons (ps_asg (pv 1) (pg_tup rfl (pgs_cons (pg_name (i := 2) sc_is_arc.nd rfl (Or.inl rfl)) (pgs_cons (pg_name (i := 3) sc_is_arc.nd rfl (Or.inl rfl)) (pgs_cons (pg_name (i := 4) sc_is_arc.nd rfl (Or.inl rfl)) pgs_nil)))))
        (pss_one (ps_ret (pe_and (pe_call G_is_number (hr.mono (by decide)) rfl T.m_is_number T.F_is_number.kp T.b_is_number .nil pass0 (pa_cons (pv 2) (pa_cons pe_int (pa_cons (pe_glob (v := V.int 63) rfl T.g_LAST_STATE ⟨_, rfl⟩) pa_nil)))) (pe_and (pe_call G_is_word (hr.mono (by decide)) rfl T.m_is_word T.F_is_word.kp T.b_is_word .nil pass0 (pa_cons (pv 0) (pa_cons (pv 3) pa_nil))) (pe_one (pe_call G_is_number (hr.mono (by decide)) rfl T.m_is_number T.F_is_number.kp T.b_is_number .nil pass0 (pa_cons (pv 4) (pa_cons pe_int (pa_cons (pe_glob (v := V.int 63) rfl T.g_LAST_STATE ⟨_, rfl⟩) pa_nil))))))))))), ?_⟩
    cases hd with
    | non h n => exact ⟨_, rfl, _, _, _, _, false, rfl, .ty "tuple", h, n, false, rfl, iteT (iteT (k _ (Same.refl _)))⟩
    | @oth t xs h hl =>
      refine ⟨_, rfl, _, _, _, _, true, rfl, .ty "tuple", .x (.base (.tup h)), kit_ty (by decide +kernel), true, rfl, iteF ?_⟩
      refine ⟨_, rfl, t, xs, rfl, .inr (SqT.of h), rfl, true, congrArg V.bl (by simp; omega), iteT ?_⟩
      exact k _ (Same.refl _)
    | @tri t a b c u ht ha hb hc =>
      refine ⟨_, rfl, _, _, _, _, true, rfl, .ty "tuple", .x (.base (.tup ht)), kit_ty (by decide +kernel), true, rfl, iteF ?_⟩
      refine ⟨_, rfl, t, _, rfl, .inr (SqT.of ht), rfl, false, rfl, iteF ?_⟩
      refine ⟨_, rfl, t, _, rfl, SqT.of ht, rfl, ?_⟩
      refine ⟨_, _, rfl, _, _, rfl, _, _, rfl, rfl, ?_⟩
      refine ⟨_, rfl, a, 63, rfl, ha, fun b1 hb1 => ⟨b1, rfl, ?_⟩⟩
      rw [numB_iff hb1]
      have z := k
      dsimp only [arcB] at z
      cases q1 : numB a with
      | false =>
        rw [q1] at z
        exact z _ (Same.refl _)
      | true =>
        rw [q1] at z
        refine iteT ?_
        refine ⟨_, rfl, _, rfl, sg, b, u, rfl, hb, fun H' sm => ⟨_, rfl, ?_⟩⟩
        cases q2 : wdO sg 1 12 u with
        | false =>
          rw [q2] at z
          exact z _ sm
        | true =>
          rw [q2] at z
          refine iteT ?_
          refine ⟨_, rfl, c, 63, rfl, hc.same sm, fun b2 hb2 => ?_⟩
          rw [numB_iff hb2]
          exact z _ sm
theorem ok_Loom_initX (T : Tx K mg) : FnOk P w K mg base (L2.CX P w) 5 T.f_Loom_init T.fd_Loom_init P_Loom_init (spInitX K T.C_Loom T.C_InvalidLoom) := by
  have G_check_signs : FnOk P w K mg base (L2.CX P w) 4 T.f_check_signs T.fd_check_signs P_check_signs (spChkX K T.C_InvalidLoom) := ok_check_signsX T
  have G_is_sequence : FnOk P w K mg base CX0 1 T.f_is_sequence T.fd_is_sequence P_is_sequence (spSeqA K) := ok_is_sequenceA T
  have G_is_arc : FnOk P w K mg base CX0 3 T.f_is_arc T.fd_is_arc P_is_arc (spArcX K) := ok_is_arcX T
  refine T.F_Loom_init.okX sc_Loom_init (fun vs H Q E h => ?_) (fun cdv A outer s H vs Q E hr h => ?_)
  · obtain ⟨p, dx, x, y, u, d, rfl, _⟩ := h
    rfl
  · obtain ⟨p, dx, x, y, u, d, rfl, hp, hx, hy, h⟩ := h
    refine ⟨_, (pss_cons (ps_expr (pe_callS G_check_signs (hr.mono (by decide)) rfl T.m_check_signs T.F_check_signs.kp T.b_check_signs (fun σ => passAt (takes_of rfl rfl rfl rfl) σ) (pa_cons (pv 1) pa_nil)))
        (pss_cons (ps_if (pt_not (pt_val (pe_call G_is_sequence (hr.mono (by decide)) rfl T.m_is_sequence T.F_is_sequence.kp T.b_is_sequence .nil pass0 (pa_cons (pv 2) (pa_cons pe_int (pa_cons (pe_glob (v := V.int 200) rfl T.g_MOST_ARCS ⟨_, rfl⟩) pa_nil)))))) (pss_one (ps_raise rfl (takes_of rfl rfl rfl rfl) (pmk_InvalidLoom (k := 3) T.X_InvalidLoom (hr.mono (by decide)) (pa_cons pe_str (pa_cons (pe_un un_neg pe_int) pa_nil))))) pss_nil)
        (pss_cons (ps_for (passes_of rfl) rfl (pi_or (pi_enum rfl T.n_enumerate (pa_cons (pv 2) pa_nil)) (pi_enumT rfl T.n_enumerate (pa_cons (pv 2) pa_nil))) (pg_tup rfl (pgs_cons (pg_name (i := 3) sc_Loom_init.nd rfl (Or.inl rfl)) (pgs_cons (pg_name (i := 4) sc_Loom_init.nd rfl (Or.inl rfl)) pgs_nil))) (pss_one (ps_if (pt_not (pt_val (pe_call G_is_arc (hr.mono (by decide)) rfl T.m_is_arc T.F_is_arc.kp T.b_is_arc .nil pass0 (pa_cons (pv 1) (pa_cons (pv 4) pa_nil))))) (pss_one (ps_raise rfl (takes_of rfl rfl rfl rfl) (pmk_InvalidLoom (k := 3) T.X_InvalidLoom (hr.mono (by decide)) (pa_cons pe_str (pa_cons (pv 3) pa_nil))))) pss_nil)))
        (pss_cons (ps_fld (pv 0) (pv 1) rfl)
        (pss_one (ps_fld (pv 0) (pe_callTy (call_tuple_ofK (K := K) rfl) rfl T.n_tuple (by decide +kernel) (pa_cons (pe_lc (own := [("arc", 4)]) (g := (gName 4)) rfl sc_Loom_init.nd (pi_or (pi_list (pv 2)) (pi_tup (pv 2))) (blkOk_by (N := N_Loom_init) (sc := defScope s_Loom_init) (by decide +kernel)) (fun _ _ _ _ _ => (pg_name (i := 4) sc_Loom_init.nd rfl (Or.inl rfl))) (fun _ _ _ _ _ => pts_nil) (fun _ _ _ _ _ => (pe_callTy (call_tuple_ofK (K := K) rfl) rfl T.n_tuple (by decide +kernel) (pa_cons (pv 4) pa_nil)))) pa_nil)) rfl)))))), ?_⟩
    have cs : sgO u = false → initO u d = some (("signs" : Str), -1) := fun z => by
      unfold initO
      cases u with
      | none => rfl
      | some sg =>
        have z : sgB sg = false := z
        dsimp only
        rw [z]
        rfl
    cases hs : sgO u with
    | false =>
      refine ⟨_, rfl, x, u, rfl, hx, .inr ⟨hs, fun H1 e s1 he => ?_⟩⟩
      rcases h with ⟨_, _, _, _, _, z, _⟩ | ⟨part, i, z, k⟩
      · rw [cs hs] at z; cases z
      · rw [cs hs] at z
        cases z
        exact k H1 e s1 he
    | true =>
      refine ⟨_, rfl, x, u, rfl, hx, .inl ⟨hs, fun H1 s1 => ?_⟩⟩
      cases hx with
      | non _ _ => cases hs
      | str sg hsl =>
        have hsg : sgB sg = true := hs
        refine ⟨_, rfl, y, d, rfl, hy.same s1, fun H2 b s2 hb => ⟨b, rfl, ?_⟩⟩
        have s12 := s1.trans s2
        have bad : (¬ ∃ xs ds, d = some (xs, ds) ∧ 1 ≤ ds.length ∧ ds.length ≤ 200) → initO (some sg) d = some (("arcs" : Str), -1) := fun z => by
          dsimp only [initO]
          rw [if_pos hsg]
          cases d with
          | none => rfl
          | some q =>
            obtain ⟨xs, ds⟩ := q
            dsimp only
            rw [if_neg (fun z2 => z ⟨xs, ds, rfl, z2.1, z2.2⟩)]
        by_cases ok : ∃ xs ds, d = some (xs, ds) ∧ 1 ≤ ds.length ∧ ds.length ≤ 200
        · rw [hb.mpr ok]
          refine iteF ?_
          obtain ⟨xs, ds, rfl, l1, l2⟩ := ok
          have ini : initO (some sg) (some (xs, ds)) = (match fb sg ds 0 with
            | none => none
            | some i => some (("arcs" : Str), ((i : Nat) : Int))) := by
            dsimp only [initO]
            rw [if_pos hsg, if_pos ⟨l1, l2⟩]
            all_goals (cases fb sg ds 0 <;> rfl)
          cases hy with
          | @seq a _ _ ha0 hi hd hl =>
            rcases ha0 with ha | ha
            · refine .inl ⟨_, rfl, a, xs, rfl, SqL.of (s12 _ _ ha), for_it walk_enum (fun i σ H' => ∃ v3 v4, σ = [some (.ref p), some (.str (SX.S sg)), some (.ref a), v3, v4] ∧ Same H H' ∧ fb sg ds 0 = fb sg (ds.drop i) i) ⟨_, _, rfl, s12, rfl⟩ (fun i σ H' _ ⟨_, _, _, sm, _⟩ => SqL.of (sm _ _ ha)) ?_ ?_⟩
              · rintro i x σ H3 H4 hi3 ⟨v3, v4, rfl, s3, hf⟩ ⟨tp, x1, y1, rfl, ht, rfl, hx1, hy1⟩
                cases hx1
                replace hy1 : xs[i]? = some y1 := hy1
                obtain ⟨di, hdi, hai⟩ := hi i y1 hy1
                have hil := (List.getElem?_eq_some_iff.mp hdi).1
                have hdr : ds.drop i = di :: ds.drop (i + 1) := by
                  rw [List.drop_eq_getElem_cons hil]
                  congr 1
                  exact Option.some.inj ((List.getElem?_eq_getElem hil).symm.trans hdi)
                have sn := Same.new (.tup [V.int (i : Int), y1]) ht
                have s34 := s3.trans sn
                refine ⟨tp, _, rfl, SqT.of upd_same, rfl, _, _, rfl, _, _, rfl, rfl, ?_⟩
                refine ⟨_, rfl, _, rfl, sg, y1, di, rfl, hai.same s34, fun H5 s5 => ⟨_, rfl, ?_⟩⟩
                rw [hdr] at hf
                unfold fb at hf
                cases q : arcB sg di with
                | true =>
                  rw [if_pos q] at hf
                  refine iteF ?_
                  refine ⟨_, _, rfl, s34.trans s5, ?_⟩
                  rw [← hf]
                  conv => lhs; unfold fb
                | false =>
                  rw [if_neg (by rw [q]; exact Bool.false_ne_true)] at hf
                  refine iteT ⟨_, rfl, _, _, rfl, fun e he => ?_⟩
                  have ini2 : initO (some sg) (some (xs, ds)) = some (("arcs" : Str), ((i : Nat) : Int)) := by
                    rw [ini]
                    conv => lhs; unfold fb
                    rw [hf]
                  rcases h with ⟨_, _, _, _, _, z, _⟩ | ⟨part, i, z, k⟩
                  · rw [ini2] at z; cases z
                  · rw [ini2] at z
                    cases z
                    exact k _ e ((s34.trans s5).trans (Same.new _ he)) upd_same
              · rintro σ H3 ⟨v3, v4, rfl, s3, hf⟩
                have hf2 : fb sg ds 0 = none := by rw [hf, ← hd, List.drop_length]; rfl
                have ini2 : initO (some sg) (some (xs, ds)) = none := by rw [ini, hf2]
                have k : ∀ (H' : Hp) (T1 : Addr), Ex p H H' → H T1 = none → H' T1 = some (.tup xs) → H' p = some (.ins T.C_Loom dx (lf sg T1)) → Q .non H' := by
                  rcases h with ⟨sg', xs', ds', e1, e2, _, k⟩ | ⟨part, i, z, k⟩
                  · cases e1
                    cases e2
                    exact k
                  · rw [ini2] at z; cases z
                obtain ⟨harc, hoka⟩ := at_arcs hi hd (fb_none hf2)
                have hp3 := s3 _ _ hp
                refine ⟨_, rfl, _, rfl, p, _, dx, _, rfl, hp3, T.cl_Loom, T.na_Loom_signs, (by show 0 < 1000; decide), ?_⟩
                have x3 : Ex p H (upd H3 p (.ins T.C_Loom dx (putF "signs" (.str (SX.S sg)) []))) := (Same.ex s3).trans (Ex.upd _)
                have nap : a ≠ p := fun z => by rw [z, hp] at ha; cases ha
                refine .inl ⟨_, rfl, a, rfl, ⟨_, SqL.of (x3 _ _ nap ha)⟩, fun D hD => lc_list (K := K) (a := a) (xs := xs) (fun i H' => H' D = some (.lst (xs.take i)) ∧ Ex p H H' ∧ H' p = some (.ins T.C_Loom dx (putF "signs" (.str (SX.S sg)) []))) ?_ ?_ ?_ ?_⟩
                · have nDp : D ≠ p := hp_ne upd_same hD
                  exact ⟨upd_same, x3.trans (Ex.new _ hD), by rw [upd_ne nDp.symm]; exact upd_same⟩
                · rintro i H4 hi ⟨_, x4, _⟩
                  exact SqL.of (x4 _ _ nap ha)
                · rintro i y H4 hy ⟨hDl, x4, hp4⟩
                  have hia : i < xs.length := (List.getElem?_eq_some_iff.mp hy).1
                  have hl2 := harc.1
                  obtain ⟨t, hut, htt⟩ := harc.2 i (ds.map triA)[i] (List.getElem?_eq_getElem (by rw [← hl2]; exact hia))
                  rw [hut] at hy
                  cases hy
                  have ntp : t ≠ p := fun z => by rw [z, hp] at htt; cases htt
                  have nDp : D ≠ p := hp_ne upd_same hD
                  refine ⟨rfl, _, rfl, t, _, rfl, .inr ⟨SqT.of (x4 _ _ ntp htt), _, hDl, lt_size (by simp; omega), ?_, x4.updNew (x3.free hD nDp), by rw [upd_ne nDp.symm]; exact hp4⟩⟩
                  rw [upd_same, take_snoc hut]
                · rintro H4 ⟨hDl, x4, hp4⟩
                  rw [List.take_length] at hDl
                  refine ⟨D, xs, rfl, .inl ⟨SqL.of hDl, fun T1 hT1 => ?_⟩⟩
                  have nT : T1 ≠ p := hp_ne hp4 hT1
                  refine ⟨_, rfl, p, _, dx, _, rfl, by rw [upd_ne nT.symm]; exact hp4, T.cl_Loom, T.na_Loom_arcs, (by show 1 < 1000; decide), ?_⟩
                  exact k _ T1 ((x4.trans (Ex.new _ hT1)).trans (Ex.upd _)) (x4.free hT1 nT) (by rw [upd_ne nT]; exact upd_same) upd_same
            · refine .inr ⟨_, rfl, a, xs, rfl, SqT.of (s12 _ _ ha), for_it walk_enumT (fun i σ H' => ∃ v3 v4, σ = [some (.ref p), some (.str (SX.S sg)), some (.ref a), v3, v4] ∧ Same H H' ∧ fb sg ds 0 = fb sg (ds.drop i) i) ⟨_, _, rfl, s12, rfl⟩ (fun i σ H' _ ⟨_, _, _, sm, _⟩ => SqT.of (sm _ _ ha)) ?_ ?_⟩
              · rintro i x σ H3 H4 hi3 ⟨v3, v4, rfl, s3, hf⟩ ⟨tp, x1, y1, rfl, ht, rfl, hx1, hy1⟩
                cases hx1
                replace hy1 : xs[i]? = some y1 := hy1
                obtain ⟨di, hdi, hai⟩ := hi i y1 hy1
                have hil := (List.getElem?_eq_some_iff.mp hdi).1
                have hdr : ds.drop i = di :: ds.drop (i + 1) := by
                  rw [List.drop_eq_getElem_cons hil]
                  congr 1
                  exact Option.some.inj ((List.getElem?_eq_getElem hil).symm.trans hdi)
                have sn := Same.new (.tup [V.int (i : Int), y1]) ht
                have s34 := s3.trans sn
                refine ⟨tp, _, rfl, SqT.of upd_same, rfl, _, _, rfl, _, _, rfl, rfl, ?_⟩
                refine ⟨_, rfl, _, rfl, sg, y1, di, rfl, hai.same s34, fun H5 s5 => ⟨_, rfl, ?_⟩⟩
                rw [hdr] at hf
                unfold fb at hf
                cases q : arcB sg di with
                | true =>
                  rw [if_pos q] at hf
                  refine iteF ?_
                  refine ⟨_, _, rfl, s34.trans s5, ?_⟩
                  rw [← hf]
                  conv => lhs; unfold fb
                | false =>
                  rw [if_neg (by rw [q]; exact Bool.false_ne_true)] at hf
                  refine iteT ⟨_, rfl, _, _, rfl, fun e he => ?_⟩
                  have ini2 : initO (some sg) (some (xs, ds)) = some (("arcs" : Str), ((i : Nat) : Int)) := by
                    rw [ini]
                    conv => lhs; unfold fb
                    rw [hf]
                  rcases h with ⟨_, _, _, _, _, z, _⟩ | ⟨part, i, z, k⟩
                  · rw [ini2] at z; cases z
                  · rw [ini2] at z
                    cases z
                    exact k _ e ((s34.trans s5).trans (Same.new _ he)) upd_same
              · rintro σ H3 ⟨v3, v4, rfl, s3, hf⟩
                have hf2 : fb sg ds 0 = none := by rw [hf, ← hd, List.drop_length]; rfl
                have ini2 : initO (some sg) (some (xs, ds)) = none := by rw [ini, hf2]
                have k : ∀ (H' : Hp) (T1 : Addr), Ex p H H' → H T1 = none → H' T1 = some (.tup xs) → H' p = some (.ins T.C_Loom dx (lf sg T1)) → Q .non H' := by
                  rcases h with ⟨sg', xs', ds', e1, e2, _, k⟩ | ⟨part, i, z, k⟩
                  · cases e1
                    cases e2
                    exact k
                  · rw [ini2] at z; cases z
                obtain ⟨harc, hoka⟩ := at_arcs hi hd (fb_none hf2)
                have hp3 := s3 _ _ hp
                refine ⟨_, rfl, _, rfl, p, _, dx, _, rfl, hp3, T.cl_Loom, T.na_Loom_signs, (by show 0 < 1000; decide), ?_⟩
                have x3 : Ex p H (upd H3 p (.ins T.C_Loom dx (putF "signs" (.str (SX.S sg)) []))) := (Same.ex s3).trans (Ex.upd _)
                have nap : a ≠ p := fun z => by rw [z, hp] at ha; cases ha
                refine .inr ⟨_, rfl, a, rfl, ⟨_, SqT.of (x3 _ _ nap ha)⟩, fun D hD => lc_tup (K := K) (a := a) (xs := xs) (fun i H' => H' D = some (.lst (xs.take i)) ∧ Ex p H H' ∧ H' p = some (.ins T.C_Loom dx (putF "signs" (.str (SX.S sg)) []))) ?_ ?_ ?_ ?_⟩
                · have nDp : D ≠ p := hp_ne upd_same hD
                  exact ⟨upd_same, x3.trans (Ex.new _ hD), by rw [upd_ne nDp.symm]; exact upd_same⟩
                · rintro i H4 hi ⟨_, x4, _⟩
                  exact SqT.of (x4 _ _ nap ha)
                · rintro i y H4 hy ⟨hDl, x4, hp4⟩
                  have hia : i < xs.length := (List.getElem?_eq_some_iff.mp hy).1
                  have hl2 := harc.1
                  obtain ⟨t, hut, htt⟩ := harc.2 i (ds.map triA)[i] (List.getElem?_eq_getElem (by rw [← hl2]; exact hia))
                  rw [hut] at hy
                  cases hy
                  have ntp : t ≠ p := fun z => by rw [z, hp] at htt; cases htt
                  have nDp : D ≠ p := hp_ne upd_same hD
                  refine ⟨rfl, _, rfl, t, _, rfl, .inr ⟨SqT.of (x4 _ _ ntp htt), _, hDl, lt_size (by simp; omega), ?_, x4.updNew (x3.free hD nDp), by rw [upd_ne nDp.symm]; exact hp4⟩⟩
                  rw [upd_same, take_snoc hut]
                · rintro H4 ⟨hDl, x4, hp4⟩
                  rw [List.take_length] at hDl
                  refine ⟨D, xs, rfl, .inl ⟨SqL.of hDl, fun T1 hT1 => ?_⟩⟩
                  have nT : T1 ≠ p := hp_ne hp4 hT1
                  refine ⟨_, rfl, p, _, dx, _, rfl, by rw [upd_ne nT.symm]; exact hp4, T.cl_Loom, T.na_Loom_arcs, (by show 1 < 1000; decide), ?_⟩
                  exact k _ T1 ((x4.trans (Ex.new _ hT1)).trans (Ex.upd _)) (x4.free hT1 nT) (by rw [upd_ne nT]; exact upd_same) upd_same
        · have e : b = false := by
            cases b with
            | false => rfl
            | true => exact absurd (hb.mp rfl) ok
          rw [e]
          refine iteT ⟨_, rfl, _, _, rfl, fun e he => ?_⟩
          rcases h with ⟨_, _, _, _, _, z, _⟩ | ⟨part, i, z, k⟩
          · rw [bad ok] at z; cases z
          · rw [bad ok] at z
            cases z
            exact k _ e (s12.trans (Same.new _ he)) upd_same
end
end J


set_option Elab.async false
set_option linter.all false
set_option maxRecDepth 100000
set_option maxHeartbeats 4000000
namespace J
open PySem L2
section
variable {X : Cx} {CX : CXT} {k : Nat} {f C : Addr} {fd : FuncData} {ps : List Str} {ds : List Value} {dvs : List V} {sp : Sp} {E : St → XK} {x : Str} {p pos : Pos} {e : Expr} {es : List Expr} {t : TA}
def tMakeS (C : Addr) (sp : Sp) (dvs : List V) (E : St → XK) (t : TA) : TE := fun σ H Q => t σ H fun vs H1 => ∀ x dx, H1 x = none → H1 dx = none → dx ≠ x → sp (.ref x :: (vs ++ dvs)) (upd (upd H1 dx (.own x)) x (.ins C dx [])) (fun v H2 => v = .non ∧ Q (.ref x) H2) (E σ)
theorem run_makeS {pins : List (Addr × Obj)} {σ : St} {H : Hp} {s : Shared} {Q : VK} {us : List Value} {vs : List V} (M : Mk X.K C f) (F : FnOk X.prog X.w X.K X.mg X.base CX k f fd ps sp) (hr : Room (k + 1) X.A) (hb : Binds X.K fd ps ds) (hd : Vals dvs ds)
    (hx : PassesAt CX X σ (E σ)) (I : Inv X pins σ H s) (r : Vals vs us)
    (h : ∀ x dx, H x = none → H dx = none → dx ≠ x → sp (.ref x :: (vs ++ dvs)) (upd (upd H dx (.own x)) x (.ins C dx [])) (fun v H2 => v = .non ∧ Q (.ref x) H2) (E σ)) :
    wpAny (model X.prog X.w) X.A (call (.ref C) us) (EP X pins σ Q) X.xe s := by
  have hq := h (s.heap.objs.size + 1) s.heap.objs.size (I.hok.fresh (Nat.le_succ _)) (I.hok.fresh (Nat.le_refl _)) (Nat.ne_of_lt (Nat.lt_succ_self _))
  have I2 := Inv.made (C := C) I
  have r2 : Vals (V.ref (s.heap.objs.size + 1) :: (vs ++ dvs)) (Value.ref (s.heap.objs.size + 1) :: (us ++ ds)) := .cons rfl (r.append hd)
  have hl : (Value.ref (s.heap.objs.size + 1) :: us ++ ds).length = ps.length := by
    have e := r2.length
    rw [F.len _ _ _ _ hq] at e
    exact e.symm
  refine wpAny_call (make_map (f := f) I.kIn M.makes M.init (beq_iff_eq.mp M.fn) (codeAny_mono (F.run _ X.stack _ _ ⟨Value.ref (s.heap.objs.size + 1) :: us, []⟩ (Value.ref (s.heap.objs.size + 1) :: (us ++ ds)) _ _ (E σ) (hr.make C us [])
    (I2.env0.make C us []) (hb _ (Value.ref (s.heap.objs.size + 1) :: us) I2.kIn hl) r2 hq) fun r s' hq' => ?_))
  cases r with
  | error e => exact hx pins _ _ e s' I2 hq'
  | ok fl =>
    cases fl with
    | ret u =>
      obtain ⟨v, H', I3, rv, ev, q3⟩ := I2.after hq'
      subst ev
      exact ⟨rv, ⟨V.ref (s.heap.objs.size + 1), H', I3, rfl, q3⟩⟩
    | next => exact False.elim hq'
    | brk => exact False.elim hq'
    | cont => exact False.elim hq'
/-- a making whose __init__ may raise, around which errors are taken -/
theorem pe_makeS (M : Mk X.K C f) (F : FnOk X.prog X.w X.K X.mg X.base CX k f fd ps sp) (hr : Room (k + 1) X.A) (hg : Gl X x) (hm : X.mg x = some (.ref C)) (hb : Binds X.K fd ps ds) (hd : Vals dvs ds) (hx : ∀ σ, PassesAt CX X σ (E σ))
    (ha : PA X (e :: es) t) (hdb : (x == ("__debug__" : Str)) = false := by decide) (he : starEach (e :: es) X.env = (false, eval e X.env) :: starEach es X.env := by rfl) (hpl : (backTo pos (starEach es X.env)).any (·.1) = false := by rfl) :
    PE X (.Call (.Name x p) (e :: es) [] pos) (tMakeS C sp dvs E t) := by
  refine ⟨fun pins s σ H Q I h => ?_⟩
  refine wpAny_Call_Name_kw (ld_glob I hg hm ?_ hdb)
  refine PySem.W.callWith_K (h₀ := X.base) I.ok.mod.kin M.kp (thn (ha.run pos pins s σ H _ I h) fun us s1 ⟨vs, H1, I1, r, q⟩ => ⟨I1.kIn, ?_⟩) he hpl
  exact run_makeS M F hr hb hd (hx σ) I1 r q
end
/-- isinstance of a caught error with fields -/
theorem call_isED {X : Cx} {a : Addr} {oe : Obj} {pn : List (Addr × Obj)} {cls : Value} {d : Option Addr} (hz : Zc cls d oe) (hf : ∃ vs, oe.data = .fields vs) :
    CallR (X.suite a ((a, oe) :: pn)) (.builtin "isinstance") (fun xs H Q => ∃ D dd fs, cls = .ref D ∧ d = some dd ∧ H dd = some (.xd fs) ∧ ExcC X.K D ∧ rIsE X.K D a xs H Q) := by
  intro pins s σ H xs us Q I r h
  obtain ⟨D, dd, fs, rfl, rfl, hdd, C, c, cv, b, rfl, hcv, e, q⟩ := h
  cases r with
  | cons rx rr =>
    cases rr with
    | cons rt rr =>
      cases rr
      cases rx
      have ec := hcv _ rt
      subst ec
      obtain ⟨hget, _⟩ := I.pin (a, oe) (List.mem_append.mpr (.inl List.mem_cons_self))
      obtain ⟨vs, hv⟩ := hf
      have hx : ObjOk X.prog X.w H s.heap dd (.xd fs) := I.hok dd _ hdd
      obtain ⟨mA, hns, hr⟩ := hx
      obtain ⟨od, ho, hl⟩ := lookIn_ns hns
      have J : PySem.W.InstAt s.heap a oe D (some od) := ⟨hget, hz.1, by unfold PySem.W.notCls; rw [hv] <;> rfl, by rw [hz.2]; exact ho⟩
      exact PySem.W.kia_one (PySem.W.kitx_excZ C.hg C.hk C.hs C.hd C.ha C.hn C.ht C.hm) I.kIn J e (fun z => nomatch z) fun tk => ⟨.bl b, H, I.kept (t' := tk) fun _ _ z => z, rfl, q⟩
theorem exm_own {K : PySem.W.Frag} {D : Addr} (b : PySem.W.subIn K (.ref D) (.type "BaseException") = some true) (c : PySem.W.isClsIn K D = true) (t : PySem.W.typeIn K (.ref D) = some (.type "type")) (q : PySem.W.subIn K (.ref D) (.ref D) = some true) :
    PySem.W.exmOne K (.ref D) (.ref D) = some true := by
  have c' : (PySem.W.clsIn K D).isSome = true := c
  unfold PySem.W.exmOne
  simp [b, c', t, q, PySem.W.kitCls]
theorem kit_own {K : PySem.W.Frag} {t : Value} {C : Addr} {b : Bool} (h1 : PySem.W.isClsIn K C = true) (h2 : PySem.W.typeIn K (.ref C) = some (.type "type")) (h3 : PySem.W.subIn K t (.ref C) = some b) (hb : t = .ref C → b = true) : PySem.W.kitOne K t (.ref C) = some b := by
  unfold PySem.W.kitOne
  by_cases e : (t == Value.ref C) = true
  · rw [if_pos e, hb (eq_of_beq e)]
  · rw [if_neg e]
    have q : ((PySem.W.clsIn K C).isSome && PySem.W.typeIn K (.ref C) == some (.type "type")) = true := by
      have h1' : (PySem.W.clsIn K C).isSome = true := h1
      rw [h1', h2] <;> rfl
    show (if ((PySem.W.clsIn K C).isSome && PySem.W.typeIn K (.ref C) == some (.type "type")) = true then PySem.W.subIn K t (.ref C) else none) = some b
    rw [if_pos q]
    exact h3
theorem kit_cls {K : PySem.W.Frag} {C : Addr} {s : String} {b : Bool} (hm : PySem.W.kitMeta s = true) (h : PySem.W.subIn K (.ref C) (.type s) = some b) : PySem.W.kitOne K (.ref C) (.type s) = some b := by
  unfold PySem.W.kitOne
  have e : ¬ ((Value.ref C == Value.type s) = true) := fun z => nomatch (eq_of_beq z)
  rw [if_neg e]
  show (if PySem.W.kitMeta s = true then PySem.W.subIn K (.ref C) (.type s) else none) = some b
  rw [if_pos hm]
  exact h
def spTold (K : PySem.W.Frag) (C : Addr) : Sp := fun vs H Q _ => ∃ (x y : V) (u : Option (List Nat)) (d : Option (List V × List (Option Tri))), vs = [x, y] ∧ Wd K H x u ∧ At K H y d ∧
  ((∃ part i, initO u d = some (part, i) ∧ ∀ (H' : Hp) (r : Addr), Same H H' → H r = none → H' r = some (.tup [.str part, .int i, .bl true]) → Q (.ref r) H') ∨
   (∃ sg xs ds, u = some sg ∧ d = some (xs, ds) ∧ initO u d = none ∧ ∀ (H' : Hp) (r lm dx T : Addr), Same H H' → H r = none → H' r = some (.tup [.str "made", .ref lm]) → H' lm = some (.ins C dx (lf sg T)) → H' T = some (.tup xs) → Q (.ref r) H'))
section
variable {P : Program} {w : World} {K : PySem.W.Frag} {mg : Str → Option Value} {base : Heap}
theorem ok_l_told (T : Tx K mg) : FnOk P w K mg base CX0 7 T.f_l_told T.fd_l_told P_l_told (spTold K T.C_Loom) := by
  have G_Loom_init : FnOk P w K mg base (L2.CX P w) 5 T.f_Loom_init T.fd_Loom_init P_Loom_init (spInitX K T.C_Loom T.C_InvalidLoom) := ok_Loom_initX T
  refine T.F_l_told.ok sc_l_told (fun vs H Q E h => ?_) (fun cdv A outer s H vs Q E hr h => ?_)
  · obtain ⟨x, y, u, d, rfl, _⟩ := h
    rfl
  · obtain ⟨x, y, u, d, rfl, hx, hy, h⟩ := h
    have xf : XfC K T.C_InvalidLoom := ⟨T.E_InvalidLoom.hg, T.E_InvalidLoom.hk, T.E_InvalidLoom.hs, T.E_InvalidLoom.hd⟩
    refine ⟨_, pss_cons (ps_try_cls (Wout := fun _ _ _ _ => False) rfl rfl takes0
      (fun W pn xe tk _ => pss_one (ps_set (i := 2) sc_l_told.nd rfl (Or.inl rfl) (by exact (pe_tup (pa_cons pe_str (pa_cons (pe_makeS T.M_Loom G_Loom_init (hr.mono (by decide)) rfl T.g_Loom T.b_Loom_init .nil (fun σ => passAt tk σ) (pa_cons (pv 0) (pa_cons (pv 1) pa_nil))) pa_nil))))))
      (.named (i := 3) ⟨rfl, by decide, Or.inl T.g_InvalidLoom⟩ sc_l_told.nd rfl rfl (fun g oe cls d pn hz hf => pss_one (ps_set (i := 2) sc_l_told.nd rfl (Or.inl rfl) (by exact (pe_tup (pa_cons (pe_xf xf T.nx_InvalidLoom_part hz hf (pv 3)) (pa_cons (pe_xf xf T.nx_InvalidLoom_at hz hf (pv 3)) (pa_cons (pe_and (pe_callB (call_isED hz hf) rfl T.n_isinstance (by decide +kernel) (by exact (pa_cons (pv 3) (pa_cons (pe_glob (v := V.ref T.C_ReadError) rfl T.g_ReadError rfl) pa_nil)))) (pe_one (pe_callB (call_isED hz hf) rfl T.n_isinstance (by decide +kernel) (by exact (pa_cons (pv 3) (pa_cons (pe_bltn (v := V.ty "Exception") (u := .type "Exception") rfl T.n_Exception (by decide +kernel) rfl) pa_nil)))))) pa_nil))))))) .nil))
      (pss_one (ps_ret (pv 2))), ?_⟩
    refine ⟨_, rfl, _, rfl, fun p dx hp hdx hne => ?_⟩
    have s0 : Same H (upd (upd H dx (.own p)) p (.ins T.C_Loom dx [])) := (Same.new _ hdx).trans (Same.new _ (by rw [upd_ne hne.symm]; exact hp))
    refine ⟨p, dx, x, y, u, d, rfl, upd_same, hx.same s0, hy.same s0, ?_⟩
    rcases h with ⟨part, i, e, k⟩ | ⟨sg, xs, ds, rfl, rfl, e, k⟩
    · refine .inr ⟨part, i, e, fun H1 e1 s1 he1 => ?_⟩
      refine ⟨true, exm_own T.E_InvalidLoom.hs T.cl_InvalidLoom T.ty_InvalidLoom T.ss_InvalidLoom, fun _ g hg => ?_, fun e => Bool.noConfusion e⟩
      refine ⟨_, rfl, rfl, rfl, e1, _, _, rfl, he1, rfl, ?_⟩
      refine ⟨_, rfl, rfl, rfl, e1, _, _, rfl, he1, rfl, ?_⟩
      refine ⟨_, rfl, T.C_InvalidLoom, e1, _, rfl, rfl, he1, T.E_InvalidLoom, _, .ref T.C_ReadError, true, rfl, fun u r => r, kit_own T.cl_ReadError T.ty_ReadError T.sr_InvalidLoom (fun _ => rfl), true, rfl, iteT ?_⟩
      refine ⟨_, rfl, T.C_InvalidLoom, e1, _, rfl, rfl, he1, T.E_InvalidLoom, _, .type "Exception", true, rfl, fun u r => r, kit_cls (by decide +kernel) T.sx_InvalidLoom, ?_⟩
      refine ⟨le_size (by simp), fun r hr => ⟨_, rfl, ?_⟩⟩
      have sa := s0.trans s1
      exact k _ r (sa.trans (Same.new _ hr)) (sa.free hr) upd_same
    · refine .inl ⟨sg, xs, ds, rfl, rfl, e, fun H1 Tp x1 hTp hTus hp1 => ⟨rfl, ?_⟩⟩
      have sa : Same H H1 := fun b o e => x1 _ _ (ne_of_none e hp) (s0 _ _ e)
      refine ⟨le_size (by simp), fun r hr => ⟨_, rfl, ?_⟩⟩
      have sr := Same.new (.tup [V.str "made", V.ref p]) hr
      exact k _ r p dx Tp (sa.trans sr) (sa.free hr) upd_same (sr _ _ hp1) (sr _ _ hTus)
end
end J


set_option Elab.async false
set_option linter.all false
set_option maxRecDepth 100000
set_option maxHeartbeats 4000000
namespace J
open PySem L2
inductive AllAi (K : PySem.W.Frag) (H : Hp) : List V → List (Option Tri) → Prop
  | nil : AllAi K H [] []
  | cons {x : V} {d : Option Tri} {xs : List V} {ds : List (Option Tri)} (h : Ai K H x d) (t : AllAi K H xs ds) : AllAi K H (x :: xs) (d :: ds)
theorem AllAi.len {K : PySem.W.Frag} {H : Hp} {xs : List V} {ds : List (Option Tri)} (h : AllAi K H xs ds) : ds.length = xs.length := by
  induction h with
  | nil => rfl
  | cons _ _ ih => simp [ih]
theorem AllAi.get {K : PySem.W.Frag} {H : Hp} {xs : List V} {ds : List (Option Tri)} (h : AllAi K H xs ds) : ∀ (i : Nat) (x : V), xs[i]? = some x → ∃ d, ds[i]? = some d ∧ Ai K H x d := by
  induction h with
  | nil => intro i x e; cases i <;> cases e
  | cons h _ ih =>
    intro i x e
    cases i with
    | zero => cases e; exact ⟨_, rfl, h⟩
    | succ j => exact ih j x e
theorem At.mk {K : PySem.W.Frag} {H : Hp} {a : Addr} {xs : List V} {ds : List (Option Tri)} (h : Seq H a xs) (al : AllAi K H xs ds) (hl : xs.length ≤ 1000) : At K H (.ref a) (some (xs, ds)) := .seq h al.get al.len hl
theorem kit_no {K : PySem.W.Frag} {t : Value} (h1 : PySem.W.kitOne K t (.type "list") = some false) (h2 : PySem.W.kitOne K t (.type "tuple") = some false) : PySem.W.kitAny K t [.type "list", .type "tuple"] = some false :=
  kitAny_cons (b := false) h1 (fun _ => kitAny_cons (b := false) h2 (fun _ => rfl) (fun q => nomatch q)) (fun q => nomatch q)
theorem le_one (c : Nat) : (⟨#[c]⟩ : Str).length ≤ 16 := by show 1 ≤ 16; decide
theorem le_two_y (c : Nat) : (⟨#[c]⟩ : Str).length + ("y" : Str).length ≤ sizeLine := by
  show 1 + ("y" : Str).length ≤ sizeLine
  exact le_size (by decide +kernel)
theorem le_two_s (c : Nat) : (⟨#[c]⟩ : Str).length + (" " : Str).length ≤ sizeLine := by
  show 1 + (" " : Str).length ≤ sizeLine
  exact le_size (by decide +kernel)
theorem arcB_a {sg : List Nat} {a c : V} {u : Option (List Nat)} (h : numB a = false) : arcB sg (some (a, u, c)) = false := by
  show (numB a && _) = false
  rw [h, Bool.false_and]
theorem arcB_c {sg : List Nat} {a c : V} {u : Option (List Nat)} (h : numB c = false) : arcB sg (some (a, u, c)) = false := by
  show (numB a && (_ && numB c)) = false
  rw [h, Bool.and_false, Bool.and_false]
theorem arcB_u {sg : List Nat} {a c : V} {u : Option (List Nat)} (h : wdO sg 1 12 u = false) : arcB sg (some (a, u, c)) = false := by
  show (numB a && (wdO sg 1 12 u && _)) = false
  rw [h, Bool.false_and, Bool.and_false]
theorem wdO_two {sg : List Nat} {c d : Nat} (h : d ∉ sg) : wdO sg 1 12 (some [c, d]) = false := by
  show wdB sg [c, d] 1 12 = false
  unfold wdB
  have e : ([c, d].all fun c => decide (c ∈ sg)) = false := by simp [h]
  rw [e, Bool.and_false, Bool.and_false]
theorem no_y {sg : List Nat} (h : Signs sg) : 121 ∉ sg := by revert sg; unfold Signs; decide
theorem no_s {sg : List Nat} (h : Signs sg) : 32 ∉ sg := by revert sg; unfold Signs; decide
/-- a wrong arc: no arc, and, as arcs, a thing that can be asked about -/
def Nw (H0 H H' : Hp) : Prop := ∀ b o, H0 b = none → H b = some o → H' b = some o
def WrP (K : PySem.W.Frag) (H0 H : Hp) (sg : List Nat) (x : V) : Prop := (∃ d, arcB sg d = false ∧ ∀ H', Nw H0 H H' → Ai K H' x d) ∧ ∃ e, ∀ H', Nw H0 H H' → At K H' x e
theorem AllWr.nil {K : PySem.W.Frag} {H0 H : Hp} {sg : List Nat} : ∀ v ∈ ([] : List V), WrP K H0 H sg v := fun x hx => nomatch hx
theorem AllWr.cons {K : PySem.W.Frag} {H0 H : Hp} {sg : List Nat} {x : V} {xs : List V} (h : WrP K H0 H sg x) (t : ∀ v ∈ xs, WrP K H0 H sg v) : ∀ v ∈ (x :: xs), WrP K H0 H sg v := fun y hy => by
  rcases List.mem_cons.mp hy with rfl | h'
  · exact h
  · exact t y h'
def spWrong (K : PySem.W.Frag) (ns : List Int) : Sp := fun vs H Q _ => ∃ (p l : Addr) (sg : List Nat), vs = [.ref p, .str (SX.S sg)] ∧ Signs sg ∧ StAt ns l H p ∧ ∀ (H' : Hp) (x : V), Ex p H H' → StAt ns l H' p → WrP K H H' sg x → Q x H'
section
variable {P : Program} {w : World} {K : PySem.W.Frag} {mg : Str → Option Value} {base : Heap}
theorem ok_l_wrong_arc (T : Tx K mg) (ns : List Int) : FnOk P w K mg base CX0 2 T.f_l_wrong_arc T.fd_l_wrong_arc P_l_wrong_arc (spWrong K ns) := by
  have G_l_draw : FnOk P w K mg base CX0 1 T.f_l_draw T.fd_l_draw P_l_draw (spDraw ns) := ok_l_draw T ns
  refine T.F_l_wrong_arc.ok sc_l_wrong_arc (fun vs H Q E h => ?_) (fun cdv A outer s H vs Q E hr h => ?_)
  · obtain ⟨p, l, sg, rfl, _⟩ := h
    rfl
  · obtain ⟨p, l, sg, rfl, hsg, hst, k⟩ := h
    refine ⟨_, (pss_cons (ps_set (i := 2) sc_l_wrong_arc.nd rfl (Or.inl rfl) (pe_ix ix_str (pv 1) pe_int (fun _ _ => rfl)))
        (pss_cons (ps_set (i := 3) sc_l_wrong_arc.nd rfl (Or.inl rfl) (pe_lst (pa_cons pe_non (pa_cons pe_int (pa_cons pe_str (pa_cons (pe_lst (pa_cons pe_int (pa_cons (pv 2) (pa_cons pe_int pa_nil)))) (pa_cons (pe_tup (pa_cons pe_int (pa_cons (pv 2) pa_nil))) (pa_cons (pe_tup (pa_cons pe_int (pa_cons (pv 2) (pa_cons pe_int (pa_cons pe_int pa_nil))))) (pa_cons (pe_tup (pa_cons pe_int (pa_cons (pv 2) (pa_cons pe_int pa_nil)))) (pa_cons (pe_tup (pa_cons pe_int (pa_cons (pv 2) (pa_cons pe_int pa_nil)))) (pa_cons (pe_tup (pa_cons (pe_un un_neg pe_int) (pa_cons (pv 2) (pa_cons pe_int pa_nil)))) (pa_cons (pe_tup (pa_cons pe_int (pa_cons (pv 2) (pa_cons (pe_un un_neg pe_int) pa_nil)))) pa_nil))))))))))))
        (pss_cons (ps_set (i := 3) sc_l_wrong_arc.nd rfl (Or.inl rfl) (pe_op op_cat (pv 3) (pe_lst (pa_cons (pe_tup (pa_cons pe_bl (pa_cons (pv 2) (pa_cons pe_int pa_nil)))) (pa_cons (pe_tup (pa_cons pe_int (pa_cons (pv 2) (pa_cons pe_bl pa_nil)))) (pa_cons (pe_tup (pa_cons pe_int (pa_cons pe_str (pa_cons pe_int pa_nil)))) (pa_cons (pe_tup (pa_cons pe_int (pa_cons (pe_op op_mul_str (pv 2) pe_int) (pa_cons pe_int pa_nil)))) (pa_cons (pe_tup (pa_cons pe_int (pa_cons (pe_op op_add_str (pv 2) pe_str) (pa_cons pe_int pa_nil)))) (pa_cons (pe_tup (pa_cons pe_int (pa_cons pe_non (pa_cons pe_int pa_nil)))) (pa_cons (pe_tup (pa_cons pe_int (pa_cons (pe_lst (pa_cons (pv 2) pa_nil)) (pa_cons pe_int pa_nil)))) pa_nil))))))))))
        (pss_cons (ps_set (i := 3) sc_l_wrong_arc.nd rfl (Or.inl rfl) (pe_op op_cat (pv 3) (pe_lst (pa_cons (pe_tup (pa_cons pe_str (pa_cons (pv 2) (pa_cons pe_int pa_nil)))) (pa_cons (pe_tup (pa_cons pe_int (pa_cons (pv 2) (pa_cons pe_non pa_nil)))) (pa_cons (pe_tup (pa_cons pe_int (pa_cons pe_int (pa_cons pe_int pa_nil)))) (pa_cons (pe_tup (pa_cons (pe_tup (pa_cons pe_int pa_nil)) (pa_cons (pv 2) (pa_cons pe_int pa_nil)))) (pa_cons pe_dnewK (pa_cons (pe_tup pa_nil) (pa_cons (pe_tup (pa_cons pe_int (pa_cons (pe_op op_add_str (pv 2) pe_str) (pa_cons pe_int pa_nil)))) (pa_cons (pe_tup (pa_cons pe_int (pa_cons (pv 2) (pa_cons (pe_lst (pa_cons pe_int pa_nil)) pa_nil)))) (pa_cons pe_bl pa_nil))))))))))))
        (pss_one (ps_ret (pe_ix (ix_listK (K := K) rfl) (pv 3) (pe_call G_l_draw (hr.mono (by decide)) rfl T.m_l_draw T.F_l_draw.kp T.b_l_draw .nil pass0 (pa_cons (pv 0) (pa_cons (pe_callB (call_len_seqK (K := K) rfl) rfl T.n_len (by decide +kernel) (pa_cons (pv 3) pa_nil)) pa_nil))) (fun _ _ => rfl)))))))), ?_⟩
    have hlen := hsg.len
    obtain ⟨c0, hc0⟩ : ∃ c0, sg[0]? = some c0 := ⟨sg[0], List.getElem?_eq_getElem (by omega)⟩
    refine ⟨_, rfl, _, _, c0, rfl, rfl, le_size (by rw [SX.S_len]; omega), (by show atI sg 0 = some c0; exact atI_nat hc0), ?_⟩
    have sm0 : Same H H := fun _ _ e => e
    refine ⟨_, rfl, le_size (by simp), fun a1 h1 => ?_⟩
    have p1 := sm0.free h1
    have s1 : Same H (upd H a1 (HO.lst [V.int (0), V.str ⟨#[c0]⟩, V.int (0)])) := Same.new _ h1
    have g1 : upd H a1 (HO.lst [V.int (0), V.str ⟨#[c0]⟩, V.int (0)]) a1 = some (HO.lst [V.int (0), V.str ⟨#[c0]⟩, V.int (0)]) := upd_same
    generalize upd H a1 (HO.lst [V.int (0), V.str ⟨#[c0]⟩, V.int (0)]) = H1 at *
    have sm1 : Same H H1 := sm0.trans s1
    refine ⟨_, rfl, le_size (by simp), fun a2 h2 => ?_⟩
    have p2 := sm1.free h2
    have s2 : Same H1 (upd H1 a2 (HO.tup [V.int (0), V.str ⟨#[c0]⟩])) := Same.new _ h2
    have g2 : upd H1 a2 (HO.tup [V.int (0), V.str ⟨#[c0]⟩]) a2 = some (HO.tup [V.int (0), V.str ⟨#[c0]⟩]) := upd_same
    generalize upd H1 a2 (HO.tup [V.int (0), V.str ⟨#[c0]⟩]) = H2 at *
    replace g1 := s2 _ _ g1
    have sm2 : Same H H2 := sm1.trans s2
    refine ⟨_, rfl, le_size (by simp), fun a3 h3 => ?_⟩
    have p3 := sm2.free h3
    have s3 : Same H2 (upd H2 a3 (HO.tup [V.int (0), V.str ⟨#[c0]⟩, V.int (0), V.int (0)])) := Same.new _ h3
    have g3 : upd H2 a3 (HO.tup [V.int (0), V.str ⟨#[c0]⟩, V.int (0), V.int (0)]) a3 = some (HO.tup [V.int (0), V.str ⟨#[c0]⟩, V.int (0), V.int (0)]) := upd_same
    generalize upd H2 a3 (HO.tup [V.int (0), V.str ⟨#[c0]⟩, V.int (0), V.int (0)]) = H3 at *
    replace g1 := s3 _ _ g1
    replace g2 := s3 _ _ g2
    have sm3 : Same H H3 := sm2.trans s3
    refine ⟨_, rfl, le_size (by simp), fun a4 h4 => ?_⟩
    have p4 := sm3.free h4
    have s4 : Same H3 (upd H3 a4 (HO.tup [V.int (64), V.str ⟨#[c0]⟩, V.int (0)])) := Same.new _ h4
    have g4 : upd H3 a4 (HO.tup [V.int (64), V.str ⟨#[c0]⟩, V.int (0)]) a4 = some (HO.tup [V.int (64), V.str ⟨#[c0]⟩, V.int (0)]) := upd_same
    generalize upd H3 a4 (HO.tup [V.int (64), V.str ⟨#[c0]⟩, V.int (0)]) = H4 at *
    replace g1 := s4 _ _ g1
    replace g2 := s4 _ _ g2
    replace g3 := s4 _ _ g3
    have sm4 : Same H H4 := sm3.trans s4
    refine ⟨_, rfl, le_size (by simp), fun a5 h5 => ?_⟩
    have p5 := sm4.free h5
    have s5 : Same H4 (upd H4 a5 (HO.tup [V.int (0), V.str ⟨#[c0]⟩, V.int (64)])) := Same.new _ h5
    have g5 : upd H4 a5 (HO.tup [V.int (0), V.str ⟨#[c0]⟩, V.int (64)]) a5 = some (HO.tup [V.int (0), V.str ⟨#[c0]⟩, V.int (64)]) := upd_same
    generalize upd H4 a5 (HO.tup [V.int (0), V.str ⟨#[c0]⟩, V.int (64)]) = H5 at *
    replace g1 := s5 _ _ g1
    replace g2 := s5 _ _ g2
    replace g3 := s5 _ _ g3
    replace g4 := s5 _ _ g4
    have sm5 : Same H H5 := sm4.trans s5
    refine ⟨_, rfl, _, rfl, le_size (by simp), fun a6 h6 => ?_⟩
    have p6 := sm5.free h6
    have s6 : Same H5 (upd H5 a6 (HO.tup [V.int (-1), V.str ⟨#[c0]⟩, V.int (0)])) := Same.new _ h6
    have g6 : upd H5 a6 (HO.tup [V.int (-1), V.str ⟨#[c0]⟩, V.int (0)]) a6 = some (HO.tup [V.int (-1), V.str ⟨#[c0]⟩, V.int (0)]) := upd_same
    generalize upd H5 a6 (HO.tup [V.int (-1), V.str ⟨#[c0]⟩, V.int (0)]) = H6 at *
    replace g1 := s6 _ _ g1
    replace g2 := s6 _ _ g2
    replace g3 := s6 _ _ g3
    replace g4 := s6 _ _ g4
    replace g5 := s6 _ _ g5
    have sm6 : Same H H6 := sm5.trans s6
    refine ⟨_, rfl, _, rfl, le_size (by simp), fun a7 h7 => ?_⟩
    have p7 := sm6.free h7
    have s7 : Same H6 (upd H6 a7 (HO.tup [V.int (0), V.str ⟨#[c0]⟩, V.int (-1)])) := Same.new _ h7
    have g7 : upd H6 a7 (HO.tup [V.int (0), V.str ⟨#[c0]⟩, V.int (-1)]) a7 = some (HO.tup [V.int (0), V.str ⟨#[c0]⟩, V.int (-1)]) := upd_same
    generalize upd H6 a7 (HO.tup [V.int (0), V.str ⟨#[c0]⟩, V.int (-1)]) = H7 at *
    replace g1 := s7 _ _ g1
    replace g2 := s7 _ _ g2
    replace g3 := s7 _ _ g3
    replace g4 := s7 _ _ g4
    replace g5 := s7 _ _ g5
    replace g6 := s7 _ _ g6
    have sm7 : Same H H7 := sm6.trans s7
    refine ⟨le_size (by simp), fun a8 h8 => ?_⟩
    have p8 := sm7.free h8
    have s8 : Same H7 (upd H7 a8 (HO.lst [V.non, V.int (5), V.str "abc", V.ref a1, V.ref a2, V.ref a3, V.ref a4, V.ref a5, V.ref a6, V.ref a7])) := Same.new _ h8
    have g8 : upd H7 a8 (HO.lst [V.non, V.int (5), V.str "abc", V.ref a1, V.ref a2, V.ref a3, V.ref a4, V.ref a5, V.ref a6, V.ref a7]) a8 = some (HO.lst [V.non, V.int (5), V.str "abc", V.ref a1, V.ref a2, V.ref a3, V.ref a4, V.ref a5, V.ref a6, V.ref a7]) := upd_same
    generalize upd H7 a8 (HO.lst [V.non, V.int (5), V.str "abc", V.ref a1, V.ref a2, V.ref a3, V.ref a4, V.ref a5, V.ref a6, V.ref a7]) = H8 at *
    replace g1 := s8 _ _ g1
    replace g2 := s8 _ _ g2
    replace g3 := s8 _ _ g3
    replace g4 := s8 _ _ g4
    replace g5 := s8 _ _ g5
    replace g6 := s8 _ _ g6
    replace g7 := s8 _ _ g7
    have sm8 : Same H H8 := sm7.trans s8
    refine ⟨_, rfl, ?_⟩
    refine ⟨_, rfl, le_size (by simp), fun a9 h9 => ?_⟩
    have p9 := sm8.free h9
    have s9 : Same H8 (upd H8 a9 (HO.tup [V.bl true, V.str ⟨#[c0]⟩, V.int (0)])) := Same.new _ h9
    have g9 : upd H8 a9 (HO.tup [V.bl true, V.str ⟨#[c0]⟩, V.int (0)]) a9 = some (HO.tup [V.bl true, V.str ⟨#[c0]⟩, V.int (0)]) := upd_same
    generalize upd H8 a9 (HO.tup [V.bl true, V.str ⟨#[c0]⟩, V.int (0)]) = H9 at *
    replace g1 := s9 _ _ g1
    replace g2 := s9 _ _ g2
    replace g3 := s9 _ _ g3
    replace g4 := s9 _ _ g4
    replace g5 := s9 _ _ g5
    replace g6 := s9 _ _ g6
    replace g7 := s9 _ _ g7
    replace g8 := s9 _ _ g8
    have sm9 : Same H H9 := sm8.trans s9
    refine ⟨_, rfl, le_size (by simp), fun a10 h10 => ?_⟩
    have p10 := sm9.free h10
    have s10 : Same H9 (upd H9 a10 (HO.tup [V.int (0), V.str ⟨#[c0]⟩, V.bl false])) := Same.new _ h10
    have g10 : upd H9 a10 (HO.tup [V.int (0), V.str ⟨#[c0]⟩, V.bl false]) a10 = some (HO.tup [V.int (0), V.str ⟨#[c0]⟩, V.bl false]) := upd_same
    generalize upd H9 a10 (HO.tup [V.int (0), V.str ⟨#[c0]⟩, V.bl false]) = H10 at *
    replace g1 := s10 _ _ g1
    replace g2 := s10 _ _ g2
    replace g3 := s10 _ _ g3
    replace g4 := s10 _ _ g4
    replace g5 := s10 _ _ g5
    replace g6 := s10 _ _ g6
    replace g7 := s10 _ _ g7
    replace g8 := s10 _ _ g8
    replace g9 := s10 _ _ g9
    have sm10 : Same H H10 := sm9.trans s10
    refine ⟨le_size (by simp), fun a11 h11 => ?_⟩
    have p11 := sm10.free h11
    have s11 : Same H10 (upd H10 a11 (HO.tup [V.int (0), V.str "", V.int (0)])) := Same.new _ h11
    have g11 : upd H10 a11 (HO.tup [V.int (0), V.str "", V.int (0)]) a11 = some (HO.tup [V.int (0), V.str "", V.int (0)]) := upd_same
    generalize upd H10 a11 (HO.tup [V.int (0), V.str "", V.int (0)]) = H11 at *
    replace g1 := s11 _ _ g1
    replace g2 := s11 _ _ g2
    replace g3 := s11 _ _ g3
    replace g4 := s11 _ _ g4
    replace g5 := s11 _ _ g5
    replace g6 := s11 _ _ g6
    replace g7 := s11 _ _ g7
    replace g8 := s11 _ _ g8
    replace g9 := s11 _ _ g9
    replace g10 := s11 _ _ g10
    have sm11 : Same H H11 := sm10.trans s11
    refine ⟨_, rfl, _, _, rfl, rfl, le_one c0, by decide, by decide, le_size (by simp), fun a12 h12 => ?_⟩
    have p12 := sm11.free h12
    have s12 : Same H11 (upd H11 a12 (HO.tup [V.int (0), V.str (Txt.mul ⟨#[c0]⟩ 13), V.int (0)])) := Same.new _ h12
    have g12 : upd H11 a12 (HO.tup [V.int (0), V.str (Txt.mul ⟨#[c0]⟩ 13), V.int (0)]) a12 = some (HO.tup [V.int (0), V.str (Txt.mul ⟨#[c0]⟩ 13), V.int (0)]) := upd_same
    generalize upd H11 a12 (HO.tup [V.int (0), V.str (Txt.mul ⟨#[c0]⟩ 13), V.int (0)]) = H12 at *
    replace g1 := s12 _ _ g1
    replace g2 := s12 _ _ g2
    replace g3 := s12 _ _ g3
    replace g4 := s12 _ _ g4
    replace g5 := s12 _ _ g5
    replace g6 := s12 _ _ g6
    replace g7 := s12 _ _ g7
    replace g8 := s12 _ _ g8
    replace g9 := s12 _ _ g9
    replace g10 := s12 _ _ g10
    replace g11 := s12 _ _ g11
    have sm12 : Same H H12 := sm11.trans s12
    refine ⟨_, rfl, _, _, rfl, rfl, le_two_y c0, le_size (by simp), fun a13 h13 => ?_⟩
    have p13 := sm12.free h13
    have s13 : Same H12 (upd H12 a13 (HO.tup [V.int (0), V.str ((⟨#[c0]⟩ : Str) ++ ("y" : Str)), V.int (0)])) := Same.new _ h13
    have g13 : upd H12 a13 (HO.tup [V.int (0), V.str ((⟨#[c0]⟩ : Str) ++ ("y" : Str)), V.int (0)]) a13 = some (HO.tup [V.int (0), V.str ((⟨#[c0]⟩ : Str) ++ ("y" : Str)), V.int (0)]) := upd_same
    generalize upd H12 a13 (HO.tup [V.int (0), V.str ((⟨#[c0]⟩ : Str) ++ ("y" : Str)), V.int (0)]) = H13 at *
    replace g1 := s13 _ _ g1
    replace g2 := s13 _ _ g2
    replace g3 := s13 _ _ g3
    replace g4 := s13 _ _ g4
    replace g5 := s13 _ _ g5
    replace g6 := s13 _ _ g6
    replace g7 := s13 _ _ g7
    replace g8 := s13 _ _ g8
    replace g9 := s13 _ _ g9
    replace g10 := s13 _ _ g10
    replace g11 := s13 _ _ g11
    replace g12 := s13 _ _ g12
    have sm13 : Same H H13 := sm12.trans s13
    refine ⟨le_size (by simp), fun a14 h14 => ?_⟩
    have p14 := sm13.free h14
    have s14 : Same H13 (upd H13 a14 (HO.tup [V.int (0), V.non, V.int (0)])) := Same.new _ h14
    have g14 : upd H13 a14 (HO.tup [V.int (0), V.non, V.int (0)]) a14 = some (HO.tup [V.int (0), V.non, V.int (0)]) := upd_same
    generalize upd H13 a14 (HO.tup [V.int (0), V.non, V.int (0)]) = H14 at *
    replace g1 := s14 _ _ g1
    replace g2 := s14 _ _ g2
    replace g3 := s14 _ _ g3
    replace g4 := s14 _ _ g4
    replace g5 := s14 _ _ g5
    replace g6 := s14 _ _ g6
    replace g7 := s14 _ _ g7
    replace g8 := s14 _ _ g8
    replace g9 := s14 _ _ g9
    replace g10 := s14 _ _ g10
    replace g11 := s14 _ _ g11
    replace g12 := s14 _ _ g12
    replace g13 := s14 _ _ g13
    have sm14 : Same H H14 := sm13.trans s14
    refine ⟨_, rfl, le_size (by simp), fun a15 h15 => ?_⟩
    have p15 := sm14.free h15
    have s15 : Same H14 (upd H14 a15 (HO.lst [V.str ⟨#[c0]⟩])) := Same.new _ h15
    have g15 : upd H14 a15 (HO.lst [V.str ⟨#[c0]⟩]) a15 = some (HO.lst [V.str ⟨#[c0]⟩]) := upd_same
    generalize upd H14 a15 (HO.lst [V.str ⟨#[c0]⟩]) = H15 at *
    replace g1 := s15 _ _ g1
    replace g2 := s15 _ _ g2
    replace g3 := s15 _ _ g3
    replace g4 := s15 _ _ g4
    replace g5 := s15 _ _ g5
    replace g6 := s15 _ _ g6
    replace g7 := s15 _ _ g7
    replace g8 := s15 _ _ g8
    replace g9 := s15 _ _ g9
    replace g10 := s15 _ _ g10
    replace g11 := s15 _ _ g11
    replace g12 := s15 _ _ g12
    replace g13 := s15 _ _ g13
    replace g14 := s15 _ _ g14
    have sm15 : Same H H15 := sm14.trans s15
    refine ⟨le_size (by simp), fun a16 h16 => ?_⟩
    have p16 := sm15.free h16
    have s16 : Same H15 (upd H15 a16 (HO.tup [V.int (0), V.ref a15, V.int (0)])) := Same.new _ h16
    have g16 : upd H15 a16 (HO.tup [V.int (0), V.ref a15, V.int (0)]) a16 = some (HO.tup [V.int (0), V.ref a15, V.int (0)]) := upd_same
    generalize upd H15 a16 (HO.tup [V.int (0), V.ref a15, V.int (0)]) = H16 at *
    replace g1 := s16 _ _ g1
    replace g2 := s16 _ _ g2
    replace g3 := s16 _ _ g3
    replace g4 := s16 _ _ g4
    replace g5 := s16 _ _ g5
    replace g6 := s16 _ _ g6
    replace g7 := s16 _ _ g7
    replace g8 := s16 _ _ g8
    replace g9 := s16 _ _ g9
    replace g10 := s16 _ _ g10
    replace g11 := s16 _ _ g11
    replace g12 := s16 _ _ g12
    replace g13 := s16 _ _ g13
    replace g14 := s16 _ _ g14
    replace g15 := s16 _ _ g15
    have sm16 : Same H H16 := sm15.trans s16
    refine ⟨le_size (by simp), fun a17 h17 => ?_⟩
    have p17 := sm16.free h17
    have s17 : Same H16 (upd H16 a17 (HO.lst [V.ref a9, V.ref a10, V.ref a11, V.ref a12, V.ref a13, V.ref a14, V.ref a16])) := Same.new _ h17
    have g17 : upd H16 a17 (HO.lst [V.ref a9, V.ref a10, V.ref a11, V.ref a12, V.ref a13, V.ref a14, V.ref a16]) a17 = some (HO.lst [V.ref a9, V.ref a10, V.ref a11, V.ref a12, V.ref a13, V.ref a14, V.ref a16]) := upd_same
    generalize upd H16 a17 (HO.lst [V.ref a9, V.ref a10, V.ref a11, V.ref a12, V.ref a13, V.ref a14, V.ref a16]) = H17 at *
    replace g1 := s17 _ _ g1
    replace g2 := s17 _ _ g2
    replace g3 := s17 _ _ g3
    replace g4 := s17 _ _ g4
    replace g5 := s17 _ _ g5
    replace g6 := s17 _ _ g6
    replace g7 := s17 _ _ g7
    replace g8 := s17 _ _ g8
    replace g9 := s17 _ _ g9
    replace g10 := s17 _ _ g10
    replace g11 := s17 _ _ g11
    replace g12 := s17 _ _ g12
    replace g13 := s17 _ _ g13
    replace g14 := s17 _ _ g14
    replace g15 := s17 _ _ g15
    replace g16 := s17 _ _ g16
    have sm17 : Same H H17 := sm16.trans s17
    refine ⟨_, _, _, _, rfl, rfl, g8, g17, le_size (by simp), fun a18 h18 => ?_⟩
    have p18 := sm17.free h18
    have s18 : Same H17 (upd H17 a18 (HO.lst ([V.non, V.int (5), V.str "abc", V.ref a1, V.ref a2, V.ref a3, V.ref a4, V.ref a5, V.ref a6, V.ref a7] ++ [V.ref a9, V.ref a10, V.ref a11, V.ref a12, V.ref a13, V.ref a14, V.ref a16]))) := Same.new _ h18
    have g18 : upd H17 a18 (HO.lst ([V.non, V.int (5), V.str "abc", V.ref a1, V.ref a2, V.ref a3, V.ref a4, V.ref a5, V.ref a6, V.ref a7] ++ [V.ref a9, V.ref a10, V.ref a11, V.ref a12, V.ref a13, V.ref a14, V.ref a16])) a18 = some (HO.lst ([V.non, V.int (5), V.str "abc", V.ref a1, V.ref a2, V.ref a3, V.ref a4, V.ref a5, V.ref a6, V.ref a7] ++ [V.ref a9, V.ref a10, V.ref a11, V.ref a12, V.ref a13, V.ref a14, V.ref a16])) := upd_same
    generalize upd H17 a18 (HO.lst ([V.non, V.int (5), V.str "abc", V.ref a1, V.ref a2, V.ref a3, V.ref a4, V.ref a5, V.ref a6, V.ref a7] ++ [V.ref a9, V.ref a10, V.ref a11, V.ref a12, V.ref a13, V.ref a14, V.ref a16])) = H18 at *
    replace g1 := s18 _ _ g1
    replace g2 := s18 _ _ g2
    replace g3 := s18 _ _ g3
    replace g4 := s18 _ _ g4
    replace g5 := s18 _ _ g5
    replace g6 := s18 _ _ g6
    replace g7 := s18 _ _ g7
    replace g8 := s18 _ _ g8
    replace g9 := s18 _ _ g9
    replace g10 := s18 _ _ g10
    replace g11 := s18 _ _ g11
    replace g12 := s18 _ _ g12
    replace g13 := s18 _ _ g13
    replace g14 := s18 _ _ g14
    replace g15 := s18 _ _ g15
    replace g16 := s18 _ _ g16
    replace g17 := s18 _ _ g17
    have sm18 : Same H H18 := sm17.trans s18
    refine ⟨_, rfl, ?_⟩
    refine ⟨_, rfl, le_size (by simp), fun a19 h19 => ?_⟩
    have p19 := sm18.free h19
    have s19 : Same H18 (upd H18 a19 (HO.tup [V.str "0", V.str ⟨#[c0]⟩, V.int (0)])) := Same.new _ h19
    have g19 : upd H18 a19 (HO.tup [V.str "0", V.str ⟨#[c0]⟩, V.int (0)]) a19 = some (HO.tup [V.str "0", V.str ⟨#[c0]⟩, V.int (0)]) := upd_same
    generalize upd H18 a19 (HO.tup [V.str "0", V.str ⟨#[c0]⟩, V.int (0)]) = H19 at *
    replace g1 := s19 _ _ g1
    replace g2 := s19 _ _ g2
    replace g3 := s19 _ _ g3
    replace g4 := s19 _ _ g4
    replace g5 := s19 _ _ g5
    replace g6 := s19 _ _ g6
    replace g7 := s19 _ _ g7
    replace g8 := s19 _ _ g8
    replace g9 := s19 _ _ g9
    replace g10 := s19 _ _ g10
    replace g11 := s19 _ _ g11
    replace g12 := s19 _ _ g12
    replace g13 := s19 _ _ g13
    replace g14 := s19 _ _ g14
    replace g15 := s19 _ _ g15
    replace g16 := s19 _ _ g16
    replace g17 := s19 _ _ g17
    replace g18 := s19 _ _ g18
    have sm19 : Same H H19 := sm18.trans s19
    refine ⟨_, rfl, le_size (by simp), fun a20 h20 => ?_⟩
    have p20 := sm19.free h20
    have s20 : Same H19 (upd H19 a20 (HO.tup [V.int (0), V.str ⟨#[c0]⟩, V.non])) := Same.new _ h20
    have g20 : upd H19 a20 (HO.tup [V.int (0), V.str ⟨#[c0]⟩, V.non]) a20 = some (HO.tup [V.int (0), V.str ⟨#[c0]⟩, V.non]) := upd_same
    generalize upd H19 a20 (HO.tup [V.int (0), V.str ⟨#[c0]⟩, V.non]) = H20 at *
    replace g1 := s20 _ _ g1
    replace g2 := s20 _ _ g2
    replace g3 := s20 _ _ g3
    replace g4 := s20 _ _ g4
    replace g5 := s20 _ _ g5
    replace g6 := s20 _ _ g6
    replace g7 := s20 _ _ g7
    replace g8 := s20 _ _ g8
    replace g9 := s20 _ _ g9
    replace g10 := s20 _ _ g10
    replace g11 := s20 _ _ g11
    replace g12 := s20 _ _ g12
    replace g13 := s20 _ _ g13
    replace g14 := s20 _ _ g14
    replace g15 := s20 _ _ g15
    replace g16 := s20 _ _ g16
    replace g17 := s20 _ _ g17
    replace g18 := s20 _ _ g18
    replace g19 := s20 _ _ g19
    have sm20 : Same H H20 := sm19.trans s20
    refine ⟨le_size (by simp), fun a21 h21 => ?_⟩
    have p21 := sm20.free h21
    have s21 : Same H20 (upd H20 a21 (HO.tup [V.int (0), V.int (1), V.int (0)])) := Same.new _ h21
    have g21 : upd H20 a21 (HO.tup [V.int (0), V.int (1), V.int (0)]) a21 = some (HO.tup [V.int (0), V.int (1), V.int (0)]) := upd_same
    generalize upd H20 a21 (HO.tup [V.int (0), V.int (1), V.int (0)]) = H21 at *
    replace g1 := s21 _ _ g1
    replace g2 := s21 _ _ g2
    replace g3 := s21 _ _ g3
    replace g4 := s21 _ _ g4
    replace g5 := s21 _ _ g5
    replace g6 := s21 _ _ g6
    replace g7 := s21 _ _ g7
    replace g8 := s21 _ _ g8
    replace g9 := s21 _ _ g9
    replace g10 := s21 _ _ g10
    replace g11 := s21 _ _ g11
    replace g12 := s21 _ _ g12
    replace g13 := s21 _ _ g13
    replace g14 := s21 _ _ g14
    replace g15 := s21 _ _ g15
    replace g16 := s21 _ _ g16
    replace g17 := s21 _ _ g17
    replace g18 := s21 _ _ g18
    replace g19 := s21 _ _ g19
    replace g20 := s21 _ _ g20
    have sm21 : Same H H21 := sm20.trans s21
    refine ⟨le_size (by simp), fun a22 h22 => ?_⟩
    have p22 := sm21.free h22
    have s22 : Same H21 (upd H21 a22 (HO.tup [V.int (0)])) := Same.new _ h22
    have g22 : upd H21 a22 (HO.tup [V.int (0)]) a22 = some (HO.tup [V.int (0)]) := upd_same
    generalize upd H21 a22 (HO.tup [V.int (0)]) = H22 at *
    replace g1 := s22 _ _ g1
    replace g2 := s22 _ _ g2
    replace g3 := s22 _ _ g3
    replace g4 := s22 _ _ g4
    replace g5 := s22 _ _ g5
    replace g6 := s22 _ _ g6
    replace g7 := s22 _ _ g7
    replace g8 := s22 _ _ g8
    replace g9 := s22 _ _ g9
    replace g10 := s22 _ _ g10
    replace g11 := s22 _ _ g11
    replace g12 := s22 _ _ g12
    replace g13 := s22 _ _ g13
    replace g14 := s22 _ _ g14
    replace g15 := s22 _ _ g15
    replace g16 := s22 _ _ g16
    replace g17 := s22 _ _ g17
    replace g18 := s22 _ _ g18
    replace g19 := s22 _ _ g19
    replace g20 := s22 _ _ g20
    replace g21 := s22 _ _ g21
    have sm22 : Same H H22 := sm21.trans s22
    refine ⟨_, rfl, le_size (by simp), fun a23 h23 => ?_⟩
    have p23 := sm22.free h23
    have s23 : Same H22 (upd H22 a23 (HO.tup [V.ref a22, V.str ⟨#[c0]⟩, V.int (0)])) := Same.new _ h23
    have g23 : upd H22 a23 (HO.tup [V.ref a22, V.str ⟨#[c0]⟩, V.int (0)]) a23 = some (HO.tup [V.ref a22, V.str ⟨#[c0]⟩, V.int (0)]) := upd_same
    generalize upd H22 a23 (HO.tup [V.ref a22, V.str ⟨#[c0]⟩, V.int (0)]) = H23 at *
    replace g1 := s23 _ _ g1
    replace g2 := s23 _ _ g2
    replace g3 := s23 _ _ g3
    replace g4 := s23 _ _ g4
    replace g5 := s23 _ _ g5
    replace g6 := s23 _ _ g6
    replace g7 := s23 _ _ g7
    replace g8 := s23 _ _ g8
    replace g9 := s23 _ _ g9
    replace g10 := s23 _ _ g10
    replace g11 := s23 _ _ g11
    replace g12 := s23 _ _ g12
    replace g13 := s23 _ _ g13
    replace g14 := s23 _ _ g14
    replace g15 := s23 _ _ g15
    replace g16 := s23 _ _ g16
    replace g17 := s23 _ _ g17
    replace g18 := s23 _ _ g18
    replace g19 := s23 _ _ g19
    replace g20 := s23 _ _ g20
    replace g21 := s23 _ _ g21
    replace g22 := s23 _ _ g22
    have sm23 : Same H H23 := sm22.trans s23
    intro a24 h24
    have p24 := sm23.free h24
    have s24 : Same H23 (upd H23 a24 (HO.dK [])) := Same.new _ h24
    have g24 : upd H23 a24 (HO.dK []) a24 = some (HO.dK []) := upd_same
    generalize upd H23 a24 (HO.dK []) = H24 at *
    replace g1 := s24 _ _ g1
    replace g2 := s24 _ _ g2
    replace g3 := s24 _ _ g3
    replace g4 := s24 _ _ g4
    replace g5 := s24 _ _ g5
    replace g6 := s24 _ _ g6
    replace g7 := s24 _ _ g7
    replace g8 := s24 _ _ g8
    replace g9 := s24 _ _ g9
    replace g10 := s24 _ _ g10
    replace g11 := s24 _ _ g11
    replace g12 := s24 _ _ g12
    replace g13 := s24 _ _ g13
    replace g14 := s24 _ _ g14
    replace g15 := s24 _ _ g15
    replace g16 := s24 _ _ g16
    replace g17 := s24 _ _ g17
    replace g18 := s24 _ _ g18
    replace g19 := s24 _ _ g19
    replace g20 := s24 _ _ g20
    replace g21 := s24 _ _ g21
    replace g22 := s24 _ _ g22
    replace g23 := s24 _ _ g23
    have sm24 : Same H H24 := sm23.trans s24
    refine ⟨le_size (by simp), fun a25 h25 => ?_⟩
    have p25 := sm24.free h25
    have s25 : Same H24 (upd H24 a25 (HO.tup [])) := Same.new _ h25
    have g25 : upd H24 a25 (HO.tup []) a25 = some (HO.tup []) := upd_same
    generalize upd H24 a25 (HO.tup []) = H25 at *
    replace g1 := s25 _ _ g1
    replace g2 := s25 _ _ g2
    replace g3 := s25 _ _ g3
    replace g4 := s25 _ _ g4
    replace g5 := s25 _ _ g5
    replace g6 := s25 _ _ g6
    replace g7 := s25 _ _ g7
    replace g8 := s25 _ _ g8
    replace g9 := s25 _ _ g9
    replace g10 := s25 _ _ g10
    replace g11 := s25 _ _ g11
    replace g12 := s25 _ _ g12
    replace g13 := s25 _ _ g13
    replace g14 := s25 _ _ g14
    replace g15 := s25 _ _ g15
    replace g16 := s25 _ _ g16
    replace g17 := s25 _ _ g17
    replace g18 := s25 _ _ g18
    replace g19 := s25 _ _ g19
    replace g20 := s25 _ _ g20
    replace g21 := s25 _ _ g21
    replace g22 := s25 _ _ g22
    replace g23 := s25 _ _ g23
    replace g24 := s25 _ _ g24
    have sm25 : Same H H25 := sm24.trans s25
    refine ⟨_, rfl, _, _, rfl, rfl, le_two_s c0, le_size (by simp), fun a26 h26 => ?_⟩
    have p26 := sm25.free h26
    have s26 : Same H25 (upd H25 a26 (HO.tup [V.int (0), V.str ((⟨#[c0]⟩ : Str) ++ (" " : Str)), V.int (0)])) := Same.new _ h26
    have g26 : upd H25 a26 (HO.tup [V.int (0), V.str ((⟨#[c0]⟩ : Str) ++ (" " : Str)), V.int (0)]) a26 = some (HO.tup [V.int (0), V.str ((⟨#[c0]⟩ : Str) ++ (" " : Str)), V.int (0)]) := upd_same
    generalize upd H25 a26 (HO.tup [V.int (0), V.str ((⟨#[c0]⟩ : Str) ++ (" " : Str)), V.int (0)]) = H26 at *
    replace g1 := s26 _ _ g1
    replace g2 := s26 _ _ g2
    replace g3 := s26 _ _ g3
    replace g4 := s26 _ _ g4
    replace g5 := s26 _ _ g5
    replace g6 := s26 _ _ g6
    replace g7 := s26 _ _ g7
    replace g8 := s26 _ _ g8
    replace g9 := s26 _ _ g9
    replace g10 := s26 _ _ g10
    replace g11 := s26 _ _ g11
    replace g12 := s26 _ _ g12
    replace g13 := s26 _ _ g13
    replace g14 := s26 _ _ g14
    replace g15 := s26 _ _ g15
    replace g16 := s26 _ _ g16
    replace g17 := s26 _ _ g17
    replace g18 := s26 _ _ g18
    replace g19 := s26 _ _ g19
    replace g20 := s26 _ _ g20
    replace g21 := s26 _ _ g21
    replace g22 := s26 _ _ g22
    replace g23 := s26 _ _ g23
    replace g24 := s26 _ _ g24
    replace g25 := s26 _ _ g25
    have sm26 : Same H H26 := sm25.trans s26
    refine ⟨_, rfl, le_size (by simp), fun a27 h27 => ?_⟩
    have p27 := sm26.free h27
    have s27 : Same H26 (upd H26 a27 (HO.lst [V.int (0)])) := Same.new _ h27
    have g27 : upd H26 a27 (HO.lst [V.int (0)]) a27 = some (HO.lst [V.int (0)]) := upd_same
    generalize upd H26 a27 (HO.lst [V.int (0)]) = H27 at *
    replace g1 := s27 _ _ g1
    replace g2 := s27 _ _ g2
    replace g3 := s27 _ _ g3
    replace g4 := s27 _ _ g4
    replace g5 := s27 _ _ g5
    replace g6 := s27 _ _ g6
    replace g7 := s27 _ _ g7
    replace g8 := s27 _ _ g8
    replace g9 := s27 _ _ g9
    replace g10 := s27 _ _ g10
    replace g11 := s27 _ _ g11
    replace g12 := s27 _ _ g12
    replace g13 := s27 _ _ g13
    replace g14 := s27 _ _ g14
    replace g15 := s27 _ _ g15
    replace g16 := s27 _ _ g16
    replace g17 := s27 _ _ g17
    replace g18 := s27 _ _ g18
    replace g19 := s27 _ _ g19
    replace g20 := s27 _ _ g20
    replace g21 := s27 _ _ g21
    replace g22 := s27 _ _ g22
    replace g23 := s27 _ _ g23
    replace g24 := s27 _ _ g24
    replace g25 := s27 _ _ g25
    replace g26 := s27 _ _ g26
    have sm27 : Same H H27 := sm26.trans s27
    refine ⟨le_size (by simp), fun a28 h28 => ?_⟩
    have p28 := sm27.free h28
    have s28 : Same H27 (upd H27 a28 (HO.tup [V.int (0), V.str ⟨#[c0]⟩, V.ref a27])) := Same.new _ h28
    have g28 : upd H27 a28 (HO.tup [V.int (0), V.str ⟨#[c0]⟩, V.ref a27]) a28 = some (HO.tup [V.int (0), V.str ⟨#[c0]⟩, V.ref a27]) := upd_same
    generalize upd H27 a28 (HO.tup [V.int (0), V.str ⟨#[c0]⟩, V.ref a27]) = H28 at *
    replace g1 := s28 _ _ g1
    replace g2 := s28 _ _ g2
    replace g3 := s28 _ _ g3
    replace g4 := s28 _ _ g4
    replace g5 := s28 _ _ g5
    replace g6 := s28 _ _ g6
    replace g7 := s28 _ _ g7
    replace g8 := s28 _ _ g8
    replace g9 := s28 _ _ g9
    replace g10 := s28 _ _ g10
    replace g11 := s28 _ _ g11
    replace g12 := s28 _ _ g12
    replace g13 := s28 _ _ g13
    replace g14 := s28 _ _ g14
    replace g15 := s28 _ _ g15
    replace g16 := s28 _ _ g16
    replace g17 := s28 _ _ g17
    replace g18 := s28 _ _ g18
    replace g19 := s28 _ _ g19
    replace g20 := s28 _ _ g20
    replace g21 := s28 _ _ g21
    replace g22 := s28 _ _ g22
    replace g23 := s28 _ _ g23
    replace g24 := s28 _ _ g24
    replace g25 := s28 _ _ g25
    replace g26 := s28 _ _ g26
    replace g27 := s28 _ _ g27
    have sm28 : Same H H28 := sm27.trans s28
    refine ⟨le_size (by simp), fun a29 h29 => ?_⟩
    have p29 := sm28.free h29
    have s29 : Same H28 (upd H28 a29 (HO.lst [V.ref a19, V.ref a20, V.ref a21, V.ref a23, V.ref a24, V.ref a25, V.ref a26, V.ref a28, V.bl true])) := Same.new _ h29
    have g29 : upd H28 a29 (HO.lst [V.ref a19, V.ref a20, V.ref a21, V.ref a23, V.ref a24, V.ref a25, V.ref a26, V.ref a28, V.bl true]) a29 = some (HO.lst [V.ref a19, V.ref a20, V.ref a21, V.ref a23, V.ref a24, V.ref a25, V.ref a26, V.ref a28, V.bl true]) := upd_same
    generalize upd H28 a29 (HO.lst [V.ref a19, V.ref a20, V.ref a21, V.ref a23, V.ref a24, V.ref a25, V.ref a26, V.ref a28, V.bl true]) = H29 at *
    replace g1 := s29 _ _ g1
    replace g2 := s29 _ _ g2
    replace g3 := s29 _ _ g3
    replace g4 := s29 _ _ g4
    replace g5 := s29 _ _ g5
    replace g6 := s29 _ _ g6
    replace g7 := s29 _ _ g7
    replace g8 := s29 _ _ g8
    replace g9 := s29 _ _ g9
    replace g10 := s29 _ _ g10
    replace g11 := s29 _ _ g11
    replace g12 := s29 _ _ g12
    replace g13 := s29 _ _ g13
    replace g14 := s29 _ _ g14
    replace g15 := s29 _ _ g15
    replace g16 := s29 _ _ g16
    replace g17 := s29 _ _ g17
    replace g18 := s29 _ _ g18
    replace g19 := s29 _ _ g19
    replace g20 := s29 _ _ g20
    replace g21 := s29 _ _ g21
    replace g22 := s29 _ _ g22
    replace g23 := s29 _ _ g23
    replace g24 := s29 _ _ g24
    replace g25 := s29 _ _ g25
    replace g26 := s29 _ _ g26
    replace g27 := s29 _ _ g27
    replace g28 := s29 _ _ g28
    have sm29 : Same H H29 := sm28.trans s29
    refine ⟨_, _, _, _, rfl, rfl, g18, g29, le_size (by simp), fun a30 h30 => ?_⟩
    have p30 := sm29.free h30
    have s30 : Same H29 (upd H29 a30 (HO.lst ([V.non, V.int (5), V.str "abc", V.ref a1, V.ref a2, V.ref a3, V.ref a4, V.ref a5, V.ref a6, V.ref a7] ++ [V.ref a9, V.ref a10, V.ref a11, V.ref a12, V.ref a13, V.ref a14, V.ref a16] ++ [V.ref a19, V.ref a20, V.ref a21, V.ref a23, V.ref a24, V.ref a25, V.ref a26, V.ref a28, V.bl true]))) := Same.new _ h30
    have g30 : upd H29 a30 (HO.lst ([V.non, V.int (5), V.str "abc", V.ref a1, V.ref a2, V.ref a3, V.ref a4, V.ref a5, V.ref a6, V.ref a7] ++ [V.ref a9, V.ref a10, V.ref a11, V.ref a12, V.ref a13, V.ref a14, V.ref a16] ++ [V.ref a19, V.ref a20, V.ref a21, V.ref a23, V.ref a24, V.ref a25, V.ref a26, V.ref a28, V.bl true])) a30 = some (HO.lst ([V.non, V.int (5), V.str "abc", V.ref a1, V.ref a2, V.ref a3, V.ref a4, V.ref a5, V.ref a6, V.ref a7] ++ [V.ref a9, V.ref a10, V.ref a11, V.ref a12, V.ref a13, V.ref a14, V.ref a16] ++ [V.ref a19, V.ref a20, V.ref a21, V.ref a23, V.ref a24, V.ref a25, V.ref a26, V.ref a28, V.bl true])) := upd_same
    generalize upd H29 a30 (HO.lst ([V.non, V.int (5), V.str "abc", V.ref a1, V.ref a2, V.ref a3, V.ref a4, V.ref a5, V.ref a6, V.ref a7] ++ [V.ref a9, V.ref a10, V.ref a11, V.ref a12, V.ref a13, V.ref a14, V.ref a16] ++ [V.ref a19, V.ref a20, V.ref a21, V.ref a23, V.ref a24, V.ref a25, V.ref a26, V.ref a28, V.bl true])) = H30 at *
    replace g1 := s30 _ _ g1
    replace g2 := s30 _ _ g2
    replace g3 := s30 _ _ g3
    replace g4 := s30 _ _ g4
    replace g5 := s30 _ _ g5
    replace g6 := s30 _ _ g6
    replace g7 := s30 _ _ g7
    replace g8 := s30 _ _ g8
    replace g9 := s30 _ _ g9
    replace g10 := s30 _ _ g10
    replace g11 := s30 _ _ g11
    replace g12 := s30 _ _ g12
    replace g13 := s30 _ _ g13
    replace g14 := s30 _ _ g14
    replace g15 := s30 _ _ g15
    replace g16 := s30 _ _ g16
    replace g17 := s30 _ _ g17
    replace g18 := s30 _ _ g18
    replace g19 := s30 _ _ g19
    replace g20 := s30 _ _ g20
    replace g21 := s30 _ _ g21
    replace g22 := s30 _ _ g22
    replace g23 := s30 _ _ g23
    replace g24 := s30 _ _ g24
    replace g25 := s30 _ _ g25
    replace g26 := s30 _ _ g26
    replace g27 := s30 _ _ g27
    replace g28 := s30 _ _ g28
    replace g29 := s30 _ _ g29
    have sm30 : Same H H30 := sm29.trans s30
    refine ⟨_, rfl, _, rfl, _, rfl, a30, _, rfl, .inl (SqL.of g30), p, l, 26, rfl, hst.same sm30, by decide, by decide, fun H' r x1 st1 r0 r1 => ?_⟩
    obtain ⟨v, hv, hat⟩ := atI_mem (xs := [V.non, V.int (5), V.str "abc", V.ref a1, V.ref a2, V.ref a3, V.ref a4, V.ref a5, V.ref a6, V.ref a7] ++ [V.ref a9, V.ref a10, V.ref a11, V.ref a12, V.ref a13, V.ref a14, V.ref a16] ++ [V.ref a19, V.ref a20, V.ref a21, V.ref a23, V.ref a24, V.ref a25, V.ref a26, V.ref a28, V.bl true]) r0 (by simpa using r1)
    refine ⟨_, _, _, v, rfl, rfl, SqL.of (x1 _ _ (hst.ne p30).1 g30), hat, ?_⟩
    replace g1 := x1 _ _ (hst.ne p1).1 g1
    replace g2 := x1 _ _ (hst.ne p2).1 g2
    replace g3 := x1 _ _ (hst.ne p3).1 g3
    replace g4 := x1 _ _ (hst.ne p4).1 g4
    replace g5 := x1 _ _ (hst.ne p5).1 g5
    replace g6 := x1 _ _ (hst.ne p6).1 g6
    replace g7 := x1 _ _ (hst.ne p7).1 g7
    replace g8 := x1 _ _ (hst.ne p8).1 g8
    replace g9 := x1 _ _ (hst.ne p9).1 g9
    replace g10 := x1 _ _ (hst.ne p10).1 g10
    replace g11 := x1 _ _ (hst.ne p11).1 g11
    replace g12 := x1 _ _ (hst.ne p12).1 g12
    replace g13 := x1 _ _ (hst.ne p13).1 g13
    replace g14 := x1 _ _ (hst.ne p14).1 g14
    replace g15 := x1 _ _ (hst.ne p15).1 g15
    replace g16 := x1 _ _ (hst.ne p16).1 g16
    replace g17 := x1 _ _ (hst.ne p17).1 g17
    replace g18 := x1 _ _ (hst.ne p18).1 g18
    replace g19 := x1 _ _ (hst.ne p19).1 g19
    replace g20 := x1 _ _ (hst.ne p20).1 g20
    replace g21 := x1 _ _ (hst.ne p21).1 g21
    replace g22 := x1 _ _ (hst.ne p22).1 g22
    replace g23 := x1 _ _ (hst.ne p23).1 g23
    replace g24 := x1 _ _ (hst.ne p24).1 g24
    replace g25 := x1 _ _ (hst.ne p25).1 g25
    replace g26 := x1 _ _ (hst.ne p26).1 g26
    replace g27 := x1 _ _ (hst.ne p27).1 g27
    replace g28 := x1 _ _ (hst.ne p28).1 g28
    replace g29 := x1 _ _ (hst.ne p29).1 g29
    replace g30 := x1 _ _ (hst.ne p30).1 g30
    have all : ∀ v ∈ ([V.non, V.int (5), V.str "abc", V.ref a1, V.ref a2, V.ref a3, V.ref a4, V.ref a5, V.ref a6, V.ref a7] ++ [V.ref a9, V.ref a10, V.ref a11, V.ref a12, V.ref a13, V.ref a14, V.ref a16] ++ [V.ref a19, V.ref a20, V.ref a21, V.ref a23, V.ref a24, V.ref a25, V.ref a26, V.ref a28, V.bl true] : List V), WrP K H H' sg v := by
      have o0 : WrP K H H' sg (V.non) := ⟨⟨none, rfl, fun H2 x2 => (.non (.x (.base .non)) (kit_ty (by decide +kernel)))⟩, ⟨none, fun H2 x2 => (.non (.x (.base .non)) (kit_no (kit_ty (by decide +kernel)) (kit_ty (by decide +kernel))))⟩⟩
      have o1 : WrP K H H' sg (V.int (5)) := ⟨⟨none, rfl, fun H2 x2 => (.non (.x (.base (.int _))) (kit_ty (by decide +kernel)))⟩, ⟨none, fun H2 x2 => (.non (.x (.base (.int _))) (kit_no (kit_ty (by decide +kernel)) (kit_ty (by decide +kernel))))⟩⟩
      have o2 : WrP K H H' sg (V.str "abc") := ⟨⟨none, rfl, fun H2 x2 => (.non (.x (.base (.str _))) (kit_ty (by decide +kernel)))⟩, ⟨none, fun H2 x2 => (.non (.x (.base (.str _))) (kit_no (kit_ty (by decide +kernel)) (kit_ty (by decide +kernel))))⟩⟩
      have o3 : WrP K H H' sg (V.ref a1) := ⟨⟨none, rfl, fun H2 x2 => (.non (.x (.base (.lst (x2 _ _ p1 g1)))) (kit_ty (by decide +kernel)))⟩, ⟨some ([V.int (0), V.str ⟨#[c0]⟩, V.int (0)], [none, none, none]), fun H2 x2 => (At.mk (.inl (x2 _ _ p1 g1)) (.cons (.non (.x (.base (.int _))) (kit_ty (by decide +kernel))) (.cons (.non (.x (.base (.str _))) (kit_ty (by decide +kernel))) (.cons (.non (.x (.base (.int _))) (kit_ty (by decide +kernel))) .nil))) (by simp))⟩⟩
      have o4 : WrP K H H' sg (V.ref a2) := ⟨⟨none, rfl, fun H2 x2 => (.oth (x2 _ _ p2 g2) (by simp))⟩, ⟨some ([V.int (0), V.str ⟨#[c0]⟩], [none, none]), fun H2 x2 => (At.mk (.inr (x2 _ _ p2 g2)) (.cons (.non (.x (.base (.int _))) (kit_ty (by decide +kernel))) (.cons (.non (.x (.base (.str _))) (kit_ty (by decide +kernel))) .nil)) (by simp))⟩⟩
      have o5 : WrP K H H' sg (V.ref a3) := ⟨⟨none, rfl, fun H2 x2 => (.oth (x2 _ _ p3 g3) (by simp))⟩, ⟨some ([V.int (0), V.str ⟨#[c0]⟩, V.int (0), V.int (0)], [none, none, none, none]), fun H2 x2 => (At.mk (.inr (x2 _ _ p3 g3)) (.cons (.non (.x (.base (.int _))) (kit_ty (by decide +kernel))) (.cons (.non (.x (.base (.str _))) (kit_ty (by decide +kernel))) (.cons (.non (.x (.base (.int _))) (kit_ty (by decide +kernel))) (.cons (.non (.x (.base (.int _))) (kit_ty (by decide +kernel))) .nil)))) (by simp))⟩⟩
      have o6 : WrP K H H' sg (V.ref a4) := ⟨⟨some (V.int (64), some [c0], V.int (0)), (arcB_a rfl), fun H2 x2 => (.tri (x2 _ _ p4 g4) (.int _) (.str [c0] (by simp)) (.int _))⟩, ⟨some ([V.int (64), V.str ⟨#[c0]⟩, V.int (0)], [none, none, none]), fun H2 x2 => (At.mk (.inr (x2 _ _ p4 g4)) (.cons (.non (.x (.base (.int _))) (kit_ty (by decide +kernel))) (.cons (.non (.x (.base (.str _))) (kit_ty (by decide +kernel))) (.cons (.non (.x (.base (.int _))) (kit_ty (by decide +kernel))) .nil))) (by simp))⟩⟩
      have o7 : WrP K H H' sg (V.ref a5) := ⟨⟨some (V.int (0), some [c0], V.int (64)), (arcB_c rfl), fun H2 x2 => (.tri (x2 _ _ p5 g5) (.int _) (.str [c0] (by simp)) (.int _))⟩, ⟨some ([V.int (0), V.str ⟨#[c0]⟩, V.int (64)], [none, none, none]), fun H2 x2 => (At.mk (.inr (x2 _ _ p5 g5)) (.cons (.non (.x (.base (.int _))) (kit_ty (by decide +kernel))) (.cons (.non (.x (.base (.str _))) (kit_ty (by decide +kernel))) (.cons (.non (.x (.base (.int _))) (kit_ty (by decide +kernel))) .nil))) (by simp))⟩⟩
      have o8 : WrP K H H' sg (V.ref a6) := ⟨⟨some (V.int (-1), some [c0], V.int (0)), (arcB_a rfl), fun H2 x2 => (.tri (x2 _ _ p6 g6) (.int _) (.str [c0] (by simp)) (.int _))⟩, ⟨some ([V.int (-1), V.str ⟨#[c0]⟩, V.int (0)], [none, none, none]), fun H2 x2 => (At.mk (.inr (x2 _ _ p6 g6)) (.cons (.non (.x (.base (.int _))) (kit_ty (by decide +kernel))) (.cons (.non (.x (.base (.str _))) (kit_ty (by decide +kernel))) (.cons (.non (.x (.base (.int _))) (kit_ty (by decide +kernel))) .nil))) (by simp))⟩⟩
      have o9 : WrP K H H' sg (V.ref a7) := ⟨⟨some (V.int (0), some [c0], V.int (-1)), (arcB_c rfl), fun H2 x2 => (.tri (x2 _ _ p7 g7) (.int _) (.str [c0] (by simp)) (.int _))⟩, ⟨some ([V.int (0), V.str ⟨#[c0]⟩, V.int (-1)], [none, none, none]), fun H2 x2 => (At.mk (.inr (x2 _ _ p7 g7)) (.cons (.non (.x (.base (.int _))) (kit_ty (by decide +kernel))) (.cons (.non (.x (.base (.str _))) (kit_ty (by decide +kernel))) (.cons (.non (.x (.base (.int _))) (kit_ty (by decide +kernel))) .nil))) (by simp))⟩⟩
      have o10 : WrP K H H' sg (V.ref a9) := ⟨⟨some (V.bl true, some [c0], V.int (0)), (arcB_a rfl), fun H2 x2 => (.tri (x2 _ _ p9 g9) (.bl _) (.str [c0] (by simp)) (.int _))⟩, ⟨some ([V.bl true, V.str ⟨#[c0]⟩, V.int (0)], [none, none, none]), fun H2 x2 => (At.mk (.inr (x2 _ _ p9 g9)) (.cons (.non (.x (.base (.bl _))) (kit_ty (by decide +kernel))) (.cons (.non (.x (.base (.str _))) (kit_ty (by decide +kernel))) (.cons (.non (.x (.base (.int _))) (kit_ty (by decide +kernel))) .nil))) (by simp))⟩⟩
      have o11 : WrP K H H' sg (V.ref a10) := ⟨⟨some (V.int (0), some [c0], V.bl false), (arcB_c rfl), fun H2 x2 => (.tri (x2 _ _ p10 g10) (.int _) (.str [c0] (by simp)) (.bl _))⟩, ⟨some ([V.int (0), V.str ⟨#[c0]⟩, V.bl false], [none, none, none]), fun H2 x2 => (At.mk (.inr (x2 _ _ p10 g10)) (.cons (.non (.x (.base (.int _))) (kit_ty (by decide +kernel))) (.cons (.non (.x (.base (.str _))) (kit_ty (by decide +kernel))) (.cons (.non (.x (.base (.bl _))) (kit_ty (by decide +kernel))) .nil))) (by simp))⟩⟩
      have o12 : WrP K H H' sg (V.ref a11) := ⟨⟨some (V.int (0), some [], V.int (0)), (arcB_u rfl), fun H2 x2 => (.tri (x2 _ _ p11 g11) (.int _) (.str [] (by simp)) (.int _))⟩, ⟨some ([V.int (0), V.str "", V.int (0)], [none, none, none]), fun H2 x2 => (At.mk (.inr (x2 _ _ p11 g11)) (.cons (.non (.x (.base (.int _))) (kit_ty (by decide +kernel))) (.cons (.non (.x (.base (.str _))) (kit_ty (by decide +kernel))) (.cons (.non (.x (.base (.int _))) (kit_ty (by decide +kernel))) .nil))) (by simp))⟩⟩
      have o13 : WrP K H H' sg (V.ref a12) := ⟨⟨some (V.int (0), some (List.replicate 13 c0), V.int (0)), (arcB_u rfl), fun H2 x2 => (.tri (x2 _ _ p12 g12) (.int _) (.str (List.replicate 13 c0) (by simp)) (.int _))⟩, ⟨some ([V.int (0), V.str (Txt.mul ⟨#[c0]⟩ 13), V.int (0)], [none, none, none]), fun H2 x2 => (At.mk (.inr (x2 _ _ p12 g12)) (.cons (.non (.x (.base (.int _))) (kit_ty (by decide +kernel))) (.cons (.non (.x (.base (.str _))) (kit_ty (by decide +kernel))) (.cons (.non (.x (.base (.int _))) (kit_ty (by decide +kernel))) .nil))) (by simp))⟩⟩
      have o14 : WrP K H H' sg (V.ref a13) := ⟨⟨some (V.int (0), some [c0, 121], V.int (0)), (arcB_u (wdO_two (no_y hsg))), fun H2 x2 => (.tri (x2 _ _ p13 g13) (.int _) (.str [c0, 121] (by simp)) (.int _))⟩, ⟨some ([V.int (0), V.str ((⟨#[c0]⟩ : Str) ++ ("y" : Str)), V.int (0)], [none, none, none]), fun H2 x2 => (At.mk (.inr (x2 _ _ p13 g13)) (.cons (.non (.x (.base (.int _))) (kit_ty (by decide +kernel))) (.cons (.non (.x (.base (.str _))) (kit_ty (by decide +kernel))) (.cons (.non (.x (.base (.int _))) (kit_ty (by decide +kernel))) .nil))) (by simp))⟩⟩
      have o15 : WrP K H H' sg (V.ref a14) := ⟨⟨some (V.int (0), none, V.int (0)), (arcB_u rfl), fun H2 x2 => (.tri (x2 _ _ p14 g14) (.int _) (.non (.x (.base .non)) (kit_ty (by decide +kernel))) (.int _))⟩, ⟨some ([V.int (0), V.non, V.int (0)], [none, none, none]), fun H2 x2 => (At.mk (.inr (x2 _ _ p14 g14)) (.cons (.non (.x (.base (.int _))) (kit_ty (by decide +kernel))) (.cons (.non (.x (.base .non)) (kit_ty (by decide +kernel))) (.cons (.non (.x (.base (.int _))) (kit_ty (by decide +kernel))) .nil))) (by simp))⟩⟩
      have o16 : WrP K H H' sg (V.ref a16) := ⟨⟨some (V.int (0), none, V.int (0)), (arcB_u rfl), fun H2 x2 => (.tri (x2 _ _ p16 g16) (.int _) (.non (.x (.base (.lst (x2 _ _ p15 g15)))) (kit_ty (by decide +kernel))) (.int _))⟩, ⟨some ([V.int (0), V.ref a15, V.int (0)], [none, none, none]), fun H2 x2 => (At.mk (.inr (x2 _ _ p16 g16)) (.cons (.non (.x (.base (.int _))) (kit_ty (by decide +kernel))) (.cons (.non (.x (.base (.lst (x2 _ _ p15 g15)))) (kit_ty (by decide +kernel))) (.cons (.non (.x (.base (.int _))) (kit_ty (by decide +kernel))) .nil))) (by simp))⟩⟩
      have o17 : WrP K H H' sg (V.ref a19) := ⟨⟨some (V.str "0", some [c0], V.int (0)), (arcB_a rfl), fun H2 x2 => (.tri (x2 _ _ p19 g19) (.other (.x (.base (.str _))) (kit_ty (by decide +kernel)) (fun i e => nomatch e)) (.str [c0] (by simp)) (.int _))⟩, ⟨some ([V.str "0", V.str ⟨#[c0]⟩, V.int (0)], [none, none, none]), fun H2 x2 => (At.mk (.inr (x2 _ _ p19 g19)) (.cons (.non (.x (.base (.str _))) (kit_ty (by decide +kernel))) (.cons (.non (.x (.base (.str _))) (kit_ty (by decide +kernel))) (.cons (.non (.x (.base (.int _))) (kit_ty (by decide +kernel))) .nil))) (by simp))⟩⟩
      have o18 : WrP K H H' sg (V.ref a20) := ⟨⟨some (V.int (0), some [c0], V.non), (arcB_c rfl), fun H2 x2 => (.tri (x2 _ _ p20 g20) (.int _) (.str [c0] (by simp)) (.other (.x (.base .non)) (kit_ty (by decide +kernel)) (fun i e => nomatch e)))⟩, ⟨some ([V.int (0), V.str ⟨#[c0]⟩, V.non], [none, none, none]), fun H2 x2 => (At.mk (.inr (x2 _ _ p20 g20)) (.cons (.non (.x (.base (.int _))) (kit_ty (by decide +kernel))) (.cons (.non (.x (.base (.str _))) (kit_ty (by decide +kernel))) (.cons (.non (.x (.base .non)) (kit_ty (by decide +kernel))) .nil))) (by simp))⟩⟩
      have o19 : WrP K H H' sg (V.ref a21) := ⟨⟨some (V.int (0), none, V.int (0)), (arcB_u rfl), fun H2 x2 => (.tri (x2 _ _ p21 g21) (.int _) (.non (.x (.base (.int _))) (kit_ty (by decide +kernel))) (.int _))⟩, ⟨some ([V.int (0), V.int (1), V.int (0)], [none, none, none]), fun H2 x2 => (At.mk (.inr (x2 _ _ p21 g21)) (.cons (.non (.x (.base (.int _))) (kit_ty (by decide +kernel))) (.cons (.non (.x (.base (.int _))) (kit_ty (by decide +kernel))) (.cons (.non (.x (.base (.int _))) (kit_ty (by decide +kernel))) .nil))) (by simp))⟩⟩
      have o20 : WrP K H H' sg (V.ref a23) := ⟨⟨some (V.ref a22, some [c0], V.int (0)), (arcB_a rfl), fun H2 x2 => (.tri (x2 _ _ p23 g23) (.other (.x (.base (.tup (x2 _ _ p22 g22)))) (kit_ty (by decide +kernel)) (fun i e => nomatch e)) (.str [c0] (by simp)) (.int _))⟩, ⟨some ([V.ref a22, V.str ⟨#[c0]⟩, V.int (0)], [none, none, none]), fun H2 x2 => (At.mk (.inr (x2 _ _ p23 g23)) (.cons (.oth (x2 _ _ p22 g22) (by simp)) (.cons (.non (.x (.base (.str _))) (kit_ty (by decide +kernel))) (.cons (.non (.x (.base (.int _))) (kit_ty (by decide +kernel))) .nil))) (by simp))⟩⟩
      have o21 : WrP K H H' sg (V.ref a24) := ⟨⟨none, rfl, fun H2 x2 => (.non (.x (.base (.dK (x2 _ _ p24 g24)))) (kit_ty (by decide +kernel)))⟩, ⟨none, fun H2 x2 => (.non (.x (.base (.dK (x2 _ _ p24 g24)))) (kit_no (kit_ty (by decide +kernel)) (kit_ty (by decide +kernel))))⟩⟩
      have o22 : WrP K H H' sg (V.ref a25) := ⟨⟨none, rfl, fun H2 x2 => (.oth (x2 _ _ p25 g25) (by simp))⟩, ⟨some ([], []), fun H2 x2 => (At.mk (.inr (x2 _ _ p25 g25)) .nil (by simp))⟩⟩
      have o23 : WrP K H H' sg (V.ref a26) := ⟨⟨some (V.int (0), some [c0, 32], V.int (0)), (arcB_u (wdO_two (no_s hsg))), fun H2 x2 => (.tri (x2 _ _ p26 g26) (.int _) (.str [c0, 32] (by simp)) (.int _))⟩, ⟨some ([V.int (0), V.str ((⟨#[c0]⟩ : Str) ++ (" " : Str)), V.int (0)], [none, none, none]), fun H2 x2 => (At.mk (.inr (x2 _ _ p26 g26)) (.cons (.non (.x (.base (.int _))) (kit_ty (by decide +kernel))) (.cons (.non (.x (.base (.str _))) (kit_ty (by decide +kernel))) (.cons (.non (.x (.base (.int _))) (kit_ty (by decide +kernel))) .nil))) (by simp))⟩⟩
      have o24 : WrP K H H' sg (V.ref a28) := ⟨⟨some (V.int (0), some [c0], V.ref a27), (arcB_c rfl), fun H2 x2 => (.tri (x2 _ _ p28 g28) (.int _) (.str [c0] (by simp)) (.other (.x (.base (.lst (x2 _ _ p27 g27)))) (kit_ty (by decide +kernel)) (fun i e => nomatch e)))⟩, ⟨some ([V.int (0), V.str ⟨#[c0]⟩, V.ref a27], [none, none, none]), fun H2 x2 => (At.mk (.inr (x2 _ _ p28 g28)) (.cons (.non (.x (.base (.int _))) (kit_ty (by decide +kernel))) (.cons (.non (.x (.base (.str _))) (kit_ty (by decide +kernel))) (.cons (.non (.x (.base (.lst (x2 _ _ p27 g27)))) (kit_ty (by decide +kernel))) .nil))) (by simp))⟩⟩
      have o25 : WrP K H H' sg (V.bl true) := ⟨⟨none, rfl, fun H2 x2 => (.non (.x (.base (.bl _))) (kit_ty (by decide +kernel)))⟩, ⟨none, fun H2 x2 => (.non (.x (.base (.bl _))) (kit_no (kit_ty (by decide +kernel)) (kit_ty (by decide +kernel))))⟩⟩
      exact (AllWr.cons o0 (AllWr.cons o1 (AllWr.cons o2 (AllWr.cons o3 (AllWr.cons o4 (AllWr.cons o5 (AllWr.cons o6 (AllWr.cons o7 (AllWr.cons o8 (AllWr.cons o9 (AllWr.cons o10 (AllWr.cons o11 (AllWr.cons o12 (AllWr.cons o13 (AllWr.cons o14 (AllWr.cons o15 (AllWr.cons o16 (AllWr.cons o17 (AllWr.cons o18 (AllWr.cons o19 (AllWr.cons o20 (AllWr.cons o21 (AllWr.cons o22 (AllWr.cons o23 (AllWr.cons o24 (AllWr.cons o25 AllWr.nil))))))))))))))))))))))))))
    exact k H' v (Ex.trans (Same.ex sm30) x1) st1 (all v hv)
end
end J


set_option Elab.async false
set_option linter.all false
set_option maxRecDepth 100000
set_option maxHeartbeats 4000000
namespace J
open PySem L2
theorem S_inj {u v : List Nat} (h : SX.S u = SX.S v) : u = v := by
  unfold SX.S at h
  injection h with h
  simpa using h
def arcD (a : Arc) : PyData := .tuple [.int (a.1 : Int), .str (SX.S a.2.1), .int (a.2.2 : Int)]
theorem dp_arc {K : PySem.W.Frag} {H : Hp} {t : Addr} {a : Arc} (h : H t = some (arcHO a)) : Dp K H (.ref t) (arcD a) := .tup (SqT.of h) (.cons (.int _) (.cons (.str _) (.cons (.int _) .nil)))
theorem dp_arcs {K : PySem.W.Frag} {H : Hp} : ∀ {us : List V} {as : List Arc}, Arcs H us as → DpAll K H us (as.map arcD)
  | [], [], _ => .nil
  | [], _ :: _, h => by have := h.1; simp at this
  | _ :: _, [], h => by have := h.1; simp at this
  | u :: us, a :: as, h => by
    obtain ⟨t, e, ht⟩ := h.2 0 a rfl
    cases e
    refine .cons (dp_arc ht) (dp_arcs ⟨by have := h.1; simpa using this, fun i b hb => ?_⟩)
    obtain ⟨t', e', ht'⟩ := h.2 (i + 1) b (by simpa using hb)
    exact ⟨t', by simpa using e', ht'⟩
theorem str_beq (u v : List Nat) : (SX.S u == SX.S v) = decide (u = v) := by
  by_cases h : u = v
  · subst h; simp
  · have n : SX.S u ≠ SX.S v := fun z => h (S_inj z)
    rw [decide_eq_false h]
    exact beq_false_of_ne n
theorem nat_beq (m n : Nat) : ((m : Int) == (n : Int)) = decide (m = n) := by
  by_cases h : m = n
  · subst h; simp
  · rw [decide_eq_false h]
    exact beq_false_of_ne (fun z => h (by exact_mod_cast z))
theorem eqv_arc (a b : Arc) : PyData.eqv (arcD a) (arcD b) = decide (a = b) := by
  show (((a.1 : Int) == (b.1 : Int)) && ((SX.S a.2.1 == SX.S b.2.1) && (((a.2.2 : Int) == (b.2.2 : Int)) && true))) = _
  rw [nat_beq, nat_beq, str_beq]
  obtain ⟨a1, a2, a3⟩ := a
  obtain ⟨b1, b2, b3⟩ := b
  rw [Bool.eq_iff_iff]
  simp
theorem eqv_arcs : ∀ as bs : List Arc, PyData.eqvAll (as.map arcD) (bs.map arcD) = decide (as = bs)
  | [], [] => rfl
  | [], b :: bs => by rw [decide_eq_false (by simp)]; rfl
  | a :: as, [] => by rw [decide_eq_false (by simp)]; rfl
  | a :: as, b :: bs => by
    show (PyData.eqv (arcD a) (arcD b) && PyData.eqvAll (as.map arcD) (bs.map arcD)) = _
    rw [eqv_arc, eqv_arcs as bs, Bool.eq_iff_iff]
    simp
theorem str_ok {u : List Nat} (h : ∀ c ∈ u, c < 1114112) : PyData.strOk (SX.S u) = true := by
  unfold PyData.strOk SX.S
  simp only [List.all_toArray, List.all_eq_true, decide_eq_true_eq]
  exact h

def Sml (as : List Arc) : Prop := ∀ a ∈ as, ∀ c ∈ a.2.1, c < 1114112
theorem lay_arcsS : ∀ as : List Arc, Sml as → PyData.canLayAll0 (as.map arcD) = true
  | [], _ => rfl
  | a :: r, h => by
    have e : PyData.strOk (SX.S a.2.1) = true := str_ok (h a (by simp))
    have ea : PyData.canLay0 (arcD a) = true := by
      show (true && (PyData.strOk (SX.S a.2.1) && (true && true))) = true
      rw [e]; rfl
    show (PyData.canLay0 (arcD a) && PyData.canLayAll0 (r.map arcD)) = true
    rw [ea, lay_arcsS r fun b hb => h b (by simp [hb])]
    rfl
theorem deep_arcsS : ∀ as : List Arc, PyData.depthAll (as.map arcD) ≤ 1
  | [] => by simp [PyData.depthAll]
  | a :: r => by
    show max (PyData.depth (arcD a)) (PyData.depthAll (r.map arcD)) ≤ 1
    have e : PyData.depth (arcD a) = 1 := by simp [arcD, PyData.depth, PyData.depthAll]
    have := deep_arcsS r
    omega
theorem shaped_S {as : List Arc} (h : Sml as) : SeqAt.shaped (.tuple (as.map arcD)) = true ∧ SeqAt.shaped (.list (as.map arcD)) = true := by
  have e1 := lay_arcsS as h
  have e2 : PyData.depthAll (as.map arcD) + 1 ≤ 64 := by
    have := deep_arcsS as
    omega
  constructor
  · have q1 : PyData.canLay0 (.tuple (as.map arcD)) = true := e1
    have q2 : PyData.depth (.tuple (as.map arcD)) ≤ 64 := e2
    unfold SeqAt.shaped
    rw [q1, decide_eq_true q2]
    rfl
  · have q1 : PyData.canLay0 (.list (as.map arcD)) = true := e1
    have q2 : PyData.depth (.list (as.map arcD)) ≤ 64 := e2
    unfold SeqAt.shaped
    rw [q1, decide_eq_true q2]
    rfl
theorem kit_self {K : PySem.W.Frag} (t : Value) : PySem.W.kitOne K t t = some true := by unfold PySem.W.kitOne; simp
def EqlG (C : Addr) : Addr → Addr → Bool → Hp → Prop := fun a b r H => ∃ sg us as sg' us' as', LoomG C H a sg us as ∧ LoomG C H b sg' us' as' ∧ Sml as ∧ Sml as' ∧ r = decide (sg = sg' ∧ as = as')
section
variable {P : Program} {w : World} {K : PySem.W.Frag} {mg : Str → Option Value} {base : Heap}
theorem ok_Loom_eqG (T : Tx K mg) : FnOk P w K mg base CX0 1 T.f_Loom_eq T.fd_Loom_eq P_Loom_eq (spEqB (EqlG T.C_Loom)) := by
  refine T.F_Loom_eq.ok sc_Loom_eq (fun vs H Q E h => ?_) (fun cdv A outer s H vs Q E hr h => ?_)
  · obtain ⟨a, b, r, rfl, _⟩ := h
    rfl
  · obtain ⟨a, b, r, rfl, ⟨sg, us, as, sg', us', as', ⟨dx, TT, hq, hT, harc⟩, ⟨dx', TT', hq', hT', harc'⟩, hsm, hsm', rfl⟩, k⟩ := h
    refine ⟨_, (pss_one (ps_ret (pe_and (pe_callB (call_isiZ (K := K) rfl) rfl T.n_isinstance (by decide +kernel) (pa_cons (pv 1) (pa_cons (pe_glob (v := V.ref T.C_Loom) rfl T.g_Loom rfl) pa_nil))) (pe_and (pe_cmpR op_eq (pe_fld (pv 0) rfl) (pe_fld (pv 1) rfl) (nomark _)) (pe_one (pe_cmpR (op_eqD hr.units) (pe_fld (pv 0) rfl) (pe_fld (pv 1) rfl) (nomark _))))))), ?_⟩
    refine ⟨_, rfl, _, _, _, _, true, rfl, .own _, .x (.base (.ins hq' T.cl_Loom T.ic_Loom T.ig T.it T.im_Loom)), kit_self _, true, rfl, ?_⟩
    refine ⟨_, rfl, a, _, dx, _, _, rfl, hq, T.cl_Loom, T.na_Loom_signs, lf_signs _ _, ?_⟩
    refine ⟨_, rfl, b, _, dx', _, _, rfl, hq', T.cl_Loom, T.na_Loom_signs, lf_signs _ _, ?_⟩
    refine ⟨rfl, _, rfl, ?_⟩
    refine ite2 (fun c => ?_) (fun c => ?_)
    · have e0 := of_decide_eq_true c
      injection e0 with e0
      have e1 : sg = sg' := S_inj e0
      subst e1
      refine ⟨_, rfl, a, _, dx, _, _, rfl, hq, T.cl_Loom, T.na_Loom_arcs, lf_arcs _ _, ?_⟩
      refine ⟨_, rfl, b, _, dx', _, _, rfl, hq', T.cl_Loom, T.na_Loom_arcs, lf_arcs _ _, ?_⟩
      refine ⟨_, _, .tup (SqT.of hT) (dp_arcs harc), .tup (SqT.of hT') (dp_arcs harc'), (shaped_S hsm).1, (shaped_S hsm').1, ?_⟩
      have e2 : PyData.eqv (.tuple (as.map arcD)) (.tuple (as'.map arcD)) = decide (sg = sg ∧ as = as') := by
        show PyData.eqvAll (as.map arcD) (as'.map arcD) = _
        rw [eqv_arcs]
        simp
      rw [e2]
      exact k H Ext.rfl'
    · have n : ¬ (sg = sg' ∧ as = as') := fun z => c (decide_eq_true (by rw [z.1]))
      rw [decide_eq_false n] at k
      exact k H Ext.rfl'
end
end J


set_option Elab.async false
set_option linter.all false
set_option maxRecDepth 100000
set_option maxHeartbeats 4000000
namespace J
open PySem L2
theorem Fun.kbinds1 {K : PySem.W.Frag} {x qual : Str} {st : Stmt} {f : Addr} {fd : FuncData} {ps ks : List Str} (F : Fun K x qual st f fd)
    (h : ∀ (kV doc pm : Value) (an : Option Addr) (cdv ct : Value) (u : Value) (ws : List Value), ws.length = ks.length → bindArgs (PySem.W.fnOf x qual (defArgs st) (defBody st) (defScope st) .none kV doc pm an cdv ct) ⟨[u], ks.zip ws⟩ = pure (ps.zip (u :: ws))) :
    KBn K fd ps 1 ks (fun us ws => us ++ ws) (fun us zs => us ++ zs) := by
  obtain ⟨oc, od, kV, doc, pm, an, cdv, ct, osl, rfl, lk, hcd⟩ := F.ex
  refine ⟨fun s us ws _ h0 hl => ?_, fun r rz => r.append rz⟩
  match us, h0 with
  | [u], _ => exact BindsTo.of_eq (h kV doc pm an cdv ct u ws hl)
def arcT (a : Arc) : Option Tri := some (.int (a.1 : Nat), some a.2.1, .int (a.2.2 : Nat))
theorem tri_arcT (a : Arc) : triA (arcT a) = a := by
  obtain ⟨m, u, n⟩ := a
  show ((m : Int).toNat, u, (n : Int).toNat) = (m, u, n)
  rw [Int.toNat_natCast, Int.toNat_natCast]
theorem map_tri (as : List Arc) : (as.map arcT).map triA = as := by
  rw [List.map_map]
  have e : triA ∘ arcT = id := funext tri_arcT
  rw [e, List.map_id]
theorem ai_arc {K : PySem.W.Frag} {H : Hp} {t : Addr} {a : Arc} (h : H t = some (arcHO a)) (hl : a.2.1.length ≤ 1000) : Ai K H (.ref t) (arcT a) := .tri h (.int _) (.str _ hl) (.int _)
theorem at_good {K : PySem.W.Frag} {H : Hp} {r : Addr} {us : List V} {as : List Arc} (h : Seq H r us) (ha : Arcs H us as) (hw : ∀ a ∈ as, a.2.1.length ≤ 1000) (hl : as.length ≤ 1000) : At K H (.ref r) (some (us, as.map arcT)) := by
  refine .seq h (fun i x e => ?_) (by rw [List.length_map, ha.1]) (by rw [ha.1]; exact hl)
  have hi := (List.getElem?_eq_some_iff.mp e).1
  have hi2 : i < as.length := by rw [← ha.1]; exact hi
  obtain ⟨t, ht, hh⟩ := ha.2 i as[i] (List.getElem?_eq_getElem hi2)
  rw [e] at ht
  cases ht
  refine ⟨arcT as[i], by rw [List.getElem?_map, List.getElem?_eq_getElem hi2]; rfl, ai_arc hh (hw _ (List.getElem_mem hi2))⟩
theorem arcB_good {sg : List Nat} {a : Arc} (h : OkArc sg a) : arcB sg (arcT a) = true := by
  obtain ⟨h1, ⟨h2, h3, h4⟩, h5⟩ := h
  have h5' : a.2.2 ≤ 63 := h5
  have e1 : numB (.int (a.1 : Nat)) = true := decide_eq_true ⟨by omega, by omega⟩
  have e2 : numB (.int (a.2.2 : Nat)) = true := decide_eq_true ⟨by omega, by omega⟩
  have e3 : wdO sg 1 12 (some a.2.1) = true := by
    show wdB sg a.2.1 1 12 = true
    unfold wdB
    rw [decide_eq_true (by omega), decide_eq_true (by omega), Bool.true_and, Bool.true_and]
    exact List.all_eq_true.mpr fun c hc => decide_eq_true (h4 c hc)
  show (numB _ && (wdO sg 1 12 _ && numB _)) = true
  rw [e1, e2, e3]
  rfl
theorem init_good {sg : List Nat} {us : List V} {as : List Arc} (hs : sgB sg = true) (h1 : 1 ≤ as.length) (h2 : as.length ≤ 200) (h : ∀ a ∈ as, OkArc sg a) : initO (some sg) (some (us, as.map arcT)) = none := by
  dsimp only [initO]
  rw [if_pos hs, if_pos (by rw [List.length_map]; exact ⟨h1, h2⟩), fb_none_of (fun d hd => by
    obtain ⟨a, ha, rfl⟩ := List.mem_map.mp hd
    exact arcB_good (h a ha))]
theorem init_sg {u : Option (List Nat)} {d : Option (List V × List (Option Tri))} (h : sgO u = false) : initO u d = some (("signs" : Str), -1) := by
  unfold initO
  cases u with
  | none => rfl
  | some sg =>
    have z : sgB sg = false := h
    dsimp only
    rw [z]
    rfl
theorem init_none {sg : List Nat} (hs : sgB sg = true) : initO (some sg) none = some (("arcs" : Str), -1) := by
  dsimp only [initO]
  rw [if_pos hs]
theorem init_len {sg : List Nat} {xs : List V} {ds : List (Option Tri)} (hs : sgB sg = true) (h : ¬ (1 ≤ ds.length ∧ ds.length ≤ 200)) : initO (some sg) (some (xs, ds)) = some (("arcs" : Str), -1) := by
  dsimp only [initO]
  rw [if_pos hs, if_neg h]
theorem init_at {sg : List Nat} {xs : List V} {ds : List (Option Tri)} {i : Nat} (hs : sgB sg = true) (h : 1 ≤ ds.length ∧ ds.length ≤ 200) (hf : fb sg ds 0 = some i) : initO (some sg) (some (xs, ds)) = some (("arcs" : Str), (i : Int)) := by
  dsimp only [initO]
  rw [if_pos hs, if_pos h, hf]
theorem Signs.sgB {sg : List Nat} (h : Signs sg) : sgB sg = true := by revert sg; unfold Signs; decide
theorem fb_pre {sg : List Nat} : ∀ {ds r : List (Option Tri)} {i : Nat}, (∀ d ∈ ds, arcB sg d = true) → fb sg (ds ++ r) i = fb sg r (i + ds.length)
  | [], r, i, _ => rfl
  | d :: ds, r, i, h => by
    show fb sg (d :: (ds ++ r)) i = _
    conv => lhs; unfold fb
    rw [if_pos (h d (by simp)), fb_pre fun e he => h e (by simp [he])]
    congr 1
    simp only [List.length_cons]
    omega
theorem fb_hit {sg : List Nat} {ds r : List (Option Tri)} {d : Option Tri} (h : ∀ d ∈ ds, arcB sg d = true) (hd : arcB sg d = false) : fb sg (ds ++ (d :: r)) 0 = some ds.length := by
  rw [fb_pre h]
  unfold fb
  rw [if_neg (by rw [hd]; exact Bool.false_ne_true), Nat.zero_add]
/-- two that are no arcs, put into good ones: the first of them is found -/
theorem fb_two {sg : List Nat} {ds : List (Option Tri)} {d e : Option Tri} {m n : Nat} (h : ∀ d ∈ ds, arcB sg d = true) (hd : arcB sg d = false) (he : arcB sg e = false) (hm : m ≤ ds.length) (hn : n ≤ ds.length + 1) :
    fb sg ((ds.take m ++ [d] ++ ds.drop m).take n ++ [e] ++ (ds.take m ++ [d] ++ ds.drop m).drop n) 0 = some (if n ≤ m then n else m) := by
  by_cases c : n ≤ m
  · rw [if_pos c]
    have e1 : (ds.take m ++ [d] ++ ds.drop m).take n = ds.take n := by
      rw [List.append_assoc, List.take_append_of_le_length (by rw [List.length_take]; omega), List.take_take, Nat.min_eq_left c]
    rw [e1, List.append_assoc]
    have e2 := fb_hit (sg := sg) (ds := ds.take n) (r := (ds.take m ++ [d] ++ ds.drop m).drop n) (d := e) (fun x hx => h x (List.mem_of_mem_take hx)) he
    rw [List.length_take, Nat.min_eq_left (by omega)] at e2
    exact e2
  · rw [if_neg c]
    have e1 : (ds.take m ++ [d] ++ ds.drop m).take n = ds.take m ++ (d :: (ds.drop m).take (n - (m + 1))) := by
      have l1 : (ds.take m ++ [d]).length = m + 1 := by rw [List.length_append, List.length_take, Nat.min_eq_left hm]; rfl
      rw [List.take_append, List.take_of_length_le (by rw [l1]; omega), l1, List.append_assoc]
      rfl
    rw [e1, List.append_assoc, List.append_assoc]
    have e2 := fb_hit (sg := sg) (ds := ds.take m) (r := (ds.drop m).take (n - (m + 1)) ++ ([e] ++ (ds.take m ++ [d] ++ ds.drop m).drop n)) (d := d) (fun x hx => h x (List.mem_of_mem_take hx)) hd
    rw [List.length_take, Nat.min_eq_left hm] at e2
    exact e2
theorem Signs.small {sg : List Nat} (h : Signs sg) : ∀ c ∈ sg, c < 1114112 := by
  revert sg; unfold Signs; decide
theorem sml_of {sg : List Nat} {as : List Arc} (hs : Signs sg) (h : ∀ a ∈ as, OkArc sg a) : Sml as := fun a ha c hc => hs.small c ((h a ha).2.1.2.2 c hc)
theorem wlen_of {sg : List Nat} {as : List Arc} (h : ∀ a ∈ as, OkArc sg a) : ∀ a ∈ as, a.2.1.length ≤ 1000 := fun a ha => by
  have := (h a ha).2.1.2.1
  omega
theorem LoomG.st {ns : List Int} {l q : Addr} {C : Addr} {H H' : Hp} {p : Addr} {sg : List Nat} {us : List V} {as : List Arc} (h : LoomG C H p sg us as) (st : StAt ns l H q) (x : Ex q H H') : LoomG C H' p sg us as := by
  obtain ⟨dx, Tp, h1, h2, h3⟩ := h
  have arc := h3.st st x
  obtain ⟨a, b, c, d, e, _, hq, _⟩ := st
  exact ⟨dx, Tp, x _ _ (fun z => by rw [z, hq] at h1; cases h1) h1, x _ _ (fun z => by rw [z, hq] at h2; cases h2) h2, arc⟩
/-- a list that is written: tuples and looms stay -/
theorem Arcs.exl {r : Addr} {xs : List V} {H H' : Hp} {us : List V} {as : List Arc} (h : Arcs H us as) (hr : H r = some (.lst xs)) (x : Ex r H H') : Arcs H' us as :=
  ⟨h.1, fun i a e => by
    obtain ⟨t, h1, h2⟩ := h.2 i a e
    exact ⟨t, h1, x _ _ (fun z => by rw [z, hr] at h2; cases h2) h2⟩⟩
theorem LoomG.exl {r : Addr} {xs : List V} {C : Addr} {H H' : Hp} {p : Addr} {sg : List Nat} {us : List V} {as : List Arc} (h : LoomG C H p sg us as) (hr : H r = some (.lst xs)) (x : Ex r H H') : LoomG C H' p sg us as := by
  obtain ⟨dx, Tp, h1, h2, h3⟩ := h
  exact ⟨dx, Tp, x _ _ (fun z => by rw [z, hr] at h1; cases h1) h1, x _ _ (fun z => by rw [z, hr] at h2; cases h2) h2, h3.exl hr x⟩
theorem Arcs.rev {H : Hp} {us : List V} {as : List Arc} (h : Arcs H us as) : Arcs H us.reverse as.reverse := by
  refine ⟨by rw [List.length_reverse, List.length_reverse, h.1], fun i a e => ?_⟩
  have hi := (List.getElem?_eq_some_iff.mp e).1
  rw [List.length_reverse] at hi
  rw [List.getElem?_reverse hi] at e
  obtain ⟨t, h1, h2⟩ := h.2 _ a e
  refine ⟨t, ?_, h2⟩
  rw [List.getElem?_reverse (by rw [h.1]; exact hi), h.1]
  exact h1
theorem ne_same {K : PySem.W.Frag} {H : Hp} {x y : V} {d : PyData} {Q : VK} (hx : Dp K H x d) (hy : Dp K H y d) (sh : SeqAt.shaped d = true) (q : Q (.bl false) H) : rNeD K x y H Q := by
  refine ⟨_, _, hx, hy, sh, sh, ?_⟩
  rw [SeqAt.eqv_refl _ (SeqAt.canLay_of_shaped sh)]
  exact q
theorem dp_three {K : PySem.W.Frag} {H : Hp} {r : Addr} {z : Str} {i : Int} {b : Bool} (h : H r = some (.tup [.str z, .int i, .bl b])) : Dp K H (.ref r) (.tuple [.str z, .int i, .bool b]) := .tup (SqT.of h) (.cons (.str z) (.cons (.int i) (.cons (.bl b) .nil)))
theorem sh_three {z : Str} {i : Int} {b : Bool} (h : PyData.strOk z = true) : SeqAt.shaped (.tuple [.str z, .int i, .bool b]) = true := by
  have e1 : PyData.canLay0 (.tuple [.str z, .int i, .bool b]) = true := by
    show (PyData.strOk z && (true && (true && true))) = true
    rw [h]; rfl
  have e2 : PyData.depth (.tuple [.str z, .int i, .bool b]) ≤ 64 := by
    simp [PyData.depth, PyData.depthAll]
  unfold SeqAt.shaped
  rw [e1, decide_eq_true e2]
  rfl
def spLaw (K : PySem.W.Frag) : Sp := fun vs H Q _ => ∃ (a : Addr) (ns : List Int), vs = [.ref a] ∧ SqL K H a (ns.map V.int) ∧ ns.length ≤ 63 ∧ ∀ H', Q (.bl true) H'
end J


set_option Elab.async false
set_option linter.all false
set_option maxRecDepth 100000
set_option maxHeartbeats 4000000
namespace J
open PySem L2
open PySem.Spec PyProof.Rows
def one1 (c : Nat) : Str := ⟨#[c]⟩
theorem sgs_S (u : List Nat) : sgs (SX.S u) = u.map one1 := by
  unfold sgs
  have e : (SX.S u).cps.toList = u := by simp
  rw [e]
  rfl
theorem perm_codes {ys : List Str} {u : List Nat} (h : ys.Perm (u.map one1)) : ∃ v : List Nat, ys = v.map one1 ∧ v.Perm u := by
  refine ⟨ys.map fun z => z.cps.toList.headD 0, ?_, ?_⟩
  · rw [List.map_map]
    conv => lhs; rw [← List.map_id ys]
    refine List.map_congr_left fun z hz => ?_
    obtain ⟨c, _, rfl⟩ := List.mem_map.mp (h.mem_iff.mp hz)
    rfl
  · have e := h.map fun z : Str => z.cps.toList.headD 0
    rw [List.map_map] at e
    have e2 : ((fun z : Str => z.cps.toList.headD 0) ∘ one1) = id := rfl
    rw [e2, List.map_id] at e
    exact e
theorem rising_le : ∀ (v : List Nat) (p : Nat), risingS (one1 p) (v.map one1) = true → (p :: v).Pairwise (· ≤ ·)
  | [], p, _ => List.pairwise_singleton _ _
  | c :: r, p, h => by
    have h' : (!ltCps [c] [p] && risingS (one1 c) (r.map one1)) = true := h
    obtain ⟨h1, h2⟩ := Bool.and_eq_true_iff.mp h'
    have ih := rising_le r c h2
    have e : p ≤ c := by
      have z : ltCps [c] [p] = false := by simpa using h1
      have z2 : (decide (c < p) || (c == p && false)) = false := z
      rw [Bool.and_false, Bool.or_false] at z2
      exact Nat.le_of_not_lt (of_decide_eq_false z2)
    refine List.pairwise_cons.mpr ⟨fun x hx => ?_, ih⟩
    rcases List.mem_cons.mp hx with rfl | hx
    · exact e
    · exact Nat.le_trans e ((List.pairwise_cons.mp ih).1 x hx)
theorem sorted_le {v : List Nat} (h : sortedS (v.map one1) = true) : v.Pairwise (· ≤ ·) := by
  cases v with
  | nil => exact .nil
  | cons p r => exact rising_le r p h
theorem zip_asc : ∀ {v : List Nat}, v.Pairwise (· < ·) → (v.zip (v.drop 1)).all ascB = true
  | [], _ => rfl
  | [_], _ => rfl
  | a :: b :: r, h => by
    have h1 := (List.pairwise_cons.mp h).1 b (by simp)
    have ih := zip_asc (List.pairwise_cons.mp h).2
    show (ascB (a, b) && ((b :: r).zip ((b :: r).drop 1)).all ascB) = true
    rw [ih, Bool.and_true]
    exact decide_eq_true h1
theorem Signs.more {sg : List Nat} (h : Signs sg) : (sg ++ [109]).Nodup ∧ ∀ c ∈ sg ++ [109], lowB c = true := by
  revert sg; unfold Signs; decide
/-- the signs and one more, ascending -/
theorem more_signs {sg : List Nat} {ys : List Str} (hs : Signs sg) (hl : sg.length < 4) (h : ys.Perm (sgs (SX.S (sg ++ [109])))) (hy : sortedS ys = true) :
    ∃ v, ys = v.map one1 ∧ sgB v = true ∧ v.length = sg.length + 1 ∧ ∀ c ∈ sg, c ∈ v := by
  rw [sgs_S] at h
  obtain ⟨v, rfl, hp⟩ := perm_codes h
  have l : v.length = sg.length + 1 := by rw [hp.length_eq, List.length_append]; rfl
  obtain ⟨nd, lw⟩ := hs.more
  have nv : v.Nodup := hp.nodup_iff.mpr nd
  have le := sorted_le hy
  have lt : v.Pairwise (· < ·) := List.Pairwise.imp₂ (fun a b h1 h2 => Nat.lt_of_le_of_ne h1 h2) le nv
  refine ⟨v, rfl, ?_, l, fun c hc => hp.mem_iff.mpr (List.mem_append.mpr (.inl hc))⟩
  unfold sgB
  have e1 : v.all lowB = true := List.all_eq_true.mpr fun c hc => lw c (hp.mem_iff.mp hc)
  rw [decide_eq_true (by omega : 1 ≤ v.length), decide_eq_true (by omega : v.length ≤ 4), e1, zip_asc lt]
  rfl
theorem join_more (v : List Nat) : Txt.join "" (v.map one1) = SX.S v := by
  have e : v.map one1 = (v.map fun c => [c]).map SX.S := by rw [List.map_map]; rfl
  rw [e]
  show Txt.join (SX.S []) _ = _
  rw [join_flat]
  congr 1
  induction v with
  | nil => rfl
  | cons a r ih => exact congrArg (a :: ·) (ih (by rw [List.map_map]; rfl))
theorem sum_more (v : List Nat) : ((v.map one1).map (·.length)).sum = v.length := by
  have e : v.map one1 = v.map fun c => SX.S [c] := rfl
  rw [e]
  exact sum_ones v
theorem OkArc.more {sg v : List Nat} {a : Arc} (h : OkArc sg a) (hv : ∀ c ∈ sg, c ∈ v) : OkArc v a := ⟨h.1, ⟨h.2.1.1, h.2.1.2.1, fun c hc => hv c (h.2.1.2.2 c hc)⟩, h.2.2⟩
/-- what is no signs -/
def NoSg (K : PySem.W.Frag) (p : Addr) (H : Hp) (x : V) : Prop := ∃ u, sgO u = false ∧ ∀ H', Ex p H H' → Wd K H' x u
/-- what is no row of arcs -/
def NoAr (K : PySem.W.Frag) (p : Addr) (H : Hp) (sg : List Nat) (x : V) : Prop := ∃ d, initO (some sg) d = some (("arcs" : Str), -1) ∧ ∀ H', Ex p H H' → At K H' x d
theorem NoSg.non {K : PySem.W.Frag} {p : Addr} {H : Hp} {x : V} {t : Value} (h : ∀ H', Ex p H H' → TyZ K H' x t) (n : PySem.W.kitOne K t (.type "str") = some false) : NoSg K p H x := ⟨none, rfl, fun H' e => .non (h H' e) n⟩
theorem NoSg.str {K : PySem.W.Frag} {p : Addr} {H : Hp} (u : List Nat) (h : sgB u = false) (hl : u.length ≤ 1000) : NoSg K p H (.str (SX.S u)) := ⟨some u, h, fun H' e => .str u hl⟩
theorem NoAr.non {K : PySem.W.Frag} {p : Addr} {H : Hp} {sg : List Nat} {x : V} {t : Value} (hs : sgB sg = true) (h : ∀ H', Ex p H H' → TyZ K H' x t) (n : PySem.W.kitAny K t [.type "list", .type "tuple"] = some false) : NoAr K p H sg x := ⟨none, init_none hs, fun H' e => .non (h H' e) n⟩
def All1 (f : V → Prop) (xs : List V) : Prop := ∀ v ∈ xs, f v
theorem All1.nil {f : V → Prop} : All1 f [] := fun x hx => nomatch hx
theorem All1.cons {f : V → Prop} {x : V} {xs : List V} (h : f x) (t : All1 f xs) : All1 f (x :: xs) := fun y hy => by
  rcases List.mem_cons.mp hy with rfl | h'
  · exact h
  · exact t y h'
theorem StAt.neT {ns : List Int} {l p t : Addr} {H : Hp} {xs : List V} (st : StAt ns l H p) (h : H t = some (.tup xs)) : t ≠ p := fun z => by
  obtain ⟨a, b, c, d, e, _, hp, _⟩ := st
  rw [z, hp] at h
  cases h
theorem StAt.neI {ns : List Int} {l p t C dx : Addr} {H : Hp} {fs : List (Str × V)} (st : StAt ns l H p) (h : H t = some (.ins C dx fs)) : t ≠ p := fun z => by
  obtain ⟨a, b, c, d, e, _, hp, _⟩ := st
  rw [z, hp] at h
  cases h
theorem eq_looms {C a b : Addr} {H : Hp} {sg sg' : List Nat} {us us' : List V} {as as' : List Arc} {Q : VK} (h1 : LoomG C H a sg us as) (h2 : LoomG C H b sg' us' as') (m1 : Sml as) (m2 : Sml as')
    (q : ∀ H', Same H H' → Q (.bl (decide (sg = sg' ∧ as = as'))) H') : rEqB C (EqlG C) (.ref a) (.ref b) H Q := by
  obtain ⟨d1, T1, e1, u1, r1⟩ := h1
  obtain ⟨d2, T2, e2, u2, r2⟩ := h2
  exact ⟨a, b, d1, d2, _, _, _, rfl, rfl, e1, e2, ⟨sg, us, as, sg', us', as', ⟨d1, T1, e1, u1, r1⟩, ⟨d2, T2, e2, u2, r2⟩, m1, m2, rfl⟩, q⟩
theorem ne_looms {C a b : Addr} {H : Hp} {sg sg' : List Nat} {us us' : List V} {as as' : List Arc} {Q : VK} (h1 : LoomG C H a sg us as) (h2 : LoomG C H b sg' us' as') (m1 : Sml as) (m2 : Sml as')
    (q : ∀ H', Same H H' → Q (.bl (!decide (sg = sg' ∧ as = as'))) H') : rNeB C (EqlG C) (.ref a) (.ref b) H Q := by
  obtain ⟨d1, T1, e1, u1, r1⟩ := h1
  obtain ⟨d2, T2, e2, u2, r2⟩ := h2
  exact ⟨a, b, d1, d2, _, _, _, rfl, rfl, e1, e2, ⟨sg, us, as, sg', us', as', ⟨d1, T1, e1, u1, r1⟩, ⟨d2, T2, e2, u2, r2⟩, m1, m2, rfl⟩, q⟩
/-- two ways that come to the same -/
theorem both {c : Bool} {A B : Prop} {R : Hp → Prop} {H : Hp} (h : ∀ H', Same H H' → R H') (hA : c = true → (∀ H', Same H H' → R H') → A) (hB : c = false → (∀ H', Same H H' → R H') → B) : if c = true then A else B := by
  cases c with
  | true => exact hA rfl h
  | false => exact hB rfl h
theorem NoSg.strE {K : PySem.W.Frag} {p : Addr} {H : Hp} {z : Str} (u : List Nat) (e : z = SX.S u) (h : sgB u = false) (hl : u.length ≤ 1000) : NoSg K p H (.str z) := by
  subst e
  exact .str u h hl
theorem Arcs.rep {H : Hp} {t : Addr} {a : Arc} (n : Nat) (h : H t = some (arcHO a)) : Arcs H (List.replicate n (V.ref t)) (List.replicate n a) := by
  refine ⟨by rw [List.length_replicate, List.length_replicate], fun i b e => ?_⟩
  have hi := (List.getElem?_eq_some_iff.mp e).1
  rw [List.length_replicate] at hi
  rw [List.getElem?_replicate, if_pos hi] at e
  cases e
  exact ⟨t, by rw [List.getElem?_replicate, if_pos hi], h⟩
theorem flat_rep (n : Nat) (x : V) : (List.replicate n [x]).flatten = List.replicate n x := by
  induction n with
  | zero => rfl
  | succ n ih => rw [List.replicate_succ, List.flatten_cons, ih]; rfl
theorem NoAr.none {K : PySem.W.Frag} {p : Addr} {H : Hp} {sg : List Nat} {a : Addr} (hs : sgB sg = true) (h : ∀ H', Ex p H H' → Seq H' a []) : NoAr K p H sg (.ref a) :=
  ⟨some ([], []), init_len hs (by simp), fun H' e => At.mk (h H' e) .nil (by simp)⟩
theorem NoAr.many {K : PySem.W.Frag} {ns : List Int} {l p : Addr} {H : Hp} {sg : List Nat} {a t : Addr} {b : Arc} (hs : sgB sg = true) (st : StAt ns l H p) (h : H a = some (.lst (List.replicate 201 (V.ref t)))) (n : a ≠ p) (ht : H t = some (arcHO b)) (hl : b.2.1.length ≤ 1000) : NoAr K p H sg (.ref a) :=
  ⟨some (List.replicate 201 (V.ref t), (List.replicate 201 b).map arcT), init_len hs (by simp), fun H' e =>
    at_good (.inl (e _ _ n h)) ((Arcs.rep 201 ht).st st e) (fun x hx => by rw [(List.mem_replicate.mp hx).2]; exact hl) (by simp)⟩
theorem Nw.same {H0 H H1 H2 : Hp} (h : Nw H0 H H1) (s : Same H1 H2) : Nw H0 H H2 := fun b o e0 e => s _ _ (h b o e0 e)
theorem Nw.exn {H0 H H1 H2 : Hp} {q : Addr} (h : Nw H0 H H1) (x : Ex q H1 H2) (hq : ∃ o, H0 q = some o) : Nw H0 H H2 := fun b o e0 e => x _ _ (fun z => by
  obtain ⟨u, hu⟩ := hq
  rw [z, hu] at e0
  cases e0) (h b o e0 e)
theorem allAi_of {K : PySem.W.Frag} {H : Hp} : ∀ {xs : List V} {ds : List (Option Tri)}, ds.length = xs.length → (∀ (i : Nat) (x : V), xs[i]? = some x → ∃ d, ds[i]? = some d ∧ Ai K H x d) → AllAi K H xs ds
  | [], [], _, _ => .nil
  | [], _ :: _, e, _ => by simp at e
  | _ :: _, [], e, _ => by simp at e
  | x :: xs, d :: ds, e, h => by
    obtain ⟨d', h1, h2⟩ := h 0 x rfl
    cases h1
    exact .cons h2 (allAi_of (by simpa using e) fun i y hy => h (i + 1) y hy)
theorem allAi_arcs {K : PySem.W.Frag} {H : Hp} {us : List V} {as : List Arc} (ha : Arcs H us as) (hw : ∀ a ∈ as, a.2.1.length ≤ 1000) : AllAi K H us (as.map arcT) :=
  allAi_of (by rw [List.length_map, ha.1]) fun i x e => by
    have hi := (List.getElem?_eq_some_iff.mp e).1
    have hi2 : i < as.length := by rw [← ha.1]; exact hi
    obtain ⟨t, ht, hh⟩ := ha.2 i as[i] (List.getElem?_eq_getElem hi2)
    rw [e] at ht
    cases ht
    exact ⟨arcT as[i], by rw [List.getElem?_map, List.getElem?_eq_getElem hi2]; rfl, ai_arc hh (hw _ (List.getElem_mem hi2))⟩
theorem AllAi.app {K : PySem.W.Frag} {H : Hp} {xs ys : List V} {ds es : List (Option Tri)} (h : AllAi K H xs ds) (g : AllAi K H ys es) : AllAi K H (xs ++ ys) (ds ++ es) := by
  induction h with
  | nil => exact g
  | cons h _ ih => exact .cons h ih
theorem AllAi.take {K : PySem.W.Frag} {H : Hp} {xs : List V} {ds : List (Option Tri)} (h : AllAi K H xs ds) : ∀ n, AllAi K H (xs.take n) (ds.take n) := by
  induction h with
  | nil => intro n; rw [List.take_nil, List.take_nil]; exact .nil
  | cons h _ ih =>
    intro n
    cases n with
    | zero => exact .nil
    | succ n => exact .cons h (ih n)
theorem AllAi.drop {K : PySem.W.Frag} {H : Hp} {xs : List V} {ds : List (Option Tri)} (h : AllAi K H xs ds) : ∀ n, AllAi K H (xs.drop n) (ds.drop n) := by
  induction h with
  | nil => intro n; rw [List.drop_nil, List.drop_nil]; exact .nil
  | cons h t ih =>
    intro n
    cases n with
    | zero => exact .cons h t
    | succ n => exact ih n
theorem AllAi.ins {K : PySem.W.Frag} {H : Hp} {xs : List V} {ds : List (Option Tri)} {x : V} {d : Option Tri} (h : AllAi K H xs ds) (hx : Ai K H x d) (n : Nat) : AllAi K H (xs.take n ++ [x] ++ xs.drop n) (ds.take n ++ [d] ++ ds.drop n) :=
  ((h.take n).app (.cons hx .nil)).app (h.drop n)
theorem ins_len {α : Type} (xs : List α) (x : α) {n : Nat} (h : n ≤ xs.length) : (xs.take n ++ [x] ++ xs.drop n).length = xs.length + 1 := by
  rw [List.length_append, List.length_append, List.length_take, List.length_drop, Nat.min_eq_left h]
  show n + 1 + (xs.length - n) = _
  omega
theorem ite_val {c : Bool} {s1 s2 : Option (Option V)} {f g : Int} {Q : V → Prop} (h1 : s1 = some (some (.int g))) (h2 : s2 = some (some (.int f))) (q : Q (.int (if c = true then g else f))) : if c = true then (∃ v, s1 = some (some v) ∧ Q v) else (∃ v, s2 = some (some v) ∧ Q v) := by
  cases c with
  | true => exact ⟨_, h1, q⟩
  | false => exact ⟨_, h2, q⟩
theorem due_nat {f g : Int} (hf : 0 ≤ f) (hg : 0 ≤ g) : (if decide (g ≤ f) = true then g else f) = ((if g.toNat ≤ f.toNat then g.toNat else f.toNat : Nat) : Int) := by
  by_cases c : g ≤ f
  · rw [if_pos (decide_eq_true c), if_pos (by omega)]
    omega
  · rw [if_neg (fun z => c (of_decide_eq_true z)), if_neg (by omega)]
    omega
end J


set_option Elab.async false
set_option linter.all false
set_option maxRecDepth 100000
set_option maxHeartbeats 4000000
namespace J
open PySem L2
section
variable {P : Program} {w : World} {K : PySem.W.Frag} {mg : Str → Option Value} {base : Heap}
theorem ok_law (T : Tx K mg) : FnOk P w K mg base CX0 8 T.f_law T.fd_law P_law (spLaw K) := by
  refine T.F_law.ok sc_law (fun vs H Q E h => ?_) (fun cdv A outer s0 H vs Q E hr h => ?_)
  · obtain ⟨a, ns, rfl, _⟩ := h
    rfl
  · obtain ⟨a, ns, rfl, hS, hlen, k⟩ := h
    have G_l_state : FnOk P w K mg base CX0 1 T.f_l_state T.fd_l_state P_l_state (spState K ns) := ok_l_state T ns
    have G_l_draw : FnOk P w K mg base CX0 1 T.f_l_draw T.fd_l_draw P_l_draw (spDraw ns) := ok_l_draw T ns
    have G_l_loom : FnOk P w K mg base CX0 3 T.f_l_loom T.fd_l_loom P_l_loom (spLoom ns) := ok_l_loom T ns
    have G_l_told : FnOk P w K mg base CX0 7 T.f_l_told T.fd_l_told P_l_told (spTold K T.C_Loom) := ok_l_told T
    have G_l_wrong_arc : FnOk P w K mg base CX0 2 T.f_l_wrong_arc T.fd_l_wrong_arc P_l_wrong_arc (spWrong K ns) := ok_l_wrong_arc T ns
    have G_Loom_init : FnOk P w K mg base (L2.CX P w) 5 T.f_Loom_init T.fd_Loom_init P_Loom_init (spInitX K T.C_Loom T.C_InvalidLoom) := ok_Loom_initX T
    have G_Loom_eq : FnOk P w K mg base CX0 1 T.f_Loom_eq T.fd_Loom_eq P_Loom_eq (spEqB (EqlG T.C_Loom)) := ok_Loom_eqG T
    have KB_Loom_init_signs_arcs : KBn K T.fd_Loom_init P_Loom_init 1 ["signs", "arcs"] (fun us ws => us ++ ws) (fun us zs => us ++ zs) :=
      Fun.kbinds1 T.F_Loom_init (fun _ _ _ _ _ _ u ws hl => match ws, hl with | [_, _], _ => rfl)
    refine ⟨_, (pss_cons (ps_set (i := 1) sc_law.nd rfl (Or.inl rfl) (pe_call G_l_state (hr.mono (by decide)) rfl T.m_l_state T.F_l_state.kp T.b_l_state .nil pass0 (pa_cons (pv 0) pa_nil)))
        (pss_cons (ps_for PassesOwn.never rfl (pi_range1 rfl T.n_range (pa_cons pe_int pa_nil)) (pg_name (i := 2) sc_law.nd rfl (Or.inl rfl)) (pss_cons (ps_asg (pe_call G_l_loom (hr.mono (by decide)) rfl T.m_l_loom T.F_l_loom.kp T.b_l_loom .nil pass0 (pa_cons (pv 1) pa_nil)) (pg_tup rfl (pgs_cons (pg_name (i := 3) sc_law.nd rfl (Or.inl rfl)) (pgs_cons (pg_name (i := 4) sc_law.nd rfl (Or.inl rfl)) pgs_nil))))
        (pss_cons (ps_set (i := 5) sc_law.nd rfl (Or.inl rfl) (pe_make T.M_Loom G_Loom_init (hr.mono (by decide)) rfl T.g_Loom T.b_Loom_init .nil passL (pa_cons (pv 3) (pa_cons (pv 4) pa_nil))))
        (pss_cons (ps_set (i := 6) sc_law.nd rfl (Or.inl rfl) (pe_makeK0 T.M_Loom G_Loom_init (hr.mono (by decide)) rfl T.g_Loom KB_Loom_init_signs_arcs passL (pk_cons (pv 3) (pk_cons (pe_callTy (call_tuple_ofK (K := K) rfl) rfl T.n_tuple (by decide +kernel) (pa_cons (pv 4) pa_nil)) pk_nil))))
        (pss_cons (ps_set (i := 7) sc_law.nd rfl (Or.inl rfl) (pe_callTy (call_list_ofK (K := K) rfl) rfl T.n_list (by decide +kernel) (pa_cons (pv 4) pa_nil)))
        (pss_cons (ps_expr (pe_bm PySem.F.plainAttrs_list PySem.F.slot_list_append PySem.F.type_list_append mt_append (pv 4) (pa_cons (pe_tup (pa_cons pe_int (pa_cons (pe_ix ix_str (pv 3) pe_int (fun _ _ => rfl)) (pa_cons pe_int pa_nil)))) pa_nil)))
        (pss_cons (ps_if (PW.pt (pw_or (pt_cmpR op_ne (pe_fld (pv 5) rfl) (pv 3) (nomark _)) (pw_or (pt_cmpR (op_neD hr.units) (pe_fld (pv 5) rfl) (pe_callTy (call_tuple_ofK (K := K) rfl) rfl T.n_tuple (by decide +kernel) (pa_cons (pv 7) pa_nil)) (nomark _)) (pw_or1 (pt_not (pt_val (pe_callB (call_isiK' (K := K) rfl) rfl T.n_isinstance (by decide +kernel) (pa_cons (pe_fld (pv 5) rfl) (pa_cons (pe_bltn (v := V.ty "tuple") (u := .type "tuple") rfl T.n_tuple (by decide +kernel) rfl) pa_nil))))))))) (pss_one (ps_ret pe_bl)) pss_nil)
        (pss_cons (ps_if (PW.pt (pw_or (pt_not (pt_cmpR (op_eqB (C := T.C_Loom) G_Loom_eq T.eq_Loom T.fn_Loom_eq T.b_Loom_eq pass0 (hr.mono (by decide))) (pv 5) (pv 6) (nomark _))) (pw_or (pt_cmpR (op_neB (C := T.C_Loom) G_Loom_eq T.eq_Loom T.fn_Loom_eq T.ne_Loom T.im_Loom T.b_Loom_eq pass0 (hr.mono (by decide))) (pv 5) (pv 6) (nomark _)) (pw_or (pt_cmpR (op_eqB (C := T.C_Loom) G_Loom_eq T.eq_Loom T.fn_Loom_eq T.b_Loom_eq pass0 (hr.mono (by decide))) (pv 5) (pe_make T.M_Loom G_Loom_init (hr.mono (by decide)) rfl T.g_Loom T.b_Loom_init .nil passL (pa_cons (pv 3) (pa_cons (pv 4) pa_nil))) (nomark _)) (pw_or1 (pt_not (pt_cmpR (op_neB (C := T.C_Loom) G_Loom_eq T.eq_Loom T.fn_Loom_eq T.ne_Loom T.im_Loom T.b_Loom_eq pass0 (hr.mono (by decide))) (pv 5) (pe_make T.M_Loom G_Loom_init (hr.mono (by decide)) rfl T.g_Loom T.b_Loom_init .nil passL (pa_cons (pv 3) (pa_cons (pv 4) pa_nil))) (nomark _)))))))) (pss_one (ps_ret pe_bl)) pss_nil)
        (pss_cons (ps_if (PW.pt (pw_and (pt_cmpR (op_eqB (C := T.C_Loom) G_Loom_eq T.eq_Loom T.fn_Loom_eq T.b_Loom_eq pass0 (hr.mono (by decide))) (pv 5) (pe_make T.M_Loom G_Loom_init (hr.mono (by decide)) rfl T.g_Loom T.b_Loom_init .nil passL (pa_cons (pv 3) (pa_cons (pe_revL (pv 7)) pa_nil))) (nomark _)) (pw_and1 (pt_cmpR (op_neD hr.units) (pv 7) (pe_revL (pv 7)) (nomark _))))) (pss_one (ps_ret pe_bl)) pss_nil)
        (pss_cons (ps_if (PW.pt (pw_and (pt_cmpR op_lt (pe_callB call_len_str rfl T.n_len (by decide +kernel) (pa_cons (pv 3) pa_nil)) pe_int (nomark _)) (pw_and1 (pt_cmpR (op_eqB (C := T.C_Loom) G_Loom_eq T.eq_Loom T.fn_Loom_eq T.b_Loom_eq pass0 (hr.mono (by decide))) (pv 5) (pe_make T.M_Loom G_Loom_init (hr.mono (by decide)) rfl T.g_Loom T.b_Loom_init .nil passL (pa_cons (pe_join pe_str (pe_callB (cr_sortedT rfl) rfl T.n_sorted (by decide +kernel) (pa_cons (pe_op op_add_str (pv 3) pe_str) pa_nil))) (pa_cons (pv 7) pa_nil))) (nomark _))))) (pss_one (ps_ret pe_bl)) pss_nil)
        (pss_cons (ps_set (i := 8) sc_law.nd rfl (Or.inl rfl) (pe_lst (pa_cons pe_non (pa_cons pe_str (pa_cons pe_str (pa_cons pe_str (pa_cons pe_str (pa_cons pe_str (pa_cons pe_str (pa_cons pe_str (pa_cons pe_int (pa_cons pe_bl (pa_cons (pe_lst (pa_cons pe_str pa_nil)) (pa_cons (pe_tup (pa_cons pe_str pa_nil)) (pa_cons pe_dnewK (pa_cons pe_str (pa_cons pe_str (pa_cons (pv 5) pa_nil))))))))))))))))))
        (pss_cons (ps_for PassesOwn.never rfl (pi_list (pe_op op_cat (pv 8) (pe_lst (pa_cons (pe_disp (pps_cons pe_str pe_int pps_nil) rfl rfl (by simp) (by decide)) (pa_cons pe_str pa_nil))))) (pg_name (i := 9) sc_law.nd rfl (Or.inl rfl)) (pss_one (ps_if (pt_cmpR (op_neD hr.units) (pe_call G_l_told (hr.mono (by decide)) rfl T.m_l_told T.F_l_told.kp T.b_l_told .nil pass0 (pa_cons (pv 9) (pa_cons (pe_call G_l_wrong_arc (hr.mono (by decide)) rfl T.m_l_wrong_arc T.F_l_wrong_arc.kp T.b_l_wrong_arc .nil pass0 (pa_cons (pv 1) (pa_cons (pv 3) pa_nil))) pa_nil))) (pe_tup (pa_cons pe_str (pa_cons (pe_un un_neg pe_int) (pa_cons pe_bl pa_nil)))) (nomark _)) (pss_one (ps_ret pe_bl)) pss_nil)))
        (pss_cons (ps_set (i := 8) sc_law.nd rfl (Or.inl rfl) (pe_lst (pa_cons pe_non (pa_cons (pe_lst pa_nil) (pa_cons (pe_tup pa_nil) (pa_cons pe_int (pa_cons pe_str (pa_cons pe_dnewK (pa_cons pe_bl (pa_cons (pe_ix (ix_tupK (K := K) rfl) (pe_ix (ix_listK (K := K) rfl) (pv 7) pe_int (fun _ _ => rfl)) pe_int (fun _ _ => rfl)) (pa_cons (pv 5) (pa_cons (pe_disp (pps_cons pe_int (pe_ix (ix_listK (K := K) rfl) (pv 7) pe_int (fun _ _ => rfl)) pps_nil) rfl rfl (by simp) (by decide)) (pa_cons (pe_op op_rep (pe_lst (pa_cons (pe_ix (ix_listK (K := K) rfl) (pv 7) pe_int (fun _ _ => rfl)) pa_nil)) pe_int) (pa_cons (pe_op op_mul_str pe_str pe_int) pa_nil))))))))))))))
        (pss_cons (ps_for PassesOwn.never rfl (pi_list (pv 8)) (pg_name (i := 9) sc_law.nd rfl (Or.inl rfl)) (pss_one (ps_if (pt_cmpR (op_neD hr.units) (pe_call G_l_told (hr.mono (by decide)) rfl T.m_l_told T.F_l_told.kp T.b_l_told .nil pass0 (pa_cons (pv 3) (pa_cons (pv 9) pa_nil))) (pe_tup (pa_cons pe_str (pa_cons (pe_un un_neg pe_int) (pa_cons pe_bl pa_nil)))) (nomark _)) (pss_one (ps_ret pe_bl)) pss_nil)))
        (pss_cons (ps_set (i := 10) sc_law.nd rfl (Or.inl rfl) (pe_callTy (call_list_ofK (K := K) rfl) rfl T.n_list (by decide +kernel) (pa_cons (pv 7) pa_nil)))
        (pss_cons (ps_set (i := 11) sc_law.nd rfl (Or.inl rfl) (pe_call G_l_draw (hr.mono (by decide)) rfl T.m_l_draw T.F_l_draw.kp T.b_l_draw .nil pass0 (pa_cons (pv 1) (pa_cons (pe_op op_add (pe_callB (call_len_seqK (K := K) rfl) rfl T.n_len (by decide +kernel) (pa_cons (pv 10) pa_nil)) pe_int) pa_nil))))
        (pss_cons (ps_expr (pe_bm PySem.F.plainAttrs_list PySem.F.slot_list_insert PySem.F.type_list_insert mt_insert (pv 10) (pa_cons (pv 11) (pa_cons (pe_call G_l_wrong_arc (hr.mono (by decide)) rfl T.m_l_wrong_arc T.F_l_wrong_arc.kp T.b_l_wrong_arc .nil pass0 (pa_cons (pv 1) (pa_cons (pv 3) pa_nil))) pa_nil))))
        (pss_cons (ps_set (i := 12) sc_law.nd rfl (Or.inl rfl) (pe_call G_l_draw (hr.mono (by decide)) rfl T.m_l_draw T.F_l_draw.kp T.b_l_draw .nil pass0 (pa_cons (pv 1) (pa_cons (pe_op op_add (pe_callB (call_len_seqK (K := K) rfl) rfl T.n_len (by decide +kernel) (pa_cons (pv 10) pa_nil)) pe_int) pa_nil))))
        (pss_cons (ps_expr (pe_bm PySem.F.plainAttrs_list PySem.F.slot_list_insert PySem.F.type_list_insert mt_insert (pv 10) (pa_cons (pv 12) (pa_cons (pe_call G_l_wrong_arc (hr.mono (by decide)) rfl T.m_l_wrong_arc T.F_l_wrong_arc.kp T.b_l_wrong_arc .nil pass0 (pa_cons (pv 1) (pa_cons (pv 3) pa_nil))) pa_nil))))
        (pss_cons (ps_set (i := 13) sc_law.nd rfl (Or.inl rfl) (pe_ifExp (pt_cmpR op_le (pv 12) (pv 11) (nomark _)) (pv 12) (pv 11)))
        (pss_cons (ps_if (PW.pt (pw_or (pt_cmpR (op_neD hr.units) (pe_call G_l_told (hr.mono (by decide)) rfl T.m_l_told T.F_l_told.kp T.b_l_told .nil pass0 (pa_cons (pv 3) (pa_cons (pv 10) pa_nil))) (pe_tup (pa_cons pe_str (pa_cons (pv 13) (pa_cons pe_bl pa_nil)))) (nomark _)) (pw_or1 (pt_cmpR (op_neD hr.units) (pe_call G_l_told (hr.mono (by decide)) rfl T.m_l_told T.F_l_told.kp T.b_l_told .nil pass0 (pa_cons (pv 3) (pa_cons (pe_callTy (call_tuple_ofK (K := K) rfl) rfl T.n_tuple (by decide +kernel) (pa_cons (pv 10) pa_nil)) pa_nil))) (pe_tup (pa_cons pe_str (pa_cons (pv 13) (pa_cons pe_bl pa_nil)))) (nomark _))))) (pss_one (ps_ret pe_bl)) pss_nil)
        (pss_cons (ps_if (pt_cmpR (op_neD hr.units) (pe_call G_l_told (hr.mono (by decide)) rfl T.m_l_told T.F_l_told.kp T.b_l_told .nil pass0 (pa_cons (pv 3) (pa_cons (pe_lst (pa_cons (pv 5) pa_nil)) pa_nil))) (pe_tup (pa_cons pe_str (pa_cons pe_int (pa_cons pe_bl pa_nil)))) (nomark _)) (pss_one (ps_ret pe_bl)) pss_nil)
        (pss_cons (ps_set (i := 14) sc_law.nd rfl (Or.inl rfl) (pe_call G_l_told (hr.mono (by decide)) rfl T.m_l_told T.F_l_told.kp T.b_l_told .nil pass0 (pa_cons (pv 3) (pa_cons (pe_op op_rep (pe_lst (pa_cons (pe_tup (pa_cons pe_int (pa_cons (pe_op op_mul_str (pe_ix ix_str (pv 3) pe_int (fun _ _ => rfl)) pe_int) (pa_cons pe_int pa_nil)))) pa_nil)) pe_int) pa_nil))))
        (pss_one (ps_if (PW.pt (pw_or (pt_cmpR op_ne (pe_ix (ix_tupK (K := K) rfl) (pv 14) pe_int (fun _ _ => rfl)) pe_str (nomark _)) (pw_or1 (pt_cmpR op_ne (pe_callB (call_len_seqK (K := K) rfl) rfl T.n_len (by decide +kernel) (pa_cons (pe_fld (pe_ix (ix_tupK (K := K) rfl) (pv 14) pe_int (fun _ _ => rfl)) rfl) pa_nil)) pe_int (nomark _))))) (pss_one (ps_ret pe_bl)) pss_nil)))))))))))))))))))))))))
        (pss_one (ps_ret pe_bl)))), ?_⟩
    refine ⟨_, rfl, a, rfl, hS, fun H1 p l s1 hp hl st1 => ?_⟩
    refine ⟨4, rfl, by decide, by decide, for_range (lo := 0) (n := 4) (fun i σ H' => ∃ v2 v3 v4 v5 v6 v7 v8 v9 v10 v11 v12 v13 v14 : Option V, σ = [some (.ref a), some (.ref p), v2, v3, v4, v5, v6, v7, v8, v9, v10, v11, v12, v13, v14] ∧ StAt ns l H' p) ?_ ?_ ?_⟩
    · exact ⟨none, none, none, none, none, none, none, none, none, none, none, none, none, rfl, st1⟩
    · rintro i σ H2 hi ⟨v2, v3, v4, v5, v6, v7, v8, v9, v10, v11, v12, v13, v14, rfl, st2⟩
      refine ⟨_, rfl, p, l, rfl, st2, fun H3 q r sg us as x3 st hq hr0 htup hlst arc hok hsg => ?_⟩
      refine ⟨q, _, rfl, SqT.of htup, rfl, _, _, rfl, _, _, rfl, rfl, ?_⟩
      have nr := st2.ne hr0
      have nrp : r ≠ p := nr.1
      have hls := hsg.len
      have l1 := hok.1
      have l2 := hok.2.1
      have okA := hok.2.2.1
      have sB := hsg.sgB
      have sml := sml_of hsg okA
      have wl := wlen_of okA
      obtain ⟨c0, hc0⟩ : ∃ c0, sg[0]? = some c0 := ⟨sg[0], List.getElem?_eq_getElem (by omega)⟩
      have mc0 : c0 ∈ sg := List.mem_of_getElem? hc0
      have ini := init_good (us := us) sB l1 (by omega) okA
      refine ⟨_, rfl, _, rfl, fun b11 d11 hb11 hd11 hne11 => ?_⟩
      have t11 : Same H3 (upd (upd H3 d11 (.own b11)) b11 (.ins T.C_Loom d11 [])) := (Same.new _ hd11).trans (Same.new _ (by rw [upd_ne hne11.symm]; exact hb11))
      refine ⟨b11, d11, _, _, _, _, rfl, upd_same, .str sg (by omega), (at_good (K := K) (.inl hlst) arc wl (by omega)).same t11, .inl ⟨sg, us, _, rfl, rfl, ini, fun H11 T11 y11 hT11 hU11 gb11 => ⟨rfl, ?_⟩⟩⟩
      have s11 : Same H3 H11 := fun b o e => y11 _ _ (ne_of_none e hb11) (t11 _ _ e)
      replace st := st.same s11
      replace arc := arc.same s11
      replace hlst := s11 _ _ hlst
      have one : LoomG T.C_Loom H11 b11 sg us as := ⟨d11, T11, gb11, hU11, arc⟩
      refine ⟨_, rfl, _, rfl, r, us, rfl, .inl ⟨SqL.of hlst, fun a12 h12 => ?_⟩⟩
      have n12 := (st.ne h12).1
      have m12 : a12 ≠ r := hp_ne hlst h12
      have s12 : Same H11 (upd H11 a12 (HO.tup us)) := Same.new _ h12
      have g12 : upd H11 a12 (HO.tup us) a12 = some (HO.tup us) := upd_same
      generalize upd H11 a12 (HO.tup us) = H12 at *
      replace st := st.same s12
      replace arc := arc.same s12
      replace one := one.same s12
      replace hlst := s12 _ _ hlst
      refine ⟨rfl, rfl, fun b13 d13 hb13 hd13 hne13 => ?_⟩
      have t13 : Same H12 (upd (upd H12 d13 (.own b13)) b13 (.ins T.C_Loom d13 [])) := (Same.new _ hd13).trans (Same.new _ (by rw [upd_ne hne13.symm]; exact hb13))
      refine ⟨b13, d13, _, _, _, _, rfl, upd_same, .str sg (by omega), (at_good (K := K) (.inr g12) arc wl (by omega)).same t13, .inl ⟨sg, us, _, rfl, rfl, ini, fun H13 T13 y13 hT13 hU13 gb13 => ⟨rfl, ?_⟩⟩⟩
      have s13 : Same H12 H13 := fun b o e => y13 _ _ (ne_of_none e hb13) (t13 _ _ e)
      replace st := st.same s13
      replace arc := arc.same s13
      replace one := one.same s13
      replace hlst := s13 _ _ hlst
      replace g12 := s13 _ _ g12
      have two : LoomG T.C_Loom H13 b13 sg us as := ⟨d13, T13, gb13, hU13, arc⟩
      refine ⟨_, rfl, r, us, rfl, .inl (SqL.of hlst), fun a14 h14 => ?_⟩
      have n14 := (st.ne h14).1
      have m14 : a14 ≠ r := hp_ne hlst h14
      have s14 : Same H13 (upd H13 a14 (HO.lst us)) := Same.new _ h14
      have g14 : upd H13 a14 (HO.lst us) a14 = some (HO.lst us) := upd_same
      generalize upd H13 a14 (HO.lst us) = H14 at *
      replace st := st.same s14
      replace arc := arc.same s14
      replace one := one.same s14
      replace two := two.same s14
      replace hlst := s14 _ _ hlst
      replace g12 := s14 _ _ g12
      refine ⟨_, rfl, .inl ⟨rfl, _, SqL.of hlst⟩, _, rfl, _, _, c0, rfl, rfl, le_size (by rw [SX.S_len]; omega), (by show atI sg 0 = some c0; exact atI_nat hc0), le_size (by simp), fun a15 h15 => ?_⟩
      have n15 := (st.ne h15).1
      have m15 : a15 ≠ r := hp_ne hlst h15
      have s15 : Same H14 (upd H14 a15 (HO.tup [V.int 0, V.str ⟨#[c0]⟩, V.int 5])) := Same.new _ h15
      have g15 : upd H14 a15 (HO.tup [V.int 0, V.str ⟨#[c0]⟩, V.int 5]) a15 = some (HO.tup [V.int 0, V.str ⟨#[c0]⟩, V.int 5]) := upd_same
      generalize upd H14 a15 (HO.tup [V.int 0, V.str ⟨#[c0]⟩, V.int 5]) = H15 at *
      replace st := st.same s15
      replace arc := arc.same s15
      replace one := one.same s15
      replace two := two.same s15
      replace hlst := s15 _ _ hlst
      replace g12 := s15 _ _ g12
      replace g14 := s15 _ _ g14
      refine ⟨r, us, _, rfl, rfl, hlst, lt_size (by rw [arc.1]; omega), ?_⟩
      have xr : Ex r H15 (upd H15 r (HO.lst (us ++ [V.ref a15]))) := Ex.upd _
      have arc5 := arc.snoc (a := (0, [c0], 5)) g15
      replace arc5 := arc5.exl hlst xr
      replace arc := arc.exl hlst xr
      replace one := one.exl hlst xr
      replace two := two.exl hlst xr
      replace g14 := xr _ _ m14 g14
      replace st : StAt ns l (upd H15 r (HO.lst (us ++ [V.ref a15]))) p := st.upd nr
      have hr5 : upd H15 r (HO.lst (us ++ [V.ref a15])) r = some (HO.lst (us ++ [V.ref a15])) := upd_same
      clear hlst
      generalize upd H15 r (HO.lst (us ++ [V.ref a15])) = HA at *
      have okA5 : ∀ x ∈ as ++ [(0, [c0], 5)], OkArc sg x := fun x hx => by
        rcases List.mem_append.mp hx with h | h
        · exact okA x h
        · rw [List.mem_singleton.mp h]
          exact ⟨Nat.zero_le _, ⟨Nat.le_refl _, (by show 1 ≤ 12; decide), fun c hc => by rw [List.mem_singleton.mp hc]; exact mc0⟩, (by show 5 ≤ 63; decide)⟩
      have ne5 : as ≠ as ++ [(0, [c0], 5)] := fun z => by
        have := congrArg List.length z
        simp at this
      obtain ⟨d1, T1, e1, e1T, e1a⟩ := one
      have nb1 : b11 ≠ p := st.neI e1
      have nT1 : T1 ≠ p := st.neT e1T
      have one : LoomG T.C_Loom HA b11 sg us as := ⟨d1, T1, e1, e1T, e1a⟩
      refine ⟨_, rfl, b11, _, d1, _, _, rfl, e1, T.cl_Loom, T.na_Loom_signs, lf_signs _ _, _, rfl, rfl, false, congrArg V.bl (by simp), iteF ?_⟩
      refine ⟨_, rfl, b11, _, d1, _, _, rfl, e1, T.cl_Loom, T.na_Loom_arcs, lf_arcs _ _, _, rfl, a14, us, rfl, .inl ⟨SqL.of g14, fun a16 h16 => ?_⟩⟩
      have n16 := (st.ne h16).1
      have s16 : Same HA (upd HA a16 (HO.tup us)) := Same.new _ h16
      have g16 : upd HA a16 (HO.tup us) a16 = some (HO.tup us) := upd_same
      generalize upd HA a16 (HO.tup us) = H16 at *
      replace st := st.same s16
      replace arc := arc.same s16
      replace arc5 := arc5.same s16
      replace two := two.same s16
      replace e1a := e1a.same s16
      replace one := one.same s16
      replace hr5 := s16 _ _ hr5
      replace g14 := s16 _ _ g14
      replace e1 := s16 _ _ e1
      replace e1T := s16 _ _ e1T
      refine ne_same (.tup (SqT.of e1T) (dp_arcs e1a)) (.tup (SqT.of g16) (dp_arcs e1a)) (shaped_S sml).1 ⟨false, rfl, iteF ?_⟩
      refine ⟨_, rfl, b11, _, d1, _, _, rfl, e1, T.cl_Loom, T.na_Loom_arcs, lf_arcs _ _, _, _, _, _, true, rfl, .ty "tuple", .base (.tup e1T), kit_ty (by decide +kernel), true, rfl, iteF ?_⟩
      refine ⟨_, rfl, _, rfl, eq_looms one two sml sml (fun H17 s17 => ⟨true, congrArg V.bl (by simp), iteF ?_⟩)⟩
      replace st := st.same s17
      replace arc := arc.same s17
      replace arc5 := arc5.same s17
      replace two := two.same s17
      replace e1a := e1a.same s17
      replace one := one.same s17
      replace hr5 := s17 _ _ hr5
      replace g14 := s17 _ _ g14
      replace e1 := s17 _ _ e1
      replace e1T := s17 _ _ e1T
      replace g16 := s17 _ _ g16
      refine ⟨_, rfl, _, rfl, ne_looms one two sml sml (fun H18 s18 => ⟨false, congrArg V.bl (by simp), iteF ?_⟩)⟩
      replace st := st.same s18
      replace arc := arc.same s18
      replace arc5 := arc5.same s18
      replace two := two.same s18
      replace e1a := e1a.same s18
      replace one := one.same s18
      replace hr5 := s18 _ _ hr5
      replace g14 := s18 _ _ g14
      replace e1 := s18 _ _ e1
      replace e1T := s18 _ _ e1T
      replace g16 := s18 _ _ g16
      have ini5 := init_good (us := us ++ [V.ref a15]) sB (by simp) (by simp; omega) okA5
      have sml5 := sml_of hsg okA5
      refine ⟨_, rfl, _, rfl, _, rfl, fun b19 d19 hb19 hd19 hne19 => ?_⟩
      have t19 : Same H18 (upd (upd H18 d19 (.own b19)) b19 (.ins T.C_Loom d19 [])) := (Same.new _ hd19).trans (Same.new _ (by rw [upd_ne hne19.symm]; exact hb19))
      refine ⟨b19, d19, _, _, _, _, rfl, upd_same, .str sg (by omega), (at_good (K := K) (.inl hr5) arc5 (wlen_of okA5) (by simp; omega)).same t19, .inl ⟨sg, (us ++ [V.ref a15]), _, rfl, rfl, ini5, fun H19 T19 y19 hT19 hU19 gb19 => ⟨rfl, ?_⟩⟩⟩
      have s19 : Same H18 H19 := fun b o e => y19 _ _ (ne_of_none e hb19) (t19 _ _ e)
      replace st := st.same s19
      replace arc := arc.same s19
      replace arc5 := arc5.same s19
      replace two := two.same s19
      replace e1a := e1a.same s19
      replace one := one.same s19
      replace hr5 := s19 _ _ hr5
      replace g14 := s19 _ _ g14
      replace e1 := s19 _ _ e1
      replace e1T := s19 _ _ e1T
      replace g16 := s19 _ _ g16
      have thr : LoomG T.C_Loom H19 b19 sg (us ++ [V.ref a15]) (as ++ [(0, [c0], 5)]) := ⟨d19, T19, gb19, hU19, arc5⟩
      refine eq_looms one thr sml sml5 (fun H20 s20 => ⟨false, congrArg V.bl (by simp [ne5]), iteF ?_⟩)
      replace st := st.same s20
      replace arc := arc.same s20
      replace arc5 := arc5.same s20
      replace two := two.same s20
      replace e1a := e1a.same s20
      replace one := one.same s20
      replace thr := thr.same s20
      replace hr5 := s20 _ _ hr5
      replace g14 := s20 _ _ g14
      replace e1 := s20 _ _ e1
      replace e1T := s20 _ _ e1T
      replace g16 := s20 _ _ g16
      refine ⟨_, rfl, _, rfl, _, rfl, fun b21 d21 hb21 hd21 hne21 => ?_⟩
      have t21 : Same H20 (upd (upd H20 d21 (.own b21)) b21 (.ins T.C_Loom d21 [])) := (Same.new _ hd21).trans (Same.new _ (by rw [upd_ne hne21.symm]; exact hb21))
      refine ⟨b21, d21, _, _, _, _, rfl, upd_same, .str sg (by omega), (at_good (K := K) (.inl hr5) arc5 (wlen_of okA5) (by simp; omega)).same t21, .inl ⟨sg, (us ++ [V.ref a15]), _, rfl, rfl, ini5, fun H21 T21 y21 hT21 hU21 gb21 => ⟨rfl, ?_⟩⟩⟩
      have s21 : Same H20 H21 := fun b o e => y21 _ _ (ne_of_none e hb21) (t21 _ _ e)
      replace st := st.same s21
      replace arc := arc.same s21
      replace arc5 := arc5.same s21
      replace two := two.same s21
      replace e1a := e1a.same s21
      replace one := one.same s21
      replace thr := thr.same s21
      replace hr5 := s21 _ _ hr5
      replace g14 := s21 _ _ g14
      replace e1 := s21 _ _ e1
      replace e1T := s21 _ _ e1T
      replace g16 := s21 _ _ g16
      have fou : LoomG T.C_Loom H21 b21 sg (us ++ [V.ref a15]) (as ++ [(0, [c0], 5)]) := ⟨d21, T21, gb21, hU21, arc5⟩
      refine ne_looms one fou sml sml5 (fun H22 s22 => ⟨true, congrArg V.bl (by simp [ne5]), iteF ?_⟩)
      replace st := st.same s22
      replace arc := arc.same s22
      replace arc5 := arc5.same s22
      replace two := two.same s22
      replace e1a := e1a.same s22
      replace one := one.same s22
      replace thr := thr.same s22
      replace fou := fou.same s22
      replace hr5 := s22 _ _ hr5
      replace g14 := s22 _ _ g14
      replace e1 := s22 _ _ e1
      replace e1T := s22 _ _ e1T
      replace g16 := s22 _ _ g16
      have okR : ∀ x ∈ as.reverse, OkArc sg x := fun x hx => okA x (List.mem_reverse.mp hx)
      have smlR := sml_of hsg okR
      refine ⟨_, rfl, _, rfl, _, rfl, a14, us, rfl, SqL.of g14, fun a23 h23 => ?_⟩
      have n23 := (st.ne h23).1
      have s23 : Same H22 (upd H22 a23 (HO.lst us.reverse)) := Same.new _ h23
      have g23 : upd H22 a23 (HO.lst us.reverse) a23 = some (HO.lst us.reverse) := upd_same
      generalize upd H22 a23 (HO.lst us.reverse) = H23 at *
      replace st := st.same s23
      replace arc := arc.same s23
      replace two := two.same s23
      replace e1a := e1a.same s23
      replace one := one.same s23
      replace g14 := s23 _ _ g14
      replace e1 := s23 _ _ e1
      replace e1T := s23 _ _ e1T
      replace g16 := s23 _ _ g16
      have iniR := init_good (us := us.reverse) sB (by rw [List.length_reverse]; exact l1) (by rw [List.length_reverse]; omega) okR
      refine fun b24 d24 hb24 hd24 hne24 => ?_
      have t24 : Same H23 (upd (upd H23 d24 (.own b24)) b24 (.ins T.C_Loom d24 [])) := (Same.new _ hd24).trans (Same.new _ (by rw [upd_ne hne24.symm]; exact hb24))
      refine ⟨b24, d24, _, _, _, _, rfl, upd_same, .str sg (by omega), (at_good (K := K) (.inl g23) arc.rev (wlen_of okR) (by rw [List.length_reverse]; omega)).same t24, .inl ⟨sg, us.reverse, _, rfl, rfl, iniR, fun H24 T24 y24 hT24 hU24 gb24 => ⟨rfl, ?_⟩⟩⟩
      have s24 : Same H23 H24 := fun b o e => y24 _ _ (ne_of_none e hb24) (t24 _ _ e)
      replace st := st.same s24
      replace arc := arc.same s24
      replace two := two.same s24
      replace e1a := e1a.same s24
      replace one := one.same s24
      replace g14 := s24 _ _ g14
      replace e1 := s24 _ _ e1
      replace e1T := s24 _ _ e1T
      replace g16 := s24 _ _ g16
      replace g23 := s24 _ _ g23
      have rev : LoomG T.C_Loom H24 b24 sg us.reverse as.reverse := ⟨d24, T24, gb24, hU24, arc.rev⟩
      refine eq_looms one rev sml smlR (fun H25 s25 => ⟨_, rfl, ?_⟩)
      replace st := st.same s25
      replace arc := arc.same s25
      replace two := two.same s25
      replace e1a := e1a.same s25
      replace one := one.same s25
      replace rev := rev.same s25
      replace g14 := s25 _ _ g14
      replace e1 := s25 _ _ e1
      replace e1T := s25 _ _ e1T
      replace g16 := s25 _ _ g16
      replace g23 := s25 _ _ g23
      refine both (H := H25) ?_ (fun c rest => ?_) (fun _ rest => iteF (rest _ (Same.refl _)))
      rotate_left
      · have e : as = as.reverse := (of_decide_eq_true c).2
        refine ⟨_, rfl, _, rfl, a14, us, rfl, SqL.of g14, fun a26 h26 => ?_⟩
        have sR := Same.new (.lst us.reverse) h26
        have eR : upd H25 a26 (.lst us.reverse) a26 = some (.lst us.reverse) := upd_same
        generalize upd H25 a26 (.lst us.reverse) = HR at *
        have dR := dp_arcs (K := K) (arc.same sR).rev
        rw [← e] at dR
        exact ne_same (.lst (SqL.of (sR _ _ g14)) (dp_arcs (arc.same sR))) (.lst (SqL.of eR) dR) (shaped_S sml).2 ⟨false, rfl, iteF (rest _ sR)⟩
      intro H26 s26
      replace st := st.same s26
      replace arc := arc.same s26
      replace two := two.same s26
      replace e1a := e1a.same s26
      replace one := one.same s26
      replace rev := rev.same s26
      replace g14 := s26 _ _ g14
      replace e1 := s26 _ _ e1
      replace e1T := s26 _ _ e1T
      replace g16 := s26 _ _ g16
      replace g23 := s26 _ _ g23
      refine ⟨_, rfl, _, rfl, le_size (by rw [SX.S_len]; omega), _, _, rfl, rfl, _, rfl, ?_⟩
      refine both (H := H26) ?_ (fun c rest => ?_) (fun _ rest => iteF (rest _ (Same.refl _)))
      rotate_left
      · have hlt : sg.length < 4 := by
          have q := of_decide_eq_true c
          rw [SX.S_len] at q
          omega
        have eM : SX.S sg ++ ("m" : Str) = SX.S (sg ++ [109]) := SX.S_cat sg [109]
        refine ⟨_, rfl, ⟨_, rfl⟩, _, rfl, _, _, rfl, rfl, le_size (by rw [SX.S_len]; show sg.length + 1 ≤ _; omega), _, rfl, ?_⟩
        rw [eM]
        refine ⟨by simp; omega, fun ys aS hp hys hS => ?_⟩
        obtain ⟨v, rfl, hv, lv, sub⟩ := more_signs hsg hlt hp hys
        have n27 := (st.ne hS).1
        have s27 : Same H26 (upd H26 aS (.lst ((v.map one1).map V.str))) := Same.new _ hS
        have g27 : upd H26 aS (.lst ((v.map one1).map V.str)) aS = some (.lst ((v.map one1).map V.str)) := upd_same
        generalize upd H26 aS (.lst ((v.map one1).map V.str)) = H27 at *
        replace st := st.same s27
        replace arc := arc.same s27
        replace two := two.same s27
        replace e1a := e1a.same s27
        replace one := one.same s27
        replace g14 := s27 _ _ g14
        replace e1 := s27 _ _ e1
        replace e1T := s27 _ _ e1T
        replace g16 := s27 _ _ g16
        have S0 := s27
        refine ⟨_, _, _, rfl, rfl, .inl (SqL.of g27), by rw [sum_more, List.length_map, lv]; show sg.length + 1 + (sg.length + 1) * 0 ≤ _; omega, ?_⟩
        rw [join_more]
        have okV : ∀ x ∈ as, OkArc v x := fun x hx => (okA x hx).more sub
        have iniV := init_good (us := us) hv l1 (by omega) okV
        refine ⟨_, rfl, fun b28 d28 hb28 hd28 hne28 => ?_⟩
        have t28 : Same H27 (upd (upd H27 d28 (.own b28)) b28 (.ins T.C_Loom d28 [])) := (Same.new _ hd28).trans (Same.new _ (by rw [upd_ne hne28.symm]; exact hb28))
        refine ⟨b28, d28, _, _, _, _, rfl, upd_same, .str v (by omega), (at_good (K := K) (.inl g14) arc wl (by omega)).same t28, .inl ⟨v, us, _, rfl, rfl, iniV, fun H28 T28 y28 hT28 hU28 gb28 => ⟨rfl, ?_⟩⟩⟩
        have s28 : Same H27 H28 := fun b o e => y28 _ _ (ne_of_none e hb28) (t28 _ _ e)
        replace st := st.same s28
        replace arc := arc.same s28
        replace two := two.same s28
        replace e1a := e1a.same s28
        replace one := one.same s28
        replace g14 := s28 _ _ g14
        replace e1 := s28 _ _ e1
        replace e1T := s28 _ _ e1T
        replace g16 := s28 _ _ g16
        have lon : LoomG T.C_Loom H28 b28 v us as := ⟨d28, T28, gb28, hU28, arc⟩
        replace S0 := S0.trans s28
        have nv : sg ≠ v := fun z => by rw [← z] at lv; omega
        exact eq_looms one lon sml sml (fun H29 s29 => ⟨false, congrArg V.bl (by simp [nv]), iteF (rest _ (S0.trans s29))⟩)
      intro H30 s30
      replace st := st.same s30
      replace arc := arc.same s30
      replace two := two.same s30
      replace e1a := e1a.same s30
      replace one := one.same s30
      replace g14 := s30 _ _ g14
      replace e1 := s30 _ _ e1
      replace e1T := s30 _ _ e1T
      replace g16 := s30 _ _ g16
      refine ⟨le_size (by simp), fun a31 h31 => ?_⟩
      have n31 := (st.ne h31).1
      have s31 : Same H30 (upd H30 a31 (HO.lst [V.str "a"])) := Same.new _ h31
      have g31 : upd H30 a31 (HO.lst [V.str "a"]) a31 = some (HO.lst [V.str "a"]) := upd_same
      generalize upd H30 a31 (HO.lst [V.str "a"]) = H31 at *
      replace st := st.same s31
      replace arc := arc.same s31
      replace two := two.same s31
      replace e1a := e1a.same s31
      replace one := one.same s31
      replace g14 := s31 _ _ g14
      replace e1 := s31 _ _ e1
      replace e1T := s31 _ _ e1T
      replace g16 := s31 _ _ g16
      refine ⟨le_size (by simp), fun a32 h32 => ?_⟩
      have n32 := (st.ne h32).1
      have s32 : Same H31 (upd H31 a32 (HO.tup [V.str "a"])) := Same.new _ h32
      have g32 : upd H31 a32 (HO.tup [V.str "a"]) a32 = some (HO.tup [V.str "a"]) := upd_same
      generalize upd H31 a32 (HO.tup [V.str "a"]) = H32 at *
      replace st := st.same s32
      replace arc := arc.same s32
      replace two := two.same s32
      replace e1a := e1a.same s32
      replace one := one.same s32
      replace g14 := s32 _ _ g14
      replace e1 := s32 _ _ e1
      replace e1T := s32 _ _ e1T
      replace g16 := s32 _ _ g16
      replace g31 := s32 _ _ g31
      intro a33 h33
      have n33 := (st.ne h33).1
      have s33 : Same H32 (upd H32 a33 (HO.dK [])) := Same.new _ h33
      have g33 : upd H32 a33 (HO.dK []) a33 = some (HO.dK []) := upd_same
      generalize upd H32 a33 (HO.dK []) = H33 at *
      replace st := st.same s33
      replace arc := arc.same s33
      replace two := two.same s33
      replace e1a := e1a.same s33
      replace one := one.same s33
      replace g14 := s33 _ _ g14
      replace e1 := s33 _ _ e1
      replace e1T := s33 _ _ e1T
      replace g16 := s33 _ _ g16
      replace g31 := s33 _ _ g31
      replace g32 := s33 _ _ g32
      refine ⟨_, rfl, le_size (by simp), fun a34 h34 => ?_⟩
      have n34 := (st.ne h34).1
      have s34 : Same H33 (upd H33 a34 (HO.lst [V.non, V.str "", V.str "ba", V.str "aa", V.str "abcde", V.str "A", V.str "a1", V.str "a ", V.int 5, V.bl true, V.ref a31, V.ref a32, V.ref a33, V.str "zz", V.str "ab\n", V.ref b11])) := Same.new _ h34
      have g34 : upd H33 a34 (HO.lst [V.non, V.str "", V.str "ba", V.str "aa", V.str "abcde", V.str "A", V.str "a1", V.str "a ", V.int 5, V.bl true, V.ref a31, V.ref a32, V.ref a33, V.str "zz", V.str "ab\n", V.ref b11]) a34 = some (HO.lst [V.non, V.str "", V.str "ba", V.str "aa", V.str "abcde", V.str "A", V.str "a1", V.str "a ", V.int 5, V.bl true, V.ref a31, V.ref a32, V.ref a33, V.str "zz", V.str "ab\n", V.ref b11]) := upd_same
      generalize upd H33 a34 (HO.lst [V.non, V.str "", V.str "ba", V.str "aa", V.str "abcde", V.str "A", V.str "a1", V.str "a ", V.int 5, V.bl true, V.ref a31, V.ref a32, V.ref a33, V.str "zz", V.str "ab\n", V.ref b11]) = H34 at *
      replace st := st.same s34
      replace arc := arc.same s34
      replace two := two.same s34
      replace e1a := e1a.same s34
      replace one := one.same s34
      replace g14 := s34 _ _ g14
      replace e1 := s34 _ _ e1
      replace e1T := s34 _ _ e1T
      replace g16 := s34 _ _ g16
      replace g31 := s34 _ _ g31
      replace g32 := s34 _ _ g32
      replace g33 := s34 _ _ g33
      refine ⟨_, rfl, fun a35 h35 => ⟨upd_same, [(.inr "a", V.int 1)], rfl, by decide, ?_⟩⟩
      rw [upd_upd]
      have n35 := (st.ne h35).1
      have s35 : Same H34 (upd H34 a35 (HO.dK (mergeK [] [(Sum.inr "a", V.int 1)]))) := Same.new _ h35
      have g35 : upd H34 a35 (HO.dK (mergeK [] [(Sum.inr "a", V.int 1)])) a35 = some (HO.dK (mergeK [] [(Sum.inr "a", V.int 1)])) := upd_same
      generalize upd H34 a35 (HO.dK (mergeK [] [(Sum.inr "a", V.int 1)])) = H35 at *
      replace st := st.same s35
      replace arc := arc.same s35
      replace two := two.same s35
      replace e1a := e1a.same s35
      replace one := one.same s35
      replace g14 := s35 _ _ g14
      replace e1 := s35 _ _ e1
      replace e1T := s35 _ _ e1T
      replace g16 := s35 _ _ g16
      replace g31 := s35 _ _ g31
      replace g32 := s35 _ _ g32
      replace g33 := s35 _ _ g33
      replace g34 := s35 _ _ g34
      refine ⟨le_size (by simp), fun a36 h36 => ?_⟩
      have n36 := (st.ne h36).1
      have s36 : Same H35 (upd H35 a36 (HO.lst [V.ref a35, V.str "~"])) := Same.new _ h36
      have g36 : upd H35 a36 (HO.lst [V.ref a35, V.str "~"]) a36 = some (HO.lst [V.ref a35, V.str "~"]) := upd_same
      generalize upd H35 a36 (HO.lst [V.ref a35, V.str "~"]) = H36 at *
      replace st := st.same s36
      replace arc := arc.same s36
      replace two := two.same s36
      replace e1a := e1a.same s36
      replace one := one.same s36
      replace g14 := s36 _ _ g14
      replace e1 := s36 _ _ e1
      replace e1T := s36 _ _ e1T
      replace g16 := s36 _ _ g16
      replace g31 := s36 _ _ g31
      replace g32 := s36 _ _ g32
      replace g33 := s36 _ _ g33
      replace g34 := s36 _ _ g34
      replace g35 := s36 _ _ g35
      refine ⟨_, _, _, _, rfl, rfl, g34, g36, le_size (by simp), fun a37 h37 => ?_⟩
      have n37 := (st.ne h37).1
      have s37 : Same H36 (upd H36 a37 (HO.lst ([V.non, V.str "", V.str "ba", V.str "aa", V.str "abcde", V.str "A", V.str "a1", V.str "a ", V.int 5, V.bl true, V.ref a31, V.ref a32, V.ref a33, V.str "zz", V.str "ab\n", V.ref b11] ++ [V.ref a35, V.str "~"]))) := Same.new _ h37
      have g37 : upd H36 a37 (HO.lst ([V.non, V.str "", V.str "ba", V.str "aa", V.str "abcde", V.str "A", V.str "a1", V.str "a ", V.int 5, V.bl true, V.ref a31, V.ref a32, V.ref a33, V.str "zz", V.str "ab\n", V.ref b11] ++ [V.ref a35, V.str "~"])) a37 = some (HO.lst ([V.non, V.str "", V.str "ba", V.str "aa", V.str "abcde", V.str "A", V.str "a1", V.str "a ", V.int 5, V.bl true, V.ref a31, V.ref a32, V.ref a33, V.str "zz", V.str "ab\n", V.ref b11] ++ [V.ref a35, V.str "~"])) := upd_same
      generalize upd H36 a37 (HO.lst ([V.non, V.str "", V.str "ba", V.str "aa", V.str "abcde", V.str "A", V.str "a1", V.str "a ", V.int 5, V.bl true, V.ref a31, V.ref a32, V.ref a33, V.str "zz", V.str "ab\n", V.ref b11] ++ [V.ref a35, V.str "~"])) = H37 at *
      replace st := st.same s37
      replace arc := arc.same s37
      replace two := two.same s37
      replace e1a := e1a.same s37
      replace one := one.same s37
      replace g14 := s37 _ _ g14
      replace e1 := s37 _ _ e1
      replace e1T := s37 _ _ e1T
      replace g16 := s37 _ _ g16
      replace g31 := s37 _ _ g31
      replace g32 := s37 _ _ g32
      replace g33 := s37 _ _ g33
      replace g34 := s37 _ _ g34
      replace g35 := s37 _ _ g35
      replace g36 := s37 _ _ g36
      have all : All1 (NoSg K p H37) ([V.non, V.str "", V.str "ba", V.str "aa", V.str "abcde", V.str "A", V.str "a1", V.str "a ", V.int 5, V.bl true, V.ref a31, V.ref a32, V.ref a33, V.str "zz", V.str "ab\n", V.ref b11] ++ [V.ref a35, V.str "~"]) := (All1.cons (NoSg.non (fun _ _ => .x (.base .non)) (kit_ty (by decide +kernel))) (All1.cons (NoSg.strE [] (by first | rfl | decide +kernel) (by decide) (by decide)) (All1.cons (NoSg.strE [98, 97] (by first | rfl | decide +kernel) (by decide) (by decide)) (All1.cons (NoSg.strE [97, 97] (by first | rfl | decide +kernel) (by decide) (by decide)) (All1.cons (NoSg.strE [97, 98, 99, 100, 101] (by first | rfl | decide +kernel) (by decide) (by decide)) (All1.cons (NoSg.strE [65] (by first | rfl | decide +kernel) (by decide) (by decide)) (All1.cons (NoSg.strE [97, 49] (by first | rfl | decide +kernel) (by decide) (by decide)) (All1.cons (NoSg.strE [97, 32] (by first | rfl | decide +kernel) (by decide) (by decide)) (All1.cons (NoSg.non (fun _ _ => .x (.base (.int _))) (kit_ty (by decide +kernel))) (All1.cons (NoSg.non (fun _ _ => .x (.base (.bl _))) (kit_ty (by decide +kernel))) (All1.cons (NoSg.non (fun _ e => .x (.base (.lst (e _ _ n31 g31)))) (kit_ty (by decide +kernel))) (All1.cons (NoSg.non (fun _ e => .x (.base (.tup (e _ _ n32 g32)))) (kit_ty (by decide +kernel))) (All1.cons (NoSg.non (fun _ e => .x (.base (.dK (e _ _ n33 g33)))) (kit_ty (by decide +kernel))) (All1.cons (NoSg.strE [122, 122] (by first | rfl | decide +kernel) (by decide) (by decide)) (All1.cons (NoSg.strE [97, 98, 10] (by first | rfl | decide +kernel) (by decide) (by decide)) (All1.cons (NoSg.non (fun _ e => .x (.base (.ins (e _ _ nb1 e1) T.cl_Loom T.ic_Loom T.ig T.it T.im_Loom))) (kit_cls (by decide +kernel) T.sstr_Loom)) (All1.cons (NoSg.non (fun _ e => .x (.base (.dK (e _ _ n35 g35)))) (kit_ty (by decide +kernel))) (All1.cons (NoSg.strE [126] (by first | rfl | decide +kernel) (by decide) (by decide)) All1.nil))))))))))))))))))
      refine ⟨a37, rfl, ⟨_, SqL.of g37⟩, for_list (K := K) (a := a37) (xs := ([V.non, V.str "", V.str "ba", V.str "aa", V.str "abcde", V.str "A", V.str "a1", V.str "a ", V.int 5, V.bl true, V.ref a31, V.ref a32, V.ref a33, V.str "zz", V.str "ab\n", V.ref b11] ++ [V.ref a35, V.str "~"])) (fun _ σ H' => ∃ v9 : Option V, σ = [some (.ref a), some (.ref p), some (.int (0 + (i : Int))), some (.str (SX.S sg)), some (.ref r), some (.ref b11), some (.ref b13), some (.ref a14), some (.ref a34), v9, v10, v11, v12, v13, v14] ∧ StAt ns l H' p ∧ Ex p H37 H') ?_ ?_ ?_ ?_⟩
      · exact ⟨_, rfl, st, Ex.refl _ _⟩
      · rintro _ σ H' _ ⟨_, _, _, x⟩
        exact SqL.of (x _ _ n37 g37)
      · rintro j x σ HI hx ⟨v9, rfl, stI, xI⟩
        obtain ⟨u, hu, hw⟩ := all x (List.mem_of_getElem? hx)
        refine ⟨_, rfl, _, rfl, _, rfl, p, l, sg, rfl, hsg, stI, fun HJ w xw stJ hwr => ?_⟩
        have xJ := xI.trans xw
        obtain ⟨_, e, he⟩ := hwr
        refine ⟨_, w, u, e, rfl, hw _ xJ, he _ (fun b o _ h => h), .inl ⟨"signs", -1, init_sg hu, fun HR r2 sJ hr2 hR2 => ?_⟩⟩
        refine ⟨_, rfl, le_size (by simp), fun t ht => ?_⟩
        have sT := Same.new (.tup [V.str "signs", V.int (-1), V.bl true]) ht
        refine ne_same (dp_three (sT _ _ hR2)) (dp_three upd_same) (sh_three (by decide +kernel)) ⟨false, rfl, iteF ?_⟩
        exact ⟨_, rfl, (stJ.same sJ).same sT, (xJ.trans (Same.ex sJ)).trans (Same.ex sT)⟩
      rintro σ H38 ⟨v9, rfl, st38, x38⟩
      clear all
      replace arc := arc.st st x38
      replace two := two.st st x38
      replace e1a := e1a.st st x38
      replace one := one.st st x38
      replace g14 := x38 _ _ n14 g14
      replace e1 := x38 _ _ nb1 e1
      replace e1T := x38 _ _ nT1 e1T
      replace g16 := x38 _ _ n16 g16
      replace g31 := x38 _ _ n31 g31
      replace g32 := x38 _ _ n32 g32
      replace g33 := x38 _ _ n33 g33
      replace g34 := x38 _ _ n34 g34
      replace g35 := x38 _ _ n35 g35
      replace g36 := x38 _ _ n36 g36
      replace g37 := x38 _ _ n37 g37
      replace st := st38
      obtain ⟨a0, ha0⟩ : ∃ a0, as[0]? = some a0 := ⟨as[0], List.getElem?_eq_getElem (by omega)⟩
      have ma0 : a0 ∈ as := List.mem_of_getElem? ha0
      obtain ⟨t0, hu0, ht0⟩ := arc.2 0 a0 ha0
      have hat0 : atI us 0 = some (V.ref t0) := atI_nat hu0
      have n0 : t0 ≠ p := st.neT ht0
      refine ⟨le_size (by simp), fun a39 h39 => ?_⟩
      have n39 := (st.ne h39).1
      have s39 : Same H38 (upd H38 a39 (HO.lst [])) := Same.new _ h39
      have g39 : upd H38 a39 (HO.lst []) a39 = some (HO.lst []) := upd_same
      generalize upd H38 a39 (HO.lst []) = H39 at *
      replace st := st.same s39
      replace arc := arc.same s39
      replace two := two.same s39
      replace e1a := e1a.same s39
      replace one := one.same s39
      replace g14 := s39 _ _ g14
      replace e1 := s39 _ _ e1
      replace e1T := s39 _ _ e1T
      replace g16 := s39 _ _ g16
      replace g31 := s39 _ _ g31
      replace g32 := s39 _ _ g32
      replace g33 := s39 _ _ g33
      replace g34 := s39 _ _ g34
      replace g35 := s39 _ _ g35
      replace g36 := s39 _ _ g36
      replace g37 := s39 _ _ g37
      replace ht0 := s39 _ _ ht0
      refine ⟨le_size (by simp), fun a40 h40 => ?_⟩
      have n40 := (st.ne h40).1
      have s40 : Same H39 (upd H39 a40 (HO.tup [])) := Same.new _ h40
      have g40 : upd H39 a40 (HO.tup []) a40 = some (HO.tup []) := upd_same
      generalize upd H39 a40 (HO.tup []) = H40 at *
      replace st := st.same s40
      replace arc := arc.same s40
      replace two := two.same s40
      replace e1a := e1a.same s40
      replace one := one.same s40
      replace g14 := s40 _ _ g14
      replace e1 := s40 _ _ e1
      replace e1T := s40 _ _ e1T
      replace g16 := s40 _ _ g16
      replace g31 := s40 _ _ g31
      replace g32 := s40 _ _ g32
      replace g33 := s40 _ _ g33
      replace g34 := s40 _ _ g34
      replace g35 := s40 _ _ g35
      replace g36 := s40 _ _ g36
      replace g37 := s40 _ _ g37
      replace ht0 := s40 _ _ ht0
      replace g39 := s40 _ _ g39
      intro a41 h41
      have n41 := (st.ne h41).1
      have s41 : Same H40 (upd H40 a41 (HO.dK [])) := Same.new _ h41
      have g41 : upd H40 a41 (HO.dK []) a41 = some (HO.dK []) := upd_same
      generalize upd H40 a41 (HO.dK []) = H41 at *
      replace st := st.same s41
      replace arc := arc.same s41
      replace two := two.same s41
      replace e1a := e1a.same s41
      replace one := one.same s41
      replace g14 := s41 _ _ g14
      replace e1 := s41 _ _ e1
      replace e1T := s41 _ _ e1T
      replace g16 := s41 _ _ g16
      replace g31 := s41 _ _ g31
      replace g32 := s41 _ _ g32
      replace g33 := s41 _ _ g33
      replace g34 := s41 _ _ g34
      replace g35 := s41 _ _ g35
      replace g36 := s41 _ _ g36
      replace g37 := s41 _ _ g37
      replace ht0 := s41 _ _ ht0
      replace g39 := s41 _ _ g39
      replace g40 := s41 _ _ g40
      refine ⟨_, rfl, a14, us, _, _, rfl, rfl, SqL.of g14, hat0, t0, _, _, _, rfl, rfl, SqT.of ht0, rfl, _, rfl, fun a42 h42 => ⟨_, rfl, a14, us, _, _, rfl, rfl, SqL.of ((Same.new _ h42) _ _ g14), hat0, upd_same, [(.inl 0, V.ref t0)], rfl, by simp, ?_⟩⟩
      rw [upd_upd]
      have n42 := (st.ne h42).1
      have s42 : Same H41 (upd H41 a42 (HO.dK (mergeK [] [(Sum.inl 0, V.ref t0)]))) := Same.new _ h42
      have g42 : upd H41 a42 (HO.dK (mergeK [] [(Sum.inl 0, V.ref t0)])) a42 = some (HO.dK (mergeK [] [(Sum.inl 0, V.ref t0)])) := upd_same
      generalize upd H41 a42 (HO.dK (mergeK [] [(Sum.inl 0, V.ref t0)])) = H42 at *
      replace st := st.same s42
      replace arc := arc.same s42
      replace two := two.same s42
      replace e1a := e1a.same s42
      replace one := one.same s42
      replace g14 := s42 _ _ g14
      replace e1 := s42 _ _ e1
      replace e1T := s42 _ _ e1T
      replace g16 := s42 _ _ g16
      replace g31 := s42 _ _ g31
      replace g32 := s42 _ _ g32
      replace g33 := s42 _ _ g33
      replace g34 := s42 _ _ g34
      replace g35 := s42 _ _ g35
      replace g36 := s42 _ _ g36
      replace g37 := s42 _ _ g37
      replace ht0 := s42 _ _ ht0
      replace g39 := s42 _ _ g39
      replace g40 := s42 _ _ g40
      replace g41 := s42 _ _ g41
      refine ⟨_, rfl, a14, us, _, _, rfl, rfl, SqL.of g14, hat0, le_size (by simp), fun a43 h43 => ?_⟩
      have n43 := (st.ne h43).1
      have s43 : Same H42 (upd H42 a43 (HO.lst [V.ref t0])) := Same.new _ h43
      have g43 : upd H42 a43 (HO.lst [V.ref t0]) a43 = some (HO.lst [V.ref t0]) := upd_same
      generalize upd H42 a43 (HO.lst [V.ref t0]) = H43 at *
      replace st := st.same s43
      replace arc := arc.same s43
      replace two := two.same s43
      replace e1a := e1a.same s43
      replace one := one.same s43
      replace g14 := s43 _ _ g14
      replace e1 := s43 _ _ e1
      replace e1T := s43 _ _ e1T
      replace g16 := s43 _ _ g16
      replace g31 := s43 _ _ g31
      replace g32 := s43 _ _ g32
      replace g33 := s43 _ _ g33
      replace g34 := s43 _ _ g34
      replace g35 := s43 _ _ g35
      replace g36 := s43 _ _ g36
      replace g37 := s43 _ _ g37
      replace ht0 := s43 _ _ ht0
      replace g39 := s43 _ _ g39
      replace g40 := s43 _ _ g40
      replace g41 := s43 _ _ g41
      replace g42 := s43 _ _ g42
      refine ⟨_, 201, _, rfl, rfl, g43, by decide, by decide, le_size (by simp), fun a44 h44 => ?_⟩
      rw [flat_rep]
      have n44 := (st.ne h44).1
      have s44 : Same H43 (upd H43 a44 (HO.lst (List.replicate (Int.toNat 201) (V.ref t0)))) := Same.new _ h44
      have g44 : upd H43 a44 (HO.lst (List.replicate (Int.toNat 201) (V.ref t0))) a44 = some (HO.lst (List.replicate (Int.toNat 201) (V.ref t0))) := upd_same
      generalize upd H43 a44 (HO.lst (List.replicate (Int.toNat 201) (V.ref t0))) = H44 at *
      replace st := st.same s44
      replace arc := arc.same s44
      replace two := two.same s44
      replace e1a := e1a.same s44
      replace one := one.same s44
      replace g14 := s44 _ _ g14
      replace e1 := s44 _ _ e1
      replace e1T := s44 _ _ e1T
      replace g16 := s44 _ _ g16
      replace g31 := s44 _ _ g31
      replace g32 := s44 _ _ g32
      replace g33 := s44 _ _ g33
      replace g34 := s44 _ _ g34
      replace g35 := s44 _ _ g35
      replace g36 := s44 _ _ g36
      replace g37 := s44 _ _ g37
      replace ht0 := s44 _ _ ht0
      replace g39 := s44 _ _ g39
      replace g40 := s44 _ _ g40
      replace g41 := s44 _ _ g41
      replace g42 := s44 _ _ g42
      replace g43 := s44 _ _ g43
      refine ⟨_, _, rfl, rfl, by decide, by decide, by decide, le_size (by simp), fun a45 h45 => ?_⟩
      have n45 := (st.ne h45).1
      have s45 : Same H44 (upd H44 a45 (HO.lst [V.non, V.ref a39, V.ref a40, V.int 5, V.str "ab", V.ref a41, V.bl true, V.str (SX.S a0.2.1), V.ref b11, V.ref a42, V.ref a44, V.str (Txt.mul "a" 300)])) := Same.new _ h45
      have g45 : upd H44 a45 (HO.lst [V.non, V.ref a39, V.ref a40, V.int 5, V.str "ab", V.ref a41, V.bl true, V.str (SX.S a0.2.1), V.ref b11, V.ref a42, V.ref a44, V.str (Txt.mul "a" 300)]) a45 = some (HO.lst [V.non, V.ref a39, V.ref a40, V.int 5, V.str "ab", V.ref a41, V.bl true, V.str (SX.S a0.2.1), V.ref b11, V.ref a42, V.ref a44, V.str (Txt.mul "a" 300)]) := upd_same
      generalize upd H44 a45 (HO.lst [V.non, V.ref a39, V.ref a40, V.int 5, V.str "ab", V.ref a41, V.bl true, V.str (SX.S a0.2.1), V.ref b11, V.ref a42, V.ref a44, V.str (Txt.mul "a" 300)]) = H45 at *
      replace st := st.same s45
      replace arc := arc.same s45
      replace two := two.same s45
      replace e1a := e1a.same s45
      replace one := one.same s45
      replace g14 := s45 _ _ g14
      replace e1 := s45 _ _ e1
      replace e1T := s45 _ _ e1T
      replace g16 := s45 _ _ g16
      replace g31 := s45 _ _ g31
      replace g32 := s45 _ _ g32
      replace g33 := s45 _ _ g33
      replace g34 := s45 _ _ g34
      replace g35 := s45 _ _ g35
      replace g36 := s45 _ _ g36
      replace g37 := s45 _ _ g37
      replace ht0 := s45 _ _ ht0
      replace g39 := s45 _ _ g39
      replace g40 := s45 _ _ g40
      replace g41 := s45 _ _ g41
      replace g42 := s45 _ _ g42
      replace g43 := s45 _ _ g43
      replace g44 := s45 _ _ g44
      have all : All1 (NoAr K p H45 sg) [V.non, V.ref a39, V.ref a40, V.int 5, V.str "ab", V.ref a41, V.bl true, V.str (SX.S a0.2.1), V.ref b11, V.ref a42, V.ref a44, V.str (Txt.mul "a" 300)] := (All1.cons (NoAr.non sB (fun _ e => .x (.base .non)) (kit_no (kit_ty (by decide +kernel)) (kit_ty (by decide +kernel)))) (All1.cons (NoAr.none sB (fun _ e => .inl (e _ _ n39 g39))) (All1.cons (NoAr.none sB (fun _ e => .inr (e _ _ n40 g40))) (All1.cons (NoAr.non sB (fun _ e => .x (.base (.int _))) (kit_no (kit_ty (by decide +kernel)) (kit_ty (by decide +kernel)))) (All1.cons (NoAr.non sB (fun _ e => .x (.base (.str _))) (kit_no (kit_ty (by decide +kernel)) (kit_ty (by decide +kernel)))) (All1.cons (NoAr.non sB (fun _ e => .x (.base (.dK (e _ _ n41 g41)))) (kit_no (kit_ty (by decide +kernel)) (kit_ty (by decide +kernel)))) (All1.cons (NoAr.non sB (fun _ e => .x (.base (.bl _))) (kit_no (kit_ty (by decide +kernel)) (kit_ty (by decide +kernel)))) (All1.cons (NoAr.non sB (fun _ e => .x (.base (.str _))) (kit_no (kit_ty (by decide +kernel)) (kit_ty (by decide +kernel)))) (All1.cons (NoAr.non sB (fun _ e => .x (.base (.ins (e _ _ nb1 e1) T.cl_Loom T.ic_Loom T.ig T.it T.im_Loom))) (kit_no (kit_cls (by decide +kernel) T.sl_Loom) (kit_cls (by decide +kernel) T.st_Loom))) (All1.cons (NoAr.non sB (fun _ e => .x (.base (.dK (e _ _ n42 g42)))) (kit_no (kit_ty (by decide +kernel)) (kit_ty (by decide +kernel)))) (All1.cons (NoAr.many sB st g44 n44 ht0 (wl a0 ma0)) (All1.cons (NoAr.non sB (fun _ e => .x (.base (.str _))) (kit_no (kit_ty (by decide +kernel)) (kit_ty (by decide +kernel)))) All1.nil))))))))))))
      refine ⟨_, rfl, a45, rfl, ⟨_, SqL.of g45⟩, for_list (K := K) (a := a45) (xs := [V.non, V.ref a39, V.ref a40, V.int 5, V.str "ab", V.ref a41, V.bl true, V.str (SX.S a0.2.1), V.ref b11, V.ref a42, V.ref a44, V.str (Txt.mul "a" 300)]) (fun _ σ H' => ∃ v9 : Option V, σ = [some (.ref a), some (.ref p), some (.int (0 + (i : Int))), some (.str (SX.S sg)), some (.ref r), some (.ref b11), some (.ref b13), some (.ref a14), some (.ref a45), v9, v10, v11, v12, v13, v14] ∧ StAt ns l H' p ∧ Ex p H45 H') ?_ ?_ ?_ ?_⟩
      · exact ⟨_, rfl, st, Ex.refl _ _⟩
      · rintro _ σ H' _ ⟨_, _, _, x⟩
        exact SqL.of (x _ _ n45 g45)
      · rintro j x σ HI hx ⟨v9, rfl, stI, xI⟩
        obtain ⟨u, hu, hw⟩ := all x (List.mem_of_getElem? hx)
        have xJ := xI
        have stJ := stI
        refine ⟨_, rfl, _, rfl, _, x, some sg, u, rfl, .str sg (by omega), hw _ xJ, .inl ⟨"arcs", -1, hu, fun HR r2 sJ hr2 hR2 => ?_⟩⟩
        refine ⟨_, rfl, le_size (by simp), fun t ht => ?_⟩
        have sT := Same.new (.tup [V.str "arcs", V.int (-1), V.bl true]) ht
        refine ne_same (dp_three (sT _ _ hR2)) (dp_three upd_same) (sh_three (by decide +kernel)) ⟨false, rfl, iteF ?_⟩
        exact ⟨_, rfl, (stJ.same sJ).same sT, (xJ.trans (Same.ex sJ)).trans (Same.ex sT)⟩
      rintro σ H46 ⟨v9, rfl, st46, x46⟩
      clear all
      replace arc := arc.st st x46
      replace two := two.st st x46
      replace e1a := e1a.st st x46
      replace one := one.st st x46
      replace g14 := x46 _ _ n14 g14
      replace e1 := x46 _ _ nb1 e1
      replace e1T := x46 _ _ nT1 e1T
      replace g16 := x46 _ _ n16 g16
      replace g31 := x46 _ _ n31 g31
      replace g32 := x46 _ _ n32 g32
      replace g33 := x46 _ _ n33 g33
      replace g34 := x46 _ _ n34 g34
      replace g35 := x46 _ _ n35 g35
      replace g36 := x46 _ _ n36 g36
      replace g37 := x46 _ _ n37 g37
      replace ht0 := x46 _ _ n0 ht0
      replace g39 := x46 _ _ n39 g39
      replace g40 := x46 _ _ n40 g40
      replace g41 := x46 _ _ n41 g41
      replace g42 := x46 _ _ n42 g42
      replace g43 := x46 _ _ n43 g43
      replace g44 := x46 _ _ n44 g44
      replace g45 := x46 _ _ n45 g45
      replace st := st46
      refine ⟨_, rfl, a14, us, rfl, .inl (SqL.of g14), fun a47 h47 => ?_⟩
      have nS := st.ne h47
      have n47 := (st.ne h47).1
      have s47 : Same H46 (upd H46 a47 (HO.lst us)) := Same.new _ h47
      have g47 : upd H46 a47 (HO.lst us) a47 = some (HO.lst us) := upd_same
      generalize upd H46 a47 (HO.lst us) = H47 at *
      replace st := st.same s47
      replace arc := arc.same s47
      replace e1a := e1a.same s47
      replace one := one.same s47
      replace g14 := s47 _ _ g14
      replace e1 := s47 _ _ e1
      replace e1T := s47 _ _ e1T
      replace g16 := s47 _ _ g16
      replace g31 := s47 _ _ g31
      replace g32 := s47 _ _ g32
      replace g33 := s47 _ _ g33
      replace g34 := s47 _ _ g34
      replace g35 := s47 _ _ g35
      replace g36 := s47 _ _ g36
      replace g37 := s47 _ _ g37
      replace ht0 := s47 _ _ ht0
      replace g39 := s47 _ _ g39
      replace g40 := s47 _ _ g40
      replace g41 := s47 _ _ g41
      replace g42 := s47 _ _ g42
      replace g43 := s47 _ _ g43
      replace g44 := s47 _ _ g44
      replace g45 := s47 _ _ g45
      have lu := arc.1
      refine ⟨_, rfl, _, rfl, a47, _, rfl, .inl (SqL.of g47), _, _, rfl, rfl, p, l, _, rfl, st, by omega, by rw [lu]; omega, fun H48 f1 x48 st48 f1z f1l => ?_⟩
      rw [lu] at f1l
      replace arc := arc.st st x48
      replace e1a := e1a.st st x48
      replace one := one.st st x48
      replace e1 := x48 _ _ nb1 e1
      replace e1T := x48 _ _ nT1 e1T
      replace ht0 := x48 _ _ n0 ht0
      replace g47 := x48 _ _ n47 g47
      replace st := st48
      have hpnw1 := st.there.1
      have hsnw1 : ∃ o, H48 a47 = some o := ⟨_, g47⟩
      refine ⟨_, rfl, .inl ⟨rfl, _, SqL.of g47⟩, _, rfl, _, rfl, _, rfl, p, l, sg, rfl, hsg, st, fun H49 w1 x49 st49 hw1 => ?_⟩
      obtain ⟨⟨t1, ht1, hw1⟩, _⟩ := hw1
      have nw1 : Nw H48 H49 H49 := fun b o _ h => h
      replace arc := arc.st st x49
      replace e1a := e1a.st st x49
      replace one := one.st st x49
      replace e1 := x49 _ _ nb1 e1
      replace e1T := x49 _ _ nT1 e1T
      replace ht0 := x49 _ _ n0 ht0
      replace g47 := x49 _ _ n47 g47
      replace st := st49
      refine ⟨a47, _, f1, w1, rfl, rfl, g47, lt_size (by rw [lu]; omega), f1z, by omega, ?_⟩
      have xs : Ex a47 H49 (upd H49 a47 (.lst ((us).take f1.toNat ++ [w1] ++ (us).drop f1.toNat))) := Ex.upd _
      have ne1 : b11 ≠ a47 := fun z => by rw [z, g47] at e1; cases e1
      have neT : T1 ≠ a47 := fun z => by rw [z, g47] at e1T; cases e1T
      have ne0 : t0 ≠ a47 := fun z => by rw [z, g47] at ht0; cases ht0
      replace e1 := xs _ _ ne1 e1
      replace e1T := xs _ _ neT e1T
      replace ht0 := xs _ _ ne0 ht0
      replace one := one.exl g47 xs
      replace e1a := e1a.exl g47 xs
      replace arc := arc.exl g47 xs
      replace nw1 := nw1.exn xs hsnw1
      replace st : StAt ns l (upd H49 a47 (.lst ((us).take f1.toNat ++ [w1] ++ (us).drop f1.toNat))) p := st.upd nS
      replace g47 : upd H49 a47 (.lst ((us).take f1.toNat ++ [w1] ++ (us).drop f1.toNat)) a47 = some (.lst ((us).take f1.toNat ++ [w1] ++ (us).drop f1.toNat)) := upd_same
      clear xs
      generalize upd H49 a47 (.lst ((us).take f1.toNat ++ [w1] ++ (us).drop f1.toNat)) = H50 at *
      have lx1 := ins_len us w1 (n := f1.toNat) (by rw [lu]; omega)
      rw [lu] at lx1
      refine ⟨_, rfl, _, rfl, a47, _, rfl, .inl (SqL.of g47), _, _, rfl, rfl, p, l, _, rfl, st, by omega, by rw [lx1]; omega, fun H51 f2 x51 st51 f2z f2l => ?_⟩
      rw [lx1] at f2l
      replace arc := arc.st st x51
      replace e1a := e1a.st st x51
      replace one := one.st st x51
      replace nw1 := nw1.exn x51 hpnw1
      replace e1 := x51 _ _ nb1 e1
      replace e1T := x51 _ _ nT1 e1T
      replace ht0 := x51 _ _ n0 ht0
      replace g47 := x51 _ _ n47 g47
      replace st := st51
      have hpnw2 := st.there.1
      have hsnw2 : ∃ o, H51 a47 = some o := ⟨_, g47⟩
      refine ⟨_, rfl, .inl ⟨rfl, _, SqL.of g47⟩, _, rfl, _, rfl, _, rfl, p, l, sg, rfl, hsg, st, fun H52 w2 x52 st52 hw2 => ?_⟩
      obtain ⟨⟨t2, ht2, hw2⟩, _⟩ := hw2
      have nw2 : Nw H51 H52 H52 := fun b o _ h => h
      replace arc := arc.st st x52
      replace e1a := e1a.st st x52
      replace one := one.st st x52
      replace nw1 := nw1.exn x52 hpnw1
      replace e1 := x52 _ _ nb1 e1
      replace e1T := x52 _ _ nT1 e1T
      replace ht0 := x52 _ _ n0 ht0
      replace g47 := x52 _ _ n47 g47
      replace st := st52
      refine ⟨a47, _, f2, w2, rfl, rfl, g47, lt_size (by rw [lx1]; omega), f2z, by omega, ?_⟩
      have xs : Ex a47 H52 (upd H52 a47 (.lst ((((us).take f1.toNat ++ [w1] ++ (us).drop f1.toNat)).take f2.toNat ++ [w2] ++ (((us).take f1.toNat ++ [w1] ++ (us).drop f1.toNat)).drop f2.toNat))) := Ex.upd _
      have ne1 : b11 ≠ a47 := fun z => by rw [z, g47] at e1; cases e1
      have neT : T1 ≠ a47 := fun z => by rw [z, g47] at e1T; cases e1T
      have ne0 : t0 ≠ a47 := fun z => by rw [z, g47] at ht0; cases ht0
      replace e1 := xs _ _ ne1 e1
      replace e1T := xs _ _ neT e1T
      replace ht0 := xs _ _ ne0 ht0
      replace one := one.exl g47 xs
      replace e1a := e1a.exl g47 xs
      replace arc := arc.exl g47 xs
      replace nw1 := nw1.exn xs hsnw1
      replace nw2 := nw2.exn xs hsnw2
      replace st : StAt ns l (upd H52 a47 (.lst ((((us).take f1.toNat ++ [w1] ++ (us).drop f1.toNat)).take f2.toNat ++ [w2] ++ (((us).take f1.toNat ++ [w1] ++ (us).drop f1.toNat)).drop f2.toNat))) p := st.upd nS
      replace g47 : upd H52 a47 (.lst ((((us).take f1.toNat ++ [w1] ++ (us).drop f1.toNat)).take f2.toNat ++ [w2] ++ (((us).take f1.toNat ++ [w1] ++ (us).drop f1.toNat)).drop f2.toNat)) a47 = some (.lst ((((us).take f1.toNat ++ [w1] ++ (us).drop f1.toNat)).take f2.toNat ++ [w2] ++ (((us).take f1.toNat ++ [w1] ++ (us).drop f1.toNat)).drop f2.toNat)) := upd_same
      clear xs
      generalize upd H52 a47 (.lst ((((us).take f1.toNat ++ [w1] ++ (us).drop f1.toNat)).take f2.toNat ++ [w2] ++ (((us).take f1.toNat ++ [w1] ++ (us).drop f1.toNat)).drop f2.toNat)) = H53 at *
      have lx2 := ins_len (us.take f1.toNat ++ [w1] ++ us.drop f1.toNat) w2 (n := f2.toNat) (by rw [lx1]; omega)
      rw [lx1] at lx2
      refine ⟨_, rfl, _, rfl, _, _, rfl, rfl, _, rfl, ite_val rfl rfl ?_⟩
      rw [due_nat f1z f2z]
      generalize hdue : ((if f2.toNat ≤ f1.toNat then f2.toNat else f1.toNat : Nat) : Int) = due
      have goodD : ∀ d ∈ as.map arcT, arcB sg d = true := fun d hd => by
        obtain ⟨x, hx, rfl⟩ := List.mem_map.mp hd
        exact arcB_good (okA x hx)
      have ld0 : (as.map arcT).length = as.length := List.length_map _
      have ld1 : ((as.map arcT).take f1.toNat ++ [t1] ++ (as.map arcT).drop f1.toNat).length = as.length + 1 := by rw [ins_len _ _ (by rw [ld0]; omega), ld0]
      have ld2 : (((as.map arcT).take f1.toNat ++ [t1] ++ (as.map arcT).drop f1.toNat).take f2.toNat ++ [t2] ++ ((as.map arcT).take f1.toNat ++ [t1] ++ (as.map arcT).drop f1.toNat).drop f2.toNat).length = as.length + 2 := by rw [ins_len _ _ (by rw [ld1]; omega), ld1]
      have hini : ∀ xs, initO (some sg) (some (xs, (((as.map arcT).take f1.toNat ++ [t1] ++ (as.map arcT).drop f1.toNat).take f2.toNat ++ [t2] ++ ((as.map arcT).take f1.toNat ++ [t1] ++ (as.map arcT).drop f1.toNat).drop f2.toNat))) = some (("arcs" : Str), due) := fun xs => by
        rw [← hdue]
        exact init_at sB ⟨by rw [ld2]; omega, by rw [ld2]; omega⟩ (fb_two goodD ht1 ht2 (by rw [ld0]; omega) (by rw [ld0]; omega))
      have al : ∀ HX, Same H53 HX → AllAi K HX ((((us).take f1.toNat ++ [w1] ++ (us).drop f1.toNat)).take f2.toNat ++ [w2] ++ (((us).take f1.toNat ++ [w1] ++ (us).drop f1.toNat)).drop f2.toNat) (((as.map arcT).take f1.toNat ++ [t1] ++ (as.map arcT).drop f1.toNat).take f2.toNat ++ [t2] ++ ((as.map arcT).take f1.toNat ++ [t1] ++ (as.map arcT).drop f1.toNat).drop f2.toNat) := fun HX sx => ((allAi_arcs (arc.same sx) wl).ins (hw1 _ (nw1.same sx)) f1.toNat).ins (hw2 _ (nw2.same sx)) f2.toNat
      refine ⟨_, rfl, _, rfl, .str (SX.S sg), _, some sg, _, rfl, .str sg (by omega), At.mk (.inl g47) (al _ (Same.refl _)) (by rw [lx2]; omega), .inl ⟨"arcs", due, hini _, fun HR r2 sJ hr2 hR2 => ?_⟩⟩
      refine ⟨_, rfl, le_size (by simp), fun t ht => ?_⟩
      have sT := Same.new (.tup [V.str "arcs", V.int due, V.bl true]) ht
      refine ne_same (dp_three (sT _ _ hR2)) (dp_three upd_same) (sh_three (by decide +kernel)) ⟨false, rfl, iteF ?_⟩
      replace sT := sJ.trans sT
      generalize upd HR t (.tup [V.str "arcs", V.int due, V.bl true]) = HT at *
      replace al : ∀ HX, Same HT HX → AllAi K HX ((((us).take f1.toNat ++ [w1] ++ (us).drop f1.toNat)).take f2.toNat ++ [w2] ++ (((us).take f1.toNat ++ [w1] ++ (us).drop f1.toNat)).drop f2.toNat) (((as.map arcT).take f1.toNat ++ [t1] ++ (as.map arcT).drop f1.toNat).take f2.toNat ++ [t2] ++ ((as.map arcT).take f1.toNat ++ [t1] ++ (as.map arcT).drop f1.toNat).drop f2.toNat) := fun HX sx => al _ (sT.trans sx)
      replace st := st.same sT
      replace arc := arc.same sT
      replace e1a := e1a.same sT
      replace one := one.same sT
      replace e1 := sT _ _ e1
      replace e1T := sT _ _ e1T
      replace ht0 := sT _ _ ht0
      replace g47 := sT _ _ g47
      refine ⟨_, rfl, _, rfl, a47, _, rfl, .inl ⟨SqL.of g47, fun a54 h54 => ?_⟩⟩
      have n54 := (st.ne h54).1
      have s54 : Same HT (upd HT a54 (HO.tup ((((us).take f1.toNat ++ [w1] ++ (us).drop f1.toNat)).take f2.toNat ++ [w2] ++ (((us).take f1.toNat ++ [w1] ++ (us).drop f1.toNat)).drop f2.toNat))) := Same.new _ h54
      have g54 : upd HT a54 (HO.tup ((((us).take f1.toNat ++ [w1] ++ (us).drop f1.toNat)).take f2.toNat ++ [w2] ++ (((us).take f1.toNat ++ [w1] ++ (us).drop f1.toNat)).drop f2.toNat)) a54 = some (HO.tup ((((us).take f1.toNat ++ [w1] ++ (us).drop f1.toNat)).take f2.toNat ++ [w2] ++ (((us).take f1.toNat ++ [w1] ++ (us).drop f1.toNat)).drop f2.toNat)) := upd_same
      generalize upd HT a54 (HO.tup ((((us).take f1.toNat ++ [w1] ++ (us).drop f1.toNat)).take f2.toNat ++ [w2] ++ (((us).take f1.toNat ++ [w1] ++ (us).drop f1.toNat)).drop f2.toNat)) = H54 at *
      replace st := st.same s54
      replace arc := arc.same s54
      replace e1a := e1a.same s54
      replace one := one.same s54
      replace e1 := s54 _ _ e1
      replace e1T := s54 _ _ e1T
      replace ht0 := s54 _ _ ht0
      replace g47 := s54 _ _ g47
      refine ⟨.str (SX.S sg), _, some sg, _, rfl, .str sg (by omega), At.mk (.inr g54) (al _ s54) (by rw [lx2]; omega), .inl ⟨"arcs", due, hini _, fun HR55 r55 sJ55 hr55 hR55 => ?_⟩⟩
      refine ⟨_, rfl, le_size (by simp), fun t ht => ?_⟩
      have sT := Same.new (.tup [V.str "arcs", V.int due, V.bl true]) ht
      refine ne_same (dp_three (sT _ _ hR55)) (dp_three upd_same) (sh_three (by decide +kernel)) ⟨false, rfl, iteF ?_⟩
      replace sT := sJ55.trans sT
      generalize upd HR55 t (.tup [V.str "arcs", V.int due, V.bl true]) = HT55 at *
      replace st := st.same sT
      replace arc := arc.same sT
      replace e1a := e1a.same sT
      replace one := one.same sT
      replace e1 := sT _ _ e1
      replace e1T := sT _ _ e1T
      replace ht0 := sT _ _ ht0
      replace g47 := sT _ _ g47
      replace g54 := sT _ _ g54
      refine ⟨_, rfl, _, rfl, le_size (by simp), fun a56 h56 => ?_⟩
      have n56 := (st.ne h56).1
      have s56 : Same HT55 (upd HT55 a56 (HO.lst [V.ref b11])) := Same.new _ h56
      have g56 : upd HT55 a56 (HO.lst [V.ref b11]) a56 = some (HO.lst [V.ref b11]) := upd_same
      generalize upd HT55 a56 (HO.lst [V.ref b11]) = H56 at *
      replace st := st.same s56
      replace arc := arc.same s56
      replace e1a := e1a.same s56
      replace one := one.same s56
      replace e1 := s56 _ _ e1
      replace e1T := s56 _ _ e1T
      replace ht0 := s56 _ _ ht0
      replace g47 := s56 _ _ g47
      refine ⟨.str (SX.S sg), _, some sg, _, rfl, .str sg (by omega), At.mk (.inl g56) (.cons (.non (.x (.base (.ins e1 T.cl_Loom T.ic_Loom T.ig T.it T.im_Loom))) (kit_cls (by decide +kernel) T.st_Loom)) .nil) (by simp), .inl ⟨"arcs", 0, init_at sB ⟨by simp, by simp⟩ rfl, fun HR57 r57 sJ57 hr57 hR57 => ?_⟩⟩
      refine ⟨le_size (by simp), fun t ht => ?_⟩
      have sT := Same.new (.tup [V.str "arcs", V.int 0, V.bl true]) ht
      refine ne_same (dp_three (sT _ _ hR57)) (dp_three upd_same) (sh_three (by decide +kernel)) ⟨false, rfl, iteF ?_⟩
      replace sT := sJ57.trans sT
      generalize upd HR57 t (.tup [V.str "arcs", V.int 0, V.bl true]) = HT57 at *
      replace st := st.same sT
      replace arc := arc.same sT
      replace e1a := e1a.same sT
      replace one := one.same sT
      replace e1 := sT _ _ e1
      replace e1T := sT _ _ e1T
      replace ht0 := sT _ _ ht0
      replace g47 := sT _ _ g47
      replace g56 := sT _ _ g56
      refine ⟨_, rfl, _, rfl, _, _, c0, rfl, rfl, le_size (by rw [SX.S_len]; omega), (by show atI sg 0 = some c0; exact atI_nat hc0), _, _, rfl, rfl, le_one c0, by decide, by decide, le_size (by simp), fun a58 h58 => ?_⟩
      have n58 := (st.ne h58).1
      have s58 : Same HT57 (upd HT57 a58 (HO.tup [V.int 0, V.str (Txt.mul ⟨#[c0]⟩ 12), V.int 63])) := Same.new _ h58
      have g58 : upd HT57 a58 (HO.tup [V.int 0, V.str (Txt.mul ⟨#[c0]⟩ 12), V.int 63]) a58 = some (HO.tup [V.int 0, V.str (Txt.mul ⟨#[c0]⟩ 12), V.int 63]) := upd_same
      generalize upd HT57 a58 (HO.tup [V.int 0, V.str (Txt.mul ⟨#[c0]⟩ 12), V.int 63]) = H58 at *
      replace st := st.same s58
      replace arc := arc.same s58
      replace e1a := e1a.same s58
      replace one := one.same s58
      replace e1 := s58 _ _ e1
      replace e1T := s58 _ _ e1T
      replace ht0 := s58 _ _ ht0
      replace g47 := s58 _ _ g47
      replace g56 := s58 _ _ g56
      refine ⟨le_size (by simp), fun a59 h59 => ?_⟩
      have n59 := (st.ne h59).1
      have s59 : Same H58 (upd H58 a59 (HO.lst [V.ref a58])) := Same.new _ h59
      have g59 : upd H58 a59 (HO.lst [V.ref a58]) a59 = some (HO.lst [V.ref a58]) := upd_same
      generalize upd H58 a59 (HO.lst [V.ref a58]) = H59 at *
      replace st := st.same s59
      replace arc := arc.same s59
      replace e1a := e1a.same s59
      replace one := one.same s59
      replace e1 := s59 _ _ e1
      replace e1T := s59 _ _ e1T
      replace ht0 := s59 _ _ ht0
      replace g47 := s59 _ _ g47
      replace g56 := s59 _ _ g56
      replace g58 := s59 _ _ g58
      refine ⟨_, 200, _, rfl, rfl, g59, by decide, by decide, le_size (by simp), fun a60 h60 => ?_⟩
      rw [flat_rep]
      have n60 := (st.ne h60).1
      have s60 : Same H59 (upd H59 a60 (HO.lst (List.replicate (Int.toNat 200) (V.ref a58)))) := Same.new _ h60
      have g60 : upd H59 a60 (HO.lst (List.replicate (Int.toNat 200) (V.ref a58))) a60 = some (HO.lst (List.replicate (Int.toNat 200) (V.ref a58))) := upd_same
      generalize upd H59 a60 (HO.lst (List.replicate (Int.toNat 200) (V.ref a58))) = H60 at *
      replace st := st.same s60
      replace arc := arc.same s60
      replace e1a := e1a.same s60
      replace one := one.same s60
      replace e1 := s60 _ _ e1
      replace e1T := s60 _ _ e1T
      replace ht0 := s60 _ _ ht0
      replace g47 := s60 _ _ g47
      replace g56 := s60 _ _ g56
      replace g58 := s60 _ _ g58
      replace g59 := s60 _ _ g59
      have hL : H60 a58 = some (arcHO (0, List.replicate 12 c0, 63)) := g58
      have arcL := Arcs.rep 200 hL
      have okL : ∀ x ∈ List.replicate 200 ((0, List.replicate 12 c0, 63) : Arc), OkArc sg x := fun x hx => by
        rw [(List.mem_replicate.mp hx).2]
        exact ⟨Nat.zero_le _, ⟨(by show 1 ≤ (List.replicate 12 c0).length; simp), (by show (List.replicate 12 c0).length ≤ 12; simp), fun c hc => by rw [(List.mem_replicate.mp hc).2]; exact mc0⟩, Nat.le_refl _⟩
      refine ⟨.str (SX.S sg), _, some sg, _, rfl, .str sg (by omega), at_good (.inl g60) arcL (wlen_of okL) (by simp), .inr ⟨sg, _, _, rfl, rfl, init_good sB (by simp) (by simp) okL, fun HR r2 lm dx TL sJ hr2 hR2 hlm hTL => ?_⟩⟩
      refine ⟨_, rfl, r2, _, _, _, rfl, rfl, SqT.of hR2, rfl, rfl, false, congrArg V.bl (by simp), iteF ?_⟩
      refine ⟨_, rfl, r2, _, _, _, rfl, rfl, SqT.of hR2, rfl, lm, _, dx, _, _, rfl, hlm, T.cl_Loom, T.na_Loom_arcs, lf_arcs _ _, TL, _, rfl, .inr (SqT.of hTL), rfl, false, congrArg V.bl (by simp), iteF ?_⟩
      exact ⟨_, _, _, _, _, _, _, _, _, _, _, _, _, rfl, st.same sJ⟩
    · rintro σ H2 ⟨v2, v3, v4, v5, v6, v7, v8, v9, v10, v11, v12, v13, v14, rfl, st2⟩
      exact k _
end
end J


set_option Elab.async false
set_option linter.all false
set_option maxRecDepth 100000
set_option maxHeartbeats 4000000
namespace J
open PySem L2
theorem all_mk {l : PySem.W.OpenLaw} {w : World} {K : PySem.W.Frag} {h : Heap} {mg : Str → Option Value} {fa f_InvalidLoom_init f_is_number f_is_sequence f_is_signs f_is_string_over f_is_word f_check_signs f_is_arc f_Loom_init f_Loom_eq f_l_state f_l_draw f_l_word f_l_loom f_l_told f_l_wrong_arc f_law C_InvalidLoom C_Loom C_ReadError : Addr} (X : K.In h) (G : h.Ns mainGlobals mg) (hfa : mg "law" = some (.ref fa))
    {od_InvalidLoom_init an_InvalidLoom_init : Option Addr} {sl_InvalidLoom_init : Array (Option Value)} {oc_InvalidLoom_init kV_InvalidLoom_init dc_InvalidLoom_init pm_InvalidLoom_init cd_InvalidLoom_init ct_InvalidLoom_init : Value}
    {od_is_number an_is_number : Option Addr} {sl_is_number : Array (Option Value)} {oc_is_number kV_is_number dc_is_number pm_is_number cd_is_number ct_is_number : Value}
    {od_is_sequence an_is_sequence : Option Addr} {sl_is_sequence : Array (Option Value)} {oc_is_sequence kV_is_sequence dc_is_sequence pm_is_sequence cd_is_sequence ct_is_sequence : Value}
    {od_is_signs an_is_signs : Option Addr} {sl_is_signs : Array (Option Value)} {oc_is_signs kV_is_signs dc_is_signs pm_is_signs cd_is_signs ct_is_signs : Value}
    {od_is_string_over an_is_string_over : Option Addr} {sl_is_string_over : Array (Option Value)} {oc_is_string_over kV_is_string_over dc_is_string_over pm_is_string_over cd_is_string_over ct_is_string_over : Value}
    {od_is_word an_is_word : Option Addr} {sl_is_word : Array (Option Value)} {oc_is_word kV_is_word dc_is_word pm_is_word cd_is_word ct_is_word : Value}
    {od_check_signs an_check_signs : Option Addr} {sl_check_signs : Array (Option Value)} {oc_check_signs kV_check_signs dc_check_signs pm_check_signs cd_check_signs ct_check_signs : Value}
    {od_is_arc an_is_arc : Option Addr} {sl_is_arc : Array (Option Value)} {oc_is_arc kV_is_arc dc_is_arc pm_is_arc cd_is_arc ct_is_arc : Value}
    {od_Loom_init an_Loom_init : Option Addr} {sl_Loom_init : Array (Option Value)} {oc_Loom_init kV_Loom_init dc_Loom_init pm_Loom_init cd_Loom_init ct_Loom_init : Value}
    {od_Loom_eq an_Loom_eq : Option Addr} {sl_Loom_eq : Array (Option Value)} {oc_Loom_eq kV_Loom_eq dc_Loom_eq pm_Loom_eq cd_Loom_eq ct_Loom_eq : Value}
    {od_l_state an_l_state : Option Addr} {sl_l_state : Array (Option Value)} {oc_l_state kV_l_state dc_l_state pm_l_state cd_l_state ct_l_state : Value}
    {od_l_draw an_l_draw : Option Addr} {sl_l_draw : Array (Option Value)} {oc_l_draw kV_l_draw dc_l_draw pm_l_draw cd_l_draw ct_l_draw : Value}
    {od_l_word an_l_word : Option Addr} {sl_l_word : Array (Option Value)} {oc_l_word kV_l_word dc_l_word pm_l_word cd_l_word ct_l_word : Value}
    {od_l_loom an_l_loom : Option Addr} {sl_l_loom : Array (Option Value)} {oc_l_loom kV_l_loom dc_l_loom pm_l_loom cd_l_loom ct_l_loom : Value}
    {od_l_told an_l_told : Option Addr} {sl_l_told : Array (Option Value)} {oc_l_told kV_l_told dc_l_told pm_l_told cd_l_told ct_l_told : Value}
    {od_l_wrong_arc an_l_wrong_arc : Option Addr} {sl_l_wrong_arc : Array (Option Value)} {oc_l_wrong_arc kV_l_wrong_arc dc_l_wrong_arc pm_l_wrong_arc cd_l_wrong_arc ct_l_wrong_arc : Value}
    {od_law an_law : Option Addr} {sl_law : Array (Option Value)} {oc_law kV_law dc_law pm_law cd_law ct_law : Value}
    {nm_InvalidLoom q_InvalidLoom : Str} {ns_InvalidLoom : Addr} {bs_InvalidLoom : List Value} {sn_InvalidLoom : List Str} {sub_InvalidLoom : List Value} {ab_InvalidLoom : Bool} {col_InvalidLoom : Option Bool} {dd_InvalidLoom : Option Addr} {m0_InvalidLoom m1_InvalidLoom m2_InvalidLoom m3_InvalidLoom m5_InvalidLoom : Option Value}
    {t_MOST_SIGNS : Tok}
    {t_LONGEST_WORD : Tok}
    {t_LAST_STATE : Tok}
    {t_MOST_ARCS : Tok}
    (a_CReadError : PySem.W.nsIn K mainGlobals "ReadError" = some (some (.ref C_ReadError)))
    (a_CLoom : PySem.W.nsIn K mainGlobals "Loom" = some (some (.ref C_Loom)))
    (a_CInvalidLoom : PySem.W.nsIn K mainGlobals "InvalidLoom" = some (some (.ref C_InvalidLoom)))
    (a_InvalidLoom_init : PySem.W.findIn K (.ref C_InvalidLoom) "__init__" = some (some (.ref f_InvalidLoom_init)))
    (i_InvalidLoom_init : PySem.W.isFn K (.ref f_InvalidLoom_init) = true)
    (l_InvalidLoom_init : K.lookup f_InvalidLoom_init = some ⟨oc_InvalidLoom_init, od_InvalidLoom_init, .func (PySem.W.fnOf "__init__" "InvalidLoom.__init__" (defArgs s_InvalidLoom_init) (defBody s_InvalidLoom_init) (defScope s_InvalidLoom_init) .none kV_InvalidLoom_init dc_InvalidLoom_init pm_InvalidLoom_init an_InvalidLoom_init cd_InvalidLoom_init ct_InvalidLoom_init), sl_InvalidLoom_init⟩)
    (c_InvalidLoom_init : PySem.W.codeIn K cd_InvalidLoom_init "InvalidLoom.__init__" = true)
    (k_InvalidLoom_init : PySem.W.keepIn K (.ref f_InvalidLoom_init) = true)
    (a_is_number : PySem.W.nsIn K mainGlobals "is_number" = some (some (.ref f_is_number)))
    (l_is_number : K.lookup f_is_number = some ⟨oc_is_number, od_is_number, .func (PySem.W.fnOf "is_number" "is_number" (defArgs s_is_number) (defBody s_is_number) (defScope s_is_number) .none kV_is_number dc_is_number pm_is_number an_is_number cd_is_number ct_is_number), sl_is_number⟩)
    (c_is_number : PySem.W.codeIn K cd_is_number "is_number" = true)
    (k_is_number : PySem.W.keepIn K (.ref f_is_number) = true)
    (a_is_sequence : PySem.W.nsIn K mainGlobals "is_sequence" = some (some (.ref f_is_sequence)))
    (l_is_sequence : K.lookup f_is_sequence = some ⟨oc_is_sequence, od_is_sequence, .func (PySem.W.fnOf "is_sequence" "is_sequence" (defArgs s_is_sequence) (defBody s_is_sequence) (defScope s_is_sequence) .none kV_is_sequence dc_is_sequence pm_is_sequence an_is_sequence cd_is_sequence ct_is_sequence), sl_is_sequence⟩)
    (c_is_sequence : PySem.W.codeIn K cd_is_sequence "is_sequence" = true)
    (k_is_sequence : PySem.W.keepIn K (.ref f_is_sequence) = true)
    (a_is_signs : PySem.W.nsIn K mainGlobals "is_signs" = some (some (.ref f_is_signs)))
    (l_is_signs : K.lookup f_is_signs = some ⟨oc_is_signs, od_is_signs, .func (PySem.W.fnOf "is_signs" "is_signs" (defArgs s_is_signs) (defBody s_is_signs) (defScope s_is_signs) .none kV_is_signs dc_is_signs pm_is_signs an_is_signs cd_is_signs ct_is_signs), sl_is_signs⟩)
    (c_is_signs : PySem.W.codeIn K cd_is_signs "is_signs" = true)
    (k_is_signs : PySem.W.keepIn K (.ref f_is_signs) = true)
    (a_is_string_over : PySem.W.nsIn K mainGlobals "is_string_over" = some (some (.ref f_is_string_over)))
    (l_is_string_over : K.lookup f_is_string_over = some ⟨oc_is_string_over, od_is_string_over, .func (PySem.W.fnOf "is_string_over" "is_string_over" (defArgs s_is_string_over) (defBody s_is_string_over) (defScope s_is_string_over) .none kV_is_string_over dc_is_string_over pm_is_string_over an_is_string_over cd_is_string_over ct_is_string_over), sl_is_string_over⟩)
    (c_is_string_over : PySem.W.codeIn K cd_is_string_over "is_string_over" = true)
    (k_is_string_over : PySem.W.keepIn K (.ref f_is_string_over) = true)
    (a_is_word : PySem.W.nsIn K mainGlobals "is_word" = some (some (.ref f_is_word)))
    (l_is_word : K.lookup f_is_word = some ⟨oc_is_word, od_is_word, .func (PySem.W.fnOf "is_word" "is_word" (defArgs s_is_word) (defBody s_is_word) (defScope s_is_word) .none kV_is_word dc_is_word pm_is_word an_is_word cd_is_word ct_is_word), sl_is_word⟩)
    (c_is_word : PySem.W.codeIn K cd_is_word "is_word" = true)
    (k_is_word : PySem.W.keepIn K (.ref f_is_word) = true)
    (a_check_signs : PySem.W.nsIn K mainGlobals "check_signs" = some (some (.ref f_check_signs)))
    (l_check_signs : K.lookup f_check_signs = some ⟨oc_check_signs, od_check_signs, .func (PySem.W.fnOf "check_signs" "check_signs" (defArgs s_check_signs) (defBody s_check_signs) (defScope s_check_signs) .none kV_check_signs dc_check_signs pm_check_signs an_check_signs cd_check_signs ct_check_signs), sl_check_signs⟩)
    (c_check_signs : PySem.W.codeIn K cd_check_signs "check_signs" = true)
    (k_check_signs : PySem.W.keepIn K (.ref f_check_signs) = true)
    (a_is_arc : PySem.W.nsIn K mainGlobals "is_arc" = some (some (.ref f_is_arc)))
    (l_is_arc : K.lookup f_is_arc = some ⟨oc_is_arc, od_is_arc, .func (PySem.W.fnOf "is_arc" "is_arc" (defArgs s_is_arc) (defBody s_is_arc) (defScope s_is_arc) .none kV_is_arc dc_is_arc pm_is_arc an_is_arc cd_is_arc ct_is_arc), sl_is_arc⟩)
    (c_is_arc : PySem.W.codeIn K cd_is_arc "is_arc" = true)
    (k_is_arc : PySem.W.keepIn K (.ref f_is_arc) = true)
    (a_Loom_init : PySem.W.findIn K (.ref C_Loom) "__init__" = some (some (.ref f_Loom_init)))
    (i_Loom_init : PySem.W.isFn K (.ref f_Loom_init) = true)
    (l_Loom_init : K.lookup f_Loom_init = some ⟨oc_Loom_init, od_Loom_init, .func (PySem.W.fnOf "__init__" "Loom.__init__" (defArgs s_Loom_init) (defBody s_Loom_init) (defScope s_Loom_init) .none kV_Loom_init dc_Loom_init pm_Loom_init an_Loom_init cd_Loom_init ct_Loom_init), sl_Loom_init⟩)
    (c_Loom_init : PySem.W.codeIn K cd_Loom_init "Loom.__init__" = true)
    (k_Loom_init : PySem.W.keepIn K (.ref f_Loom_init) = true)
    (a_Loom_eq : PySem.W.findIn K (.ref C_Loom) "__eq__" = some (some (.ref f_Loom_eq)))
    (l_Loom_eq : K.lookup f_Loom_eq = some ⟨oc_Loom_eq, od_Loom_eq, .func (PySem.W.fnOf "__eq__" "Loom.__eq__" (defArgs s_Loom_eq) (defBody s_Loom_eq) (defScope s_Loom_eq) .none kV_Loom_eq dc_Loom_eq pm_Loom_eq an_Loom_eq cd_Loom_eq ct_Loom_eq), sl_Loom_eq⟩)
    (c_Loom_eq : PySem.W.codeIn K cd_Loom_eq "Loom.__eq__" = true)
    (k_Loom_eq : PySem.W.keepIn K (.ref f_Loom_eq) = true)
    (a_l_state : PySem.W.nsIn K mainGlobals "_law_state" = some (some (.ref f_l_state)))
    (l_l_state : K.lookup f_l_state = some ⟨oc_l_state, od_l_state, .func (PySem.W.fnOf "_law_state" "_law_state" (defArgs s_l_state) (defBody s_l_state) (defScope s_l_state) .none kV_l_state dc_l_state pm_l_state an_l_state cd_l_state ct_l_state), sl_l_state⟩)
    (c_l_state : PySem.W.codeIn K cd_l_state "_law_state" = true)
    (k_l_state : PySem.W.keepIn K (.ref f_l_state) = true)
    (a_l_draw : PySem.W.nsIn K mainGlobals "_law_draw" = some (some (.ref f_l_draw)))
    (l_l_draw : K.lookup f_l_draw = some ⟨oc_l_draw, od_l_draw, .func (PySem.W.fnOf "_law_draw" "_law_draw" (defArgs s_l_draw) (defBody s_l_draw) (defScope s_l_draw) .none kV_l_draw dc_l_draw pm_l_draw an_l_draw cd_l_draw ct_l_draw), sl_l_draw⟩)
    (c_l_draw : PySem.W.codeIn K cd_l_draw "_law_draw" = true)
    (k_l_draw : PySem.W.keepIn K (.ref f_l_draw) = true)
    (a_l_word : PySem.W.nsIn K mainGlobals "_law_word" = some (some (.ref f_l_word)))
    (l_l_word : K.lookup f_l_word = some ⟨oc_l_word, od_l_word, .func (PySem.W.fnOf "_law_word" "_law_word" (defArgs s_l_word) (defBody s_l_word) (defScope s_l_word) .none kV_l_word dc_l_word pm_l_word an_l_word cd_l_word ct_l_word), sl_l_word⟩)
    (c_l_word : PySem.W.codeIn K cd_l_word "_law_word" = true)
    (k_l_word : PySem.W.keepIn K (.ref f_l_word) = true)
    (a_l_loom : PySem.W.nsIn K mainGlobals "_law_loom" = some (some (.ref f_l_loom)))
    (l_l_loom : K.lookup f_l_loom = some ⟨oc_l_loom, od_l_loom, .func (PySem.W.fnOf "_law_loom" "_law_loom" (defArgs s_l_loom) (defBody s_l_loom) (defScope s_l_loom) .none kV_l_loom dc_l_loom pm_l_loom an_l_loom cd_l_loom ct_l_loom), sl_l_loom⟩)
    (c_l_loom : PySem.W.codeIn K cd_l_loom "_law_loom" = true)
    (k_l_loom : PySem.W.keepIn K (.ref f_l_loom) = true)
    (a_l_told : PySem.W.nsIn K mainGlobals "_law_told" = some (some (.ref f_l_told)))
    (l_l_told : K.lookup f_l_told = some ⟨oc_l_told, od_l_told, .func (PySem.W.fnOf "_law_told" "_law_told" (defArgs s_l_told) (defBody s_l_told) (defScope s_l_told) .none kV_l_told dc_l_told pm_l_told an_l_told cd_l_told ct_l_told), sl_l_told⟩)
    (c_l_told : PySem.W.codeIn K cd_l_told "_law_told" = true)
    (k_l_told : PySem.W.keepIn K (.ref f_l_told) = true)
    (a_l_wrong_arc : PySem.W.nsIn K mainGlobals "_law_wrong_arc" = some (some (.ref f_l_wrong_arc)))
    (l_l_wrong_arc : K.lookup f_l_wrong_arc = some ⟨oc_l_wrong_arc, od_l_wrong_arc, .func (PySem.W.fnOf "_law_wrong_arc" "_law_wrong_arc" (defArgs s_l_wrong_arc) (defBody s_l_wrong_arc) (defScope s_l_wrong_arc) .none kV_l_wrong_arc dc_l_wrong_arc pm_l_wrong_arc an_l_wrong_arc cd_l_wrong_arc ct_l_wrong_arc), sl_l_wrong_arc⟩)
    (c_l_wrong_arc : PySem.W.codeIn K cd_l_wrong_arc "_law_wrong_arc" = true)
    (k_l_wrong_arc : PySem.W.keepIn K (.ref f_l_wrong_arc) = true)
    (a_law : PySem.W.nsIn K mainGlobals "law" = some (some (.ref f_law)))
    (l_law : K.lookup f_law = some ⟨oc_law, od_law, .func (PySem.W.fnOf "law" "law" (defArgs s_law) (defBody s_law) (defScope s_law) .none kV_law dc_law pm_law an_law cd_law ct_law), sl_law⟩)
    (c_law : PySem.W.codeIn K cd_law "law" = true)
    (k_law : PySem.W.keepIn K (.ref f_law) = true)
    (pg_Loom : PySem.W.plainGet K C_Loom Str.empty = true)
    (hd_Loom : PySem.W.hasDictIn K C_Loom = true)
    (po_Loom : PySem.W.plainOver K C_Loom = true)
    (sa_Loom : PySem.W.findIn K (.ref C_Loom) "__setattr__" = some (some (.builtin "object.__setattr__")))
    (mk_Loom : PySem.W.makesIn K C_Loom = true)
    (kc_Loom : PySem.W.keepIn K (.ref C_Loom) = true)
    (na_Loom_signs : PySem.W.findIn K (.ref C_Loom) "signs" = some none)
    (na_Loom_arcs : PySem.W.findIn K (.ref C_Loom) "arcs" = some none)
    (kc_ReadError : PySem.W.keepIn K (.ref C_ReadError) = true)
    (e1_ReadError : PySem.W.findIn K (.ref C_ReadError) "__getattribute__" = some (some (.builtin "BaseException.__getattribute__")))
    (e2_ReadError : PySem.W.findIn K (.ref C_ReadError) "__getattr__" = some none)
    (e3_ReadError : PySem.W.subIn K (.ref C_ReadError) (.type "BaseException") = some true)
    (e4_ReadError : PySem.W.hasDictIn K C_ReadError = true)
    (e5_ReadError : PySem.W.findIn K (.ref C_ReadError) "__class__" = some (some (.builtin "object.__class__")))
    (e8_ReadError : PySem.W.mroIn K C_ReadError (.type "object") = some true)
    (ty_ReadError : PySem.W.typeIn K (.ref C_ReadError) = some (.type "type"))
    (in_ReadError : PySem.W.excIn K C_ReadError [.type "Exception", .type "BaseException", .type "object"] "Exception.__new__" = true)
    (kc_InvalidLoom : PySem.W.keepIn K (.ref C_InvalidLoom) = true)
    (e1_InvalidLoom : PySem.W.findIn K (.ref C_InvalidLoom) "__getattribute__" = some (some (.builtin "BaseException.__getattribute__")))
    (e2_InvalidLoom : PySem.W.findIn K (.ref C_InvalidLoom) "__getattr__" = some none)
    (e3_InvalidLoom : PySem.W.subIn K (.ref C_InvalidLoom) (.type "BaseException") = some true)
    (e4_InvalidLoom : PySem.W.hasDictIn K C_InvalidLoom = true)
    (e5_InvalidLoom : PySem.W.findIn K (.ref C_InvalidLoom) "__class__" = some (some (.builtin "object.__class__")))
    (e8_InvalidLoom : PySem.W.mroIn K C_InvalidLoom (.type "object") = some true)
    (ty_InvalidLoom : PySem.W.typeIn K (.ref C_InvalidLoom) = some (.type "type"))
    (xi_InvalidLoom : K.lookup C_InvalidLoom = some (excClassObj nm_InvalidLoom q_InvalidLoom C_InvalidLoom ns_InvalidLoom bs_InvalidLoom [.ref C_ReadError, .type "Exception", .type "BaseException", .type "object"] true sn_InvalidLoom sub_InvalidLoom ab_InvalidLoom col_InvalidLoom dd_InvalidLoom m0_InvalidLoom m1_InvalidLoom m2_InvalidLoom m3_InvalidLoom m5_InvalidLoom "Exception.__new__"))
    (tf_InvalidLoom : PySem.W.typeIn K (.ref f_InvalidLoom_init) = some (.type "function"))
    (sa_InvalidLoom : PySem.W.findIn K (.ref C_InvalidLoom) "__setattr__" = some (some (.builtin "object.__setattr__")))
    (no_InvalidLoom_part : PySem.W.findIn K (.ref C_InvalidLoom) "part" = some none)
    (no_InvalidLoom_at : PySem.W.findIn K (.ref C_InvalidLoom) "at" = some none)
    (e6 : PySem.W.specialIn K (.builtin "object.__class__") "__get__" = some (some (.builtin "getset_descriptor.__get__")))
    (e7 : PySem.W.takesIn K (.builtin "object.__class__") = some true)
    (ic_Loom : PySem.W.findIn K (.ref C_Loom) "__class__" = some (some (.builtin "object.__class__")))
    (ig : PySem.W.specialIn K (.builtin "object.__class__") "__get__" = some (some (.builtin "getset_descriptor.__get__")))
    (it : PySem.W.takesIn K (.builtin "object.__class__") = some true)
    (im_Loom : PySem.W.mroIn K C_Loom (.type "object") = some true)
    (si_InvalidLoom : PySem.W.subIn K (.ref C_InvalidLoom) (.type "int") = some false)
    (si_Loom : PySem.W.subIn K (.ref C_Loom) (.type "int") = some false)
    (sl_InvalidLoom : PySem.W.subIn K (.ref C_InvalidLoom) (.type "list") = some false)
    (st_InvalidLoom : PySem.W.subIn K (.ref C_InvalidLoom) (.type "tuple") = some false)
    (sl_Loom : PySem.W.subIn K (.ref C_Loom) (.type "list") = some false)
    (st_Loom : PySem.W.subIn K (.ref C_Loom) (.type "tuple") = some false)
    (cl_InvalidLoom : PySem.W.isClsIn K C_InvalidLoom = true)
    (ss_InvalidLoom : PySem.W.subIn K (.ref C_InvalidLoom) (.ref C_InvalidLoom) = some true)
    (sr_InvalidLoom : PySem.W.subIn K (.ref C_InvalidLoom) (.ref C_ReadError) = some true)
    (cl_ReadError : PySem.W.isClsIn K C_ReadError = true)
    (nx_InvalidLoom_at : PySem.W.findIn K (.ref C_InvalidLoom) "at" = some none)
    (nx_InvalidLoom_part : PySem.W.findIn K (.ref C_InvalidLoom) "part" = some none)
    (sstr_Loom : PySem.W.subIn K (.ref C_Loom) (.type "str") = some false)
    (eq_Loom : PySem.W.findIn K (.ref C_Loom) "__eq__" = some (some (.ref f_Loom_eq)))
    (fn_Loom_eq : PySem.W.isFn K (.ref f_Loom_eq) = true)
    (ne_Loom : PySem.W.findIn K (.ref C_Loom) "__ne__" = some (some (.builtin "object.__ne__")))
    (sx_InvalidLoom : PySem.W.subIn K (.ref C_InvalidLoom) (.type "Exception") = some true)
    (z_Exception : PySem.W.nsIn K mainGlobals "Exception" = some none)
    (z_all : PySem.W.nsIn K mainGlobals "all" = some none)
    (z_bool : PySem.W.nsIn K mainGlobals "bool" = some none)
    (z_enumerate : PySem.W.nsIn K mainGlobals "enumerate" = some none)
    (z_int : PySem.W.nsIn K mainGlobals "int" = some none)
    (z_isinstance : PySem.W.nsIn K mainGlobals "isinstance" = some none)
    (z_len : PySem.W.nsIn K mainGlobals "len" = some none)
    (z_list : PySem.W.nsIn K mainGlobals "list" = some none)
    (z_range : PySem.W.nsIn K mainGlobals "range" = some none)
    (z_sorted : PySem.W.nsIn K mainGlobals "sorted" = some none)
    (z_str : PySem.W.nsIn K mainGlobals "str" = some none)
    (z_tuple : PySem.W.nsIn K mainGlobals "tuple" = some none)
    (z_zip : PySem.W.nsIn K mainGlobals "zip" = some none)
    (g_MOST_SIGNS : PySem.W.nsIn K mainGlobals "MOST_SIGNS" = some (some (.int 4 t_MOST_SIGNS)))
    (g_LONGEST_WORD : PySem.W.nsIn K mainGlobals "LONGEST_WORD" = some (some (.int 12 t_LONGEST_WORD)))
    (g_LAST_STATE : PySem.W.nsIn K mainGlobals "LAST_STATE" = some (some (.int 63 t_LAST_STATE)))
    (g_MOST_ARCS : PySem.W.nsIn K mainGlobals "MOST_ARCS" = some (some (.int 200 t_MOST_ARCS)))
    : ∃ fd : FuncData, (∀ (s : Shared) (v : Value), BindsTo s fd ⟨[v], []⟩ [("_law_script", v)]) ∧ ∀ base : Heap, K.In base → base.Ns mainGlobals mg → FnOk l.prog w K mg base CX0 8 fa fd P_law (spLaw K) := by
  have e := hfa.symm.trans (PySem.W.mg_of X G a_law)
  cases e
  have F_InvalidLoom_init := fun_mk (st := s_InvalidLoom_init) l_InvalidLoom_init c_InvalidLoom_init k_InvalidLoom_init
  have b_InvalidLoom_init := F_InvalidLoom_init.binds (ps := P_InvalidLoom_init) fun _ _ _ _ _ _ us hl => match us, hl with | [_, _, _], _ => rfl
  have F_is_number := fun_mk (st := s_is_number) l_is_number c_is_number k_is_number
  have b_is_number := F_is_number.binds (ps := P_is_number) fun _ _ _ _ _ _ us hl => match us, hl with | [_, _, _], _ => rfl
  have F_is_sequence := fun_mk (st := s_is_sequence) l_is_sequence c_is_sequence k_is_sequence
  have b_is_sequence := F_is_sequence.binds (ps := P_is_sequence) fun _ _ _ _ _ _ us hl => match us, hl with | [_, _, _], _ => rfl
  have F_is_signs := fun_mk (st := s_is_signs) l_is_signs c_is_signs k_is_signs
  have b_is_signs := F_is_signs.binds (ps := P_is_signs) fun _ _ _ _ _ _ us hl => match us, hl with | [_], _ => rfl
  have F_is_string_over := fun_mk (st := s_is_string_over) l_is_string_over c_is_string_over k_is_string_over
  have b_is_string_over := F_is_string_over.binds (ps := P_is_string_over) fun _ _ _ _ _ _ us hl => match us, hl with | [_, _, _, _], _ => rfl
  have F_is_word := fun_mk (st := s_is_word) l_is_word c_is_word k_is_word
  have b_is_word := F_is_word.binds (ps := P_is_word) fun _ _ _ _ _ _ us hl => match us, hl with | [_, _], _ => rfl
  have F_check_signs := fun_mk (st := s_check_signs) l_check_signs c_check_signs k_check_signs
  have b_check_signs := F_check_signs.binds (ps := P_check_signs) fun _ _ _ _ _ _ us hl => match us, hl with | [_], _ => rfl
  have F_is_arc := fun_mk (st := s_is_arc) l_is_arc c_is_arc k_is_arc
  have b_is_arc := F_is_arc.binds (ps := P_is_arc) fun _ _ _ _ _ _ us hl => match us, hl with | [_, _], _ => rfl
  have F_Loom_init := fun_mk (st := s_Loom_init) l_Loom_init c_Loom_init k_Loom_init
  have b_Loom_init := F_Loom_init.binds (ps := P_Loom_init) fun _ _ _ _ _ _ us hl => match us, hl with | [_, _, _], _ => rfl
  have F_Loom_eq := fun_mk (st := s_Loom_eq) l_Loom_eq c_Loom_eq k_Loom_eq
  have b_Loom_eq := F_Loom_eq.binds (ps := P_Loom_eq) fun _ _ _ _ _ _ us hl => match us, hl with | [_, _], _ => rfl
  have F_l_state := fun_mk (st := s_l_state) l_l_state c_l_state k_l_state
  have b_l_state := F_l_state.binds (ps := P_l_state) fun _ _ _ _ _ _ us hl => match us, hl with | [_], _ => rfl
  have F_l_draw := fun_mk (st := s_l_draw) l_l_draw c_l_draw k_l_draw
  have b_l_draw := F_l_draw.binds (ps := P_l_draw) fun _ _ _ _ _ _ us hl => match us, hl with | [_, _], _ => rfl
  have F_l_word := fun_mk (st := s_l_word) l_l_word c_l_word k_l_word
  have b_l_word := F_l_word.binds (ps := P_l_word) fun _ _ _ _ _ _ us hl => match us, hl with | [_, _, _], _ => rfl
  have F_l_loom := fun_mk (st := s_l_loom) l_l_loom c_l_loom k_l_loom
  have b_l_loom := F_l_loom.binds (ps := P_l_loom) fun _ _ _ _ _ _ us hl => match us, hl with | [_], _ => rfl
  have F_l_told := fun_mk (st := s_l_told) l_l_told c_l_told k_l_told
  have b_l_told := F_l_told.binds (ps := P_l_told) fun _ _ _ _ _ _ us hl => match us, hl with | [_, _], _ => rfl
  have F_l_wrong_arc := fun_mk (st := s_l_wrong_arc) l_l_wrong_arc c_l_wrong_arc k_l_wrong_arc
  have b_l_wrong_arc := F_l_wrong_arc.binds (ps := P_l_wrong_arc) fun _ _ _ _ _ _ us hl => match us, hl with | [_, _], _ => rfl
  have F_law := fun_mk (st := s_law) l_law c_law k_law
  have b_law := F_law.binds (ps := P_law) fun _ _ _ _ _ _ us hl => match us, hl with | [_], _ => rfl
  exact ⟨_, fun s v => .of_eq rfl, fun base _ _ => ok_law {
    f_InvalidLoom_init := _
    fd_InvalidLoom_init := _
    F_InvalidLoom_init := F_InvalidLoom_init
    b_InvalidLoom_init := b_InvalidLoom_init
    f_is_number := _
    fd_is_number := _
    F_is_number := F_is_number
    b_is_number := b_is_number
    m_is_number := PySem.W.mg_of X G a_is_number
    f_is_sequence := _
    fd_is_sequence := _
    F_is_sequence := F_is_sequence
    b_is_sequence := b_is_sequence
    m_is_sequence := PySem.W.mg_of X G a_is_sequence
    f_is_signs := _
    fd_is_signs := _
    F_is_signs := F_is_signs
    b_is_signs := b_is_signs
    m_is_signs := PySem.W.mg_of X G a_is_signs
    f_is_string_over := _
    fd_is_string_over := _
    F_is_string_over := F_is_string_over
    b_is_string_over := b_is_string_over
    m_is_string_over := PySem.W.mg_of X G a_is_string_over
    f_is_word := _
    fd_is_word := _
    F_is_word := F_is_word
    b_is_word := b_is_word
    m_is_word := PySem.W.mg_of X G a_is_word
    f_check_signs := _
    fd_check_signs := _
    F_check_signs := F_check_signs
    b_check_signs := b_check_signs
    m_check_signs := PySem.W.mg_of X G a_check_signs
    f_is_arc := _
    fd_is_arc := _
    F_is_arc := F_is_arc
    b_is_arc := b_is_arc
    m_is_arc := PySem.W.mg_of X G a_is_arc
    f_Loom_init := _
    fd_Loom_init := _
    F_Loom_init := F_Loom_init
    b_Loom_init := b_Loom_init
    f_Loom_eq := _
    fd_Loom_eq := _
    F_Loom_eq := F_Loom_eq
    b_Loom_eq := b_Loom_eq
    f_l_state := _
    fd_l_state := _
    F_l_state := F_l_state
    b_l_state := b_l_state
    m_l_state := PySem.W.mg_of X G a_l_state
    f_l_draw := _
    fd_l_draw := _
    F_l_draw := F_l_draw
    b_l_draw := b_l_draw
    m_l_draw := PySem.W.mg_of X G a_l_draw
    f_l_word := _
    fd_l_word := _
    F_l_word := F_l_word
    b_l_word := b_l_word
    m_l_word := PySem.W.mg_of X G a_l_word
    f_l_loom := _
    fd_l_loom := _
    F_l_loom := F_l_loom
    b_l_loom := b_l_loom
    m_l_loom := PySem.W.mg_of X G a_l_loom
    f_l_told := _
    fd_l_told := _
    F_l_told := F_l_told
    b_l_told := b_l_told
    m_l_told := PySem.W.mg_of X G a_l_told
    f_l_wrong_arc := _
    fd_l_wrong_arc := _
    F_l_wrong_arc := F_l_wrong_arc
    b_l_wrong_arc := b_l_wrong_arc
    m_l_wrong_arc := PySem.W.mg_of X G a_l_wrong_arc
    f_law := _
    fd_law := _
    F_law := F_law
    b_law := b_law
    m_law := PySem.W.mg_of X G a_law
    n_Exception := PySem.W.mg_none_of X G z_Exception
    n_all := PySem.W.mg_none_of X G z_all
    n_bool := PySem.W.mg_none_of X G z_bool
    n_enumerate := PySem.W.mg_none_of X G z_enumerate
    n_int := PySem.W.mg_none_of X G z_int
    n_isinstance := PySem.W.mg_none_of X G z_isinstance
    n_len := PySem.W.mg_none_of X G z_len
    n_list := PySem.W.mg_none_of X G z_list
    n_range := PySem.W.mg_none_of X G z_range
    n_sorted := PySem.W.mg_none_of X G z_sorted
    n_str := PySem.W.mg_none_of X G z_str
    n_tuple := PySem.W.mg_none_of X G z_tuple
    n_zip := PySem.W.mg_none_of X G z_zip
    t_MOST_SIGNS := t_MOST_SIGNS
    g_MOST_SIGNS := PySem.W.mg_of X G g_MOST_SIGNS
    t_LONGEST_WORD := t_LONGEST_WORD
    g_LONGEST_WORD := PySem.W.mg_of X G g_LONGEST_WORD
    t_LAST_STATE := t_LAST_STATE
    g_LAST_STATE := PySem.W.mg_of X G g_LAST_STATE
    t_MOST_ARCS := t_MOST_ARCS
    g_MOST_ARCS := PySem.W.mg_of X G g_MOST_ARCS
    C_Loom := C_Loom
    M_Loom := ⟨mk_Loom, a_Loom_init, i_Loom_init, kc_Loom⟩
    cl_Loom := ⟨pg_Loom, hd_Loom, po_Loom, sa_Loom⟩
    g_Loom := PySem.W.mg_of X G a_CLoom
    na_Loom_signs := na_Loom_signs
    na_Loom_arcs := na_Loom_arcs
    C_ReadError := C_ReadError
    g_ReadError := PySem.W.mg_of X G a_CReadError
    kc_ReadError := kc_ReadError
    E_ReadError := ⟨e1_ReadError, e2_ReadError, e3_ReadError, e4_ReadError, e5_ReadError, e6, e7, e8_ReadError⟩
    ty_ReadError := ty_ReadError
    in_ReadError := in_ReadError
    C_InvalidLoom := C_InvalidLoom
    g_InvalidLoom := PySem.W.mg_of X G a_CInvalidLoom
    kc_InvalidLoom := kc_InvalidLoom
    E_InvalidLoom := ⟨e1_InvalidLoom, e2_InvalidLoom, e3_InvalidLoom, e4_InvalidLoom, e5_InvalidLoom, e6, e7, e8_InvalidLoom⟩
    ty_InvalidLoom := ty_InvalidLoom
    X_InvalidLoom := { gC := PySem.W.mg_of X G a_CInvalidLoom, cls := ⟨_, _, _, _, _, _, _, _, _, _, _, _, _, _, _, xi_InvalidLoom, by first | rfl | decide +kernel⟩, sa := sa_InvalidLoom, ga := e1_InvalidLoom, gg := e2_InvalidLoom, no := fun f hf => by simp only [List.mem_cons, List.not_mem_nil, or_false] at hf; rcases hf with rfl | rfl <;> assumption, iC := a_InvalidLoom_init, tC := tf_InvalidLoom, kC := kc_InvalidLoom, exC := e3_InvalidLoom, tyC := ty_InvalidLoom, hdC := e4_InvalidLoom, fn := ⟨_, _, _, _, _, _, _, _, _, l_InvalidLoom_init, c_InvalidLoom_init⟩ }
    ic_Loom := ic_Loom
    ig := ig
    it := it
    im_Loom := im_Loom
    si_InvalidLoom := si_InvalidLoom
    si_Loom := si_Loom
    sl_InvalidLoom := sl_InvalidLoom
    st_InvalidLoom := st_InvalidLoom
    sl_Loom := sl_Loom
    st_Loom := st_Loom
    cl_InvalidLoom := cl_InvalidLoom
    ss_InvalidLoom := ss_InvalidLoom
    sr_InvalidLoom := sr_InvalidLoom
    cl_ReadError := cl_ReadError
    nx_InvalidLoom_at := nx_InvalidLoom_at
    nx_InvalidLoom_part := nx_InvalidLoom_part
    sstr_Loom := sstr_Loom
    eq_Loom := eq_Loom
    fn_Loom_eq := fn_Loom_eq
    ne_Loom := ne_Loom
    sx_InvalidLoom := sx_InvalidLoom }⟩
theorem walk {l : PySem.W.OpenLaw} {q : Program} {loose : List Str} {XP : (Str → Option Value) → Heap → Prop} {YP : World → Heap → Prop} {d : DefRec} {K : Params → PySem.W.Frag} (hn : l.most = some 63) (hdf : d.params.defaults = [])
    (hY : ∀ (w : World) (h : Heap), YP w h → (K w.params).In h)
    (F : ∀ (w : World) (mg : Str → Option Value) (fa : Addr) (h : Heap), (K w.params).In h → h.Ns mainGlobals mg → mg d.name = some (.ref fa) →
      ∃ fd : FuncData, (∀ (s : Shared) (u : Value), BindsTo s fd ⟨[u], []⟩ [("_law_script", u)]) ∧ ∀ base : Heap, (K w.params).In base → base.Ns mainGlobals mg → FnOk l.prog w (K w.params) mg base CX0 8 fa fd P_law (spLaw (K w.params))) :
    PySem.W.WalkO q loose XP YP l.row.toRowW d [] (fun f vs => PySem.call f vs) :=
  L2.walk_of (n := 63) (k := 8) (x := "_law_script") (CX := fun _ => CX0) (sp := fun w => spLaw (K w.params)) hn (by decide) hdf ⟨rfl, by decide, by decide⟩ hY F (fun _ _ a ns hl _ hS => ⟨a, ns, rfl, hS, hl, fun _ => rfl⟩) fun _ _ _ _ _ z => z
end J

open PySem PySem.W PyProof.Rows in
set_option maxRecDepth 100000 in
set_option maxHeartbeats 0 in
theorem PySem.Challenge.cw_onewayread_k00_looms_made_and_refused_holds : PySem.Challenge.rw_onewayread_k00_looms_made_and_refused.Holds := by
  w_on; o_law; k_head; (case hw => w_witness2)
  k_fill
  refine J.walk (l := PySem.Challenge.rw_onewayread_k00_looms_made_and_refused) rfl rfl (fun w h Y => PySem.W.kIn_of Y) ?F
  case F =>
    intro w mg fa h KX G hmg
    refine' J.all_mk KX G hmg ?a_CReadError ?a_CLoom ?a_CInvalidLoom ?a_InvalidLoom_init ?i_InvalidLoom_init ?l_InvalidLoom_init ?c_InvalidLoom_init ?k_InvalidLoom_init ?a_is_number ?l_is_number ?c_is_number ?k_is_number ?a_is_sequence ?l_is_sequence ?c_is_sequence ?k_is_sequence ?a_is_signs ?l_is_signs ?c_is_signs ?k_is_signs ?a_is_string_over ?l_is_string_over ?c_is_string_over ?k_is_string_over ?a_is_word ?l_is_word ?c_is_word ?k_is_word ?a_check_signs ?l_check_signs ?c_check_signs ?k_check_signs ?a_is_arc ?l_is_arc ?c_is_arc ?k_is_arc ?a_Loom_init ?i_Loom_init ?l_Loom_init ?c_Loom_init ?k_Loom_init ?a_Loom_eq ?l_Loom_eq ?c_Loom_eq ?k_Loom_eq ?a_l_state ?l_l_state ?c_l_state ?k_l_state ?a_l_draw ?l_l_draw ?c_l_draw ?k_l_draw ?a_l_word ?l_l_word ?c_l_word ?k_l_word ?a_l_loom ?l_l_loom ?c_l_loom ?k_l_loom ?a_l_told ?l_l_told ?c_l_told ?k_l_told ?a_l_wrong_arc ?l_l_wrong_arc ?c_l_wrong_arc ?k_l_wrong_arc ?a_law ?l_law ?c_law ?k_law ?pg_Loom ?hd_Loom ?po_Loom ?sa_Loom ?mk_Loom ?kc_Loom ?na_Loom_signs ?na_Loom_arcs ?kc_ReadError ?e1_ReadError ?e2_ReadError ?e3_ReadError ?e4_ReadError ?e5_ReadError ?e8_ReadError ?ty_ReadError ?in_ReadError ?kc_InvalidLoom ?e1_InvalidLoom ?e2_InvalidLoom ?e3_InvalidLoom ?e4_InvalidLoom ?e5_InvalidLoom ?e8_InvalidLoom ?ty_InvalidLoom ?xi_InvalidLoom ?tf_InvalidLoom ?sa_InvalidLoom ?no_InvalidLoom_part ?no_InvalidLoom_at ?e6 ?e7 ?ic_Loom ?ig ?it ?im_Loom ?si_InvalidLoom ?si_Loom ?sl_InvalidLoom ?st_InvalidLoom ?sl_Loom ?st_Loom ?cl_InvalidLoom ?ss_InvalidLoom ?sr_InvalidLoom ?cl_ReadError ?nx_InvalidLoom_at ?nx_InvalidLoom_part ?sstr_Loom ?eq_Loom ?fn_Loom_eq ?ne_Loom ?sx_InvalidLoom ?z_Exception ?z_all ?z_bool ?z_enumerate ?z_int ?z_isinstance ?z_len ?z_list ?z_range ?z_sorted ?z_str ?z_tuple ?z_zip ?g_MOST_SIGNS ?g_LONGEST_WORD ?g_LAST_STATE ?g_MOST_ARCS
    (case a_CReadError => k_is)
    (case a_CLoom => k_is)
    (case a_CInvalidLoom => k_is)
    (case a_InvalidLoom_init => k_is)
    (case i_InvalidLoom_init => k_is)
    (case l_InvalidLoom_init => k_is)
    (case c_InvalidLoom_init => k_is)
    (case k_InvalidLoom_init => k_is)
    (case a_is_number => k_is)
    (case l_is_number => k_is)
    (case c_is_number => k_is)
    (case k_is_number => k_is)
    (case a_is_sequence => k_is)
    (case l_is_sequence => k_is)
    (case c_is_sequence => k_is)
    (case k_is_sequence => k_is)
    (case a_is_signs => k_is)
    (case l_is_signs => k_is)
    (case c_is_signs => k_is)
    (case k_is_signs => k_is)
    (case a_is_string_over => k_is)
    (case l_is_string_over => k_is)
    (case c_is_string_over => k_is)
    (case k_is_string_over => k_is)
    (case a_is_word => k_is)
    (case l_is_word => k_is)
    (case c_is_word => k_is)
    (case k_is_word => k_is)
    (case a_check_signs => k_is)
    (case l_check_signs => k_is)
    (case c_check_signs => k_is)
    (case k_check_signs => k_is)
    (case a_is_arc => k_is)
    (case l_is_arc => k_is)
    (case c_is_arc => k_is)
    (case k_is_arc => k_is)
    (case a_Loom_init => k_is)
    (case i_Loom_init => k_is)
    (case l_Loom_init => k_is)
    (case c_Loom_init => k_is)
    (case k_Loom_init => k_is)
    (case a_Loom_eq => k_is)
    (case l_Loom_eq => k_is)
    (case c_Loom_eq => k_is)
    (case k_Loom_eq => k_is)
    (case a_l_state => k_is)
    (case l_l_state => k_is)
    (case c_l_state => k_is)
    (case k_l_state => k_is)
    (case a_l_draw => k_is)
    (case l_l_draw => k_is)
    (case c_l_draw => k_is)
    (case k_l_draw => k_is)
    (case a_l_word => k_is)
    (case l_l_word => k_is)
    (case c_l_word => k_is)
    (case k_l_word => k_is)
    (case a_l_loom => k_is)
    (case l_l_loom => k_is)
    (case c_l_loom => k_is)
    (case k_l_loom => k_is)
    (case a_l_told => k_is)
    (case l_l_told => k_is)
    (case c_l_told => k_is)
    (case k_l_told => k_is)
    (case a_l_wrong_arc => k_is)
    (case l_l_wrong_arc => k_is)
    (case c_l_wrong_arc => k_is)
    (case k_l_wrong_arc => k_is)
    (case a_law => k_is)
    (case l_law => k_is)
    (case c_law => k_is)
    (case k_law => k_is)
    (case pg_Loom => k_is)
    (case hd_Loom => k_is)
    (case po_Loom => k_is)
    (case sa_Loom => k_is)
    (case mk_Loom => k_is)
    (case kc_Loom => k_is)
    (case na_Loom_signs => k_is)
    (case na_Loom_arcs => k_is)
    (case kc_ReadError => k_is)
    (case e1_ReadError => k_is)
    (case e2_ReadError => k_is)
    (case e3_ReadError => k_is)
    (case e4_ReadError => k_is)
    (case e5_ReadError => k_is)
    (case e8_ReadError => k_is)
    (case ty_ReadError => k_is)
    (case in_ReadError => k_exc)
    (case kc_InvalidLoom => k_is)
    (case e1_InvalidLoom => k_is)
    (case e2_InvalidLoom => k_is)
    (case e3_InvalidLoom => k_is)
    (case e4_InvalidLoom => k_is)
    (case e5_InvalidLoom => k_is)
    (case e8_InvalidLoom => k_is)
    (case ty_InvalidLoom => k_is)
    (case xi_InvalidLoom => k_is)
    (case tf_InvalidLoom => k_is)
    (case sa_InvalidLoom => k_is)
    (case no_InvalidLoom_part => k_is)
    (case no_InvalidLoom_at => k_is)
    (case e6 => k_is)
    (case e7 => k_is)
    (case ic_Loom => k_is)
    (case ig => k_is)
    (case it => k_is)
    (case im_Loom => k_is)
    (case si_InvalidLoom => k_is)
    (case si_Loom => k_is)
    (case sl_InvalidLoom => k_is)
    (case st_InvalidLoom => k_is)
    (case sl_Loom => k_is)
    (case st_Loom => k_is)
    (case cl_InvalidLoom => k_is)
    (case ss_InvalidLoom => k_is)
    (case sr_InvalidLoom => k_is)
    (case cl_ReadError => k_is)
    (case nx_InvalidLoom_at => k_is)
    (case nx_InvalidLoom_part => k_is)
    (case sstr_Loom => k_is)
    (case eq_Loom => k_is)
    (case fn_Loom_eq => k_is)
    (case ne_Loom => k_is)
    (case sx_InvalidLoom => k_is)
    (case z_Exception => k_is)
    (case z_all => k_is)
    (case z_bool => k_is)
    (case z_enumerate => k_is)
    (case z_int => k_is)
    (case z_isinstance => k_is)
    (case z_len => k_is)
    (case z_list => k_is)
    (case z_range => k_is)
    (case z_sorted => k_is)
    (case z_str => k_is)
    (case z_tuple => k_is)
    (case z_zip => k_is)
    (case g_MOST_SIGNS => k_is)
    (case g_LONGEST_WORD => k_is)
    (case g_LAST_STATE => k_is)
    (case g_MOST_ARCS => k_is)
