import PyProof.Rows.All
import Wide.All
import OpenK.AllK
import Wide.FinOn
import HandS.ForMost
import HandS.IsInst
import HandS.ForExc
import HandS.ExcValue
import HandS.ExcIs
import HandS.ExcInit
import KE.KExcInit
import HandS.StrMore
import HandS.Conv
import HandS.Codes
import HandS.ExcField
import HandS.DeepEq
import HandS.More
import PyProof.InstEq
import PySem.Challenge.RW_onewayread_k98_errors
set_option Elab.async false
set_option linter.all false
set_option maxRecDepth 100000
/-! the rules whose reading names the written part, with that part a letter of its own (within a comprehension the place's own name of it can't be found by unification) -/
namespace L2
open PySem PySem.Spec PyProof.Rows
variable {X : Cx} {K : PySem.W.Frag}
theorem ix_listK (h : X.K = K) : IxR X (rIxL K) := by subst h; exact ix_list
theorem ix_tupK (h : X.K = K) : IxR X (rIxT K) := by subst h; exact ix_tup
theorem call_tuple_ofK (h : X.K = K) : CallR X (.type "tuple") (fun xs H Q => ∃ p ys, xs = [.ref p] ∧ ((SqL K H p ys ∧ ∀ l, H l = none → Q (.ref l) (upd H l (.tup ys))) ∨ (SqT K H p ys ∧ Q (.ref p) H))) := by subst h; exact call_tuple_of
theorem call_list_ofK (h : X.K = K) : CallR X (.type "list") (fun xs H Q => ∃ p ys, xs = [.ref p] ∧ (SqL K H p ys ∨ SqT K H p ys) ∧ ∀ l, H l = none → Q (.ref l) (upd H l (.lst ys))) := by subst h; exact call_list_of
theorem call_len_seqK (h : X.K = K) : CallR X (.builtin "len") (fun xs H Q => ∃ p ys, xs = [.ref p] ∧ (SqL K H p ys ∨ SqT K H p ys) ∧ Q (.int ys.length) H) := by subst h; exact call_len_seq
theorem call_isiK' (h : X.K = K) : CallR X (.builtin "isinstance") (rIsi K) := by subst h; exact call_isi
theorem call_isiTK (h : X.K = K) : CallR X (.builtin "isinstance") (rIsiT K) := by subst h; exact call_isiT
theorem sl_listK (h : X.K = K) : SlR X (rSlL K) := by subst h; exact sl_list
theorem cr_allK (h : X.K = K) (hc : X.calm = true) : CallR X (.builtin "all") (rAll K) := by subst h; exact cr_all hc
theorem cr_anyK (h : X.K = K) (hc : X.calm = true) : CallR X (.builtin "any") (rAny K) := by subst h; exact cr_any hc
theorem cr_sumK (h : X.K = K) (hc : X.calm = true) : CallR X (.builtin "sum") (rSum K) := by subst h; exact cr_sum hc
end L2

set_option Elab.async false
set_option linter.all false
set_option maxRecDepth 100000
set_option maxHeartbeats 4000000
/-! own exceptions without arguments: raised, and as values -/
namespace L2
open PySem PySem.Spec PyProof.Rows
section
variable {X : Cx} {C : Addr} {bmB : List Value} {B newId initId : String}
theorem pmk_own0 {x : Str} {p pos : Pos} (F : ExcBaseFacts B newId initId bmB) (q : PySem.W.excIn X.K C bmB newId = true) (gC : X.mg x = some (.ref C)) (kC : PySem.W.keepIn X.K (.ref C) = true) (r : Raises X (.ref C)) (hg : Gl X x)
    (hdb : (x == ("__debug__" : Str)) = false := by decide) : PMk X (.Call (.Name x p) [] [] pos) (fun _ H Q => Q (.ref C) none H) := by
  intro pins s σ H Q I h
  refine wpAny_Call_Name_kw (ld_glob I hg gC ?_ hdb)
  refine PySem.W.callWith_K0 I.kIn kC ?_
  obtain ⟨bm, N, nm, qn, bs, hdct, sn, sub, ab, col, dd, k0, k1, k2, k3, k5, mN, hC, hN, hni, T⟩ := exc_obj I.kIn q
  refine wpAny_call_exc_subT F T hC hN hni (fun h' e hm => ?_) (by show 0 ≤ sizeLine; exact Nat.zero_le _)
  exact mk_of I hm r h (I.hok.gone hm.new)
/-- X(), as a value -/
theorem pe_exc0 {x : Str} {p pos : Pos} (F : ExcBaseFacts B newId initId bmB) (q : PySem.W.excIn X.K C bmB newId = true) (gC : X.mg x = some (.ref C)) (kC : PySem.W.keepIn X.K (.ref C) = true) (hg : Gl X x)
    (hdb : (x == ("__debug__" : Str)) = false := by decide) : PE X (.Call (.Name x p) [] [] pos) (fun σ H Q => ∀ a, H a = none → Q (.ref a) (upd H a (ExO (.ref C) a))) := by
  refine ⟨fun pins s σ H Q I h => ?_⟩
  refine wpAny_Call_Name_kw (ld_glob I hg gC ?_ hdb)
  refine PySem.W.callWith_K0 I.kIn kC ?_
  obtain ⟨bm, N, nm, qn, bs, hdct, sn, sub, ab, col, dd, k0, k1, k2, k3, k5, mN, hC, hN, hni, T⟩ := exc_obj I.kIn q
  refine wpAny_call_exc_subT F T hC hN hni (fun h' a hm => ?_) (by show 0 ≤ sizeLine; exact Nat.zero_le _)
  have hn : H a = none := I.hok.gone hm.new
  obtain ⟨t, ht, _, _⟩ := hm.there
  exact ⟨.ref a, upd H a (ExO (.ref C) a), I.laidN hm.keeps hm.new hn (exO_ok ht ⟨rfl, rfl⟩ rfl rfl rfl (show 4 < 6 by decide)), rfl, h a hn⟩
end
end L2

set_option Elab.async false
set_option linter.all false
set_option maxRecDepth 100000
set_option maxHeartbeats 4000000
/-! own exceptions with an __init__ of their own that stores its arguments, over Exception: the stores -/
namespace PySem
namespace ExX
open Builtin Builtin.ObjectAttr PySem.W PySem.Calls PyProof.Rows PySem.HandSPX
abbrev exTail : List Value := [.type "Exception", .type "BaseException", .type "object"]
/-- own classes, then Exception's mro -/
def refsEX : List Value → Bool
  | .ref _ :: r => refsEX r
  | l => l == exTail
theorem refsEX_cases : ∀ l : List Value, refsEX l = true → (∃ c r, l = .ref c :: r ∧ refsEX r = true) ∨ l = exTail := by
  intro l e
  unfold refsEX at e
  split at e
  · exact .inl ⟨_, _, rfl, e⟩
  · exact .inr (beq_iff_eq.mp e)
theorem refsEX_pass (self : Value) : ∀ l : List Value, refsEX l = true → refuseLoop self "__setattr__" l = pure () := by
  intro l
  induction l with
  | nil => intro e; exact absurd e (by decide)
  | cons a r ih =>
    intro e
    rcases refsEX_cases (a :: r) e with ⟨c, r', q, h⟩ | q
    · obtain ⟨rfl, rfl⟩ := List.cons.inj q
      rw [refuseLoop_ref]; exact ih h
    · rw [q]; exact F.store_Exception.passes self
theorem refsEX_contains (X : String) : ∀ l : List Value, refsEX l = true → l.contains (.type X) = exTail.contains (.type X) := by
  intro l
  induction l with
  | nil => intro e; exact absurd e (by decide)
  | cons a r ih =>
    intro e
    rcases refsEX_cases (a :: r) e with ⟨c, r', q, h⟩ | q
    · obtain ⟨rfl, rfl⟩ := List.cons.inj q
      rw [List.contains_cons, ih h]; rfl
    · rw [q]
theorem refsEX_ne {l : List Value} (e : refsEX l = true) : l.isEmpty = false := by
  cases l with
  | nil => exact absurd e (by decide)
  | cons _ _ => rfl
section
variable {prog : Program} {w : World} {A : Around} {E : Value → Shared → Prop} {R : Result → Shared → Prop} {hp : Heap} {g : Array GenState} {d : Drawn} {t : Nat} {os : OsState}
theorem osa_new {K : W.Frag} {name : Str} {tk : Tok} {v : Value} {x C : Addr} {fv : Array Value} {cd : ClassData}
    (X : K.In hp) (hx : hp.get? x = some { cls := .ref C, data := .fields fv }) (hcd : W.clsIn K C = some cd) (hm : refsEX cd.mro = true) (hh : cd.hasDict = true) (ha : W.findIn K (.ref C) name = some none)
    (hq : ∀ h' tk' dx, (∀ b o, b ≠ x → hp.get? b = some o → h'.get? b = some o) → hp.objs.size ≤ dx → dx ≠ x → h'.get? x = some { cls := .ref C, dict := some dx, data := .fields fv } →
      h'.Ns1 dx (fun y => if y = name then some v else none) → R (.ok (.ret .none)) ⟨h', g, d, tk', os⟩) :
    codeAny (model prog w) A (.call (.builtin "object.__setattr__") ⟨[.ref x, .str name tk, v], []⟩) R ⟨hp, g, d, t, os⟩ := by
  have I : W.InstAt hp x { cls := .ref C, data := .fields fv } C none := ⟨hx, rfl, rfl, trivial⟩
  have SF := F.store_object
  have ne := refsEX_ne hm
  have hob : cd.mro.contains (.type "object") = true := (refsEX_contains "object" _ hm).trans (by decide +kernel)
  have hxs : x ≠ hp.objs.size := Nat.ne_of_lt (Heap.lt_size hx)
  have sub : W.Looks (model prog w) hp (isInstance (.ref x) (.type "object")) true := I.type.andThen (W.looks_mroIn X (by unfold W.mroIn; rw [hcd, Option.bind_some, if_neg (by rw [ne]; decide), hob]))
  refine codeAny_call_builtin SF.slot.plain SF.entry (@W.check_slot (model prog w) _ _ ⟨hp, g, d, t, os⟩ "object.__setattr__" "object" "__setattr__" (.ref x) [.str name tk, v] [] _ SF.kind SF.split sub (SF.args (.ref x) (.str name tk) v) ?_)
  have hmr : W.Looks (model prog w) hp (mroOf (.ref C)) cd.mro := (W.looks_clsIn X hcd).andThen .now
  have L3 : W.Looks (model prog w) hp (storeTaker? none) none := .now
  have hcls : W.Looks (model prog w) hp (classData C) cd := W.looks_clsIn X hcd
  rw [W.osa_eq, refuse_eq]
  refine wpAny_bind (wpAny_bind (I.type.at (wpAny_bind (hmr.at ?_))))
  rw [refsEX_pass _ _ hm]
  refine wpAny_pure (wpAny_bind (I.type.at (wpAny_bind ((W.looks_findIn X ha).at (wpAny_bind (L3.at ?_))))))
  show wpAny _ _ (storeInOwnDict (.ref x) (.ref C) (.str name tk) name v false) _ _ _
  obtain ⟨nm, bs, mro, ns, qn, hd, sn, sb, ab, col, del⟩ := cd
  dsimp only at hh
  subst hh
  unfold storeInOwnDict ownDictForStores
  repeat (first | with_reducible refine store_in_new ?_ ?_ | with_reducible refine wpAny_loadPart_at hx ?_ | with_reducible refine hcls.at ?_ | wp_step)
  · exact ⟨_, #[], _, (Heap.get?_update_ne _ _ _ _ hxs.symm).trans (Heap.get?_push_at rfl rfl), rfl, fun e he => absurd he (by simp), fun _ => rfl⟩
  · intro h' tk' hn' hs
    have hx₁ : (hp.push { cls := .type "dict", data := .dict #[] }).get? x = some { cls := .ref C, data := .fields fv } := Heap.get?_push_of_some _ hx
    refine hq h' tk' hp.objs.size (fun b o hb ho => ?_) (Nat.le_refl _) hxs.symm ?_ hn'
    · exact (hs.2 b (Nat.ne_of_lt (Heap.lt_size ho))).trans ((Heap.get?_update_ne _ _ _ _ hb).trans (Heap.get?_push_of_some _ ho))
    · exact (hs.2 x hxs).trans (Heap.get?_update_self _ hx₁ rfl)
theorem osa_old {K : W.Frag} {name : Str} {tk : Tok} {v : Value} {x C dx : Addr} {fv : Array Value} {cd : ClassData} {m0 : Str → Option Value} {nl : List Str}
    (X : K.In hp) (hx : hp.get? x = some { cls := .ref C, dict := some dx, data := .fields fv }) (hns : hp.Ns1 dx m0) (hw : Within m0 nl) (hz : nl.length ≤ 1000) (hcd : W.clsIn K C = some cd) (hm : refsEX cd.mro = true) (hh : cd.hasDict = true)
    (ha : W.findIn K (.ref C) name = some none)
    (hq : ∀ h' tk', (∀ b o, b ≠ dx → hp.get? b = some o → h'.get? b = some o) → h'.Ns1 dx (fun y => if y = name then some v else m0 y) → R (.ok (.ret .none)) ⟨h', g, d, tk', os⟩) :
    codeAny (model prog w) A (.call (.builtin "object.__setattr__") ⟨[.ref x, .str name tk, v], []⟩) R ⟨hp, g, d, t, os⟩ := by
  obtain ⟨oD, esD, epD, hoD, hdD, _⟩ := hns.count hw
  have I : W.InstAt hp x { cls := .ref C, dict := some dx, data := .fields fv } C (some oD) := ⟨hx, rfl, rfl, hoD⟩
  have SF := F.store_object
  have ne := refsEX_ne hm
  have hob : cd.mro.contains (.type "object") = true := (refsEX_contains "object" _ hm).trans (by decide +kernel)
  have sub : W.Looks (model prog w) hp (isInstance (.ref x) (.type "object")) true := I.type.andThen (W.looks_mroIn X (by unfold W.mroIn; rw [hcd, Option.bind_some, if_neg (by rw [ne]; decide), hob]))
  refine codeAny_call_builtin SF.slot.plain SF.entry (@W.check_slot (model prog w) _ _ ⟨hp, g, d, t, os⟩ "object.__setattr__" "object" "__setattr__" (.ref x) [.str name tk, v] [] _ SF.kind SF.split sub (SF.args (.ref x) (.str name tk) v) ?_)
  have hmr : W.Looks (model prog w) hp (mroOf (.ref C)) cd.mro := (W.looks_clsIn X hcd).andThen .now
  have L3 : W.Looks (model prog w) hp (storeTaker? none) none := .now
  have hcls : W.Looks (model prog w) hp (classData C) cd := W.looks_clsIn X hcd
  rw [W.osa_eq, refuse_eq]
  refine wpAny_bind (wpAny_bind (I.type.at (wpAny_bind (hmr.at ?_))))
  rw [refsEX_pass _ _ hm]
  refine wpAny_pure (wpAny_bind (I.type.at (wpAny_bind ((W.looks_findIn X ha).at (wpAny_bind (L3.at ?_))))))
  show wpAny _ _ (storeInOwnDict (.ref x) (.ref C) (.str name tk) name v false) _ _ _
  obtain ⟨nm, bs, mro, ns, qn, hd, sn, sb, ab, col, del⟩ := cd
  dsimp only at hh
  subst hh
  unfold storeInOwnDict ownDictForStores
  repeat (first | with_reducible refine PySem.OEX.store_in_old hns hw hz ?_ | with_reducible refine wpAny_loadPart_at hx ?_ | with_reducible refine hcls.at ?_ | wp_step)
  intro h' tk' hn' hs
  exact hq h' tk' (fun b o hb ho => (hs.2 b hb).trans ho) hn'
end
end ExX
end PySem

set_option Elab.async false
set_option linter.all false
set_option maxRecDepth 100000
set_option maxHeartbeats 4000000
namespace PySem
namespace ExX
open PySem.W PySem.Calls PyProof.Rows PySem.HandSPX
/-- what the written part says of an own exception class, at C, over Exception, and of its __init__, at fI -/
structure ExcT (K : W.Frag) (mg : Str → Option Value) (C fI : Addr) (cn : Str) (fs : List Str) (qual : Str) (st : Stmt) : Prop where
  gC : mg cn = some (.ref C)
  cls : ∃ nm q N bs bm sn sub ab col dd k0 k1 k2 k3 k5, K.lookup C = some (excClassObj nm q C N bs bm true sn sub ab col dd k0 k1 k2 k3 k5 "Exception.__new__") ∧ refsEX bm = true
  sa : findIn K (.ref C) "__setattr__" = some (some (.builtin "object.__setattr__"))
  ga : findIn K (.ref C) "__getattribute__" = some (some (.builtin "BaseException.__getattribute__"))
  gg : findIn K (.ref C) "__getattr__" = some none
  no : ∀ f ∈ fs, findIn K (.ref C) f = some none
  iC : findIn K (.ref C) "__init__" = some (some (.ref fI))
  tC : typeIn K (.ref fI) = some (.type "function")
  kC : keepIn K (.ref C) = true
  exC : subIn K (.ref C) (.type "BaseException") = some true
  tyC : typeIn K (.ref C) = some (.type "type")
  hdC : hasDictIn K C = true
  fn : ∃ (oc : Value) (od : Option Addr) (kV doc pm : Value) (an : Option Addr) (cdv ct : Value) (osl : Array (Option Value)),
    K.lookup fI = some ⟨oc, od, .func (fnOf "__init__" qual (L2.defArgs st) (L2.defBody st) (L2.defScope st) .none kV doc pm an cdv ct), osl⟩ ∧ codeIn K cdv qual = true
theorem ldC {M : Model} {s : Shared} {name : Str} {scope : Scope} {L a : Addr} {cd : Value} {m : Str → Option Value} {x : Str} {pos : Pos} {v : Value} {Q : Value → Shared → Prop} {A : Around} {E : Value → Shared → Prop} (hn : s.heap.Ns L m) (hv : m x = some v) (h : Q v s)
    (hk : scope.kind = .function := by rfl) (hl : (envOfC name scope L a cd).kindOf x = some .local := by rfl) (hd : (x == ("__debug__" : Str)) = false := by decide) :
    wpAny M A (eval (.Name x pos) (envOfC name scope L a cd)) Q E s := wpAny_Name (wpAny_loadName_local hk hl hn hv h) hd
end ExX
end PySem
namespace PySem
namespace ExX
open PySem.W PySem.Calls PyProof.Rows PySem.HandSPX
/-- a made exception of the class at C: itself at e, its dict at d, the fields m -/
structure OwnMade (h h' : Heap) (e C d : Addr) (m : Str → Option Value) : Prop where
  keep : ∀ b o, h.get? b = some o → h'.get? b = some o
  new : h.objs.size ≤ e
  obj : ∃ oe vs, h'.get? e = some oe ∧ oe.cls = .ref C ∧ oe.dict = some d ∧ oe.data = .fields vs ∧ vs[1]? = some .none
  dbig : h.objs.size ≤ d
  dne : d ≠ e
  ns : h'.Ns1 d m
end ExX
end PySem
namespace L2
open PySem PySem.Spec PyProof.Rows PySem.ExX
/-- an exception object of the class at C, its own dict at d, not raised -/
def ExD (C d e : Addr) : HO := .ext fun h => ∃ (oe : Obj) (vs : Array Value), h.get? e = some oe ∧ Zc (.ref C) (some d) oe ∧ oe.data = .fields vs ∧ vs[1]? = some .none
theorem exD_ok {P : Program} {w : World} {H : Hp} {h : Heap} {C d e : Addr} {oe : Obj} {vs : Array Value} (he : h.get? e = some oe) (z : Zc (.ref C) (some d) oe) (hd : oe.data = .fields vs) (h1 : vs[1]? = some .none) : ObjOk P w H h e (ExD C d e) :=
  ⟨⟨oe, vs, he, z, hd, h1⟩, ⟨oe, he⟩, fun _ _ ⟨o, v, q, r⟩ k => ⟨o, v, k o q, r⟩⟩
section
variable {X : Cx} {pins : List (Addr × Obj)} {σ : St} {H : Hp} {hp h' : Heap} {g : Array GenState} {dr : Drawn} {tk tk' : Nat} {os : OsState} {e C d : Addr} {m : Str → Option Value} {fs : List (Str × V)}
/-- the heap without the exception itself: its dict laid -/
theorem own_split (I : Inv X pins σ H ⟨hp, g, dr, tk, os⟩) (M : OwnMade hp h' e C d m) (rel : ∀ f, RelO (fs.lookup f) (m f)) :
    ∃ G' : Heap, (∀ b o, G'.get? b = some o → h'.get? b = some o) ∧ G'.get? e = none ∧ Inv X pins σ (upd H d (.xd fs)) ⟨G', g, dr, tk', os⟩ := by
  have hns := M.ns
  obtain ⟨G', g1, g2⟩ := restrict h' fun b => decide (b ≠ e)
  have gk : ∀ b, b ≠ e → G'.get? b = h'.get? b := fun b hb => g1 b (decide_eq_true hb)
  have ge : G'.get? e = none := g2 e (by simp)
  have old : ∀ b o, hp.get? b = some o → G'.get? b = some o := fun b o q => (gk b (Nat.ne_of_lt (Nat.lt_of_lt_of_le (Heap.lt_size q) M.new))).trans (M.keep b o q)
  have ob : ObjOk X.prog X.w (upd H d (.xd fs)) G' d (.xd fs) := ⟨_, hns.at (fun o q => (gk d M.dne).trans q), fun f => rel f⟩
  have J : Inv X pins σ (upd H d (.xd fs)) ⟨G', g, dr, tk', os⟩ := I.laid (t' := tk') old M.dbig ob
  refine ⟨G', fun b o q => ?_, ge, J⟩
  by_cases hb : b = e
  · rw [hb, ge] at q; cases q
  · exact (gk b hb).symm.trans q
theorem own_value (I : Inv X pins σ H ⟨hp, g, dr, tk, os⟩) (M : OwnMade hp h' e C d m) (rel : ∀ f, RelO (fs.lookup f) (m f)) :
    Inv X pins σ (upd (upd H d (.xd fs)) e (ExD C d e)) ⟨h', g, dr, tk', os⟩ := by
  obtain ⟨G', k, ge, J⟩ := own_split (tk' := tk') I M rel
  obtain ⟨oe, vs, hoe, hc, hd, hdat, h1⟩ := M.obj
  have hn : upd H d (.xd fs) e = none := by
    rw [upd_ne (Ne.symm M.dne)]
    exact I.hok.fresh M.new
  exact J.laidN k ge hn (exD_ok hoe ⟨hc, hd⟩ hdat h1)
theorem own_raise {Q : XK} (I : Inv X pins σ H ⟨hp, g, dr, tk, os⟩) (M : OwnMade hp h' e C d m) (rel : ∀ f, RelO (fs.lookup f) (m f)) (r : Raises X (.ref C)) (q : ∀ d, H d = none → Q (.ref C) (some d) (upd H d (.xd fs))) :
    MkP X pins σ Q (.ref e) ⟨h', g, dr, tk', os⟩ := by
  obtain ⟨G', k, ge, J⟩ := own_split (tk' := tk') I M rel
  obtain ⟨oe, vs, hoe, hc, hd, hdat, h1⟩ := M.obj
  refine ⟨e, oe, vs, ⟨G', g, dr, tk', os⟩, _, .ref C, some d, rfl, J, k, ge, hoe, ⟨hc, hd⟩, hdat, h1, ?_, rfl, I.bare, r, q d (I.hok.fresh M.dbig)⟩
  rw [upd_ne (Ne.symm M.dne)]
  exact I.hok.fresh M.new
end
end L2

set_option Elab.async false
set_option linter.all false
set_option maxRecDepth 100000
set_option maxHeartbeats 4000000
/-! isinstance of exception objects that are values, whatever own dict they have -/
namespace PySem.W
open PySem PySem.Spec PySem.Calls PyProof.Rows
section
variable {prog : Program} {w : World} {A : Around} {E : Value → Shared → Prop} {s : Shared} {K : Frag} {x D : Addr} {ox : Obj} {od : Option Obj}
theorem findObj_dataZ {C : Addr} {name : Str} {a g : Value} (hc : (clsIn K C).isSome = true) (ha : findIn K (.ref C) name = some (some a)) (hg : specialIn K a "__get__" = some (some g)) (ht : takesIn K a = some true) : findObj K C od name = some (.bind g a) := by
  obtain ⟨cd, hc⟩ := Option.isSome_iff_exists.mp hc
  unfold findObj
  rw [hc, Option.bind_some, ha, Option.bind_some]
  simp [hg, ht]
theorem kin_classZ {Q : Option Value → Shared → Prop} (hga : findIn K (.ref D) "__getattribute__" = some (some (.builtin "BaseException.__getattribute__"))) (hgt : findIn K (.ref D) "__getattr__" = some none) (hsub : subIn K (.ref D) (.type "BaseException") = some true)
    (hdct : hasDictIn K D = true) (ha : findIn K (.ref D) "__class__" = some (some (.builtin "object.__class__")))
    (hn : specialIn K (.builtin "object.__class__") "__get__" = some (some (.builtin "getset_descriptor.__get__"))) (htk : takesIn K (.builtin "object.__class__") = some true) (hm : mroIn K D (.type "object") = some true)
    (X : K.In s.heap) (I : InstAt s.heap x ox D od) (h : Q (some (.ref D)) { s with toks := s.toks + 1 }) : wpAny (model prog w) A (getAttr? (.ref x) "__class__") Q E s := by
  have hf : findObj K D od "__class__" = some (.bind (.builtin "getset_descriptor.__get__") (.builtin "object.__class__")) := findObj_dataZ (by obtain ⟨cd, hc, _⟩ := any_some hdct; rw [hc]; rfl) ha hn htk
  obtain ⟨hp, g, d, t, os⟩ := s
  have L0 := I.type (M := model prog w)
  have L1 := looks_findIn (M := model prog w) X hga
  have L2 := looks_findIn (M := model prog w) X hgt
  have L3 := looks_find (M := model prog w) X I hf
  have sub : Looks (model prog w) hp (isInstance (.ref x) (.type "BaseException")) true := L0.andThen (looks_subIn X hsub)
  have hx0 : (false && onTheHeap (Value.builtin "BaseException.__getattribute__")) = false := rfl
  have hx2 : (Value.builtin "BaseException.__getattribute__" == Value.builtin "object.__getattribute__") = false := by decide +kernel
  have hx1 : (onTheHeap (Value.ref D) && Value.builtin "BaseException.__getattribute__" == Value.builtin "object.__getattribute__") = false := by rw [hx2]; rfl
  unfold getAttr? getAttrBy? getAttrBy
  refine wpAny_bind (wpAny_mkText (wpAny_bind (wpAny_attempt (wpAny_holding (wpAny_bind (L0.at (wpAny_bind (L1.at ?_))))))))
  show wpAny _ _ (if (onTheHeap (Value.ref D) && Value.builtin "BaseException.__getattribute__" == Value.builtin "object.__getattribute__") = true then _ else _) _ _ _
  rw [hx1, if_neg Bool.false_ne_true]
  unfold getAttrByItsOwn hookBefore
  refine wpAny_bind ?_
  rw [if_pos (show onTheHeap (Value.ref D) = true from rfl)]
  refine L2.at ?_
  refine wpAny_bind (wpAny_attempt (wpAny_holding ?_))
  unfold callGetattribute
  rw [hx0, if_neg Bool.false_ne_true]
  unfold boundAndCalled
  rw [PySem.F.excAttr_ValueError.ga.bind (.ref x)]
  refine wpAny_bind (wpAny_pure ?_)
  show wpAny _ _ (call (.builtin "BaseException.__getattribute__") [.ref x, .str "__class__" t]) _ _ _
  refine wpAny_call (codeAny_call_builtin PySem.F.excAttr_ValueError.ga.plain PySem.F.entry_bexc_ga ?_)
  refine @check_slot (model prog w) _ _ ⟨hp, g, d, t + 1, os⟩ "BaseException.__getattribute__" "BaseException" "__getattribute__" (.ref x) [.str "__class__" t] [] _ (by decide +kernel) (by decide +kernel) sub (PySem.F.args_bexc_ga (.ref x) (.str "__class__" t)) ?_
  unfold Builtin.«object.__getattribute__»
  refine wpAny_bind (wpAny_of_eq (a := ((Value.ref x : Value), [Value.str "__class__" t])) (by first | rfl | (simp only [slotArgs]; rfl)) ?_)
  refine wpAny_bind (wpAny_pure (wpAny_bind (L0.at (wpAny_bind (L3.at ?_)))))
  show wpAny _ _ (holding [Value.builtin "object.__class__"] (call (.builtin "getset_descriptor.__get__") [.builtin "object.__class__", .ref x, .ref D]) >>= ret) _ _ _
  refine wpAny_bind (wpAny_holding (wpAny_call (class_get (s := ⟨hp, g, d, t + 1, os⟩) (ox := ox) (od := od) X I hm ?_)))
  refine wpAny_pure ?_
  show wpAny _ _ (handedOut (.ref D)) _ _ _
  rw [handedOut_of (v := .ref D) rfl]
  first
    | exact wpAny_pure (wpAny_pure h)
    | exact wpAny_pure h
    | exact wpAny_pure (wpAny_bind (wpAny_pure (wpAny_pure h)))
theorem kitx_excZ (hga : findIn K (.ref D) "__getattribute__" = some (some (.builtin "BaseException.__getattribute__"))) (hgt : findIn K (.ref D) "__getattr__" = some none) (hsub : subIn K (.ref D) (.type "BaseException") = some true) (hdct : hasDictIn K D = true) (ha : findIn K (.ref D) "__class__" = some (some (.builtin "object.__class__")))
    (hn : specialIn K (.builtin "object.__class__") "__get__" = some (some (.builtin "getset_descriptor.__get__"))) (htk : takesIn K (.builtin "object.__class__") = some true) (hm : mroIn K D (.type "object") = some true) :
    KitX K (.ref x) (.ref D) (fun h => InstAt h x ox D od) where
  ty := fun _ _ _ I => I.type
  it := fun _ _ X _ => by
    obtain ⟨cdD, hcD, _⟩ := any_some hdct
    unfold clsIn at hcD
    split at hcD
    · rename_i c' d' cd' sl' ho
      intro A' Q' E' s' k q
      unfold isType loadHead
      exact wpAny_bind (wpAny_loadPart (k _ _ (X _ _ ho)) (wpAny_pure q))
    · cases hcD
  ne := (handS_kitx_exc (x := x) (ox := ox) hga hgt hsub hdct ha hn htk hm).ne
  ca := fun X I k => kin_classZ hga hgt hsub hdct ha hn htk hm X I k
end
end PySem.W
namespace L2
open PySem PySem.Spec PyProof.Rows PySem.ExX
/-- the type of a value: also of an exception object that is a value -/
inductive TyZ (K : PySem.W.Frag) (H : Hp) : V → Value → Prop where
  | x {v : V} {t : Value} (h : TyX K H v t) : TyZ K H v t
  | exo {a C : Addr} (e : H a = some (ExO (.ref C) a)) (c : ExcC K C) : TyZ K H (.ref a) (.ref C)
  | exd {a C d : Addr} {fs : List (Str × V)} (e : H a = some (ExD C d a)) (ed : H d = some (.xd fs)) (c : ExcC K C) : TyZ K H (.ref a) (.ref C)
section
variable {X : Cx} {pins : List (Addr × Obj)} {σ : St} {H : Hp} {s : Shared}
theorem kit_ofZ {x : V} {u t : Value} (I : Inv X pins σ H s) (rx : RelV x u) (ty : TyZ X.K H x t) : ∃ P : Heap → Prop, PySem.W.KitX X.K u t P ∧ P s.heap ∧ u ≠ .builtin "__main__.__loader__#opaque" := by
  cases ty with
  | x h => exact kit_of I rx h
  | @exo a C e c =>
    cases (show u = Value.ref a from rx)
    obtain ⟨⟨oe, vs, ho, hz, hd, _, _⟩, _, _⟩ := I.hok a _ e
    have J : PySem.W.InstAt s.heap a oe C none := by
      obtain ⟨oc, od, oda, osl⟩ := oe
      obtain ⟨h1, h2⟩ := hz
      dsimp only at h1 h2 hd
      subst h1 h2 hd
      exact ⟨ho, rfl, rfl, trivial⟩
    exact ⟨_, PySem.W.kitx_excZ c.hg c.hk c.hs c.hd c.ha c.hn c.ht c.hm, J, fun z => nomatch z⟩
  | @exd a C d fs e ed c =>
    cases (show u = Value.ref a from rx)
    obtain ⟨⟨oe, vs, ho, hz, hd, _⟩, _, _⟩ := I.hok a _ e
    obtain ⟨mA, hns, _⟩ := (show ObjOk X.prog X.w H s.heap d (.xd fs) from I.hok d _ ed)
    obtain ⟨od, hod, _⟩ := lookIn_ns hns
    have J : PySem.W.InstAt s.heap a oe C (some od) := by
      obtain ⟨oc, odd, oda, osl⟩ := oe
      obtain ⟨h1, h2⟩ := hz
      dsimp only at h1 h2 hd
      subst h1 h2 hd
      exact ⟨ho, rfl, rfl, hod⟩
    exact ⟨_, PySem.W.kitx_excZ c.hg c.hk c.hs c.hd c.ha c.hn c.ht c.hm, J, fun z => nomatch z⟩
end
def rIsiZ (K : PySem.W.Frag) : List V → Hp → VK → Prop := fun xs H Q => ∃ (x c : V) (t u : Value) (b : Bool), xs = [x, c] ∧ ClsV c u ∧ TyZ K H x t ∧ PySem.W.kitOne K t u = some b ∧ Q (.bl b) H
def rIsiTZ (K : PySem.W.Frag) : List V → Hp → VK → Prop := fun xs H Q => ∃ (x : V) (tp : Addr) (cs : List V) (t : Value) (us : List Value) (b : Bool), xs = [x, .ref tp] ∧ H tp = some (.tup cs) ∧ Paired ClsV cs us ∧ TyZ K H x t ∧ PySem.W.kitAny K t us = some b ∧ Q (.bl b) H
section
variable {X : Cx} {K : PySem.W.Frag}
theorem call_isiZ (hK : X.K = K) : CallR X (.builtin "isinstance") (rIsiZ K) := by
  subst hK
  intro pins s σ H xs us Q I r h
  obtain ⟨x, c, t, u, b, rfl, k, ty, e, q⟩ := h
  obtain ⟨u1, u2, rfl, r1, r2⟩ := vals2 r
  have e2 := k.eq r2
  subst e2
  obtain ⟨P, Z, p, hx⟩ := kit_ofZ I r1 ty
  exact PySem.W.kia_one Z I.kIn p e hx fun tk => ⟨.bl b, H, I.tok tk, rfl, q⟩
theorem call_isiTZ (hK : X.K = K) : CallR X (.builtin "isinstance") (rIsiTZ K) := by
  subst hK
  intro pins s σ H xs us Q I r h
  obtain ⟨x, tp, cs, t, ws, b, rfl, hT, k, ty, e, q⟩ := h
  obtain ⟨u1, u2, rfl, r1, r2⟩ := vals2 r
  cases (show u2 = Value.ref tp from r2)
  obtain ⟨P, Z, p, hx⟩ := kit_ofZ I r1 ty
  obtain ⟨_, its, rv, o, h1, h2, n, h3⟩ := (show ObjOk X.prog X.w H s.heap tp (.tup cs) from I.hok tp _ hT)
  have e3 := ClsV.all k rv
  subst e3
  obtain ⟨oc, od, dt, sl⟩ := o
  simp only at h2 h3
  subst h2 h3
  exact PySem.W.kia_tup Z I.kIn p h1 e hx fun tk => ⟨.bl b, H, I.tok tk, rfl, q⟩
end
end L2

set_option Elab.async false
set_option linter.all false
set_option maxRecDepth 100000
set_option maxHeartbeats 4000000
namespace PySem
namespace ExX
open PySem.W PySem.Calls PyProof.Rows
theorem refsEX_of : ∀ l : List Value, excTail exTail l = true → refsEX l = true := by
  intro l
  induction l with
  | nil => intro h; exact absurd h (by decide +kernel)
  | cons a r ih =>
    intro h
    rcases excTail_cases (bmB := exTail) (a :: r) h with ⟨c, r', e, q⟩ | e
    · cases e
      exact ih q
    · rw [e]; rfl
theorem excT_cls {K : Frag} {C : Addr} (q : excInitIn K C exTail "Exception.__new__" = true) (hd : hasDictIn K C = true) :
    ∃ nm q N bs bm sn sub ab col dd k0 k1 k2 k3 k5, K.lookup C = some (excClassObj nm q C N bs bm true sn sub ab col dd k0 k1 k2 k3 k5 "Exception.__new__") ∧ refsEX bm = true := by
  unfold excInitIn at q
  split at q
  · rename_i dd cd sl ho
    split at q
    · rename_i C' bm k0 k1 k2 k3 n k5 hm hs
      simp only [Bool.and_eq_true, beq_iff_eq, Bool.not_eq_true'] at q
      obtain ⟨⟨⟨rfl, rfl⟩, hdel⟩, ht⟩ := q
      obtain ⟨nm, bs, mro, ns, qn, hd', sn, sub, ab, col, del⟩ := cd
      dsimp only at hm hdel
      subst hm hdel
      have hsl : sl = #[k0, k1, k2, k3, some (.builtin "Exception.__new__"), k5] := by
        obtain ⟨l⟩ := sl
        simp only at hs
        rw [hs]
      subst hsl
      have e : hd' = true := by
        unfold hasDictIn at hd
        have hc : clsIn K C' = some ⟨nm, bs, .ref C' :: bm, ns, qn, hd', sn, sub, ab, col, false⟩ := by unfold clsIn; rw [ho]
        rw [hc] at hd
        simpa using hd
      subst e
      exact ⟨nm, qn, ns, bs, bm, sn, sub, ab, col, dd, k0, k1, k2, k3, k5, ho, refsEX_of _ ht⟩
    · cases q
  · cases q
end ExX
end PySem

set_option Elab.async false
set_option linter.all false
set_option maxRecDepth 100000
set_option maxHeartbeats 4000000
namespace J
open PySem L2
def topS (i : Nat) : Stmt := PySem.Challenge.pw_onewayread_k98_errors.main.body.getD i (.Pass ⟨0, 0, 0, 0⟩)
abbrev s_InvalidLoom_init : Stmt := inClass (topS 2) 0
abbrev N_InvalidLoom_init : List Str := ["self", "part", "at"]
abbrev P_InvalidLoom_init : List Str := ["self", "part", "at"]
theorem sc_InvalidLoom_init : FnScope N_InvalidLoom_init P_InvalidLoom_init (defScope s_InvalidLoom_init) := ⟨rfl, rfl, rfl, by decide +kernel, rfl, by decide +kernel, by decide +kernel⟩
abbrev s_InvalidRow_init : Stmt := inClass (topS 4) 0
abbrev N_InvalidRow_init : List Str := ["self", "at"]
abbrev P_InvalidRow_init : List Str := ["self", "at"]
theorem sc_InvalidRow_init : FnScope N_InvalidRow_init P_InvalidRow_init (defScope s_InvalidRow_init) := ⟨rfl, rfl, rfl, by decide +kernel, rfl, by decide +kernel, by decide +kernel⟩
abbrev s_InvalidLengths_init : Stmt := inClass (topS 13) 0
abbrev N_InvalidLengths_init : List Str := ["self", "at"]
abbrev P_InvalidLengths_init : List Str := ["self", "at"]
theorem sc_InvalidLengths_init : FnScope N_InvalidLengths_init P_InvalidLengths_init (defScope s_InvalidLengths_init) := ⟨rfl, rfl, rfl, by decide +kernel, rfl, by decide +kernel, by decide +kernel⟩
abbrev s_InvalidWeights_init : Stmt := inClass (topS 14) 0
abbrev N_InvalidWeights_init : List Str := ["self", "at"]
abbrev P_InvalidWeights_init : List Str := ["self", "at"]
theorem sc_InvalidWeights_init : FnScope N_InvalidWeights_init P_InvalidWeights_init (defScope s_InvalidWeights_init) := ⟨rfl, rfl, rfl, by decide +kernel, rfl, by decide +kernel, by decide +kernel⟩
abbrev s_InvalidBars_init : Stmt := inClass (topS 16) 0
abbrev N_InvalidBars_init : List Str := ["self", "at"]
abbrev P_InvalidBars_init : List Str := ["self", "at"]
theorem sc_InvalidBars_init : FnScope N_InvalidBars_init P_InvalidBars_init (defScope s_InvalidBars_init) := ⟨rfl, rfl, rfl, by decide +kernel, rfl, by decide +kernel, by decide +kernel⟩
abbrev s_InvalidChoice_init : Stmt := inClass (topS 17) 0
abbrev N_InvalidChoice_init : List Str := ["self", "at"]
abbrev P_InvalidChoice_init : List Str := ["self", "at"]
theorem sc_InvalidChoice_init : FnScope N_InvalidChoice_init P_InvalidChoice_init (defScope s_InvalidChoice_init) := ⟨rfl, rfl, rfl, by decide +kernel, rfl, by decide +kernel, by decide +kernel⟩
abbrev s_InvalidPage_init : Stmt := inClass (topS 18) 0
abbrev N_InvalidPage_init : List Str := ["self", "line"]
abbrev P_InvalidPage_init : List Str := ["self", "line"]
theorem sc_InvalidPage_init : FnScope N_InvalidPage_init P_InvalidPage_init (defScope s_InvalidPage_init) := ⟨rfl, rfl, rfl, by decide +kernel, rfl, by decide +kernel, by decide +kernel⟩
abbrev s_LimitExceeded_init : Stmt := inClass (topS 21) 0
abbrev N_LimitExceeded_init : List Str := ["self", "limit"]
abbrev P_LimitExceeded_init : List Str := ["self", "limit"]
theorem sc_LimitExceeded_init : FnScope N_LimitExceeded_init P_LimitExceeded_init (defScope s_LimitExceeded_init) := ⟨rfl, rfl, rfl, by decide +kernel, rfl, by decide +kernel, by decide +kernel⟩
abbrev s_NothingLeft_init : Stmt := inClass (topS 22) 0
abbrev N_NothingLeft_init : List Str := ["self", "word"]
abbrev P_NothingLeft_init : List Str := ["self", "word"]
theorem sc_NothingLeft_init : FnScope N_NothingLeft_init P_NothingLeft_init (defScope s_NothingLeft_init) := ⟨rfl, rfl, rfl, by decide +kernel, rfl, by decide +kernel, by decide +kernel⟩
abbrev s_l_pool : Stmt := topS 24
abbrev N_l_pool : List Str := ["_law_script", "_law_cells", "_law_great", "_law_small", "_law_cell"]
abbrev P_l_pool : List Str := ["_law_script"]
theorem sc_l_pool : FnScope N_l_pool P_l_pool (defScope s_l_pool) := ⟨rfl, rfl, rfl, by decide +kernel, rfl, by decide +kernel, by decide +kernel⟩
abbrev s_l_draw : Stmt := topS 25
abbrev N_l_draw : List Str := ["_law_pool_here", "_law_much", "_law_great", "_law_digit", "_law_seed", "_law_number"]
abbrev P_l_draw : List Str := ["_law_pool_here", "_law_much"]
theorem sc_l_draw : FnScope N_l_draw P_l_draw (defScope s_l_draw) := ⟨rfl, rfl, rfl, by decide +kernel, rfl, by decide +kernel, by decide +kernel⟩
abbrev s_l_pick : Stmt := topS 26
abbrev N_l_pick : List Str := ["_law_pool_here", "_law_items"]
abbrev P_l_pick : List Str := ["_law_pool_here", "_law_items"]
theorem sc_l_pick : FnScope N_l_pick P_l_pick (defScope s_l_pick) := ⟨rfl, rfl, rfl, by decide +kernel, rfl, by decide +kernel, by decide +kernel⟩
abbrev s_l_plain_errors : Stmt := topS 27
abbrev N_l_plain_errors : List Str := ["_law_rows"]
abbrev P_l_plain_errors : List Str := []
theorem sc_l_plain_errors : FnScope N_l_plain_errors P_l_plain_errors (defScope s_l_plain_errors) := ⟨rfl, rfl, rfl, by decide +kernel, rfl, by decide +kernel, by decide +kernel⟩
abbrev s_l_place_errors : Stmt := topS 28
abbrev N_l_place_errors : List Str := ["_law_thing", "_law_rows"]
abbrev P_l_place_errors : List Str := ["_law_thing"]
theorem sc_l_place_errors : FnScope N_l_place_errors P_l_place_errors (defScope s_l_place_errors) := ⟨rfl, rfl, rfl, by decide +kernel, rfl, by decide +kernel, by decide +kernel⟩
abbrev s_l_kinds_of : Stmt := topS 29
abbrev N_l_kinds_of : List Str := ["_law_e", "_law_rows"]
abbrev P_l_kinds_of : List Str := ["_law_e"]
theorem sc_l_kinds_of : FnScope N_l_kinds_of P_l_kinds_of (defScope s_l_kinds_of) := ⟨rfl, rfl, rfl, by decide +kernel, rfl, by decide +kernel, by decide +kernel⟩
abbrev s_l_same : Stmt := topS 30
abbrev N_l_same : List Str := ["_law_one", "_law_other"]
abbrev P_l_same : List Str := ["_law_one", "_law_other"]
theorem sc_l_same : FnScope N_l_same P_l_same (defScope s_l_same) := ⟨rfl, rfl, rfl, by decide +kernel, rfl, by decide +kernel, by decide +kernel⟩
abbrev s_law : Stmt := topS 31
abbrev N_law : List Str := ["_law_script", "_law_pool_here", "_law_things", "_law_thing", "_law_other", "_law_errors", "_law_k", "_law_e", "_law_made", "_law_j"]
abbrev P_law : List Str := ["_law_script"]
theorem sc_law : FnScope N_law P_law (defScope s_law) := ⟨rfl, rfl, rfl, by decide +kernel, rfl, by decide +kernel, by decide +kernel⟩
/-- what the top has written -/
structure Tx (K : PySem.W.Frag) (mg : Str → Option Value) : Type where
  f_InvalidLoom_init : Addr
  fd_InvalidLoom_init : FuncData
  F_InvalidLoom_init : Fun K "__init__" "InvalidLoom.__init__" s_InvalidLoom_init f_InvalidLoom_init fd_InvalidLoom_init
  b_InvalidLoom_init : Binds K fd_InvalidLoom_init P_InvalidLoom_init []
  f_InvalidRow_init : Addr
  fd_InvalidRow_init : FuncData
  F_InvalidRow_init : Fun K "__init__" "InvalidRow.__init__" s_InvalidRow_init f_InvalidRow_init fd_InvalidRow_init
  b_InvalidRow_init : Binds K fd_InvalidRow_init P_InvalidRow_init []
  f_InvalidLengths_init : Addr
  fd_InvalidLengths_init : FuncData
  F_InvalidLengths_init : Fun K "__init__" "InvalidLengths.__init__" s_InvalidLengths_init f_InvalidLengths_init fd_InvalidLengths_init
  b_InvalidLengths_init : Binds K fd_InvalidLengths_init P_InvalidLengths_init []
  f_InvalidWeights_init : Addr
  fd_InvalidWeights_init : FuncData
  F_InvalidWeights_init : Fun K "__init__" "InvalidWeights.__init__" s_InvalidWeights_init f_InvalidWeights_init fd_InvalidWeights_init
  b_InvalidWeights_init : Binds K fd_InvalidWeights_init P_InvalidWeights_init []
  f_InvalidBars_init : Addr
  fd_InvalidBars_init : FuncData
  F_InvalidBars_init : Fun K "__init__" "InvalidBars.__init__" s_InvalidBars_init f_InvalidBars_init fd_InvalidBars_init
  b_InvalidBars_init : Binds K fd_InvalidBars_init P_InvalidBars_init []
  f_InvalidChoice_init : Addr
  fd_InvalidChoice_init : FuncData
  F_InvalidChoice_init : Fun K "__init__" "InvalidChoice.__init__" s_InvalidChoice_init f_InvalidChoice_init fd_InvalidChoice_init
  b_InvalidChoice_init : Binds K fd_InvalidChoice_init P_InvalidChoice_init []
  f_InvalidPage_init : Addr
  fd_InvalidPage_init : FuncData
  F_InvalidPage_init : Fun K "__init__" "InvalidPage.__init__" s_InvalidPage_init f_InvalidPage_init fd_InvalidPage_init
  b_InvalidPage_init : Binds K fd_InvalidPage_init P_InvalidPage_init []
  f_LimitExceeded_init : Addr
  fd_LimitExceeded_init : FuncData
  F_LimitExceeded_init : Fun K "__init__" "LimitExceeded.__init__" s_LimitExceeded_init f_LimitExceeded_init fd_LimitExceeded_init
  b_LimitExceeded_init : Binds K fd_LimitExceeded_init P_LimitExceeded_init []
  f_NothingLeft_init : Addr
  fd_NothingLeft_init : FuncData
  F_NothingLeft_init : Fun K "__init__" "NothingLeft.__init__" s_NothingLeft_init f_NothingLeft_init fd_NothingLeft_init
  b_NothingLeft_init : Binds K fd_NothingLeft_init P_NothingLeft_init []
  f_l_pool : Addr
  fd_l_pool : FuncData
  F_l_pool : Fun K "_law_pool" "_law_pool" s_l_pool f_l_pool fd_l_pool
  b_l_pool : Binds K fd_l_pool P_l_pool []
  m_l_pool : mg "_law_pool" = some (.ref f_l_pool)
  f_l_draw : Addr
  fd_l_draw : FuncData
  F_l_draw : Fun K "_law_draw" "_law_draw" s_l_draw f_l_draw fd_l_draw
  b_l_draw : Binds K fd_l_draw P_l_draw []
  m_l_draw : mg "_law_draw" = some (.ref f_l_draw)
  f_l_pick : Addr
  fd_l_pick : FuncData
  F_l_pick : Fun K "_law_pick" "_law_pick" s_l_pick f_l_pick fd_l_pick
  b_l_pick : Binds K fd_l_pick P_l_pick []
  m_l_pick : mg "_law_pick" = some (.ref f_l_pick)
  f_l_plain_errors : Addr
  fd_l_plain_errors : FuncData
  F_l_plain_errors : Fun K "_law_plain_errors" "_law_plain_errors" s_l_plain_errors f_l_plain_errors fd_l_plain_errors
  b_l_plain_errors : Binds K fd_l_plain_errors P_l_plain_errors []
  m_l_plain_errors : mg "_law_plain_errors" = some (.ref f_l_plain_errors)
  f_l_place_errors : Addr
  fd_l_place_errors : FuncData
  F_l_place_errors : Fun K "_law_place_errors" "_law_place_errors" s_l_place_errors f_l_place_errors fd_l_place_errors
  b_l_place_errors : Binds K fd_l_place_errors P_l_place_errors []
  m_l_place_errors : mg "_law_place_errors" = some (.ref f_l_place_errors)
  f_l_kinds_of : Addr
  fd_l_kinds_of : FuncData
  F_l_kinds_of : Fun K "_law_kinds_of" "_law_kinds_of" s_l_kinds_of f_l_kinds_of fd_l_kinds_of
  b_l_kinds_of : Binds K fd_l_kinds_of P_l_kinds_of []
  m_l_kinds_of : mg "_law_kinds_of" = some (.ref f_l_kinds_of)
  f_l_same : Addr
  fd_l_same : FuncData
  F_l_same : Fun K "_law_same" "_law_same" s_l_same f_l_same fd_l_same
  b_l_same : Binds K fd_l_same P_l_same []
  m_l_same : mg "_law_same" = some (.ref f_l_same)
  f_law : Addr
  fd_law : FuncData
  F_law : Fun K "law" "law" s_law f_law fd_law
  b_law : Binds K fd_law P_law []
  m_law : mg "law" = some (.ref f_law)
  n_Exception : mg "Exception" = none
  n_LookupError : mg "LookupError" = none
  n_TypeError : mg "TypeError" = none
  n_ValueError : mg "ValueError" = none
  n_abs : mg "abs" = none
  n_bool : mg "bool" = none
  n_int : mg "int" = none
  n_isinstance : mg "isinstance" = none
  n_len : mg "len" = none
  n_range : mg "range" = none
  C_ReadError : Addr
  C_UnknownState : Addr
  C_InvalidText : Addr
  C_Stuck : Addr
  C_NotABook : Addr
  C_NotPlain : Addr
  C_NotFull : Addr
  C_NotOneWay : Addr
  C_NotAWire : Addr
  C_Unlike : Addr
  C_InvalidNumber : Addr
  C_UnknownWord : Addr
  C_InvalidWord : Addr
  C_InvalidRow : Addr
  C_InvalidLengths : Addr
  C_InvalidWeights : Addr
  C_InvalidBars : Addr
  C_InvalidChoice : Addr
  C_InvalidLoom : Addr
  C_InvalidPage : Addr
  C_LimitExceeded : Addr
  C_NothingLeft : Addr
  g_ReadError : mg "ReadError" = some (.ref C_ReadError)
  kc_ReadError : PySem.W.keepIn K (.ref C_ReadError) = true
  E_ReadError : ExcC K C_ReadError
  ty_ReadError : PySem.W.typeIn K (.ref C_ReadError) = some (.type "type")
  in_ReadError : PySem.W.excIn K C_ReadError [.type "Exception", .type "BaseException", .type "object"] "Exception.__new__" = true
  g_UnknownState : mg "UnknownState" = some (.ref C_UnknownState)
  kc_UnknownState : PySem.W.keepIn K (.ref C_UnknownState) = true
  E_UnknownState : ExcC K C_UnknownState
  ty_UnknownState : PySem.W.typeIn K (.ref C_UnknownState) = some (.type "type")
  in_UnknownState : PySem.W.excIn K C_UnknownState [.type "Exception", .type "BaseException", .type "object"] "Exception.__new__" = true
  g_InvalidText : mg "InvalidText" = some (.ref C_InvalidText)
  kc_InvalidText : PySem.W.keepIn K (.ref C_InvalidText) = true
  E_InvalidText : ExcC K C_InvalidText
  ty_InvalidText : PySem.W.typeIn K (.ref C_InvalidText) = some (.type "type")
  in_InvalidText : PySem.W.excIn K C_InvalidText [.type "Exception", .type "BaseException", .type "object"] "Exception.__new__" = true
  g_Stuck : mg "Stuck" = some (.ref C_Stuck)
  kc_Stuck : PySem.W.keepIn K (.ref C_Stuck) = true
  E_Stuck : ExcC K C_Stuck
  ty_Stuck : PySem.W.typeIn K (.ref C_Stuck) = some (.type "type")
  in_Stuck : PySem.W.excIn K C_Stuck [.type "Exception", .type "BaseException", .type "object"] "Exception.__new__" = true
  g_NotABook : mg "NotABook" = some (.ref C_NotABook)
  kc_NotABook : PySem.W.keepIn K (.ref C_NotABook) = true
  E_NotABook : ExcC K C_NotABook
  ty_NotABook : PySem.W.typeIn K (.ref C_NotABook) = some (.type "type")
  in_NotABook : PySem.W.excIn K C_NotABook [.type "Exception", .type "BaseException", .type "object"] "Exception.__new__" = true
  g_NotPlain : mg "NotPlain" = some (.ref C_NotPlain)
  kc_NotPlain : PySem.W.keepIn K (.ref C_NotPlain) = true
  E_NotPlain : ExcC K C_NotPlain
  ty_NotPlain : PySem.W.typeIn K (.ref C_NotPlain) = some (.type "type")
  in_NotPlain : PySem.W.excIn K C_NotPlain [.type "Exception", .type "BaseException", .type "object"] "Exception.__new__" = true
  g_NotFull : mg "NotFull" = some (.ref C_NotFull)
  kc_NotFull : PySem.W.keepIn K (.ref C_NotFull) = true
  E_NotFull : ExcC K C_NotFull
  ty_NotFull : PySem.W.typeIn K (.ref C_NotFull) = some (.type "type")
  in_NotFull : PySem.W.excIn K C_NotFull [.type "Exception", .type "BaseException", .type "object"] "Exception.__new__" = true
  g_NotOneWay : mg "NotOneWay" = some (.ref C_NotOneWay)
  kc_NotOneWay : PySem.W.keepIn K (.ref C_NotOneWay) = true
  E_NotOneWay : ExcC K C_NotOneWay
  ty_NotOneWay : PySem.W.typeIn K (.ref C_NotOneWay) = some (.type "type")
  in_NotOneWay : PySem.W.excIn K C_NotOneWay [.type "Exception", .type "BaseException", .type "object"] "Exception.__new__" = true
  g_NotAWire : mg "NotAWire" = some (.ref C_NotAWire)
  kc_NotAWire : PySem.W.keepIn K (.ref C_NotAWire) = true
  E_NotAWire : ExcC K C_NotAWire
  ty_NotAWire : PySem.W.typeIn K (.ref C_NotAWire) = some (.type "type")
  in_NotAWire : PySem.W.excIn K C_NotAWire [.type "Exception", .type "BaseException", .type "object"] "Exception.__new__" = true
  g_Unlike : mg "Unlike" = some (.ref C_Unlike)
  kc_Unlike : PySem.W.keepIn K (.ref C_Unlike) = true
  E_Unlike : ExcC K C_Unlike
  ty_Unlike : PySem.W.typeIn K (.ref C_Unlike) = some (.type "type")
  in_Unlike : PySem.W.excIn K C_Unlike [.type "Exception", .type "BaseException", .type "object"] "Exception.__new__" = true
  g_InvalidNumber : mg "InvalidNumber" = some (.ref C_InvalidNumber)
  kc_InvalidNumber : PySem.W.keepIn K (.ref C_InvalidNumber) = true
  E_InvalidNumber : ExcC K C_InvalidNumber
  ty_InvalidNumber : PySem.W.typeIn K (.ref C_InvalidNumber) = some (.type "type")
  in_InvalidNumber : PySem.W.excIn K C_InvalidNumber [.type "Exception", .type "BaseException", .type "object"] "Exception.__new__" = true
  g_UnknownWord : mg "UnknownWord" = some (.ref C_UnknownWord)
  kc_UnknownWord : PySem.W.keepIn K (.ref C_UnknownWord) = true
  E_UnknownWord : ExcC K C_UnknownWord
  ty_UnknownWord : PySem.W.typeIn K (.ref C_UnknownWord) = some (.type "type")
  in_UnknownWord : PySem.W.excIn K C_UnknownWord [.type "Exception", .type "BaseException", .type "object"] "Exception.__new__" = true
  g_InvalidWord : mg "InvalidWord" = some (.ref C_InvalidWord)
  kc_InvalidWord : PySem.W.keepIn K (.ref C_InvalidWord) = true
  E_InvalidWord : ExcC K C_InvalidWord
  ty_InvalidWord : PySem.W.typeIn K (.ref C_InvalidWord) = some (.type "type")
  in_InvalidWord : PySem.W.excIn K C_InvalidWord [.type "Exception", .type "BaseException", .type "object"] "Exception.__new__" = true
  g_InvalidRow : mg "InvalidRow" = some (.ref C_InvalidRow)
  kc_InvalidRow : PySem.W.keepIn K (.ref C_InvalidRow) = true
  E_InvalidRow : ExcC K C_InvalidRow
  ty_InvalidRow : PySem.W.typeIn K (.ref C_InvalidRow) = some (.type "type")
  X_InvalidRow : PySem.ExX.ExcT K mg C_InvalidRow f_InvalidRow_init "InvalidRow" ["at"] "InvalidRow.__init__" s_InvalidRow_init
  g_InvalidLengths : mg "InvalidLengths" = some (.ref C_InvalidLengths)
  kc_InvalidLengths : PySem.W.keepIn K (.ref C_InvalidLengths) = true
  E_InvalidLengths : ExcC K C_InvalidLengths
  ty_InvalidLengths : PySem.W.typeIn K (.ref C_InvalidLengths) = some (.type "type")
  X_InvalidLengths : PySem.ExX.ExcT K mg C_InvalidLengths f_InvalidLengths_init "InvalidLengths" ["at"] "InvalidLengths.__init__" s_InvalidLengths_init
  g_InvalidWeights : mg "InvalidWeights" = some (.ref C_InvalidWeights)
  kc_InvalidWeights : PySem.W.keepIn K (.ref C_InvalidWeights) = true
  E_InvalidWeights : ExcC K C_InvalidWeights
  ty_InvalidWeights : PySem.W.typeIn K (.ref C_InvalidWeights) = some (.type "type")
  X_InvalidWeights : PySem.ExX.ExcT K mg C_InvalidWeights f_InvalidWeights_init "InvalidWeights" ["at"] "InvalidWeights.__init__" s_InvalidWeights_init
  g_InvalidBars : mg "InvalidBars" = some (.ref C_InvalidBars)
  kc_InvalidBars : PySem.W.keepIn K (.ref C_InvalidBars) = true
  E_InvalidBars : ExcC K C_InvalidBars
  ty_InvalidBars : PySem.W.typeIn K (.ref C_InvalidBars) = some (.type "type")
  X_InvalidBars : PySem.ExX.ExcT K mg C_InvalidBars f_InvalidBars_init "InvalidBars" ["at"] "InvalidBars.__init__" s_InvalidBars_init
  g_InvalidChoice : mg "InvalidChoice" = some (.ref C_InvalidChoice)
  kc_InvalidChoice : PySem.W.keepIn K (.ref C_InvalidChoice) = true
  E_InvalidChoice : ExcC K C_InvalidChoice
  ty_InvalidChoice : PySem.W.typeIn K (.ref C_InvalidChoice) = some (.type "type")
  X_InvalidChoice : PySem.ExX.ExcT K mg C_InvalidChoice f_InvalidChoice_init "InvalidChoice" ["at"] "InvalidChoice.__init__" s_InvalidChoice_init
  g_InvalidLoom : mg "InvalidLoom" = some (.ref C_InvalidLoom)
  kc_InvalidLoom : PySem.W.keepIn K (.ref C_InvalidLoom) = true
  E_InvalidLoom : ExcC K C_InvalidLoom
  ty_InvalidLoom : PySem.W.typeIn K (.ref C_InvalidLoom) = some (.type "type")
  X_InvalidLoom : PySem.ExX.ExcT K mg C_InvalidLoom f_InvalidLoom_init "InvalidLoom" ["part", "at"] "InvalidLoom.__init__" s_InvalidLoom_init
  g_InvalidPage : mg "InvalidPage" = some (.ref C_InvalidPage)
  kc_InvalidPage : PySem.W.keepIn K (.ref C_InvalidPage) = true
  E_InvalidPage : ExcC K C_InvalidPage
  ty_InvalidPage : PySem.W.typeIn K (.ref C_InvalidPage) = some (.type "type")
  X_InvalidPage : PySem.ExX.ExcT K mg C_InvalidPage f_InvalidPage_init "InvalidPage" ["line"] "InvalidPage.__init__" s_InvalidPage_init
  g_LimitExceeded : mg "LimitExceeded" = some (.ref C_LimitExceeded)
  kc_LimitExceeded : PySem.W.keepIn K (.ref C_LimitExceeded) = true
  E_LimitExceeded : ExcC K C_LimitExceeded
  ty_LimitExceeded : PySem.W.typeIn K (.ref C_LimitExceeded) = some (.type "type")
  X_LimitExceeded : PySem.ExX.ExcT K mg C_LimitExceeded f_LimitExceeded_init "LimitExceeded" ["limit"] "LimitExceeded.__init__" s_LimitExceeded_init
  g_NothingLeft : mg "NothingLeft" = some (.ref C_NothingLeft)
  kc_NothingLeft : PySem.W.keepIn K (.ref C_NothingLeft) = true
  E_NothingLeft : ExcC K C_NothingLeft
  ty_NothingLeft : PySem.W.typeIn K (.ref C_NothingLeft) = some (.type "type")
  X_NothingLeft : PySem.ExX.ExcT K mg C_NothingLeft f_NothingLeft_init "NothingLeft" ["word"] "NothingLeft.__init__" s_NothingLeft_init
  row_UnknownState : [PySem.W.subIn K (.ref C_UnknownState) (.ref C_UnknownState), PySem.W.subIn K (.ref C_UnknownState) (.ref C_InvalidText), PySem.W.subIn K (.ref C_UnknownState) (.ref C_Stuck), PySem.W.subIn K (.ref C_UnknownState) (.ref C_NotABook), PySem.W.subIn K (.ref C_UnknownState) (.ref C_NotPlain), PySem.W.subIn K (.ref C_UnknownState) (.ref C_NotFull), PySem.W.subIn K (.ref C_UnknownState) (.ref C_NotOneWay), PySem.W.subIn K (.ref C_UnknownState) (.ref C_NotAWire), PySem.W.subIn K (.ref C_UnknownState) (.ref C_Unlike), PySem.W.subIn K (.ref C_UnknownState) (.ref C_InvalidNumber), PySem.W.subIn K (.ref C_UnknownState) (.ref C_UnknownWord), PySem.W.subIn K (.ref C_UnknownState) (.ref C_InvalidWord), PySem.W.subIn K (.ref C_UnknownState) (.ref C_InvalidRow), PySem.W.subIn K (.ref C_UnknownState) (.ref C_InvalidLengths), PySem.W.subIn K (.ref C_UnknownState) (.ref C_InvalidWeights), PySem.W.subIn K (.ref C_UnknownState) (.ref C_InvalidBars), PySem.W.subIn K (.ref C_UnknownState) (.ref C_InvalidChoice), PySem.W.subIn K (.ref C_UnknownState) (.ref C_InvalidLoom), PySem.W.subIn K (.ref C_UnknownState) (.ref C_InvalidPage), PySem.W.subIn K (.ref C_UnknownState) (.ref C_LimitExceeded), PySem.W.subIn K (.ref C_UnknownState) (.ref C_NothingLeft), PySem.W.subIn K (.ref C_UnknownState) (.ref C_ReadError), PySem.W.subIn K (.ref C_UnknownState) (.type "Exception"), PySem.W.subIn K (.ref C_UnknownState) (.type "ValueError"), PySem.W.subIn K (.ref C_UnknownState) (.type "LookupError"), PySem.W.subIn K (.ref C_UnknownState) (.type "TypeError"), PySem.W.subIn K (.ref C_UnknownState) (.type "bool")] = [some true, some false, some false, some false, some false, some false, some false, some false, some false, some false, some false, some false, some false, some false, some false, some false, some false, some false, some false, some false, some false, some true, some true, some false, some false, some false, some false]
  cl_UnknownState : PySem.W.isClsIn K C_UnknownState = true
  row_InvalidText : [PySem.W.subIn K (.ref C_InvalidText) (.ref C_UnknownState), PySem.W.subIn K (.ref C_InvalidText) (.ref C_InvalidText), PySem.W.subIn K (.ref C_InvalidText) (.ref C_Stuck), PySem.W.subIn K (.ref C_InvalidText) (.ref C_NotABook), PySem.W.subIn K (.ref C_InvalidText) (.ref C_NotPlain), PySem.W.subIn K (.ref C_InvalidText) (.ref C_NotFull), PySem.W.subIn K (.ref C_InvalidText) (.ref C_NotOneWay), PySem.W.subIn K (.ref C_InvalidText) (.ref C_NotAWire), PySem.W.subIn K (.ref C_InvalidText) (.ref C_Unlike), PySem.W.subIn K (.ref C_InvalidText) (.ref C_InvalidNumber), PySem.W.subIn K (.ref C_InvalidText) (.ref C_UnknownWord), PySem.W.subIn K (.ref C_InvalidText) (.ref C_InvalidWord), PySem.W.subIn K (.ref C_InvalidText) (.ref C_InvalidRow), PySem.W.subIn K (.ref C_InvalidText) (.ref C_InvalidLengths), PySem.W.subIn K (.ref C_InvalidText) (.ref C_InvalidWeights), PySem.W.subIn K (.ref C_InvalidText) (.ref C_InvalidBars), PySem.W.subIn K (.ref C_InvalidText) (.ref C_InvalidChoice), PySem.W.subIn K (.ref C_InvalidText) (.ref C_InvalidLoom), PySem.W.subIn K (.ref C_InvalidText) (.ref C_InvalidPage), PySem.W.subIn K (.ref C_InvalidText) (.ref C_LimitExceeded), PySem.W.subIn K (.ref C_InvalidText) (.ref C_NothingLeft), PySem.W.subIn K (.ref C_InvalidText) (.ref C_ReadError), PySem.W.subIn K (.ref C_InvalidText) (.type "Exception"), PySem.W.subIn K (.ref C_InvalidText) (.type "ValueError"), PySem.W.subIn K (.ref C_InvalidText) (.type "LookupError"), PySem.W.subIn K (.ref C_InvalidText) (.type "TypeError"), PySem.W.subIn K (.ref C_InvalidText) (.type "bool")] = [some false, some true, some false, some false, some false, some false, some false, some false, some false, some false, some false, some false, some false, some false, some false, some false, some false, some false, some false, some false, some false, some true, some true, some false, some false, some false, some false]
  cl_InvalidText : PySem.W.isClsIn K C_InvalidText = true
  row_Stuck : [PySem.W.subIn K (.ref C_Stuck) (.ref C_UnknownState), PySem.W.subIn K (.ref C_Stuck) (.ref C_InvalidText), PySem.W.subIn K (.ref C_Stuck) (.ref C_Stuck), PySem.W.subIn K (.ref C_Stuck) (.ref C_NotABook), PySem.W.subIn K (.ref C_Stuck) (.ref C_NotPlain), PySem.W.subIn K (.ref C_Stuck) (.ref C_NotFull), PySem.W.subIn K (.ref C_Stuck) (.ref C_NotOneWay), PySem.W.subIn K (.ref C_Stuck) (.ref C_NotAWire), PySem.W.subIn K (.ref C_Stuck) (.ref C_Unlike), PySem.W.subIn K (.ref C_Stuck) (.ref C_InvalidNumber), PySem.W.subIn K (.ref C_Stuck) (.ref C_UnknownWord), PySem.W.subIn K (.ref C_Stuck) (.ref C_InvalidWord), PySem.W.subIn K (.ref C_Stuck) (.ref C_InvalidRow), PySem.W.subIn K (.ref C_Stuck) (.ref C_InvalidLengths), PySem.W.subIn K (.ref C_Stuck) (.ref C_InvalidWeights), PySem.W.subIn K (.ref C_Stuck) (.ref C_InvalidBars), PySem.W.subIn K (.ref C_Stuck) (.ref C_InvalidChoice), PySem.W.subIn K (.ref C_Stuck) (.ref C_InvalidLoom), PySem.W.subIn K (.ref C_Stuck) (.ref C_InvalidPage), PySem.W.subIn K (.ref C_Stuck) (.ref C_LimitExceeded), PySem.W.subIn K (.ref C_Stuck) (.ref C_NothingLeft), PySem.W.subIn K (.ref C_Stuck) (.ref C_ReadError), PySem.W.subIn K (.ref C_Stuck) (.type "Exception"), PySem.W.subIn K (.ref C_Stuck) (.type "ValueError"), PySem.W.subIn K (.ref C_Stuck) (.type "LookupError"), PySem.W.subIn K (.ref C_Stuck) (.type "TypeError"), PySem.W.subIn K (.ref C_Stuck) (.type "bool")] = [some false, some false, some true, some false, some false, some false, some false, some false, some false, some false, some false, some false, some false, some false, some false, some false, some false, some false, some false, some false, some false, some true, some true, some false, some false, some false, some false]
  cl_Stuck : PySem.W.isClsIn K C_Stuck = true
  row_NotABook : [PySem.W.subIn K (.ref C_NotABook) (.ref C_UnknownState), PySem.W.subIn K (.ref C_NotABook) (.ref C_InvalidText), PySem.W.subIn K (.ref C_NotABook) (.ref C_Stuck), PySem.W.subIn K (.ref C_NotABook) (.ref C_NotABook), PySem.W.subIn K (.ref C_NotABook) (.ref C_NotPlain), PySem.W.subIn K (.ref C_NotABook) (.ref C_NotFull), PySem.W.subIn K (.ref C_NotABook) (.ref C_NotOneWay), PySem.W.subIn K (.ref C_NotABook) (.ref C_NotAWire), PySem.W.subIn K (.ref C_NotABook) (.ref C_Unlike), PySem.W.subIn K (.ref C_NotABook) (.ref C_InvalidNumber), PySem.W.subIn K (.ref C_NotABook) (.ref C_UnknownWord), PySem.W.subIn K (.ref C_NotABook) (.ref C_InvalidWord), PySem.W.subIn K (.ref C_NotABook) (.ref C_InvalidRow), PySem.W.subIn K (.ref C_NotABook) (.ref C_InvalidLengths), PySem.W.subIn K (.ref C_NotABook) (.ref C_InvalidWeights), PySem.W.subIn K (.ref C_NotABook) (.ref C_InvalidBars), PySem.W.subIn K (.ref C_NotABook) (.ref C_InvalidChoice), PySem.W.subIn K (.ref C_NotABook) (.ref C_InvalidLoom), PySem.W.subIn K (.ref C_NotABook) (.ref C_InvalidPage), PySem.W.subIn K (.ref C_NotABook) (.ref C_LimitExceeded), PySem.W.subIn K (.ref C_NotABook) (.ref C_NothingLeft), PySem.W.subIn K (.ref C_NotABook) (.ref C_ReadError), PySem.W.subIn K (.ref C_NotABook) (.type "Exception"), PySem.W.subIn K (.ref C_NotABook) (.type "ValueError"), PySem.W.subIn K (.ref C_NotABook) (.type "LookupError"), PySem.W.subIn K (.ref C_NotABook) (.type "TypeError"), PySem.W.subIn K (.ref C_NotABook) (.type "bool")] = [some false, some false, some false, some true, some false, some false, some false, some false, some false, some false, some false, some false, some false, some false, some false, some false, some false, some false, some false, some false, some false, some true, some true, some false, some false, some false, some false]
  cl_NotABook : PySem.W.isClsIn K C_NotABook = true
  row_NotPlain : [PySem.W.subIn K (.ref C_NotPlain) (.ref C_UnknownState), PySem.W.subIn K (.ref C_NotPlain) (.ref C_InvalidText), PySem.W.subIn K (.ref C_NotPlain) (.ref C_Stuck), PySem.W.subIn K (.ref C_NotPlain) (.ref C_NotABook), PySem.W.subIn K (.ref C_NotPlain) (.ref C_NotPlain), PySem.W.subIn K (.ref C_NotPlain) (.ref C_NotFull), PySem.W.subIn K (.ref C_NotPlain) (.ref C_NotOneWay), PySem.W.subIn K (.ref C_NotPlain) (.ref C_NotAWire), PySem.W.subIn K (.ref C_NotPlain) (.ref C_Unlike), PySem.W.subIn K (.ref C_NotPlain) (.ref C_InvalidNumber), PySem.W.subIn K (.ref C_NotPlain) (.ref C_UnknownWord), PySem.W.subIn K (.ref C_NotPlain) (.ref C_InvalidWord), PySem.W.subIn K (.ref C_NotPlain) (.ref C_InvalidRow), PySem.W.subIn K (.ref C_NotPlain) (.ref C_InvalidLengths), PySem.W.subIn K (.ref C_NotPlain) (.ref C_InvalidWeights), PySem.W.subIn K (.ref C_NotPlain) (.ref C_InvalidBars), PySem.W.subIn K (.ref C_NotPlain) (.ref C_InvalidChoice), PySem.W.subIn K (.ref C_NotPlain) (.ref C_InvalidLoom), PySem.W.subIn K (.ref C_NotPlain) (.ref C_InvalidPage), PySem.W.subIn K (.ref C_NotPlain) (.ref C_LimitExceeded), PySem.W.subIn K (.ref C_NotPlain) (.ref C_NothingLeft), PySem.W.subIn K (.ref C_NotPlain) (.ref C_ReadError), PySem.W.subIn K (.ref C_NotPlain) (.type "Exception"), PySem.W.subIn K (.ref C_NotPlain) (.type "ValueError"), PySem.W.subIn K (.ref C_NotPlain) (.type "LookupError"), PySem.W.subIn K (.ref C_NotPlain) (.type "TypeError"), PySem.W.subIn K (.ref C_NotPlain) (.type "bool")] = [some false, some false, some false, some false, some true, some false, some false, some false, some false, some false, some false, some false, some false, some false, some false, some false, some false, some false, some false, some false, some false, some true, some true, some false, some false, some false, some false]
  cl_NotPlain : PySem.W.isClsIn K C_NotPlain = true
  row_NotFull : [PySem.W.subIn K (.ref C_NotFull) (.ref C_UnknownState), PySem.W.subIn K (.ref C_NotFull) (.ref C_InvalidText), PySem.W.subIn K (.ref C_NotFull) (.ref C_Stuck), PySem.W.subIn K (.ref C_NotFull) (.ref C_NotABook), PySem.W.subIn K (.ref C_NotFull) (.ref C_NotPlain), PySem.W.subIn K (.ref C_NotFull) (.ref C_NotFull), PySem.W.subIn K (.ref C_NotFull) (.ref C_NotOneWay), PySem.W.subIn K (.ref C_NotFull) (.ref C_NotAWire), PySem.W.subIn K (.ref C_NotFull) (.ref C_Unlike), PySem.W.subIn K (.ref C_NotFull) (.ref C_InvalidNumber), PySem.W.subIn K (.ref C_NotFull) (.ref C_UnknownWord), PySem.W.subIn K (.ref C_NotFull) (.ref C_InvalidWord), PySem.W.subIn K (.ref C_NotFull) (.ref C_InvalidRow), PySem.W.subIn K (.ref C_NotFull) (.ref C_InvalidLengths), PySem.W.subIn K (.ref C_NotFull) (.ref C_InvalidWeights), PySem.W.subIn K (.ref C_NotFull) (.ref C_InvalidBars), PySem.W.subIn K (.ref C_NotFull) (.ref C_InvalidChoice), PySem.W.subIn K (.ref C_NotFull) (.ref C_InvalidLoom), PySem.W.subIn K (.ref C_NotFull) (.ref C_InvalidPage), PySem.W.subIn K (.ref C_NotFull) (.ref C_LimitExceeded), PySem.W.subIn K (.ref C_NotFull) (.ref C_NothingLeft), PySem.W.subIn K (.ref C_NotFull) (.ref C_ReadError), PySem.W.subIn K (.ref C_NotFull) (.type "Exception"), PySem.W.subIn K (.ref C_NotFull) (.type "ValueError"), PySem.W.subIn K (.ref C_NotFull) (.type "LookupError"), PySem.W.subIn K (.ref C_NotFull) (.type "TypeError"), PySem.W.subIn K (.ref C_NotFull) (.type "bool")] = [some false, some false, some false, some false, some false, some true, some false, some false, some false, some false, some false, some false, some false, some false, some false, some false, some false, some false, some false, some false, some false, some true, some true, some false, some false, some false, some false]
  cl_NotFull : PySem.W.isClsIn K C_NotFull = true
  row_NotOneWay : [PySem.W.subIn K (.ref C_NotOneWay) (.ref C_UnknownState), PySem.W.subIn K (.ref C_NotOneWay) (.ref C_InvalidText), PySem.W.subIn K (.ref C_NotOneWay) (.ref C_Stuck), PySem.W.subIn K (.ref C_NotOneWay) (.ref C_NotABook), PySem.W.subIn K (.ref C_NotOneWay) (.ref C_NotPlain), PySem.W.subIn K (.ref C_NotOneWay) (.ref C_NotFull), PySem.W.subIn K (.ref C_NotOneWay) (.ref C_NotOneWay), PySem.W.subIn K (.ref C_NotOneWay) (.ref C_NotAWire), PySem.W.subIn K (.ref C_NotOneWay) (.ref C_Unlike), PySem.W.subIn K (.ref C_NotOneWay) (.ref C_InvalidNumber), PySem.W.subIn K (.ref C_NotOneWay) (.ref C_UnknownWord), PySem.W.subIn K (.ref C_NotOneWay) (.ref C_InvalidWord), PySem.W.subIn K (.ref C_NotOneWay) (.ref C_InvalidRow), PySem.W.subIn K (.ref C_NotOneWay) (.ref C_InvalidLengths), PySem.W.subIn K (.ref C_NotOneWay) (.ref C_InvalidWeights), PySem.W.subIn K (.ref C_NotOneWay) (.ref C_InvalidBars), PySem.W.subIn K (.ref C_NotOneWay) (.ref C_InvalidChoice), PySem.W.subIn K (.ref C_NotOneWay) (.ref C_InvalidLoom), PySem.W.subIn K (.ref C_NotOneWay) (.ref C_InvalidPage), PySem.W.subIn K (.ref C_NotOneWay) (.ref C_LimitExceeded), PySem.W.subIn K (.ref C_NotOneWay) (.ref C_NothingLeft), PySem.W.subIn K (.ref C_NotOneWay) (.ref C_ReadError), PySem.W.subIn K (.ref C_NotOneWay) (.type "Exception"), PySem.W.subIn K (.ref C_NotOneWay) (.type "ValueError"), PySem.W.subIn K (.ref C_NotOneWay) (.type "LookupError"), PySem.W.subIn K (.ref C_NotOneWay) (.type "TypeError"), PySem.W.subIn K (.ref C_NotOneWay) (.type "bool")] = [some false, some false, some false, some false, some false, some false, some true, some false, some false, some false, some false, some false, some false, some false, some false, some false, some false, some false, some false, some false, some false, some true, some true, some false, some false, some false, some false]
  cl_NotOneWay : PySem.W.isClsIn K C_NotOneWay = true
  row_NotAWire : [PySem.W.subIn K (.ref C_NotAWire) (.ref C_UnknownState), PySem.W.subIn K (.ref C_NotAWire) (.ref C_InvalidText), PySem.W.subIn K (.ref C_NotAWire) (.ref C_Stuck), PySem.W.subIn K (.ref C_NotAWire) (.ref C_NotABook), PySem.W.subIn K (.ref C_NotAWire) (.ref C_NotPlain), PySem.W.subIn K (.ref C_NotAWire) (.ref C_NotFull), PySem.W.subIn K (.ref C_NotAWire) (.ref C_NotOneWay), PySem.W.subIn K (.ref C_NotAWire) (.ref C_NotAWire), PySem.W.subIn K (.ref C_NotAWire) (.ref C_Unlike), PySem.W.subIn K (.ref C_NotAWire) (.ref C_InvalidNumber), PySem.W.subIn K (.ref C_NotAWire) (.ref C_UnknownWord), PySem.W.subIn K (.ref C_NotAWire) (.ref C_InvalidWord), PySem.W.subIn K (.ref C_NotAWire) (.ref C_InvalidRow), PySem.W.subIn K (.ref C_NotAWire) (.ref C_InvalidLengths), PySem.W.subIn K (.ref C_NotAWire) (.ref C_InvalidWeights), PySem.W.subIn K (.ref C_NotAWire) (.ref C_InvalidBars), PySem.W.subIn K (.ref C_NotAWire) (.ref C_InvalidChoice), PySem.W.subIn K (.ref C_NotAWire) (.ref C_InvalidLoom), PySem.W.subIn K (.ref C_NotAWire) (.ref C_InvalidPage), PySem.W.subIn K (.ref C_NotAWire) (.ref C_LimitExceeded), PySem.W.subIn K (.ref C_NotAWire) (.ref C_NothingLeft), PySem.W.subIn K (.ref C_NotAWire) (.ref C_ReadError), PySem.W.subIn K (.ref C_NotAWire) (.type "Exception"), PySem.W.subIn K (.ref C_NotAWire) (.type "ValueError"), PySem.W.subIn K (.ref C_NotAWire) (.type "LookupError"), PySem.W.subIn K (.ref C_NotAWire) (.type "TypeError"), PySem.W.subIn K (.ref C_NotAWire) (.type "bool")] = [some false, some false, some false, some false, some false, some false, some false, some true, some false, some false, some false, some false, some false, some false, some false, some false, some false, some false, some false, some false, some false, some true, some true, some false, some false, some false, some false]
  cl_NotAWire : PySem.W.isClsIn K C_NotAWire = true
  row_Unlike : [PySem.W.subIn K (.ref C_Unlike) (.ref C_UnknownState), PySem.W.subIn K (.ref C_Unlike) (.ref C_InvalidText), PySem.W.subIn K (.ref C_Unlike) (.ref C_Stuck), PySem.W.subIn K (.ref C_Unlike) (.ref C_NotABook), PySem.W.subIn K (.ref C_Unlike) (.ref C_NotPlain), PySem.W.subIn K (.ref C_Unlike) (.ref C_NotFull), PySem.W.subIn K (.ref C_Unlike) (.ref C_NotOneWay), PySem.W.subIn K (.ref C_Unlike) (.ref C_NotAWire), PySem.W.subIn K (.ref C_Unlike) (.ref C_Unlike), PySem.W.subIn K (.ref C_Unlike) (.ref C_InvalidNumber), PySem.W.subIn K (.ref C_Unlike) (.ref C_UnknownWord), PySem.W.subIn K (.ref C_Unlike) (.ref C_InvalidWord), PySem.W.subIn K (.ref C_Unlike) (.ref C_InvalidRow), PySem.W.subIn K (.ref C_Unlike) (.ref C_InvalidLengths), PySem.W.subIn K (.ref C_Unlike) (.ref C_InvalidWeights), PySem.W.subIn K (.ref C_Unlike) (.ref C_InvalidBars), PySem.W.subIn K (.ref C_Unlike) (.ref C_InvalidChoice), PySem.W.subIn K (.ref C_Unlike) (.ref C_InvalidLoom), PySem.W.subIn K (.ref C_Unlike) (.ref C_InvalidPage), PySem.W.subIn K (.ref C_Unlike) (.ref C_LimitExceeded), PySem.W.subIn K (.ref C_Unlike) (.ref C_NothingLeft), PySem.W.subIn K (.ref C_Unlike) (.ref C_ReadError), PySem.W.subIn K (.ref C_Unlike) (.type "Exception"), PySem.W.subIn K (.ref C_Unlike) (.type "ValueError"), PySem.W.subIn K (.ref C_Unlike) (.type "LookupError"), PySem.W.subIn K (.ref C_Unlike) (.type "TypeError"), PySem.W.subIn K (.ref C_Unlike) (.type "bool")] = [some false, some false, some false, some false, some false, some false, some false, some false, some true, some false, some false, some false, some false, some false, some false, some false, some false, some false, some false, some false, some false, some true, some true, some false, some false, some false, some false]
  cl_Unlike : PySem.W.isClsIn K C_Unlike = true
  row_InvalidNumber : [PySem.W.subIn K (.ref C_InvalidNumber) (.ref C_UnknownState), PySem.W.subIn K (.ref C_InvalidNumber) (.ref C_InvalidText), PySem.W.subIn K (.ref C_InvalidNumber) (.ref C_Stuck), PySem.W.subIn K (.ref C_InvalidNumber) (.ref C_NotABook), PySem.W.subIn K (.ref C_InvalidNumber) (.ref C_NotPlain), PySem.W.subIn K (.ref C_InvalidNumber) (.ref C_NotFull), PySem.W.subIn K (.ref C_InvalidNumber) (.ref C_NotOneWay), PySem.W.subIn K (.ref C_InvalidNumber) (.ref C_NotAWire), PySem.W.subIn K (.ref C_InvalidNumber) (.ref C_Unlike), PySem.W.subIn K (.ref C_InvalidNumber) (.ref C_InvalidNumber), PySem.W.subIn K (.ref C_InvalidNumber) (.ref C_UnknownWord), PySem.W.subIn K (.ref C_InvalidNumber) (.ref C_InvalidWord), PySem.W.subIn K (.ref C_InvalidNumber) (.ref C_InvalidRow), PySem.W.subIn K (.ref C_InvalidNumber) (.ref C_InvalidLengths), PySem.W.subIn K (.ref C_InvalidNumber) (.ref C_InvalidWeights), PySem.W.subIn K (.ref C_InvalidNumber) (.ref C_InvalidBars), PySem.W.subIn K (.ref C_InvalidNumber) (.ref C_InvalidChoice), PySem.W.subIn K (.ref C_InvalidNumber) (.ref C_InvalidLoom), PySem.W.subIn K (.ref C_InvalidNumber) (.ref C_InvalidPage), PySem.W.subIn K (.ref C_InvalidNumber) (.ref C_LimitExceeded), PySem.W.subIn K (.ref C_InvalidNumber) (.ref C_NothingLeft), PySem.W.subIn K (.ref C_InvalidNumber) (.ref C_ReadError), PySem.W.subIn K (.ref C_InvalidNumber) (.type "Exception"), PySem.W.subIn K (.ref C_InvalidNumber) (.type "ValueError"), PySem.W.subIn K (.ref C_InvalidNumber) (.type "LookupError"), PySem.W.subIn K (.ref C_InvalidNumber) (.type "TypeError"), PySem.W.subIn K (.ref C_InvalidNumber) (.type "bool")] = [some false, some false, some false, some false, some false, some false, some false, some false, some false, some true, some false, some false, some false, some false, some false, some false, some false, some false, some false, some false, some false, some true, some true, some false, some false, some false, some false]
  cl_InvalidNumber : PySem.W.isClsIn K C_InvalidNumber = true
  row_UnknownWord : [PySem.W.subIn K (.ref C_UnknownWord) (.ref C_UnknownState), PySem.W.subIn K (.ref C_UnknownWord) (.ref C_InvalidText), PySem.W.subIn K (.ref C_UnknownWord) (.ref C_Stuck), PySem.W.subIn K (.ref C_UnknownWord) (.ref C_NotABook), PySem.W.subIn K (.ref C_UnknownWord) (.ref C_NotPlain), PySem.W.subIn K (.ref C_UnknownWord) (.ref C_NotFull), PySem.W.subIn K (.ref C_UnknownWord) (.ref C_NotOneWay), PySem.W.subIn K (.ref C_UnknownWord) (.ref C_NotAWire), PySem.W.subIn K (.ref C_UnknownWord) (.ref C_Unlike), PySem.W.subIn K (.ref C_UnknownWord) (.ref C_InvalidNumber), PySem.W.subIn K (.ref C_UnknownWord) (.ref C_UnknownWord), PySem.W.subIn K (.ref C_UnknownWord) (.ref C_InvalidWord), PySem.W.subIn K (.ref C_UnknownWord) (.ref C_InvalidRow), PySem.W.subIn K (.ref C_UnknownWord) (.ref C_InvalidLengths), PySem.W.subIn K (.ref C_UnknownWord) (.ref C_InvalidWeights), PySem.W.subIn K (.ref C_UnknownWord) (.ref C_InvalidBars), PySem.W.subIn K (.ref C_UnknownWord) (.ref C_InvalidChoice), PySem.W.subIn K (.ref C_UnknownWord) (.ref C_InvalidLoom), PySem.W.subIn K (.ref C_UnknownWord) (.ref C_InvalidPage), PySem.W.subIn K (.ref C_UnknownWord) (.ref C_LimitExceeded), PySem.W.subIn K (.ref C_UnknownWord) (.ref C_NothingLeft), PySem.W.subIn K (.ref C_UnknownWord) (.ref C_ReadError), PySem.W.subIn K (.ref C_UnknownWord) (.type "Exception"), PySem.W.subIn K (.ref C_UnknownWord) (.type "ValueError"), PySem.W.subIn K (.ref C_UnknownWord) (.type "LookupError"), PySem.W.subIn K (.ref C_UnknownWord) (.type "TypeError"), PySem.W.subIn K (.ref C_UnknownWord) (.type "bool")] = [some false, some false, some false, some false, some false, some false, some false, some false, some false, some false, some true, some false, some false, some false, some false, some false, some false, some false, some false, some false, some false, some true, some true, some false, some false, some false, some false]
  cl_UnknownWord : PySem.W.isClsIn K C_UnknownWord = true
  row_InvalidWord : [PySem.W.subIn K (.ref C_InvalidWord) (.ref C_UnknownState), PySem.W.subIn K (.ref C_InvalidWord) (.ref C_InvalidText), PySem.W.subIn K (.ref C_InvalidWord) (.ref C_Stuck), PySem.W.subIn K (.ref C_InvalidWord) (.ref C_NotABook), PySem.W.subIn K (.ref C_InvalidWord) (.ref C_NotPlain), PySem.W.subIn K (.ref C_InvalidWord) (.ref C_NotFull), PySem.W.subIn K (.ref C_InvalidWord) (.ref C_NotOneWay), PySem.W.subIn K (.ref C_InvalidWord) (.ref C_NotAWire), PySem.W.subIn K (.ref C_InvalidWord) (.ref C_Unlike), PySem.W.subIn K (.ref C_InvalidWord) (.ref C_InvalidNumber), PySem.W.subIn K (.ref C_InvalidWord) (.ref C_UnknownWord), PySem.W.subIn K (.ref C_InvalidWord) (.ref C_InvalidWord), PySem.W.subIn K (.ref C_InvalidWord) (.ref C_InvalidRow), PySem.W.subIn K (.ref C_InvalidWord) (.ref C_InvalidLengths), PySem.W.subIn K (.ref C_InvalidWord) (.ref C_InvalidWeights), PySem.W.subIn K (.ref C_InvalidWord) (.ref C_InvalidBars), PySem.W.subIn K (.ref C_InvalidWord) (.ref C_InvalidChoice), PySem.W.subIn K (.ref C_InvalidWord) (.ref C_InvalidLoom), PySem.W.subIn K (.ref C_InvalidWord) (.ref C_InvalidPage), PySem.W.subIn K (.ref C_InvalidWord) (.ref C_LimitExceeded), PySem.W.subIn K (.ref C_InvalidWord) (.ref C_NothingLeft), PySem.W.subIn K (.ref C_InvalidWord) (.ref C_ReadError), PySem.W.subIn K (.ref C_InvalidWord) (.type "Exception"), PySem.W.subIn K (.ref C_InvalidWord) (.type "ValueError"), PySem.W.subIn K (.ref C_InvalidWord) (.type "LookupError"), PySem.W.subIn K (.ref C_InvalidWord) (.type "TypeError"), PySem.W.subIn K (.ref C_InvalidWord) (.type "bool")] = [some false, some false, some false, some false, some false, some false, some false, some false, some false, some false, some false, some true, some false, some false, some false, some false, some false, some false, some false, some false, some false, some true, some true, some false, some false, some false, some false]
  cl_InvalidWord : PySem.W.isClsIn K C_InvalidWord = true
  row_InvalidRow : [PySem.W.subIn K (.ref C_InvalidRow) (.ref C_UnknownState), PySem.W.subIn K (.ref C_InvalidRow) (.ref C_InvalidText), PySem.W.subIn K (.ref C_InvalidRow) (.ref C_Stuck), PySem.W.subIn K (.ref C_InvalidRow) (.ref C_NotABook), PySem.W.subIn K (.ref C_InvalidRow) (.ref C_NotPlain), PySem.W.subIn K (.ref C_InvalidRow) (.ref C_NotFull), PySem.W.subIn K (.ref C_InvalidRow) (.ref C_NotOneWay), PySem.W.subIn K (.ref C_InvalidRow) (.ref C_NotAWire), PySem.W.subIn K (.ref C_InvalidRow) (.ref C_Unlike), PySem.W.subIn K (.ref C_InvalidRow) (.ref C_InvalidNumber), PySem.W.subIn K (.ref C_InvalidRow) (.ref C_UnknownWord), PySem.W.subIn K (.ref C_InvalidRow) (.ref C_InvalidWord), PySem.W.subIn K (.ref C_InvalidRow) (.ref C_InvalidRow), PySem.W.subIn K (.ref C_InvalidRow) (.ref C_InvalidLengths), PySem.W.subIn K (.ref C_InvalidRow) (.ref C_InvalidWeights), PySem.W.subIn K (.ref C_InvalidRow) (.ref C_InvalidBars), PySem.W.subIn K (.ref C_InvalidRow) (.ref C_InvalidChoice), PySem.W.subIn K (.ref C_InvalidRow) (.ref C_InvalidLoom), PySem.W.subIn K (.ref C_InvalidRow) (.ref C_InvalidPage), PySem.W.subIn K (.ref C_InvalidRow) (.ref C_LimitExceeded), PySem.W.subIn K (.ref C_InvalidRow) (.ref C_NothingLeft), PySem.W.subIn K (.ref C_InvalidRow) (.ref C_ReadError), PySem.W.subIn K (.ref C_InvalidRow) (.type "Exception"), PySem.W.subIn K (.ref C_InvalidRow) (.type "ValueError"), PySem.W.subIn K (.ref C_InvalidRow) (.type "LookupError"), PySem.W.subIn K (.ref C_InvalidRow) (.type "TypeError"), PySem.W.subIn K (.ref C_InvalidRow) (.type "bool")] = [some false, some false, some false, some false, some false, some false, some false, some false, some false, some false, some false, some false, some true, some false, some false, some false, some false, some false, some false, some false, some false, some true, some true, some false, some false, some false, some false]
  cl_InvalidRow : PySem.W.isClsIn K C_InvalidRow = true
  nx_InvalidRow_at : PySem.W.findIn K (.ref C_InvalidRow) "at" = some none
  row_InvalidLengths : [PySem.W.subIn K (.ref C_InvalidLengths) (.ref C_UnknownState), PySem.W.subIn K (.ref C_InvalidLengths) (.ref C_InvalidText), PySem.W.subIn K (.ref C_InvalidLengths) (.ref C_Stuck), PySem.W.subIn K (.ref C_InvalidLengths) (.ref C_NotABook), PySem.W.subIn K (.ref C_InvalidLengths) (.ref C_NotPlain), PySem.W.subIn K (.ref C_InvalidLengths) (.ref C_NotFull), PySem.W.subIn K (.ref C_InvalidLengths) (.ref C_NotOneWay), PySem.W.subIn K (.ref C_InvalidLengths) (.ref C_NotAWire), PySem.W.subIn K (.ref C_InvalidLengths) (.ref C_Unlike), PySem.W.subIn K (.ref C_InvalidLengths) (.ref C_InvalidNumber), PySem.W.subIn K (.ref C_InvalidLengths) (.ref C_UnknownWord), PySem.W.subIn K (.ref C_InvalidLengths) (.ref C_InvalidWord), PySem.W.subIn K (.ref C_InvalidLengths) (.ref C_InvalidRow), PySem.W.subIn K (.ref C_InvalidLengths) (.ref C_InvalidLengths), PySem.W.subIn K (.ref C_InvalidLengths) (.ref C_InvalidWeights), PySem.W.subIn K (.ref C_InvalidLengths) (.ref C_InvalidBars), PySem.W.subIn K (.ref C_InvalidLengths) (.ref C_InvalidChoice), PySem.W.subIn K (.ref C_InvalidLengths) (.ref C_InvalidLoom), PySem.W.subIn K (.ref C_InvalidLengths) (.ref C_InvalidPage), PySem.W.subIn K (.ref C_InvalidLengths) (.ref C_LimitExceeded), PySem.W.subIn K (.ref C_InvalidLengths) (.ref C_NothingLeft), PySem.W.subIn K (.ref C_InvalidLengths) (.ref C_ReadError), PySem.W.subIn K (.ref C_InvalidLengths) (.type "Exception"), PySem.W.subIn K (.ref C_InvalidLengths) (.type "ValueError"), PySem.W.subIn K (.ref C_InvalidLengths) (.type "LookupError"), PySem.W.subIn K (.ref C_InvalidLengths) (.type "TypeError"), PySem.W.subIn K (.ref C_InvalidLengths) (.type "bool")] = [some false, some false, some false, some false, some false, some false, some false, some false, some false, some false, some false, some false, some false, some true, some false, some false, some false, some false, some false, some false, some false, some true, some true, some false, some false, some false, some false]
  cl_InvalidLengths : PySem.W.isClsIn K C_InvalidLengths = true
  nx_InvalidLengths_at : PySem.W.findIn K (.ref C_InvalidLengths) "at" = some none
  row_InvalidWeights : [PySem.W.subIn K (.ref C_InvalidWeights) (.ref C_UnknownState), PySem.W.subIn K (.ref C_InvalidWeights) (.ref C_InvalidText), PySem.W.subIn K (.ref C_InvalidWeights) (.ref C_Stuck), PySem.W.subIn K (.ref C_InvalidWeights) (.ref C_NotABook), PySem.W.subIn K (.ref C_InvalidWeights) (.ref C_NotPlain), PySem.W.subIn K (.ref C_InvalidWeights) (.ref C_NotFull), PySem.W.subIn K (.ref C_InvalidWeights) (.ref C_NotOneWay), PySem.W.subIn K (.ref C_InvalidWeights) (.ref C_NotAWire), PySem.W.subIn K (.ref C_InvalidWeights) (.ref C_Unlike), PySem.W.subIn K (.ref C_InvalidWeights) (.ref C_InvalidNumber), PySem.W.subIn K (.ref C_InvalidWeights) (.ref C_UnknownWord), PySem.W.subIn K (.ref C_InvalidWeights) (.ref C_InvalidWord), PySem.W.subIn K (.ref C_InvalidWeights) (.ref C_InvalidRow), PySem.W.subIn K (.ref C_InvalidWeights) (.ref C_InvalidLengths), PySem.W.subIn K (.ref C_InvalidWeights) (.ref C_InvalidWeights), PySem.W.subIn K (.ref C_InvalidWeights) (.ref C_InvalidBars), PySem.W.subIn K (.ref C_InvalidWeights) (.ref C_InvalidChoice), PySem.W.subIn K (.ref C_InvalidWeights) (.ref C_InvalidLoom), PySem.W.subIn K (.ref C_InvalidWeights) (.ref C_InvalidPage), PySem.W.subIn K (.ref C_InvalidWeights) (.ref C_LimitExceeded), PySem.W.subIn K (.ref C_InvalidWeights) (.ref C_NothingLeft), PySem.W.subIn K (.ref C_InvalidWeights) (.ref C_ReadError), PySem.W.subIn K (.ref C_InvalidWeights) (.type "Exception"), PySem.W.subIn K (.ref C_InvalidWeights) (.type "ValueError"), PySem.W.subIn K (.ref C_InvalidWeights) (.type "LookupError"), PySem.W.subIn K (.ref C_InvalidWeights) (.type "TypeError"), PySem.W.subIn K (.ref C_InvalidWeights) (.type "bool")] = [some false, some false, some false, some false, some false, some false, some false, some false, some false, some false, some false, some false, some false, some false, some true, some false, some false, some false, some false, some false, some false, some true, some true, some false, some false, some false, some false]
  cl_InvalidWeights : PySem.W.isClsIn K C_InvalidWeights = true
  nx_InvalidWeights_at : PySem.W.findIn K (.ref C_InvalidWeights) "at" = some none
  row_InvalidBars : [PySem.W.subIn K (.ref C_InvalidBars) (.ref C_UnknownState), PySem.W.subIn K (.ref C_InvalidBars) (.ref C_InvalidText), PySem.W.subIn K (.ref C_InvalidBars) (.ref C_Stuck), PySem.W.subIn K (.ref C_InvalidBars) (.ref C_NotABook), PySem.W.subIn K (.ref C_InvalidBars) (.ref C_NotPlain), PySem.W.subIn K (.ref C_InvalidBars) (.ref C_NotFull), PySem.W.subIn K (.ref C_InvalidBars) (.ref C_NotOneWay), PySem.W.subIn K (.ref C_InvalidBars) (.ref C_NotAWire), PySem.W.subIn K (.ref C_InvalidBars) (.ref C_Unlike), PySem.W.subIn K (.ref C_InvalidBars) (.ref C_InvalidNumber), PySem.W.subIn K (.ref C_InvalidBars) (.ref C_UnknownWord), PySem.W.subIn K (.ref C_InvalidBars) (.ref C_InvalidWord), PySem.W.subIn K (.ref C_InvalidBars) (.ref C_InvalidRow), PySem.W.subIn K (.ref C_InvalidBars) (.ref C_InvalidLengths), PySem.W.subIn K (.ref C_InvalidBars) (.ref C_InvalidWeights), PySem.W.subIn K (.ref C_InvalidBars) (.ref C_InvalidBars), PySem.W.subIn K (.ref C_InvalidBars) (.ref C_InvalidChoice), PySem.W.subIn K (.ref C_InvalidBars) (.ref C_InvalidLoom), PySem.W.subIn K (.ref C_InvalidBars) (.ref C_InvalidPage), PySem.W.subIn K (.ref C_InvalidBars) (.ref C_LimitExceeded), PySem.W.subIn K (.ref C_InvalidBars) (.ref C_NothingLeft), PySem.W.subIn K (.ref C_InvalidBars) (.ref C_ReadError), PySem.W.subIn K (.ref C_InvalidBars) (.type "Exception"), PySem.W.subIn K (.ref C_InvalidBars) (.type "ValueError"), PySem.W.subIn K (.ref C_InvalidBars) (.type "LookupError"), PySem.W.subIn K (.ref C_InvalidBars) (.type "TypeError"), PySem.W.subIn K (.ref C_InvalidBars) (.type "bool")] = [some false, some false, some false, some false, some false, some false, some false, some false, some false, some false, some false, some false, some false, some false, some false, some true, some false, some false, some false, some false, some false, some true, some true, some false, some false, some false, some false]
  cl_InvalidBars : PySem.W.isClsIn K C_InvalidBars = true
  nx_InvalidBars_at : PySem.W.findIn K (.ref C_InvalidBars) "at" = some none
  row_InvalidChoice : [PySem.W.subIn K (.ref C_InvalidChoice) (.ref C_UnknownState), PySem.W.subIn K (.ref C_InvalidChoice) (.ref C_InvalidText), PySem.W.subIn K (.ref C_InvalidChoice) (.ref C_Stuck), PySem.W.subIn K (.ref C_InvalidChoice) (.ref C_NotABook), PySem.W.subIn K (.ref C_InvalidChoice) (.ref C_NotPlain), PySem.W.subIn K (.ref C_InvalidChoice) (.ref C_NotFull), PySem.W.subIn K (.ref C_InvalidChoice) (.ref C_NotOneWay), PySem.W.subIn K (.ref C_InvalidChoice) (.ref C_NotAWire), PySem.W.subIn K (.ref C_InvalidChoice) (.ref C_Unlike), PySem.W.subIn K (.ref C_InvalidChoice) (.ref C_InvalidNumber), PySem.W.subIn K (.ref C_InvalidChoice) (.ref C_UnknownWord), PySem.W.subIn K (.ref C_InvalidChoice) (.ref C_InvalidWord), PySem.W.subIn K (.ref C_InvalidChoice) (.ref C_InvalidRow), PySem.W.subIn K (.ref C_InvalidChoice) (.ref C_InvalidLengths), PySem.W.subIn K (.ref C_InvalidChoice) (.ref C_InvalidWeights), PySem.W.subIn K (.ref C_InvalidChoice) (.ref C_InvalidBars), PySem.W.subIn K (.ref C_InvalidChoice) (.ref C_InvalidChoice), PySem.W.subIn K (.ref C_InvalidChoice) (.ref C_InvalidLoom), PySem.W.subIn K (.ref C_InvalidChoice) (.ref C_InvalidPage), PySem.W.subIn K (.ref C_InvalidChoice) (.ref C_LimitExceeded), PySem.W.subIn K (.ref C_InvalidChoice) (.ref C_NothingLeft), PySem.W.subIn K (.ref C_InvalidChoice) (.ref C_ReadError), PySem.W.subIn K (.ref C_InvalidChoice) (.type "Exception"), PySem.W.subIn K (.ref C_InvalidChoice) (.type "ValueError"), PySem.W.subIn K (.ref C_InvalidChoice) (.type "LookupError"), PySem.W.subIn K (.ref C_InvalidChoice) (.type "TypeError"), PySem.W.subIn K (.ref C_InvalidChoice) (.type "bool")] = [some false, some false, some false, some false, some false, some false, some false, some false, some false, some false, some false, some false, some false, some false, some false, some false, some true, some false, some false, some false, some false, some true, some true, some false, some false, some false, some false]
  cl_InvalidChoice : PySem.W.isClsIn K C_InvalidChoice = true
  nx_InvalidChoice_at : PySem.W.findIn K (.ref C_InvalidChoice) "at" = some none
  row_InvalidLoom : [PySem.W.subIn K (.ref C_InvalidLoom) (.ref C_UnknownState), PySem.W.subIn K (.ref C_InvalidLoom) (.ref C_InvalidText), PySem.W.subIn K (.ref C_InvalidLoom) (.ref C_Stuck), PySem.W.subIn K (.ref C_InvalidLoom) (.ref C_NotABook), PySem.W.subIn K (.ref C_InvalidLoom) (.ref C_NotPlain), PySem.W.subIn K (.ref C_InvalidLoom) (.ref C_NotFull), PySem.W.subIn K (.ref C_InvalidLoom) (.ref C_NotOneWay), PySem.W.subIn K (.ref C_InvalidLoom) (.ref C_NotAWire), PySem.W.subIn K (.ref C_InvalidLoom) (.ref C_Unlike), PySem.W.subIn K (.ref C_InvalidLoom) (.ref C_InvalidNumber), PySem.W.subIn K (.ref C_InvalidLoom) (.ref C_UnknownWord), PySem.W.subIn K (.ref C_InvalidLoom) (.ref C_InvalidWord), PySem.W.subIn K (.ref C_InvalidLoom) (.ref C_InvalidRow), PySem.W.subIn K (.ref C_InvalidLoom) (.ref C_InvalidLengths), PySem.W.subIn K (.ref C_InvalidLoom) (.ref C_InvalidWeights), PySem.W.subIn K (.ref C_InvalidLoom) (.ref C_InvalidBars), PySem.W.subIn K (.ref C_InvalidLoom) (.ref C_InvalidChoice), PySem.W.subIn K (.ref C_InvalidLoom) (.ref C_InvalidLoom), PySem.W.subIn K (.ref C_InvalidLoom) (.ref C_InvalidPage), PySem.W.subIn K (.ref C_InvalidLoom) (.ref C_LimitExceeded), PySem.W.subIn K (.ref C_InvalidLoom) (.ref C_NothingLeft), PySem.W.subIn K (.ref C_InvalidLoom) (.ref C_ReadError), PySem.W.subIn K (.ref C_InvalidLoom) (.type "Exception"), PySem.W.subIn K (.ref C_InvalidLoom) (.type "ValueError"), PySem.W.subIn K (.ref C_InvalidLoom) (.type "LookupError"), PySem.W.subIn K (.ref C_InvalidLoom) (.type "TypeError"), PySem.W.subIn K (.ref C_InvalidLoom) (.type "bool")] = [some false, some false, some false, some false, some false, some false, some false, some false, some false, some false, some false, some false, some false, some false, some false, some false, some false, some true, some false, some false, some false, some true, some true, some false, some false, some false, some false]
  cl_InvalidLoom : PySem.W.isClsIn K C_InvalidLoom = true
  nx_InvalidLoom_part : PySem.W.findIn K (.ref C_InvalidLoom) "part" = some none
  nx_InvalidLoom_at : PySem.W.findIn K (.ref C_InvalidLoom) "at" = some none
  row_InvalidPage : [PySem.W.subIn K (.ref C_InvalidPage) (.ref C_UnknownState), PySem.W.subIn K (.ref C_InvalidPage) (.ref C_InvalidText), PySem.W.subIn K (.ref C_InvalidPage) (.ref C_Stuck), PySem.W.subIn K (.ref C_InvalidPage) (.ref C_NotABook), PySem.W.subIn K (.ref C_InvalidPage) (.ref C_NotPlain), PySem.W.subIn K (.ref C_InvalidPage) (.ref C_NotFull), PySem.W.subIn K (.ref C_InvalidPage) (.ref C_NotOneWay), PySem.W.subIn K (.ref C_InvalidPage) (.ref C_NotAWire), PySem.W.subIn K (.ref C_InvalidPage) (.ref C_Unlike), PySem.W.subIn K (.ref C_InvalidPage) (.ref C_InvalidNumber), PySem.W.subIn K (.ref C_InvalidPage) (.ref C_UnknownWord), PySem.W.subIn K (.ref C_InvalidPage) (.ref C_InvalidWord), PySem.W.subIn K (.ref C_InvalidPage) (.ref C_InvalidRow), PySem.W.subIn K (.ref C_InvalidPage) (.ref C_InvalidLengths), PySem.W.subIn K (.ref C_InvalidPage) (.ref C_InvalidWeights), PySem.W.subIn K (.ref C_InvalidPage) (.ref C_InvalidBars), PySem.W.subIn K (.ref C_InvalidPage) (.ref C_InvalidChoice), PySem.W.subIn K (.ref C_InvalidPage) (.ref C_InvalidLoom), PySem.W.subIn K (.ref C_InvalidPage) (.ref C_InvalidPage), PySem.W.subIn K (.ref C_InvalidPage) (.ref C_LimitExceeded), PySem.W.subIn K (.ref C_InvalidPage) (.ref C_NothingLeft), PySem.W.subIn K (.ref C_InvalidPage) (.ref C_ReadError), PySem.W.subIn K (.ref C_InvalidPage) (.type "Exception"), PySem.W.subIn K (.ref C_InvalidPage) (.type "ValueError"), PySem.W.subIn K (.ref C_InvalidPage) (.type "LookupError"), PySem.W.subIn K (.ref C_InvalidPage) (.type "TypeError"), PySem.W.subIn K (.ref C_InvalidPage) (.type "bool")] = [some false, some false, some false, some false, some false, some false, some false, some false, some false, some false, some false, some false, some false, some false, some false, some false, some false, some false, some true, some false, some false, some true, some true, some false, some false, some false, some false]
  cl_InvalidPage : PySem.W.isClsIn K C_InvalidPage = true
  nx_InvalidPage_line : PySem.W.findIn K (.ref C_InvalidPage) "line" = some none
  row_LimitExceeded : [PySem.W.subIn K (.ref C_LimitExceeded) (.ref C_UnknownState), PySem.W.subIn K (.ref C_LimitExceeded) (.ref C_InvalidText), PySem.W.subIn K (.ref C_LimitExceeded) (.ref C_Stuck), PySem.W.subIn K (.ref C_LimitExceeded) (.ref C_NotABook), PySem.W.subIn K (.ref C_LimitExceeded) (.ref C_NotPlain), PySem.W.subIn K (.ref C_LimitExceeded) (.ref C_NotFull), PySem.W.subIn K (.ref C_LimitExceeded) (.ref C_NotOneWay), PySem.W.subIn K (.ref C_LimitExceeded) (.ref C_NotAWire), PySem.W.subIn K (.ref C_LimitExceeded) (.ref C_Unlike), PySem.W.subIn K (.ref C_LimitExceeded) (.ref C_InvalidNumber), PySem.W.subIn K (.ref C_LimitExceeded) (.ref C_UnknownWord), PySem.W.subIn K (.ref C_LimitExceeded) (.ref C_InvalidWord), PySem.W.subIn K (.ref C_LimitExceeded) (.ref C_InvalidRow), PySem.W.subIn K (.ref C_LimitExceeded) (.ref C_InvalidLengths), PySem.W.subIn K (.ref C_LimitExceeded) (.ref C_InvalidWeights), PySem.W.subIn K (.ref C_LimitExceeded) (.ref C_InvalidBars), PySem.W.subIn K (.ref C_LimitExceeded) (.ref C_InvalidChoice), PySem.W.subIn K (.ref C_LimitExceeded) (.ref C_InvalidLoom), PySem.W.subIn K (.ref C_LimitExceeded) (.ref C_InvalidPage), PySem.W.subIn K (.ref C_LimitExceeded) (.ref C_LimitExceeded), PySem.W.subIn K (.ref C_LimitExceeded) (.ref C_NothingLeft), PySem.W.subIn K (.ref C_LimitExceeded) (.ref C_ReadError), PySem.W.subIn K (.ref C_LimitExceeded) (.type "Exception"), PySem.W.subIn K (.ref C_LimitExceeded) (.type "ValueError"), PySem.W.subIn K (.ref C_LimitExceeded) (.type "LookupError"), PySem.W.subIn K (.ref C_LimitExceeded) (.type "TypeError"), PySem.W.subIn K (.ref C_LimitExceeded) (.type "bool")] = [some false, some false, some false, some false, some false, some false, some false, some false, some false, some false, some false, some false, some false, some false, some false, some false, some false, some false, some false, some true, some false, some true, some true, some false, some false, some false, some false]
  cl_LimitExceeded : PySem.W.isClsIn K C_LimitExceeded = true
  nx_LimitExceeded_limit : PySem.W.findIn K (.ref C_LimitExceeded) "limit" = some none
  row_NothingLeft : [PySem.W.subIn K (.ref C_NothingLeft) (.ref C_UnknownState), PySem.W.subIn K (.ref C_NothingLeft) (.ref C_InvalidText), PySem.W.subIn K (.ref C_NothingLeft) (.ref C_Stuck), PySem.W.subIn K (.ref C_NothingLeft) (.ref C_NotABook), PySem.W.subIn K (.ref C_NothingLeft) (.ref C_NotPlain), PySem.W.subIn K (.ref C_NothingLeft) (.ref C_NotFull), PySem.W.subIn K (.ref C_NothingLeft) (.ref C_NotOneWay), PySem.W.subIn K (.ref C_NothingLeft) (.ref C_NotAWire), PySem.W.subIn K (.ref C_NothingLeft) (.ref C_Unlike), PySem.W.subIn K (.ref C_NothingLeft) (.ref C_InvalidNumber), PySem.W.subIn K (.ref C_NothingLeft) (.ref C_UnknownWord), PySem.W.subIn K (.ref C_NothingLeft) (.ref C_InvalidWord), PySem.W.subIn K (.ref C_NothingLeft) (.ref C_InvalidRow), PySem.W.subIn K (.ref C_NothingLeft) (.ref C_InvalidLengths), PySem.W.subIn K (.ref C_NothingLeft) (.ref C_InvalidWeights), PySem.W.subIn K (.ref C_NothingLeft) (.ref C_InvalidBars), PySem.W.subIn K (.ref C_NothingLeft) (.ref C_InvalidChoice), PySem.W.subIn K (.ref C_NothingLeft) (.ref C_InvalidLoom), PySem.W.subIn K (.ref C_NothingLeft) (.ref C_InvalidPage), PySem.W.subIn K (.ref C_NothingLeft) (.ref C_LimitExceeded), PySem.W.subIn K (.ref C_NothingLeft) (.ref C_NothingLeft), PySem.W.subIn K (.ref C_NothingLeft) (.ref C_ReadError), PySem.W.subIn K (.ref C_NothingLeft) (.type "Exception"), PySem.W.subIn K (.ref C_NothingLeft) (.type "ValueError"), PySem.W.subIn K (.ref C_NothingLeft) (.type "LookupError"), PySem.W.subIn K (.ref C_NothingLeft) (.type "TypeError"), PySem.W.subIn K (.ref C_NothingLeft) (.type "bool")] = [some false, some false, some false, some false, some false, some false, some false, some false, some false, some false, some false, some false, some false, some false, some false, some false, some false, some false, some false, some false, some true, some true, some true, some false, some false, some false, some false]
  cl_NothingLeft : PySem.W.isClsIn K C_NothingLeft = true
  nx_NothingLeft_word : PySem.W.findIn K (.ref C_NothingLeft) "word" = some none
  cl_ReadError : PySem.W.isClsIn K C_ReadError = true
  eq_Stuck : PySem.W.findIn K (.ref C_Stuck) "__eq__" = some (some (.builtin "object.__eq__"))
end J

set_option Elab.async false
set_option linter.all false
set_option maxRecDepth 100000
set_option maxHeartbeats 4000000
/-! exceptions as values: their fields read, == of one with itself -/
namespace HN
open PySem PySem.Spec PyProof.Rows PySem.SeqAt
section
variable {M : Model} {prog : Program} {w : World} {A : Around} {E : Value → Shared → Prop} {s : Shared} {K : PySem.W.Frag} {x C : Addr} {ox : Obj} {od : Option Obj}
theorem ifBound_xEq {args : List Value} {Q : Option Value → Shared → Prop} (X : K.In s.heap) (I : PySem.W.InstAt s.heap x ox C od) (hs : PySem.W.findIn K (.ref C) "__eq__" = some (some (.builtin "object.__eq__")))
    (h : wpAny M A (call (.builtin "object.__eq__") (.ref x :: args)) (fun v => Q (some v)) E s) : wpAny M A (callSpecialIfBound? (.ref x) "__eq__" args) Q E s := by
  simp only [callSpecialIfBound?, bindSpecialIfBound?]
  refine wpAny_holding (wpAny_bind (wpAny_bind (wpAny_bind (I.type.here ((PySem.W.looks_findIn X hs).here ?_)))))
  refine wpAny_bind (wpAny_askSetting (wpAny_ite ?_))
  have fin : wpAny M A (call (.builtin "object.__eq__") ([.ref x] ++ args) >>= fun v => pure (some v)) Q E s := wpAny_bind (wpAny_mono h (fun v s' h' => wpAny_pure h') fun _ _ h' => h')
  split
  · exact wpAny_bind (wpAny_of_eq (F.cmp_object.eq.bind _) (wpAny_pure (by exact fin)))
  · exact wpAny_tryCatch (wpAny_bind (wpAny_of_eq (F.cmp_object.eq.bind _) (wpAny_pure (by exact fin))))
theorem rc_eqSelf {L : Addr} {h₀ : Heap} {m : Str → Option Value} {Q : Value → Shared → Prop} (hu : A.units < cLine) (hF : Fr h₀ L s.heap m) (X₀ : K.In h₀) (I : PySem.W.InstAt s.heap x ox C od)
    (hm : PySem.W.mroIn K C (.type "object") = some true) (he : PySem.W.findIn K (.ref C) "__eq__" = some (some (.builtin "object.__eq__"))) (h : Q (.bool true) s) : wpAny (model prog w) A (richCompare .Eq (.ref x) (.ref x)) Q E s := by
  have X := X₀.keeps hF.keep
  have one : wpAny (model prog w) A (tryCompare (.ref x) (cmpInfo .Eq).2.1 (.ref x)) (fun r s' => ∃ v, r = some v ∧ Q v s') E s := by
    unfold tryCompare
    refine wpAny_bind (ifBound_xEq X I he (wpAny_call (codeAny_call_builtin F.cmp_object.eq.plain F.cmpEntry_eq (PySem.W.check_slot F.cmpKind_eq F.cmpSplit_eq (I.type.andThen (PySem.W.looks_mroIn X hm)) (F.cmpArgs_eq _ _) (objEq_entry_same ?_)))))
    exact wpAny_pure ⟨_, rfl, h⟩
  unfold richCompare
  simp only [oneThing_ref]
  refine wpAny_holding (wpAny_bind (wpAny_cRoomFor hu ?_))
  refine wpAny_bind (I.type.here (wpAny_bind (I.type.here ?_)))
  split
  · rename_i q
    simp at q
  · refine wpAny_bind (wpAny_pure ?_)
    simp only [Bool.false_eq_true, if_false]
    refine wpAny_bind (wpAny_mono one (fun r s' z => ?_) fun _ _ e => e)
    obtain ⟨v, rfl, hq⟩ := z
    exact wpAny_pure hq
end
end HN
namespace L2
open PySem PySem.Spec PyProof.Rows PySem.ExX
section
variable {X : Cx} {pins : List (Addr × Obj)} {σ : St} {H : Hp} {s : Shared}
theorem exd_inst {a C d : Addr} {fs : List (Str × V)} (I : Inv X pins σ H s) (e : H a = some (ExD C d a)) (ed : H d = some (.xd fs)) :
    ∃ (oe od : Obj) (mA : Str → Option Value), PySem.W.InstAt s.heap a oe C (some od) ∧ (∀ f, RelO (fs.lookup f) (mA f)) ∧ (∀ f, PySem.W.lookIn f od = some (mA f)) := by
  obtain ⟨⟨oe, vs, ho, hz, hd, _⟩, _, _⟩ := I.hok a _ e
  obtain ⟨mA, hns, hr⟩ := (show ObjOk X.prog X.w H s.heap d (.xd fs) from I.hok d _ ed)
  obtain ⟨od, hod, hl⟩ := lookIn_ns hns
  refine ⟨oe, od, mA, ?_, hr, hl⟩
  obtain ⟨oc, odd, oda, osl⟩ := oe
  obtain ⟨h1, h2⟩ := hz
  dsimp only at h1 h2 hd
  subst h1 h2 hd
  exact ⟨ho, rfl, rfl, hod⟩
end
/-- err.f, the error a value -/
def tXat (K : PySem.W.Frag) (f : Str) (te : TE) : TE := fun σ H Q => te σ H fun x H1 => ∃ (a C d : Addr) (fs : List (Str × V)) (v : V), x = .ref a ∧ H1 a = some (ExD C d a) ∧ H1 d = some (.xd fs) ∧ XfC K C ∧ PySem.W.findIn K (.ref C) f = some none ∧ fs.lookup f = some v ∧ Q v H1
theorem pe_xat {K : PySem.W.Frag} {X : Cx} (hK : X.K = K) {e : Expr} {te : TE} {pos : Pos} {n : Str} (he : PE X e te) (hb : attributeBase e n X.env (eval e X.env) = eval e X.env) : PE X (.Attribute e n pos) (tXat K n te) := by
  subst hK
  refine ⟨fun pins s σ H Q I h => ?_⟩
  refine attr_of hb (thn (he.run pins s σ H _ I h) fun u s1 hh => ?_)
  obtain ⟨x, H1, I1, rx, a, C, d, fs, v, ex, ea, ed, T, hno, l, q⟩ := hh
  subst ex
  obtain rfl : u = Value.ref a := rx
  obtain ⟨oe, od, mA, J, hr, hl⟩ := exd_inst I1 ea ed
  obtain ⟨u, hu, ru⟩ := RelO.some_of (v := v) (o := mA n) (by rw [← l]; exact hr n)
  exact HandSPX.exc_get I1.kIn J T.ga T.gg T.exC (PySem.W.findObj_own T.hdC hno rfl (by rw [hl, hu])) (handed_of ru) ⟨v, H1, I1.tok _, ru, q⟩
/-- either of two rules -/
theorem op_orX {X : Cx} {f : Value → Value → Sem Value} {r1 r2 : R2} (h1 : OpR X f r1) (h2 : OpR X f r2) : OpR X f (fun x y H Q => r1 x y H Q ∨ r2 x y H Q) := by
  intro pins s σ H x y v u Q I rx ry h
  rcases h with h | h
  · exact h1 pins s σ H x y v u Q I rx ry h
  · exact h2 pins s σ H x y v u Q I rx ry h
def rEqX (K : PySem.W.Frag) : R2 := fun x y H Q => ∃ a C, x = .ref a ∧ y = .ref a ∧ H a = some (ExO (.ref C) a) ∧ PySem.W.findIn K (.ref C) "__eq__" = some (some (.builtin "object.__eq__")) ∧ PySem.W.mroIn K C (.type "object") = some true ∧ Q (.bl true) H
theorem op_eqX {X : Cx} (hu : X.A.units < cLine) : OpR X (compareOp .Eq) (rEqX X.K) := by
  intro pins s σ H x y v u Q I rx ry h
  obtain ⟨a, C, rfl, rfl, e, he, hm, q⟩ := h
  cases rx
  cases ry
  obtain ⟨⟨oe, vs, ho, hz, hd, _, _⟩, _, _⟩ := I.hok a _ e
  have J : PySem.W.InstAt s.heap a oe C none := by
    obtain ⟨oc, od, oda, osl⟩ := oe
    obtain ⟨h1, h2⟩ := hz
    dsimp only at h1 h2 hd
    subst h1 h2 hd
    exact ⟨ho, rfl, rfl, trivial⟩
  obtain ⟨m, hF⟩ := I.fr
  show wpAny (model X.prog X.w) X.A (richCompare .Eq (.ref a) (.ref a)) (EP X pins σ Q) X.xe s
  exact HN.rc_eqSelf hu hF I.ok.mod.kin J hm he ⟨.bl true, H, I, rfl, q⟩
end L2

set_option Elab.async false
set_option linter.all false
set_option maxRecDepth 100000
set_option maxHeartbeats 4000000
namespace PySem
namespace ExX
section
variable {prog : Program} {w : World} {A : Around} {E : Value → Shared → Prop} {R : Result → Shared → Prop} {s : Shared} {K : W.Frag} {mg : Str → Option Value} {C fI : Addr}
open PySem.W PySem.Calls PyProof.Rows PySem.HandSPX
theorem init_InvalidRow (T : ExcT K mg C fI "InvalidRow" ["at"] "InvalidRow.__init__" J.s_InvalidRow_init) {x t0 : Addr} {v0 : Value} (X : K.In s.heap) (hlim : s.heap.NoLimit) (hx : s.heap.get? x = some (excO C t0)) (hnx : K.lookup x = none) (hroom : A.depth < recursionLimit)
    (hq : ∀ h' tk dx, (∀ b o, b ≠ x → s.heap.get? b = some o → h'.get? b = some o) → h'.get? x = some { cls := .ref C, dict := some dx, data := .fields #[.ref t0, .none, .none, .none, .bool false, .none] } → s.heap.objs.size ≤ dx → dx ≠ x →
      h'.Ns1 dx (fun y => if y = "at" then some v0 else none) → R (.ok (.ret .none)) { s with heap := h', toks := tk }) :
    codeAny (model prog w) A (.call (.ref fI) ⟨[.ref x, v0], []⟩) R s := by
  obtain ⟨oc, od, kV, doc, pm, an, cdv, ct, osl, ho, hcd⟩ := T.fn
  obtain ⟨nm, q, N, bs, bm, sn, sub, ab, col, dd, k0, k1, k2, k3, k5, hC, hbm⟩ := T.cls
  have hcl : clsIn K C = some { name := nm, bases := bs, mro := .ref C :: bm, ns := N, qualname := q, hasDict := true, slotNames := sn, subclasses := sub, abstract := ab, collection := col, hasDel := false } := by unfold clsIn; rw [hC] <;> rfl
  refine Att.call_fn (binds := [("self", .ref x), ("at", v0)]) X hlim ho hcd hroom (BindsTo.of_eq (by first | rfl | with_unfolding_all rfl)) (by first | rfl | decide | with_unfolding_all rfl) (fun s₁ IC => ?_) rfl rfl rfl
  obtain ⟨h₁, tk₁, rfl⟩ := IC.toInCall.same
  have k : ∀ b o, s.heap.get? b = some o → h₁.get? b = some o := IC.toInCall.keep
  have hn := IC.toInCall.ns
  have hxL : s.heap.objs.size ≠ x := Nat.ne_of_gt (Heap.lt_size hx)
  have X₁ : K.In h₁ := X.keeps k
  have hx₁ := k _ _ hx
  have z : s.heap.objs.size < h₁.objs.size := hn.lt
  show wpAny _ _ (execs _ _) _ _ _
  refine wpAny_execs_cons (plainObj_wpAny_Assign_Attribute ?_)
  refine ldC (v := v0) hn (by first | rfl | with_unfolding_all rfl | kernel_rfl) (ldC (v := .ref x) hn (by first | rfl | with_unfolding_all rfl | kernel_rfl) ?_)
  refine set_plain X₁ (ox := excO C t0) (od := none) ⟨hx₁, rfl, rfl, trivial⟩ T.sa ?_
  refine osa_new X₁ hx₁ hcl (show refsEX (.ref C :: bm) = true from hbm) rfl (T.no "at" (by simp)) (fun h₃ tk₃ dx k₃ dn dne hx₃ hn₃ => ?_)
  show wpAny _ _ (execs _ _) _ _ _
  exact wpAny_execs_nil (hq h₃ tk₃ dx (fun b o hb e => k₃ b o hb (k b o e)) hx₃ (Nat.le_of_lt (Nat.lt_of_lt_of_le z dn)) dne hn₃)
theorem made_InvalidRow (T : ExcT K mg C fI "InvalidRow" ["at"] "InvalidRow.__init__" J.s_InvalidRow_init) {v0 : Value} (X : K.In s.heap) (hlim : s.heap.NoLimit) (hroom : A.depth + 1 < recursionLimit)
    (hq : ∀ h' tk e d, OwnMade s.heap h' e C d (fun y => if y = "at" then some v0 else none) → R (.ok (.ret (.ref e))) { s with heap := h', toks := tk }) :
    codeAny (model prog w) A (.call (.ref C) ⟨[v0], []⟩) R s := by
  obtain ⟨nm, q, N, bs, bm, sn, sub, ab, col, dd, k0, k1, k2, k3, k5, hC, hbm⟩ := T.cls
  obtain ⟨hp, g, dr, tk, os⟩ := s
  have k : ∀ b o, hp.get? b = some o → ((hp.push (kdv_tup [v0])).push (excO C hp.objs.size)).get? b = some o := fun b o e => Heap.get?_push_of_some _ (Heap.get?_push_of_some _ e)
  have hget : ((hp.push (kdv_tup [v0])).push (excO C hp.objs.size)).get? (hp.objs.size + 1) = some (excO C hp.objs.size) := by heap_get
  have hnx : K.lookup (hp.objs.size + 1) = none := by
    cases e : K.lookup (hp.objs.size + 1) with
    | none => rfl
    | some o =>
      have z : hp.get? (hp.objs.size + 1) = some o := X _ _ e
      exact absurd (Nat.lt_of_succ_lt (Heap.lt_size z)) (Nat.lt_irrefl _)
  refine call_own F.excBase_Exception (fun X => refsEX_contains X bm hbm) (X _ _ hC) (looks_findIn X T.iC) (fun self => bind_fn X self T.tC) (by show 1 ≤ sizeLine; rw [sizeLine_eq]; decide) ?_
  refine init_InvalidRow (s := ⟨(hp.push (kdv_tup [v0])).push (excO C hp.objs.size), g, dr, tk, os⟩) T (X.keeps k) (hlim.keeps k) hget hnx ?_ fun h' tk' dx k' hx dn dne hns => ?_
  · show A.depth + 1 < recursionLimit
    exact hroom
  · have old : ∀ b o, hp.get? b = some o → h'.get? b = some o := fun b o e => k' b o (Nat.ne_of_lt (Nat.lt_succ_of_lt (Heap.lt_size e))) (k b o e)
    have z : hp.objs.size + 1 + 1 ≤ dx := by
      first
        | (simpa only [Heap.size_push] using dn)
        | exact dn
        | (have q := dn; rw [Heap.size_push, Heap.size_push] at q; exact q)
    exact ⟨rfl, hq h' tk' (hp.objs.size + 1) dx ⟨old, Nat.le_succ _, ⟨_, _, hx, rfl, rfl, rfl, rfl⟩, Nat.le_trans (Nat.le_trans (Nat.le_succ _) (Nat.le_succ _)) z, dne, hns⟩⟩
end
end ExX
end PySem
namespace L2
open PySem PySem.Spec PyProof.Rows PySem.ExX
def fs_InvalidRow (x0 : V) : List (Str × V) := [(("at" : Str), x0)]
theorem rel_InvalidRow {x0 : V} {v0 : Value} (r0 : RelV x0 v0) (f : Str) : RelO (List.lookup f (fs_InvalidRow x0)) ((fun y : Str => if y = "at" then some v0 else none) f) := by
  unfold fs_InvalidRow
  exact (fun g => relO_put (f := "at") (fs := []) (mA := fun _ => none) r0 (fun _ => trivial) g) f
section
variable {X : Cx} {C fI : Addr} {es : List Expr} {e : Expr} {ta : TA} {p pos : Pos} {k : Nat}
def tV_InvalidRow (C : Addr) (ta : TA) : TE := fun σ H Q => ta σ H fun vs H1 => ∃ x0, vs = [x0] ∧ ∀ e d, H1 e = none → H1 d = none → d ≠ e → Q (.ref e) (upd (upd H1 d (.xd (fs_InvalidRow x0))) e (ExD C d e))
/-- InvalidRow(..) as a value -/
theorem pe_InvalidRow (T : ExcT X.K X.mg C fI "InvalidRow" ["at"] "InvalidRow.__init__" J.s_InvalidRow_init) (hr : Room k X.A) (ha : PA X (e :: es) ta) (hg : Gl X "InvalidRow" := by rfl)
    (he : starEach (e :: es) X.env = (false, eval e X.env) :: starEach es X.env := by rfl) (hpl : (backTo pos (starEach es X.env)).any (·.1) = false := by rfl) :
    PE X (.Call (.Name "InvalidRow" p) (e :: es) [] pos) (tV_InvalidRow C ta) := by
  refine ⟨fun pins s σ H Q I h => ?_⟩
  refine wpAny_Call_Name_kw (ld_glob I hg T.gC ?_)
  refine PySem.W.callWith_K (h₀ := X.base) I.ok.mod.kin T.kC (thn (ha.run pos pins s σ H _ I h) fun us s1 hh => ?_) he hpl
  obtain ⟨vs, H1, I1, r1, x0, ev, q1⟩ := hh
  subst ev
  refine ⟨I1.kIn, ?_⟩
  cases r1 with
  | cons r0 rn =>
  cases rn
  have hlim := I1.nolimit
  obtain ⟨hp, g, dr, tk, os⟩ := s1
  refine wpAny_call (made_InvalidRow T I1.kIn hlim (by have := hr.dp; omega) fun h' tk' e d M => ?_)
  exact ⟨.ref e, _, own_value (tk' := tk') I1 M (rel_InvalidRow r0), rfl, q1 e d (I1.hok.fresh M.new) (I1.hok.fresh M.dbig) M.dne⟩
def tMk_InvalidRow (C : Addr) (ta : TA) : St → Hp → XK → Prop := fun σ H Q => ta σ H fun vs H1 => ∃ x0, vs = [x0] ∧ ∀ d, H1 d = none → Q (.ref C) (some d) (upd H1 d (.xd (fs_InvalidRow x0)))
/-- InvalidRow(..) to be raised -/
theorem pmk_InvalidRow (T : ExcT X.K X.mg C fI "InvalidRow" ["at"] "InvalidRow.__init__" J.s_InvalidRow_init) (hr : Room k X.A) (ha : PA X (e :: es) ta) (hg : Gl X "InvalidRow" := by rfl)
    (he : starEach (e :: es) X.env = (false, eval e X.env) :: starEach es X.env := by rfl) (hpl : (backTo pos (starEach es X.env)).any (·.1) = false := by rfl) :
    PMk X (.Call (.Name "InvalidRow" p) (e :: es) [] pos) (tMk_InvalidRow C ta) := by
  intro pins s σ H Q I h
  refine wpAny_Call_Name_kw (ld_glob I hg T.gC ?_)
  refine PySem.W.callWith_K (h₀ := X.base) I.ok.mod.kin T.kC (thn (ha.run pos pins s σ H _ I h) fun us s1 hh => ?_) he hpl
  obtain ⟨vs, H1, I1, r1, x0, ev, q1⟩ := hh
  subst ev
  refine ⟨I1.kIn, ?_⟩
  cases r1 with
  | cons r0 rn =>
  cases rn
  have hlim := I1.nolimit
  obtain ⟨hp, g, dr, tk, os⟩ := s1
  refine wpAny_call (made_InvalidRow T I1.kIn hlim (by have := hr.dp; omega) fun h' tk' e d M => ?_)
  exact own_raise (tk' := tk') I1 M (rel_InvalidRow r0) (raises_own T.exC T.tyC) q1
end
end L2
namespace PySem
namespace ExX
section
variable {prog : Program} {w : World} {A : Around} {E : Value → Shared → Prop} {R : Result → Shared → Prop} {s : Shared} {K : W.Frag} {mg : Str → Option Value} {C fI : Addr}
open PySem.W PySem.Calls PyProof.Rows PySem.HandSPX
theorem init_InvalidLengths (T : ExcT K mg C fI "InvalidLengths" ["at"] "InvalidLengths.__init__" J.s_InvalidLengths_init) {x t0 : Addr} {v0 : Value} (X : K.In s.heap) (hlim : s.heap.NoLimit) (hx : s.heap.get? x = some (excO C t0)) (hnx : K.lookup x = none) (hroom : A.depth < recursionLimit)
    (hq : ∀ h' tk dx, (∀ b o, b ≠ x → s.heap.get? b = some o → h'.get? b = some o) → h'.get? x = some { cls := .ref C, dict := some dx, data := .fields #[.ref t0, .none, .none, .none, .bool false, .none] } → s.heap.objs.size ≤ dx → dx ≠ x →
      h'.Ns1 dx (fun y => if y = "at" then some v0 else none) → R (.ok (.ret .none)) { s with heap := h', toks := tk }) :
    codeAny (model prog w) A (.call (.ref fI) ⟨[.ref x, v0], []⟩) R s := by
  obtain ⟨oc, od, kV, doc, pm, an, cdv, ct, osl, ho, hcd⟩ := T.fn
  obtain ⟨nm, q, N, bs, bm, sn, sub, ab, col, dd, k0, k1, k2, k3, k5, hC, hbm⟩ := T.cls
  have hcl : clsIn K C = some { name := nm, bases := bs, mro := .ref C :: bm, ns := N, qualname := q, hasDict := true, slotNames := sn, subclasses := sub, abstract := ab, collection := col, hasDel := false } := by unfold clsIn; rw [hC] <;> rfl
  refine Att.call_fn (binds := [("self", .ref x), ("at", v0)]) X hlim ho hcd hroom (BindsTo.of_eq (by first | rfl | with_unfolding_all rfl)) (by first | rfl | decide | with_unfolding_all rfl) (fun s₁ IC => ?_) rfl rfl rfl
  obtain ⟨h₁, tk₁, rfl⟩ := IC.toInCall.same
  have k : ∀ b o, s.heap.get? b = some o → h₁.get? b = some o := IC.toInCall.keep
  have hn := IC.toInCall.ns
  have hxL : s.heap.objs.size ≠ x := Nat.ne_of_gt (Heap.lt_size hx)
  have X₁ : K.In h₁ := X.keeps k
  have hx₁ := k _ _ hx
  have z : s.heap.objs.size < h₁.objs.size := hn.lt
  show wpAny _ _ (execs _ _) _ _ _
  refine wpAny_execs_cons (plainObj_wpAny_Assign_Attribute ?_)
  refine ldC (v := v0) hn (by first | rfl | with_unfolding_all rfl | kernel_rfl) (ldC (v := .ref x) hn (by first | rfl | with_unfolding_all rfl | kernel_rfl) ?_)
  refine set_plain X₁ (ox := excO C t0) (od := none) ⟨hx₁, rfl, rfl, trivial⟩ T.sa ?_
  refine osa_new X₁ hx₁ hcl (show refsEX (.ref C :: bm) = true from hbm) rfl (T.no "at" (by simp)) (fun h₃ tk₃ dx k₃ dn dne hx₃ hn₃ => ?_)
  show wpAny _ _ (execs _ _) _ _ _
  exact wpAny_execs_nil (hq h₃ tk₃ dx (fun b o hb e => k₃ b o hb (k b o e)) hx₃ (Nat.le_of_lt (Nat.lt_of_lt_of_le z dn)) dne hn₃)
theorem made_InvalidLengths (T : ExcT K mg C fI "InvalidLengths" ["at"] "InvalidLengths.__init__" J.s_InvalidLengths_init) {v0 : Value} (X : K.In s.heap) (hlim : s.heap.NoLimit) (hroom : A.depth + 1 < recursionLimit)
    (hq : ∀ h' tk e d, OwnMade s.heap h' e C d (fun y => if y = "at" then some v0 else none) → R (.ok (.ret (.ref e))) { s with heap := h', toks := tk }) :
    codeAny (model prog w) A (.call (.ref C) ⟨[v0], []⟩) R s := by
  obtain ⟨nm, q, N, bs, bm, sn, sub, ab, col, dd, k0, k1, k2, k3, k5, hC, hbm⟩ := T.cls
  obtain ⟨hp, g, dr, tk, os⟩ := s
  have k : ∀ b o, hp.get? b = some o → ((hp.push (kdv_tup [v0])).push (excO C hp.objs.size)).get? b = some o := fun b o e => Heap.get?_push_of_some _ (Heap.get?_push_of_some _ e)
  have hget : ((hp.push (kdv_tup [v0])).push (excO C hp.objs.size)).get? (hp.objs.size + 1) = some (excO C hp.objs.size) := by heap_get
  have hnx : K.lookup (hp.objs.size + 1) = none := by
    cases e : K.lookup (hp.objs.size + 1) with
    | none => rfl
    | some o =>
      have z : hp.get? (hp.objs.size + 1) = some o := X _ _ e
      exact absurd (Nat.lt_of_succ_lt (Heap.lt_size z)) (Nat.lt_irrefl _)
  refine call_own F.excBase_Exception (fun X => refsEX_contains X bm hbm) (X _ _ hC) (looks_findIn X T.iC) (fun self => bind_fn X self T.tC) (by show 1 ≤ sizeLine; rw [sizeLine_eq]; decide) ?_
  refine init_InvalidLengths (s := ⟨(hp.push (kdv_tup [v0])).push (excO C hp.objs.size), g, dr, tk, os⟩) T (X.keeps k) (hlim.keeps k) hget hnx ?_ fun h' tk' dx k' hx dn dne hns => ?_
  · show A.depth + 1 < recursionLimit
    exact hroom
  · have old : ∀ b o, hp.get? b = some o → h'.get? b = some o := fun b o e => k' b o (Nat.ne_of_lt (Nat.lt_succ_of_lt (Heap.lt_size e))) (k b o e)
    have z : hp.objs.size + 1 + 1 ≤ dx := by
      first
        | (simpa only [Heap.size_push] using dn)
        | exact dn
        | (have q := dn; rw [Heap.size_push, Heap.size_push] at q; exact q)
    exact ⟨rfl, hq h' tk' (hp.objs.size + 1) dx ⟨old, Nat.le_succ _, ⟨_, _, hx, rfl, rfl, rfl, rfl⟩, Nat.le_trans (Nat.le_trans (Nat.le_succ _) (Nat.le_succ _)) z, dne, hns⟩⟩
end
end ExX
end PySem
namespace L2
open PySem PySem.Spec PyProof.Rows PySem.ExX
def fs_InvalidLengths (x0 : V) : List (Str × V) := [(("at" : Str), x0)]
theorem rel_InvalidLengths {x0 : V} {v0 : Value} (r0 : RelV x0 v0) (f : Str) : RelO (List.lookup f (fs_InvalidLengths x0)) ((fun y : Str => if y = "at" then some v0 else none) f) := by
  unfold fs_InvalidLengths
  exact (fun g => relO_put (f := "at") (fs := []) (mA := fun _ => none) r0 (fun _ => trivial) g) f
section
variable {X : Cx} {C fI : Addr} {es : List Expr} {e : Expr} {ta : TA} {p pos : Pos} {k : Nat}
def tV_InvalidLengths (C : Addr) (ta : TA) : TE := fun σ H Q => ta σ H fun vs H1 => ∃ x0, vs = [x0] ∧ ∀ e d, H1 e = none → H1 d = none → d ≠ e → Q (.ref e) (upd (upd H1 d (.xd (fs_InvalidLengths x0))) e (ExD C d e))
/-- InvalidLengths(..) as a value -/
theorem pe_InvalidLengths (T : ExcT X.K X.mg C fI "InvalidLengths" ["at"] "InvalidLengths.__init__" J.s_InvalidLengths_init) (hr : Room k X.A) (ha : PA X (e :: es) ta) (hg : Gl X "InvalidLengths" := by rfl)
    (he : starEach (e :: es) X.env = (false, eval e X.env) :: starEach es X.env := by rfl) (hpl : (backTo pos (starEach es X.env)).any (·.1) = false := by rfl) :
    PE X (.Call (.Name "InvalidLengths" p) (e :: es) [] pos) (tV_InvalidLengths C ta) := by
  refine ⟨fun pins s σ H Q I h => ?_⟩
  refine wpAny_Call_Name_kw (ld_glob I hg T.gC ?_)
  refine PySem.W.callWith_K (h₀ := X.base) I.ok.mod.kin T.kC (thn (ha.run pos pins s σ H _ I h) fun us s1 hh => ?_) he hpl
  obtain ⟨vs, H1, I1, r1, x0, ev, q1⟩ := hh
  subst ev
  refine ⟨I1.kIn, ?_⟩
  cases r1 with
  | cons r0 rn =>
  cases rn
  have hlim := I1.nolimit
  obtain ⟨hp, g, dr, tk, os⟩ := s1
  refine wpAny_call (made_InvalidLengths T I1.kIn hlim (by have := hr.dp; omega) fun h' tk' e d M => ?_)
  exact ⟨.ref e, _, own_value (tk' := tk') I1 M (rel_InvalidLengths r0), rfl, q1 e d (I1.hok.fresh M.new) (I1.hok.fresh M.dbig) M.dne⟩
def tMk_InvalidLengths (C : Addr) (ta : TA) : St → Hp → XK → Prop := fun σ H Q => ta σ H fun vs H1 => ∃ x0, vs = [x0] ∧ ∀ d, H1 d = none → Q (.ref C) (some d) (upd H1 d (.xd (fs_InvalidLengths x0)))
/-- InvalidLengths(..) to be raised -/
theorem pmk_InvalidLengths (T : ExcT X.K X.mg C fI "InvalidLengths" ["at"] "InvalidLengths.__init__" J.s_InvalidLengths_init) (hr : Room k X.A) (ha : PA X (e :: es) ta) (hg : Gl X "InvalidLengths" := by rfl)
    (he : starEach (e :: es) X.env = (false, eval e X.env) :: starEach es X.env := by rfl) (hpl : (backTo pos (starEach es X.env)).any (·.1) = false := by rfl) :
    PMk X (.Call (.Name "InvalidLengths" p) (e :: es) [] pos) (tMk_InvalidLengths C ta) := by
  intro pins s σ H Q I h
  refine wpAny_Call_Name_kw (ld_glob I hg T.gC ?_)
  refine PySem.W.callWith_K (h₀ := X.base) I.ok.mod.kin T.kC (thn (ha.run pos pins s σ H _ I h) fun us s1 hh => ?_) he hpl
  obtain ⟨vs, H1, I1, r1, x0, ev, q1⟩ := hh
  subst ev
  refine ⟨I1.kIn, ?_⟩
  cases r1 with
  | cons r0 rn =>
  cases rn
  have hlim := I1.nolimit
  obtain ⟨hp, g, dr, tk, os⟩ := s1
  refine wpAny_call (made_InvalidLengths T I1.kIn hlim (by have := hr.dp; omega) fun h' tk' e d M => ?_)
  exact own_raise (tk' := tk') I1 M (rel_InvalidLengths r0) (raises_own T.exC T.tyC) q1
end
end L2
namespace PySem
namespace ExX
section
variable {prog : Program} {w : World} {A : Around} {E : Value → Shared → Prop} {R : Result → Shared → Prop} {s : Shared} {K : W.Frag} {mg : Str → Option Value} {C fI : Addr}
open PySem.W PySem.Calls PyProof.Rows PySem.HandSPX
theorem init_InvalidWeights (T : ExcT K mg C fI "InvalidWeights" ["at"] "InvalidWeights.__init__" J.s_InvalidWeights_init) {x t0 : Addr} {v0 : Value} (X : K.In s.heap) (hlim : s.heap.NoLimit) (hx : s.heap.get? x = some (excO C t0)) (hnx : K.lookup x = none) (hroom : A.depth < recursionLimit)
    (hq : ∀ h' tk dx, (∀ b o, b ≠ x → s.heap.get? b = some o → h'.get? b = some o) → h'.get? x = some { cls := .ref C, dict := some dx, data := .fields #[.ref t0, .none, .none, .none, .bool false, .none] } → s.heap.objs.size ≤ dx → dx ≠ x →
      h'.Ns1 dx (fun y => if y = "at" then some v0 else none) → R (.ok (.ret .none)) { s with heap := h', toks := tk }) :
    codeAny (model prog w) A (.call (.ref fI) ⟨[.ref x, v0], []⟩) R s := by
  obtain ⟨oc, od, kV, doc, pm, an, cdv, ct, osl, ho, hcd⟩ := T.fn
  obtain ⟨nm, q, N, bs, bm, sn, sub, ab, col, dd, k0, k1, k2, k3, k5, hC, hbm⟩ := T.cls
  have hcl : clsIn K C = some { name := nm, bases := bs, mro := .ref C :: bm, ns := N, qualname := q, hasDict := true, slotNames := sn, subclasses := sub, abstract := ab, collection := col, hasDel := false } := by unfold clsIn; rw [hC] <;> rfl
  refine Att.call_fn (binds := [("self", .ref x), ("at", v0)]) X hlim ho hcd hroom (BindsTo.of_eq (by first | rfl | with_unfolding_all rfl)) (by first | rfl | decide | with_unfolding_all rfl) (fun s₁ IC => ?_) rfl rfl rfl
  obtain ⟨h₁, tk₁, rfl⟩ := IC.toInCall.same
  have k : ∀ b o, s.heap.get? b = some o → h₁.get? b = some o := IC.toInCall.keep
  have hn := IC.toInCall.ns
  have hxL : s.heap.objs.size ≠ x := Nat.ne_of_gt (Heap.lt_size hx)
  have X₁ : K.In h₁ := X.keeps k
  have hx₁ := k _ _ hx
  have z : s.heap.objs.size < h₁.objs.size := hn.lt
  show wpAny _ _ (execs _ _) _ _ _
  refine wpAny_execs_cons (plainObj_wpAny_Assign_Attribute ?_)
  refine ldC (v := v0) hn (by first | rfl | with_unfolding_all rfl | kernel_rfl) (ldC (v := .ref x) hn (by first | rfl | with_unfolding_all rfl | kernel_rfl) ?_)
  refine set_plain X₁ (ox := excO C t0) (od := none) ⟨hx₁, rfl, rfl, trivial⟩ T.sa ?_
  refine osa_new X₁ hx₁ hcl (show refsEX (.ref C :: bm) = true from hbm) rfl (T.no "at" (by simp)) (fun h₃ tk₃ dx k₃ dn dne hx₃ hn₃ => ?_)
  show wpAny _ _ (execs _ _) _ _ _
  exact wpAny_execs_nil (hq h₃ tk₃ dx (fun b o hb e => k₃ b o hb (k b o e)) hx₃ (Nat.le_of_lt (Nat.lt_of_lt_of_le z dn)) dne hn₃)
theorem made_InvalidWeights (T : ExcT K mg C fI "InvalidWeights" ["at"] "InvalidWeights.__init__" J.s_InvalidWeights_init) {v0 : Value} (X : K.In s.heap) (hlim : s.heap.NoLimit) (hroom : A.depth + 1 < recursionLimit)
    (hq : ∀ h' tk e d, OwnMade s.heap h' e C d (fun y => if y = "at" then some v0 else none) → R (.ok (.ret (.ref e))) { s with heap := h', toks := tk }) :
    codeAny (model prog w) A (.call (.ref C) ⟨[v0], []⟩) R s := by
  obtain ⟨nm, q, N, bs, bm, sn, sub, ab, col, dd, k0, k1, k2, k3, k5, hC, hbm⟩ := T.cls
  obtain ⟨hp, g, dr, tk, os⟩ := s
  have k : ∀ b o, hp.get? b = some o → ((hp.push (kdv_tup [v0])).push (excO C hp.objs.size)).get? b = some o := fun b o e => Heap.get?_push_of_some _ (Heap.get?_push_of_some _ e)
  have hget : ((hp.push (kdv_tup [v0])).push (excO C hp.objs.size)).get? (hp.objs.size + 1) = some (excO C hp.objs.size) := by heap_get
  have hnx : K.lookup (hp.objs.size + 1) = none := by
    cases e : K.lookup (hp.objs.size + 1) with
    | none => rfl
    | some o =>
      have z : hp.get? (hp.objs.size + 1) = some o := X _ _ e
      exact absurd (Nat.lt_of_succ_lt (Heap.lt_size z)) (Nat.lt_irrefl _)
  refine call_own F.excBase_Exception (fun X => refsEX_contains X bm hbm) (X _ _ hC) (looks_findIn X T.iC) (fun self => bind_fn X self T.tC) (by show 1 ≤ sizeLine; rw [sizeLine_eq]; decide) ?_
  refine init_InvalidWeights (s := ⟨(hp.push (kdv_tup [v0])).push (excO C hp.objs.size), g, dr, tk, os⟩) T (X.keeps k) (hlim.keeps k) hget hnx ?_ fun h' tk' dx k' hx dn dne hns => ?_
  · show A.depth + 1 < recursionLimit
    exact hroom
  · have old : ∀ b o, hp.get? b = some o → h'.get? b = some o := fun b o e => k' b o (Nat.ne_of_lt (Nat.lt_succ_of_lt (Heap.lt_size e))) (k b o e)
    have z : hp.objs.size + 1 + 1 ≤ dx := by
      first
        | (simpa only [Heap.size_push] using dn)
        | exact dn
        | (have q := dn; rw [Heap.size_push, Heap.size_push] at q; exact q)
    exact ⟨rfl, hq h' tk' (hp.objs.size + 1) dx ⟨old, Nat.le_succ _, ⟨_, _, hx, rfl, rfl, rfl, rfl⟩, Nat.le_trans (Nat.le_trans (Nat.le_succ _) (Nat.le_succ _)) z, dne, hns⟩⟩
end
end ExX
end PySem
namespace L2
open PySem PySem.Spec PyProof.Rows PySem.ExX
def fs_InvalidWeights (x0 : V) : List (Str × V) := [(("at" : Str), x0)]
theorem rel_InvalidWeights {x0 : V} {v0 : Value} (r0 : RelV x0 v0) (f : Str) : RelO (List.lookup f (fs_InvalidWeights x0)) ((fun y : Str => if y = "at" then some v0 else none) f) := by
  unfold fs_InvalidWeights
  exact (fun g => relO_put (f := "at") (fs := []) (mA := fun _ => none) r0 (fun _ => trivial) g) f
section
variable {X : Cx} {C fI : Addr} {es : List Expr} {e : Expr} {ta : TA} {p pos : Pos} {k : Nat}
def tV_InvalidWeights (C : Addr) (ta : TA) : TE := fun σ H Q => ta σ H fun vs H1 => ∃ x0, vs = [x0] ∧ ∀ e d, H1 e = none → H1 d = none → d ≠ e → Q (.ref e) (upd (upd H1 d (.xd (fs_InvalidWeights x0))) e (ExD C d e))
/-- InvalidWeights(..) as a value -/
theorem pe_InvalidWeights (T : ExcT X.K X.mg C fI "InvalidWeights" ["at"] "InvalidWeights.__init__" J.s_InvalidWeights_init) (hr : Room k X.A) (ha : PA X (e :: es) ta) (hg : Gl X "InvalidWeights" := by rfl)
    (he : starEach (e :: es) X.env = (false, eval e X.env) :: starEach es X.env := by rfl) (hpl : (backTo pos (starEach es X.env)).any (·.1) = false := by rfl) :
    PE X (.Call (.Name "InvalidWeights" p) (e :: es) [] pos) (tV_InvalidWeights C ta) := by
  refine ⟨fun pins s σ H Q I h => ?_⟩
  refine wpAny_Call_Name_kw (ld_glob I hg T.gC ?_)
  refine PySem.W.callWith_K (h₀ := X.base) I.ok.mod.kin T.kC (thn (ha.run pos pins s σ H _ I h) fun us s1 hh => ?_) he hpl
  obtain ⟨vs, H1, I1, r1, x0, ev, q1⟩ := hh
  subst ev
  refine ⟨I1.kIn, ?_⟩
  cases r1 with
  | cons r0 rn =>
  cases rn
  have hlim := I1.nolimit
  obtain ⟨hp, g, dr, tk, os⟩ := s1
  refine wpAny_call (made_InvalidWeights T I1.kIn hlim (by have := hr.dp; omega) fun h' tk' e d M => ?_)
  exact ⟨.ref e, _, own_value (tk' := tk') I1 M (rel_InvalidWeights r0), rfl, q1 e d (I1.hok.fresh M.new) (I1.hok.fresh M.dbig) M.dne⟩
def tMk_InvalidWeights (C : Addr) (ta : TA) : St → Hp → XK → Prop := fun σ H Q => ta σ H fun vs H1 => ∃ x0, vs = [x0] ∧ ∀ d, H1 d = none → Q (.ref C) (some d) (upd H1 d (.xd (fs_InvalidWeights x0)))
/-- InvalidWeights(..) to be raised -/
theorem pmk_InvalidWeights (T : ExcT X.K X.mg C fI "InvalidWeights" ["at"] "InvalidWeights.__init__" J.s_InvalidWeights_init) (hr : Room k X.A) (ha : PA X (e :: es) ta) (hg : Gl X "InvalidWeights" := by rfl)
    (he : starEach (e :: es) X.env = (false, eval e X.env) :: starEach es X.env := by rfl) (hpl : (backTo pos (starEach es X.env)).any (·.1) = false := by rfl) :
    PMk X (.Call (.Name "InvalidWeights" p) (e :: es) [] pos) (tMk_InvalidWeights C ta) := by
  intro pins s σ H Q I h
  refine wpAny_Call_Name_kw (ld_glob I hg T.gC ?_)
  refine PySem.W.callWith_K (h₀ := X.base) I.ok.mod.kin T.kC (thn (ha.run pos pins s σ H _ I h) fun us s1 hh => ?_) he hpl
  obtain ⟨vs, H1, I1, r1, x0, ev, q1⟩ := hh
  subst ev
  refine ⟨I1.kIn, ?_⟩
  cases r1 with
  | cons r0 rn =>
  cases rn
  have hlim := I1.nolimit
  obtain ⟨hp, g, dr, tk, os⟩ := s1
  refine wpAny_call (made_InvalidWeights T I1.kIn hlim (by have := hr.dp; omega) fun h' tk' e d M => ?_)
  exact own_raise (tk' := tk') I1 M (rel_InvalidWeights r0) (raises_own T.exC T.tyC) q1
end
end L2
namespace PySem
namespace ExX
section
variable {prog : Program} {w : World} {A : Around} {E : Value → Shared → Prop} {R : Result → Shared → Prop} {s : Shared} {K : W.Frag} {mg : Str → Option Value} {C fI : Addr}
open PySem.W PySem.Calls PyProof.Rows PySem.HandSPX
theorem init_InvalidBars (T : ExcT K mg C fI "InvalidBars" ["at"] "InvalidBars.__init__" J.s_InvalidBars_init) {x t0 : Addr} {v0 : Value} (X : K.In s.heap) (hlim : s.heap.NoLimit) (hx : s.heap.get? x = some (excO C t0)) (hnx : K.lookup x = none) (hroom : A.depth < recursionLimit)
    (hq : ∀ h' tk dx, (∀ b o, b ≠ x → s.heap.get? b = some o → h'.get? b = some o) → h'.get? x = some { cls := .ref C, dict := some dx, data := .fields #[.ref t0, .none, .none, .none, .bool false, .none] } → s.heap.objs.size ≤ dx → dx ≠ x →
      h'.Ns1 dx (fun y => if y = "at" then some v0 else none) → R (.ok (.ret .none)) { s with heap := h', toks := tk }) :
    codeAny (model prog w) A (.call (.ref fI) ⟨[.ref x, v0], []⟩) R s := by
  obtain ⟨oc, od, kV, doc, pm, an, cdv, ct, osl, ho, hcd⟩ := T.fn
  obtain ⟨nm, q, N, bs, bm, sn, sub, ab, col, dd, k0, k1, k2, k3, k5, hC, hbm⟩ := T.cls
  have hcl : clsIn K C = some { name := nm, bases := bs, mro := .ref C :: bm, ns := N, qualname := q, hasDict := true, slotNames := sn, subclasses := sub, abstract := ab, collection := col, hasDel := false } := by unfold clsIn; rw [hC] <;> rfl
  refine Att.call_fn (binds := [("self", .ref x), ("at", v0)]) X hlim ho hcd hroom (BindsTo.of_eq (by first | rfl | with_unfolding_all rfl)) (by first | rfl | decide | with_unfolding_all rfl) (fun s₁ IC => ?_) rfl rfl rfl
  obtain ⟨h₁, tk₁, rfl⟩ := IC.toInCall.same
  have k : ∀ b o, s.heap.get? b = some o → h₁.get? b = some o := IC.toInCall.keep
  have hn := IC.toInCall.ns
  have hxL : s.heap.objs.size ≠ x := Nat.ne_of_gt (Heap.lt_size hx)
  have X₁ : K.In h₁ := X.keeps k
  have hx₁ := k _ _ hx
  have z : s.heap.objs.size < h₁.objs.size := hn.lt
  show wpAny _ _ (execs _ _) _ _ _
  refine wpAny_execs_cons (plainObj_wpAny_Assign_Attribute ?_)
  refine ldC (v := v0) hn (by first | rfl | with_unfolding_all rfl | kernel_rfl) (ldC (v := .ref x) hn (by first | rfl | with_unfolding_all rfl | kernel_rfl) ?_)
  refine set_plain X₁ (ox := excO C t0) (od := none) ⟨hx₁, rfl, rfl, trivial⟩ T.sa ?_
  refine osa_new X₁ hx₁ hcl (show refsEX (.ref C :: bm) = true from hbm) rfl (T.no "at" (by simp)) (fun h₃ tk₃ dx k₃ dn dne hx₃ hn₃ => ?_)
  show wpAny _ _ (execs _ _) _ _ _
  exact wpAny_execs_nil (hq h₃ tk₃ dx (fun b o hb e => k₃ b o hb (k b o e)) hx₃ (Nat.le_of_lt (Nat.lt_of_lt_of_le z dn)) dne hn₃)
theorem made_InvalidBars (T : ExcT K mg C fI "InvalidBars" ["at"] "InvalidBars.__init__" J.s_InvalidBars_init) {v0 : Value} (X : K.In s.heap) (hlim : s.heap.NoLimit) (hroom : A.depth + 1 < recursionLimit)
    (hq : ∀ h' tk e d, OwnMade s.heap h' e C d (fun y => if y = "at" then some v0 else none) → R (.ok (.ret (.ref e))) { s with heap := h', toks := tk }) :
    codeAny (model prog w) A (.call (.ref C) ⟨[v0], []⟩) R s := by
  obtain ⟨nm, q, N, bs, bm, sn, sub, ab, col, dd, k0, k1, k2, k3, k5, hC, hbm⟩ := T.cls
  obtain ⟨hp, g, dr, tk, os⟩ := s
  have k : ∀ b o, hp.get? b = some o → ((hp.push (kdv_tup [v0])).push (excO C hp.objs.size)).get? b = some o := fun b o e => Heap.get?_push_of_some _ (Heap.get?_push_of_some _ e)
  have hget : ((hp.push (kdv_tup [v0])).push (excO C hp.objs.size)).get? (hp.objs.size + 1) = some (excO C hp.objs.size) := by heap_get
  have hnx : K.lookup (hp.objs.size + 1) = none := by
    cases e : K.lookup (hp.objs.size + 1) with
    | none => rfl
    | some o =>
      have z : hp.get? (hp.objs.size + 1) = some o := X _ _ e
      exact absurd (Nat.lt_of_succ_lt (Heap.lt_size z)) (Nat.lt_irrefl _)
  refine call_own F.excBase_Exception (fun X => refsEX_contains X bm hbm) (X _ _ hC) (looks_findIn X T.iC) (fun self => bind_fn X self T.tC) (by show 1 ≤ sizeLine; rw [sizeLine_eq]; decide) ?_
  refine init_InvalidBars (s := ⟨(hp.push (kdv_tup [v0])).push (excO C hp.objs.size), g, dr, tk, os⟩) T (X.keeps k) (hlim.keeps k) hget hnx ?_ fun h' tk' dx k' hx dn dne hns => ?_
  · show A.depth + 1 < recursionLimit
    exact hroom
  · have old : ∀ b o, hp.get? b = some o → h'.get? b = some o := fun b o e => k' b o (Nat.ne_of_lt (Nat.lt_succ_of_lt (Heap.lt_size e))) (k b o e)
    have z : hp.objs.size + 1 + 1 ≤ dx := by
      first
        | (simpa only [Heap.size_push] using dn)
        | exact dn
        | (have q := dn; rw [Heap.size_push, Heap.size_push] at q; exact q)
    exact ⟨rfl, hq h' tk' (hp.objs.size + 1) dx ⟨old, Nat.le_succ _, ⟨_, _, hx, rfl, rfl, rfl, rfl⟩, Nat.le_trans (Nat.le_trans (Nat.le_succ _) (Nat.le_succ _)) z, dne, hns⟩⟩
end
end ExX
end PySem
namespace L2
open PySem PySem.Spec PyProof.Rows PySem.ExX
def fs_InvalidBars (x0 : V) : List (Str × V) := [(("at" : Str), x0)]
theorem rel_InvalidBars {x0 : V} {v0 : Value} (r0 : RelV x0 v0) (f : Str) : RelO (List.lookup f (fs_InvalidBars x0)) ((fun y : Str => if y = "at" then some v0 else none) f) := by
  unfold fs_InvalidBars
  exact (fun g => relO_put (f := "at") (fs := []) (mA := fun _ => none) r0 (fun _ => trivial) g) f
section
variable {X : Cx} {C fI : Addr} {es : List Expr} {e : Expr} {ta : TA} {p pos : Pos} {k : Nat}
def tV_InvalidBars (C : Addr) (ta : TA) : TE := fun σ H Q => ta σ H fun vs H1 => ∃ x0, vs = [x0] ∧ ∀ e d, H1 e = none → H1 d = none → d ≠ e → Q (.ref e) (upd (upd H1 d (.xd (fs_InvalidBars x0))) e (ExD C d e))
/-- InvalidBars(..) as a value -/
theorem pe_InvalidBars (T : ExcT X.K X.mg C fI "InvalidBars" ["at"] "InvalidBars.__init__" J.s_InvalidBars_init) (hr : Room k X.A) (ha : PA X (e :: es) ta) (hg : Gl X "InvalidBars" := by rfl)
    (he : starEach (e :: es) X.env = (false, eval e X.env) :: starEach es X.env := by rfl) (hpl : (backTo pos (starEach es X.env)).any (·.1) = false := by rfl) :
    PE X (.Call (.Name "InvalidBars" p) (e :: es) [] pos) (tV_InvalidBars C ta) := by
  refine ⟨fun pins s σ H Q I h => ?_⟩
  refine wpAny_Call_Name_kw (ld_glob I hg T.gC ?_)
  refine PySem.W.callWith_K (h₀ := X.base) I.ok.mod.kin T.kC (thn (ha.run pos pins s σ H _ I h) fun us s1 hh => ?_) he hpl
  obtain ⟨vs, H1, I1, r1, x0, ev, q1⟩ := hh
  subst ev
  refine ⟨I1.kIn, ?_⟩
  cases r1 with
  | cons r0 rn =>
  cases rn
  have hlim := I1.nolimit
  obtain ⟨hp, g, dr, tk, os⟩ := s1
  refine wpAny_call (made_InvalidBars T I1.kIn hlim (by have := hr.dp; omega) fun h' tk' e d M => ?_)
  exact ⟨.ref e, _, own_value (tk' := tk') I1 M (rel_InvalidBars r0), rfl, q1 e d (I1.hok.fresh M.new) (I1.hok.fresh M.dbig) M.dne⟩
def tMk_InvalidBars (C : Addr) (ta : TA) : St → Hp → XK → Prop := fun σ H Q => ta σ H fun vs H1 => ∃ x0, vs = [x0] ∧ ∀ d, H1 d = none → Q (.ref C) (some d) (upd H1 d (.xd (fs_InvalidBars x0)))
/-- InvalidBars(..) to be raised -/
theorem pmk_InvalidBars (T : ExcT X.K X.mg C fI "InvalidBars" ["at"] "InvalidBars.__init__" J.s_InvalidBars_init) (hr : Room k X.A) (ha : PA X (e :: es) ta) (hg : Gl X "InvalidBars" := by rfl)
    (he : starEach (e :: es) X.env = (false, eval e X.env) :: starEach es X.env := by rfl) (hpl : (backTo pos (starEach es X.env)).any (·.1) = false := by rfl) :
    PMk X (.Call (.Name "InvalidBars" p) (e :: es) [] pos) (tMk_InvalidBars C ta) := by
  intro pins s σ H Q I h
  refine wpAny_Call_Name_kw (ld_glob I hg T.gC ?_)
  refine PySem.W.callWith_K (h₀ := X.base) I.ok.mod.kin T.kC (thn (ha.run pos pins s σ H _ I h) fun us s1 hh => ?_) he hpl
  obtain ⟨vs, H1, I1, r1, x0, ev, q1⟩ := hh
  subst ev
  refine ⟨I1.kIn, ?_⟩
  cases r1 with
  | cons r0 rn =>
  cases rn
  have hlim := I1.nolimit
  obtain ⟨hp, g, dr, tk, os⟩ := s1
  refine wpAny_call (made_InvalidBars T I1.kIn hlim (by have := hr.dp; omega) fun h' tk' e d M => ?_)
  exact own_raise (tk' := tk') I1 M (rel_InvalidBars r0) (raises_own T.exC T.tyC) q1
end
end L2
namespace PySem
namespace ExX
section
variable {prog : Program} {w : World} {A : Around} {E : Value → Shared → Prop} {R : Result → Shared → Prop} {s : Shared} {K : W.Frag} {mg : Str → Option Value} {C fI : Addr}
open PySem.W PySem.Calls PyProof.Rows PySem.HandSPX
theorem init_InvalidChoice (T : ExcT K mg C fI "InvalidChoice" ["at"] "InvalidChoice.__init__" J.s_InvalidChoice_init) {x t0 : Addr} {v0 : Value} (X : K.In s.heap) (hlim : s.heap.NoLimit) (hx : s.heap.get? x = some (excO C t0)) (hnx : K.lookup x = none) (hroom : A.depth < recursionLimit)
    (hq : ∀ h' tk dx, (∀ b o, b ≠ x → s.heap.get? b = some o → h'.get? b = some o) → h'.get? x = some { cls := .ref C, dict := some dx, data := .fields #[.ref t0, .none, .none, .none, .bool false, .none] } → s.heap.objs.size ≤ dx → dx ≠ x →
      h'.Ns1 dx (fun y => if y = "at" then some v0 else none) → R (.ok (.ret .none)) { s with heap := h', toks := tk }) :
    codeAny (model prog w) A (.call (.ref fI) ⟨[.ref x, v0], []⟩) R s := by
  obtain ⟨oc, od, kV, doc, pm, an, cdv, ct, osl, ho, hcd⟩ := T.fn
  obtain ⟨nm, q, N, bs, bm, sn, sub, ab, col, dd, k0, k1, k2, k3, k5, hC, hbm⟩ := T.cls
  have hcl : clsIn K C = some { name := nm, bases := bs, mro := .ref C :: bm, ns := N, qualname := q, hasDict := true, slotNames := sn, subclasses := sub, abstract := ab, collection := col, hasDel := false } := by unfold clsIn; rw [hC] <;> rfl
  refine Att.call_fn (binds := [("self", .ref x), ("at", v0)]) X hlim ho hcd hroom (BindsTo.of_eq (by first | rfl | with_unfolding_all rfl)) (by first | rfl | decide | with_unfolding_all rfl) (fun s₁ IC => ?_) rfl rfl rfl
  obtain ⟨h₁, tk₁, rfl⟩ := IC.toInCall.same
  have k : ∀ b o, s.heap.get? b = some o → h₁.get? b = some o := IC.toInCall.keep
  have hn := IC.toInCall.ns
  have hxL : s.heap.objs.size ≠ x := Nat.ne_of_gt (Heap.lt_size hx)
  have X₁ : K.In h₁ := X.keeps k
  have hx₁ := k _ _ hx
  have z : s.heap.objs.size < h₁.objs.size := hn.lt
  show wpAny _ _ (execs _ _) _ _ _
  refine wpAny_execs_cons (plainObj_wpAny_Assign_Attribute ?_)
  refine ldC (v := v0) hn (by first | rfl | with_unfolding_all rfl | kernel_rfl) (ldC (v := .ref x) hn (by first | rfl | with_unfolding_all rfl | kernel_rfl) ?_)
  refine set_plain X₁ (ox := excO C t0) (od := none) ⟨hx₁, rfl, rfl, trivial⟩ T.sa ?_
  refine osa_new X₁ hx₁ hcl (show refsEX (.ref C :: bm) = true from hbm) rfl (T.no "at" (by simp)) (fun h₃ tk₃ dx k₃ dn dne hx₃ hn₃ => ?_)
  show wpAny _ _ (execs _ _) _ _ _
  exact wpAny_execs_nil (hq h₃ tk₃ dx (fun b o hb e => k₃ b o hb (k b o e)) hx₃ (Nat.le_of_lt (Nat.lt_of_lt_of_le z dn)) dne hn₃)
theorem made_InvalidChoice (T : ExcT K mg C fI "InvalidChoice" ["at"] "InvalidChoice.__init__" J.s_InvalidChoice_init) {v0 : Value} (X : K.In s.heap) (hlim : s.heap.NoLimit) (hroom : A.depth + 1 < recursionLimit)
    (hq : ∀ h' tk e d, OwnMade s.heap h' e C d (fun y => if y = "at" then some v0 else none) → R (.ok (.ret (.ref e))) { s with heap := h', toks := tk }) :
    codeAny (model prog w) A (.call (.ref C) ⟨[v0], []⟩) R s := by
  obtain ⟨nm, q, N, bs, bm, sn, sub, ab, col, dd, k0, k1, k2, k3, k5, hC, hbm⟩ := T.cls
  obtain ⟨hp, g, dr, tk, os⟩ := s
  have k : ∀ b o, hp.get? b = some o → ((hp.push (kdv_tup [v0])).push (excO C hp.objs.size)).get? b = some o := fun b o e => Heap.get?_push_of_some _ (Heap.get?_push_of_some _ e)
  have hget : ((hp.push (kdv_tup [v0])).push (excO C hp.objs.size)).get? (hp.objs.size + 1) = some (excO C hp.objs.size) := by heap_get
  have hnx : K.lookup (hp.objs.size + 1) = none := by
    cases e : K.lookup (hp.objs.size + 1) with
    | none => rfl
    | some o =>
      have z : hp.get? (hp.objs.size + 1) = some o := X _ _ e
      exact absurd (Nat.lt_of_succ_lt (Heap.lt_size z)) (Nat.lt_irrefl _)
  refine call_own F.excBase_Exception (fun X => refsEX_contains X bm hbm) (X _ _ hC) (looks_findIn X T.iC) (fun self => bind_fn X self T.tC) (by show 1 ≤ sizeLine; rw [sizeLine_eq]; decide) ?_
  refine init_InvalidChoice (s := ⟨(hp.push (kdv_tup [v0])).push (excO C hp.objs.size), g, dr, tk, os⟩) T (X.keeps k) (hlim.keeps k) hget hnx ?_ fun h' tk' dx k' hx dn dne hns => ?_
  · show A.depth + 1 < recursionLimit
    exact hroom
  · have old : ∀ b o, hp.get? b = some o → h'.get? b = some o := fun b o e => k' b o (Nat.ne_of_lt (Nat.lt_succ_of_lt (Heap.lt_size e))) (k b o e)
    have z : hp.objs.size + 1 + 1 ≤ dx := by
      first
        | (simpa only [Heap.size_push] using dn)
        | exact dn
        | (have q := dn; rw [Heap.size_push, Heap.size_push] at q; exact q)
    exact ⟨rfl, hq h' tk' (hp.objs.size + 1) dx ⟨old, Nat.le_succ _, ⟨_, _, hx, rfl, rfl, rfl, rfl⟩, Nat.le_trans (Nat.le_trans (Nat.le_succ _) (Nat.le_succ _)) z, dne, hns⟩⟩
end
end ExX
end PySem
namespace L2
open PySem PySem.Spec PyProof.Rows PySem.ExX
def fs_InvalidChoice (x0 : V) : List (Str × V) := [(("at" : Str), x0)]
theorem rel_InvalidChoice {x0 : V} {v0 : Value} (r0 : RelV x0 v0) (f : Str) : RelO (List.lookup f (fs_InvalidChoice x0)) ((fun y : Str => if y = "at" then some v0 else none) f) := by
  unfold fs_InvalidChoice
  exact (fun g => relO_put (f := "at") (fs := []) (mA := fun _ => none) r0 (fun _ => trivial) g) f
section
variable {X : Cx} {C fI : Addr} {es : List Expr} {e : Expr} {ta : TA} {p pos : Pos} {k : Nat}
def tV_InvalidChoice (C : Addr) (ta : TA) : TE := fun σ H Q => ta σ H fun vs H1 => ∃ x0, vs = [x0] ∧ ∀ e d, H1 e = none → H1 d = none → d ≠ e → Q (.ref e) (upd (upd H1 d (.xd (fs_InvalidChoice x0))) e (ExD C d e))
/-- InvalidChoice(..) as a value -/
theorem pe_InvalidChoice (T : ExcT X.K X.mg C fI "InvalidChoice" ["at"] "InvalidChoice.__init__" J.s_InvalidChoice_init) (hr : Room k X.A) (ha : PA X (e :: es) ta) (hg : Gl X "InvalidChoice" := by rfl)
    (he : starEach (e :: es) X.env = (false, eval e X.env) :: starEach es X.env := by rfl) (hpl : (backTo pos (starEach es X.env)).any (·.1) = false := by rfl) :
    PE X (.Call (.Name "InvalidChoice" p) (e :: es) [] pos) (tV_InvalidChoice C ta) := by
  refine ⟨fun pins s σ H Q I h => ?_⟩
  refine wpAny_Call_Name_kw (ld_glob I hg T.gC ?_)
  refine PySem.W.callWith_K (h₀ := X.base) I.ok.mod.kin T.kC (thn (ha.run pos pins s σ H _ I h) fun us s1 hh => ?_) he hpl
  obtain ⟨vs, H1, I1, r1, x0, ev, q1⟩ := hh
  subst ev
  refine ⟨I1.kIn, ?_⟩
  cases r1 with
  | cons r0 rn =>
  cases rn
  have hlim := I1.nolimit
  obtain ⟨hp, g, dr, tk, os⟩ := s1
  refine wpAny_call (made_InvalidChoice T I1.kIn hlim (by have := hr.dp; omega) fun h' tk' e d M => ?_)
  exact ⟨.ref e, _, own_value (tk' := tk') I1 M (rel_InvalidChoice r0), rfl, q1 e d (I1.hok.fresh M.new) (I1.hok.fresh M.dbig) M.dne⟩
def tMk_InvalidChoice (C : Addr) (ta : TA) : St → Hp → XK → Prop := fun σ H Q => ta σ H fun vs H1 => ∃ x0, vs = [x0] ∧ ∀ d, H1 d = none → Q (.ref C) (some d) (upd H1 d (.xd (fs_InvalidChoice x0)))
/-- InvalidChoice(..) to be raised -/
theorem pmk_InvalidChoice (T : ExcT X.K X.mg C fI "InvalidChoice" ["at"] "InvalidChoice.__init__" J.s_InvalidChoice_init) (hr : Room k X.A) (ha : PA X (e :: es) ta) (hg : Gl X "InvalidChoice" := by rfl)
    (he : starEach (e :: es) X.env = (false, eval e X.env) :: starEach es X.env := by rfl) (hpl : (backTo pos (starEach es X.env)).any (·.1) = false := by rfl) :
    PMk X (.Call (.Name "InvalidChoice" p) (e :: es) [] pos) (tMk_InvalidChoice C ta) := by
  intro pins s σ H Q I h
  refine wpAny_Call_Name_kw (ld_glob I hg T.gC ?_)
  refine PySem.W.callWith_K (h₀ := X.base) I.ok.mod.kin T.kC (thn (ha.run pos pins s σ H _ I h) fun us s1 hh => ?_) he hpl
  obtain ⟨vs, H1, I1, r1, x0, ev, q1⟩ := hh
  subst ev
  refine ⟨I1.kIn, ?_⟩
  cases r1 with
  | cons r0 rn =>
  cases rn
  have hlim := I1.nolimit
  obtain ⟨hp, g, dr, tk, os⟩ := s1
  refine wpAny_call (made_InvalidChoice T I1.kIn hlim (by have := hr.dp; omega) fun h' tk' e d M => ?_)
  exact own_raise (tk' := tk') I1 M (rel_InvalidChoice r0) (raises_own T.exC T.tyC) q1
end
end L2
namespace PySem
namespace ExX
section
variable {prog : Program} {w : World} {A : Around} {E : Value → Shared → Prop} {R : Result → Shared → Prop} {s : Shared} {K : W.Frag} {mg : Str → Option Value} {C fI : Addr}
open PySem.W PySem.Calls PyProof.Rows PySem.HandSPX
theorem init_InvalidLoom (T : ExcT K mg C fI "InvalidLoom" ["part", "at"] "InvalidLoom.__init__" J.s_InvalidLoom_init) {x t0 : Addr} {v0 v1 : Value} (X : K.In s.heap) (hlim : s.heap.NoLimit) (hx : s.heap.get? x = some (excO C t0)) (hnx : K.lookup x = none) (hroom : A.depth < recursionLimit)
    (hq : ∀ h' tk dx, (∀ b o, b ≠ x → s.heap.get? b = some o → h'.get? b = some o) → h'.get? x = some { cls := .ref C, dict := some dx, data := .fields #[.ref t0, .none, .none, .none, .bool false, .none] } → s.heap.objs.size ≤ dx → dx ≠ x →
      h'.Ns1 dx (fun y => if y = "at" then some v1 else if y = "part" then some v0 else none) → R (.ok (.ret .none)) { s with heap := h', toks := tk }) :
    codeAny (model prog w) A (.call (.ref fI) ⟨[.ref x, v0, v1], []⟩) R s := by
  obtain ⟨oc, od, kV, doc, pm, an, cdv, ct, osl, ho, hcd⟩ := T.fn
  obtain ⟨nm, q, N, bs, bm, sn, sub, ab, col, dd, k0, k1, k2, k3, k5, hC, hbm⟩ := T.cls
  have hcl : clsIn K C = some { name := nm, bases := bs, mro := .ref C :: bm, ns := N, qualname := q, hasDict := true, slotNames := sn, subclasses := sub, abstract := ab, collection := col, hasDel := false } := by unfold clsIn; rw [hC] <;> rfl
  refine Att.call_fn (binds := [("self", .ref x), ("part", v0), ("at", v1)]) X hlim ho hcd hroom (BindsTo.of_eq (by first | rfl | with_unfolding_all rfl)) (by first | rfl | decide | with_unfolding_all rfl) (fun s₁ IC => ?_) rfl rfl rfl
  obtain ⟨h₁, tk₁, rfl⟩ := IC.toInCall.same
  have k : ∀ b o, s.heap.get? b = some o → h₁.get? b = some o := IC.toInCall.keep
  have hn := IC.toInCall.ns
  have hxL : s.heap.objs.size ≠ x := Nat.ne_of_gt (Heap.lt_size hx)
  have X₁ : K.In h₁ := X.keeps k
  have hx₁ := k _ _ hx
  have z : s.heap.objs.size < h₁.objs.size := hn.lt
  show wpAny _ _ (execs _ _) _ _ _
  refine wpAny_execs_cons (plainObj_wpAny_Assign_Attribute ?_)
  refine ldC (v := v0) hn (by first | rfl | with_unfolding_all rfl | kernel_rfl) (ldC (v := .ref x) hn (by first | rfl | with_unfolding_all rfl | kernel_rfl) ?_)
  refine set_plain X₁ (ox := excO C t0) (od := none) ⟨hx₁, rfl, rfl, trivial⟩ T.sa ?_
  refine osa_new X₁ hx₁ hcl (show refsEX (.ref C :: bm) = true from hbm) rfl (T.no "part" (by simp)) (fun h₃ tk₃ dx k₃ dn dne hx₃ hn₃ => ?_)
  show wpAny _ _ (execs _ _) _ _ _
  have X₃ : K.In h₃ := fun b o e => k₃ b o (fun q => by rw [q, hnx] at e; cases e) (X₁ b o e)
  have hn3 := hn.at fun o q => k₃ _ o hxL q
  refine wpAny_execs_cons (plainObj_wpAny_Assign_Attribute ?_)
  refine ldC (v := v1) hn3 (by first | rfl | with_unfolding_all rfl | kernel_rfl) (ldC (v := .ref x) hn3 (by first | rfl | with_unfolding_all rfl | kernel_rfl) ?_)
  obtain ⟨oD, esD, epD, hoD, hdD, _⟩ := hn₃.count (Within.cons "part" v0 Within.nil)
  refine set_plain X₃ (ox := { cls := .ref C, dict := some dx, data := .fields #[.ref t0, .none, .none, .none, .bool false, .none] }) (od := some oD) ⟨hx₃, rfl, rfl, hoD⟩ T.sa ?_
  refine osa_old X₃ hx₃ hn₃ (Within.cons "part" v0 Within.nil) (by decide) hcl (show refsEX (.ref C :: bm) = true from hbm) rfl (T.no "at" (by simp)) (fun h₄ tk₄ k₄ hn₄ => ?_)
  show wpAny _ _ (execs _ _) _ _ _
  have low : ∀ b o, s.heap.get? b = some o → b ≠ dx := fun b o e q => by
    have lt := Heap.lt_size e
    rw [q] at lt
    exact absurd lt (Nat.not_lt.mpr (Nat.le_of_lt (Nat.lt_of_lt_of_le z dn)))
  exact wpAny_execs_nil (hq h₄ tk₄ dx (fun b o hb e => k₄ b o (low b o e) (k₃ b o hb (k b o e))) (k₄ _ _ dne.symm hx₃) (Nat.le_of_lt (Nat.lt_of_lt_of_le z dn)) dne hn₄)
theorem made_InvalidLoom (T : ExcT K mg C fI "InvalidLoom" ["part", "at"] "InvalidLoom.__init__" J.s_InvalidLoom_init) {v0 v1 : Value} (X : K.In s.heap) (hlim : s.heap.NoLimit) (hroom : A.depth + 1 < recursionLimit)
    (hq : ∀ h' tk e d, OwnMade s.heap h' e C d (fun y => if y = "at" then some v1 else if y = "part" then some v0 else none) → R (.ok (.ret (.ref e))) { s with heap := h', toks := tk }) :
    codeAny (model prog w) A (.call (.ref C) ⟨[v0, v1], []⟩) R s := by
  obtain ⟨nm, q, N, bs, bm, sn, sub, ab, col, dd, k0, k1, k2, k3, k5, hC, hbm⟩ := T.cls
  obtain ⟨hp, g, dr, tk, os⟩ := s
  have k : ∀ b o, hp.get? b = some o → ((hp.push (kdv_tup [v0, v1])).push (excO C hp.objs.size)).get? b = some o := fun b o e => Heap.get?_push_of_some _ (Heap.get?_push_of_some _ e)
  have hget : ((hp.push (kdv_tup [v0, v1])).push (excO C hp.objs.size)).get? (hp.objs.size + 1) = some (excO C hp.objs.size) := by heap_get
  have hnx : K.lookup (hp.objs.size + 1) = none := by
    cases e : K.lookup (hp.objs.size + 1) with
    | none => rfl
    | some o =>
      have z : hp.get? (hp.objs.size + 1) = some o := X _ _ e
      exact absurd (Nat.lt_of_succ_lt (Heap.lt_size z)) (Nat.lt_irrefl _)
  refine call_own F.excBase_Exception (fun X => refsEX_contains X bm hbm) (X _ _ hC) (looks_findIn X T.iC) (fun self => bind_fn X self T.tC) (by show 2 ≤ sizeLine; rw [sizeLine_eq]; decide) ?_
  refine init_InvalidLoom (s := ⟨(hp.push (kdv_tup [v0, v1])).push (excO C hp.objs.size), g, dr, tk, os⟩) T (X.keeps k) (hlim.keeps k) hget hnx ?_ fun h' tk' dx k' hx dn dne hns => ?_
  · show A.depth + 1 < recursionLimit
    exact hroom
  · have old : ∀ b o, hp.get? b = some o → h'.get? b = some o := fun b o e => k' b o (Nat.ne_of_lt (Nat.lt_succ_of_lt (Heap.lt_size e))) (k b o e)
    have z : hp.objs.size + 1 + 1 ≤ dx := by
      first
        | (simpa only [Heap.size_push] using dn)
        | exact dn
        | (have q := dn; rw [Heap.size_push, Heap.size_push] at q; exact q)
    exact ⟨rfl, hq h' tk' (hp.objs.size + 1) dx ⟨old, Nat.le_succ _, ⟨_, _, hx, rfl, rfl, rfl, rfl⟩, Nat.le_trans (Nat.le_trans (Nat.le_succ _) (Nat.le_succ _)) z, dne, hns⟩⟩
end
end ExX
end PySem
namespace L2
open PySem PySem.Spec PyProof.Rows PySem.ExX
def fs_InvalidLoom (x0 x1 : V) : List (Str × V) := [(("at" : Str), x1), (("part" : Str), x0)]
theorem rel_InvalidLoom {x0 x1 : V} {v0 v1 : Value} (r0 : RelV x0 v0) (r1 : RelV x1 v1) (f : Str) : RelO (List.lookup f (fs_InvalidLoom x0 x1)) ((fun y : Str => if y = "at" then some v1 else if y = "part" then some v0 else none) f) := by
  unfold fs_InvalidLoom
  exact (fun g => relO_put (f := "at") r1 (fun g => relO_put (f := "part") (fs := []) (mA := fun _ => none) r0 (fun _ => trivial) g) g) f
section
variable {X : Cx} {C fI : Addr} {es : List Expr} {e : Expr} {ta : TA} {p pos : Pos} {k : Nat}
def tV_InvalidLoom (C : Addr) (ta : TA) : TE := fun σ H Q => ta σ H fun vs H1 => ∃ x0 x1, vs = [x0, x1] ∧ ∀ e d, H1 e = none → H1 d = none → d ≠ e → Q (.ref e) (upd (upd H1 d (.xd (fs_InvalidLoom x0 x1))) e (ExD C d e))
/-- InvalidLoom(..) as a value -/
theorem pe_InvalidLoom (T : ExcT X.K X.mg C fI "InvalidLoom" ["part", "at"] "InvalidLoom.__init__" J.s_InvalidLoom_init) (hr : Room k X.A) (ha : PA X (e :: es) ta) (hg : Gl X "InvalidLoom" := by rfl)
    (he : starEach (e :: es) X.env = (false, eval e X.env) :: starEach es X.env := by rfl) (hpl : (backTo pos (starEach es X.env)).any (·.1) = false := by rfl) :
    PE X (.Call (.Name "InvalidLoom" p) (e :: es) [] pos) (tV_InvalidLoom C ta) := by
  refine ⟨fun pins s σ H Q I h => ?_⟩
  refine wpAny_Call_Name_kw (ld_glob I hg T.gC ?_)
  refine PySem.W.callWith_K (h₀ := X.base) I.ok.mod.kin T.kC (thn (ha.run pos pins s σ H _ I h) fun us s1 hh => ?_) he hpl
  obtain ⟨vs, H1, I1, r1, x0, x1, ev, q1⟩ := hh
  subst ev
  refine ⟨I1.kIn, ?_⟩
  cases r1 with
  | cons r0 rn =>
  cases rn with
  | cons r1 rn =>
  cases rn
  have hlim := I1.nolimit
  obtain ⟨hp, g, dr, tk, os⟩ := s1
  refine wpAny_call (made_InvalidLoom T I1.kIn hlim (by have := hr.dp; omega) fun h' tk' e d M => ?_)
  exact ⟨.ref e, _, own_value (tk' := tk') I1 M (rel_InvalidLoom r0 r1), rfl, q1 e d (I1.hok.fresh M.new) (I1.hok.fresh M.dbig) M.dne⟩
def tMk_InvalidLoom (C : Addr) (ta : TA) : St → Hp → XK → Prop := fun σ H Q => ta σ H fun vs H1 => ∃ x0 x1, vs = [x0, x1] ∧ ∀ d, H1 d = none → Q (.ref C) (some d) (upd H1 d (.xd (fs_InvalidLoom x0 x1)))
/-- InvalidLoom(..) to be raised -/
theorem pmk_InvalidLoom (T : ExcT X.K X.mg C fI "InvalidLoom" ["part", "at"] "InvalidLoom.__init__" J.s_InvalidLoom_init) (hr : Room k X.A) (ha : PA X (e :: es) ta) (hg : Gl X "InvalidLoom" := by rfl)
    (he : starEach (e :: es) X.env = (false, eval e X.env) :: starEach es X.env := by rfl) (hpl : (backTo pos (starEach es X.env)).any (·.1) = false := by rfl) :
    PMk X (.Call (.Name "InvalidLoom" p) (e :: es) [] pos) (tMk_InvalidLoom C ta) := by
  intro pins s σ H Q I h
  refine wpAny_Call_Name_kw (ld_glob I hg T.gC ?_)
  refine PySem.W.callWith_K (h₀ := X.base) I.ok.mod.kin T.kC (thn (ha.run pos pins s σ H _ I h) fun us s1 hh => ?_) he hpl
  obtain ⟨vs, H1, I1, r1, x0, x1, ev, q1⟩ := hh
  subst ev
  refine ⟨I1.kIn, ?_⟩
  cases r1 with
  | cons r0 rn =>
  cases rn with
  | cons r1 rn =>
  cases rn
  have hlim := I1.nolimit
  obtain ⟨hp, g, dr, tk, os⟩ := s1
  refine wpAny_call (made_InvalidLoom T I1.kIn hlim (by have := hr.dp; omega) fun h' tk' e d M => ?_)
  exact own_raise (tk' := tk') I1 M (rel_InvalidLoom r0 r1) (raises_own T.exC T.tyC) q1
end
end L2
namespace PySem
namespace ExX
section
variable {prog : Program} {w : World} {A : Around} {E : Value → Shared → Prop} {R : Result → Shared → Prop} {s : Shared} {K : W.Frag} {mg : Str → Option Value} {C fI : Addr}
open PySem.W PySem.Calls PyProof.Rows PySem.HandSPX
theorem init_InvalidPage (T : ExcT K mg C fI "InvalidPage" ["line"] "InvalidPage.__init__" J.s_InvalidPage_init) {x t0 : Addr} {v0 : Value} (X : K.In s.heap) (hlim : s.heap.NoLimit) (hx : s.heap.get? x = some (excO C t0)) (hnx : K.lookup x = none) (hroom : A.depth < recursionLimit)
    (hq : ∀ h' tk dx, (∀ b o, b ≠ x → s.heap.get? b = some o → h'.get? b = some o) → h'.get? x = some { cls := .ref C, dict := some dx, data := .fields #[.ref t0, .none, .none, .none, .bool false, .none] } → s.heap.objs.size ≤ dx → dx ≠ x →
      h'.Ns1 dx (fun y => if y = "line" then some v0 else none) → R (.ok (.ret .none)) { s with heap := h', toks := tk }) :
    codeAny (model prog w) A (.call (.ref fI) ⟨[.ref x, v0], []⟩) R s := by
  obtain ⟨oc, od, kV, doc, pm, an, cdv, ct, osl, ho, hcd⟩ := T.fn
  obtain ⟨nm, q, N, bs, bm, sn, sub, ab, col, dd, k0, k1, k2, k3, k5, hC, hbm⟩ := T.cls
  have hcl : clsIn K C = some { name := nm, bases := bs, mro := .ref C :: bm, ns := N, qualname := q, hasDict := true, slotNames := sn, subclasses := sub, abstract := ab, collection := col, hasDel := false } := by unfold clsIn; rw [hC] <;> rfl
  refine Att.call_fn (binds := [("self", .ref x), ("line", v0)]) X hlim ho hcd hroom (BindsTo.of_eq (by first | rfl | with_unfolding_all rfl)) (by first | rfl | decide | with_unfolding_all rfl) (fun s₁ IC => ?_) rfl rfl rfl
  obtain ⟨h₁, tk₁, rfl⟩ := IC.toInCall.same
  have k : ∀ b o, s.heap.get? b = some o → h₁.get? b = some o := IC.toInCall.keep
  have hn := IC.toInCall.ns
  have hxL : s.heap.objs.size ≠ x := Nat.ne_of_gt (Heap.lt_size hx)
  have X₁ : K.In h₁ := X.keeps k
  have hx₁ := k _ _ hx
  have z : s.heap.objs.size < h₁.objs.size := hn.lt
  show wpAny _ _ (execs _ _) _ _ _
  refine wpAny_execs_cons (plainObj_wpAny_Assign_Attribute ?_)
  refine ldC (v := v0) hn (by first | rfl | with_unfolding_all rfl | kernel_rfl) (ldC (v := .ref x) hn (by first | rfl | with_unfolding_all rfl | kernel_rfl) ?_)
  refine set_plain X₁ (ox := excO C t0) (od := none) ⟨hx₁, rfl, rfl, trivial⟩ T.sa ?_
  refine osa_new X₁ hx₁ hcl (show refsEX (.ref C :: bm) = true from hbm) rfl (T.no "line" (by simp)) (fun h₃ tk₃ dx k₃ dn dne hx₃ hn₃ => ?_)
  show wpAny _ _ (execs _ _) _ _ _
  exact wpAny_execs_nil (hq h₃ tk₃ dx (fun b o hb e => k₃ b o hb (k b o e)) hx₃ (Nat.le_of_lt (Nat.lt_of_lt_of_le z dn)) dne hn₃)
theorem made_InvalidPage (T : ExcT K mg C fI "InvalidPage" ["line"] "InvalidPage.__init__" J.s_InvalidPage_init) {v0 : Value} (X : K.In s.heap) (hlim : s.heap.NoLimit) (hroom : A.depth + 1 < recursionLimit)
    (hq : ∀ h' tk e d, OwnMade s.heap h' e C d (fun y => if y = "line" then some v0 else none) → R (.ok (.ret (.ref e))) { s with heap := h', toks := tk }) :
    codeAny (model prog w) A (.call (.ref C) ⟨[v0], []⟩) R s := by
  obtain ⟨nm, q, N, bs, bm, sn, sub, ab, col, dd, k0, k1, k2, k3, k5, hC, hbm⟩ := T.cls
  obtain ⟨hp, g, dr, tk, os⟩ := s
  have k : ∀ b o, hp.get? b = some o → ((hp.push (kdv_tup [v0])).push (excO C hp.objs.size)).get? b = some o := fun b o e => Heap.get?_push_of_some _ (Heap.get?_push_of_some _ e)
  have hget : ((hp.push (kdv_tup [v0])).push (excO C hp.objs.size)).get? (hp.objs.size + 1) = some (excO C hp.objs.size) := by heap_get
  have hnx : K.lookup (hp.objs.size + 1) = none := by
    cases e : K.lookup (hp.objs.size + 1) with
    | none => rfl
    | some o =>
      have z : hp.get? (hp.objs.size + 1) = some o := X _ _ e
      exact absurd (Nat.lt_of_succ_lt (Heap.lt_size z)) (Nat.lt_irrefl _)
  refine call_own F.excBase_Exception (fun X => refsEX_contains X bm hbm) (X _ _ hC) (looks_findIn X T.iC) (fun self => bind_fn X self T.tC) (by show 1 ≤ sizeLine; rw [sizeLine_eq]; decide) ?_
  refine init_InvalidPage (s := ⟨(hp.push (kdv_tup [v0])).push (excO C hp.objs.size), g, dr, tk, os⟩) T (X.keeps k) (hlim.keeps k) hget hnx ?_ fun h' tk' dx k' hx dn dne hns => ?_
  · show A.depth + 1 < recursionLimit
    exact hroom
  · have old : ∀ b o, hp.get? b = some o → h'.get? b = some o := fun b o e => k' b o (Nat.ne_of_lt (Nat.lt_succ_of_lt (Heap.lt_size e))) (k b o e)
    have z : hp.objs.size + 1 + 1 ≤ dx := by
      first
        | (simpa only [Heap.size_push] using dn)
        | exact dn
        | (have q := dn; rw [Heap.size_push, Heap.size_push] at q; exact q)
    exact ⟨rfl, hq h' tk' (hp.objs.size + 1) dx ⟨old, Nat.le_succ _, ⟨_, _, hx, rfl, rfl, rfl, rfl⟩, Nat.le_trans (Nat.le_trans (Nat.le_succ _) (Nat.le_succ _)) z, dne, hns⟩⟩
end
end ExX
end PySem
namespace L2
open PySem PySem.Spec PyProof.Rows PySem.ExX
def fs_InvalidPage (x0 : V) : List (Str × V) := [(("line" : Str), x0)]
theorem rel_InvalidPage {x0 : V} {v0 : Value} (r0 : RelV x0 v0) (f : Str) : RelO (List.lookup f (fs_InvalidPage x0)) ((fun y : Str => if y = "line" then some v0 else none) f) := by
  unfold fs_InvalidPage
  exact (fun g => relO_put (f := "line") (fs := []) (mA := fun _ => none) r0 (fun _ => trivial) g) f
section
variable {X : Cx} {C fI : Addr} {es : List Expr} {e : Expr} {ta : TA} {p pos : Pos} {k : Nat}
def tV_InvalidPage (C : Addr) (ta : TA) : TE := fun σ H Q => ta σ H fun vs H1 => ∃ x0, vs = [x0] ∧ ∀ e d, H1 e = none → H1 d = none → d ≠ e → Q (.ref e) (upd (upd H1 d (.xd (fs_InvalidPage x0))) e (ExD C d e))
/-- InvalidPage(..) as a value -/
theorem pe_InvalidPage (T : ExcT X.K X.mg C fI "InvalidPage" ["line"] "InvalidPage.__init__" J.s_InvalidPage_init) (hr : Room k X.A) (ha : PA X (e :: es) ta) (hg : Gl X "InvalidPage" := by rfl)
    (he : starEach (e :: es) X.env = (false, eval e X.env) :: starEach es X.env := by rfl) (hpl : (backTo pos (starEach es X.env)).any (·.1) = false := by rfl) :
    PE X (.Call (.Name "InvalidPage" p) (e :: es) [] pos) (tV_InvalidPage C ta) := by
  refine ⟨fun pins s σ H Q I h => ?_⟩
  refine wpAny_Call_Name_kw (ld_glob I hg T.gC ?_)
  refine PySem.W.callWith_K (h₀ := X.base) I.ok.mod.kin T.kC (thn (ha.run pos pins s σ H _ I h) fun us s1 hh => ?_) he hpl
  obtain ⟨vs, H1, I1, r1, x0, ev, q1⟩ := hh
  subst ev
  refine ⟨I1.kIn, ?_⟩
  cases r1 with
  | cons r0 rn =>
  cases rn
  have hlim := I1.nolimit
  obtain ⟨hp, g, dr, tk, os⟩ := s1
  refine wpAny_call (made_InvalidPage T I1.kIn hlim (by have := hr.dp; omega) fun h' tk' e d M => ?_)
  exact ⟨.ref e, _, own_value (tk' := tk') I1 M (rel_InvalidPage r0), rfl, q1 e d (I1.hok.fresh M.new) (I1.hok.fresh M.dbig) M.dne⟩
def tMk_InvalidPage (C : Addr) (ta : TA) : St → Hp → XK → Prop := fun σ H Q => ta σ H fun vs H1 => ∃ x0, vs = [x0] ∧ ∀ d, H1 d = none → Q (.ref C) (some d) (upd H1 d (.xd (fs_InvalidPage x0)))
/-- InvalidPage(..) to be raised -/
theorem pmk_InvalidPage (T : ExcT X.K X.mg C fI "InvalidPage" ["line"] "InvalidPage.__init__" J.s_InvalidPage_init) (hr : Room k X.A) (ha : PA X (e :: es) ta) (hg : Gl X "InvalidPage" := by rfl)
    (he : starEach (e :: es) X.env = (false, eval e X.env) :: starEach es X.env := by rfl) (hpl : (backTo pos (starEach es X.env)).any (·.1) = false := by rfl) :
    PMk X (.Call (.Name "InvalidPage" p) (e :: es) [] pos) (tMk_InvalidPage C ta) := by
  intro pins s σ H Q I h
  refine wpAny_Call_Name_kw (ld_glob I hg T.gC ?_)
  refine PySem.W.callWith_K (h₀ := X.base) I.ok.mod.kin T.kC (thn (ha.run pos pins s σ H _ I h) fun us s1 hh => ?_) he hpl
  obtain ⟨vs, H1, I1, r1, x0, ev, q1⟩ := hh
  subst ev
  refine ⟨I1.kIn, ?_⟩
  cases r1 with
  | cons r0 rn =>
  cases rn
  have hlim := I1.nolimit
  obtain ⟨hp, g, dr, tk, os⟩ := s1
  refine wpAny_call (made_InvalidPage T I1.kIn hlim (by have := hr.dp; omega) fun h' tk' e d M => ?_)
  exact own_raise (tk' := tk') I1 M (rel_InvalidPage r0) (raises_own T.exC T.tyC) q1
end
end L2
namespace PySem
namespace ExX
section
variable {prog : Program} {w : World} {A : Around} {E : Value → Shared → Prop} {R : Result → Shared → Prop} {s : Shared} {K : W.Frag} {mg : Str → Option Value} {C fI : Addr}
open PySem.W PySem.Calls PyProof.Rows PySem.HandSPX
theorem init_LimitExceeded (T : ExcT K mg C fI "LimitExceeded" ["limit"] "LimitExceeded.__init__" J.s_LimitExceeded_init) {x t0 : Addr} {v0 : Value} (X : K.In s.heap) (hlim : s.heap.NoLimit) (hx : s.heap.get? x = some (excO C t0)) (hnx : K.lookup x = none) (hroom : A.depth < recursionLimit)
    (hq : ∀ h' tk dx, (∀ b o, b ≠ x → s.heap.get? b = some o → h'.get? b = some o) → h'.get? x = some { cls := .ref C, dict := some dx, data := .fields #[.ref t0, .none, .none, .none, .bool false, .none] } → s.heap.objs.size ≤ dx → dx ≠ x →
      h'.Ns1 dx (fun y => if y = "limit" then some v0 else none) → R (.ok (.ret .none)) { s with heap := h', toks := tk }) :
    codeAny (model prog w) A (.call (.ref fI) ⟨[.ref x, v0], []⟩) R s := by
  obtain ⟨oc, od, kV, doc, pm, an, cdv, ct, osl, ho, hcd⟩ := T.fn
  obtain ⟨nm, q, N, bs, bm, sn, sub, ab, col, dd, k0, k1, k2, k3, k5, hC, hbm⟩ := T.cls
  have hcl : clsIn K C = some { name := nm, bases := bs, mro := .ref C :: bm, ns := N, qualname := q, hasDict := true, slotNames := sn, subclasses := sub, abstract := ab, collection := col, hasDel := false } := by unfold clsIn; rw [hC] <;> rfl
  refine Att.call_fn (binds := [("self", .ref x), ("limit", v0)]) X hlim ho hcd hroom (BindsTo.of_eq (by first | rfl | with_unfolding_all rfl)) (by first | rfl | decide | with_unfolding_all rfl) (fun s₁ IC => ?_) rfl rfl rfl
  obtain ⟨h₁, tk₁, rfl⟩ := IC.toInCall.same
  have k : ∀ b o, s.heap.get? b = some o → h₁.get? b = some o := IC.toInCall.keep
  have hn := IC.toInCall.ns
  have hxL : s.heap.objs.size ≠ x := Nat.ne_of_gt (Heap.lt_size hx)
  have X₁ : K.In h₁ := X.keeps k
  have hx₁ := k _ _ hx
  have z : s.heap.objs.size < h₁.objs.size := hn.lt
  show wpAny _ _ (execs _ _) _ _ _
  refine wpAny_execs_cons (plainObj_wpAny_Assign_Attribute ?_)
  refine ldC (v := v0) hn (by first | rfl | with_unfolding_all rfl | kernel_rfl) (ldC (v := .ref x) hn (by first | rfl | with_unfolding_all rfl | kernel_rfl) ?_)
  refine set_plain X₁ (ox := excO C t0) (od := none) ⟨hx₁, rfl, rfl, trivial⟩ T.sa ?_
  refine osa_new X₁ hx₁ hcl (show refsEX (.ref C :: bm) = true from hbm) rfl (T.no "limit" (by simp)) (fun h₃ tk₃ dx k₃ dn dne hx₃ hn₃ => ?_)
  show wpAny _ _ (execs _ _) _ _ _
  exact wpAny_execs_nil (hq h₃ tk₃ dx (fun b o hb e => k₃ b o hb (k b o e)) hx₃ (Nat.le_of_lt (Nat.lt_of_lt_of_le z dn)) dne hn₃)
theorem made_LimitExceeded (T : ExcT K mg C fI "LimitExceeded" ["limit"] "LimitExceeded.__init__" J.s_LimitExceeded_init) {v0 : Value} (X : K.In s.heap) (hlim : s.heap.NoLimit) (hroom : A.depth + 1 < recursionLimit)
    (hq : ∀ h' tk e d, OwnMade s.heap h' e C d (fun y => if y = "limit" then some v0 else none) → R (.ok (.ret (.ref e))) { s with heap := h', toks := tk }) :
    codeAny (model prog w) A (.call (.ref C) ⟨[v0], []⟩) R s := by
  obtain ⟨nm, q, N, bs, bm, sn, sub, ab, col, dd, k0, k1, k2, k3, k5, hC, hbm⟩ := T.cls
  obtain ⟨hp, g, dr, tk, os⟩ := s
  have k : ∀ b o, hp.get? b = some o → ((hp.push (kdv_tup [v0])).push (excO C hp.objs.size)).get? b = some o := fun b o e => Heap.get?_push_of_some _ (Heap.get?_push_of_some _ e)
  have hget : ((hp.push (kdv_tup [v0])).push (excO C hp.objs.size)).get? (hp.objs.size + 1) = some (excO C hp.objs.size) := by heap_get
  have hnx : K.lookup (hp.objs.size + 1) = none := by
    cases e : K.lookup (hp.objs.size + 1) with
    | none => rfl
    | some o =>
      have z : hp.get? (hp.objs.size + 1) = some o := X _ _ e
      exact absurd (Nat.lt_of_succ_lt (Heap.lt_size z)) (Nat.lt_irrefl _)
  refine call_own F.excBase_Exception (fun X => refsEX_contains X bm hbm) (X _ _ hC) (looks_findIn X T.iC) (fun self => bind_fn X self T.tC) (by show 1 ≤ sizeLine; rw [sizeLine_eq]; decide) ?_
  refine init_LimitExceeded (s := ⟨(hp.push (kdv_tup [v0])).push (excO C hp.objs.size), g, dr, tk, os⟩) T (X.keeps k) (hlim.keeps k) hget hnx ?_ fun h' tk' dx k' hx dn dne hns => ?_
  · show A.depth + 1 < recursionLimit
    exact hroom
  · have old : ∀ b o, hp.get? b = some o → h'.get? b = some o := fun b o e => k' b o (Nat.ne_of_lt (Nat.lt_succ_of_lt (Heap.lt_size e))) (k b o e)
    have z : hp.objs.size + 1 + 1 ≤ dx := by
      first
        | (simpa only [Heap.size_push] using dn)
        | exact dn
        | (have q := dn; rw [Heap.size_push, Heap.size_push] at q; exact q)
    exact ⟨rfl, hq h' tk' (hp.objs.size + 1) dx ⟨old, Nat.le_succ _, ⟨_, _, hx, rfl, rfl, rfl, rfl⟩, Nat.le_trans (Nat.le_trans (Nat.le_succ _) (Nat.le_succ _)) z, dne, hns⟩⟩
end
end ExX
end PySem
namespace L2
open PySem PySem.Spec PyProof.Rows PySem.ExX
def fs_LimitExceeded (x0 : V) : List (Str × V) := [(("limit" : Str), x0)]
theorem rel_LimitExceeded {x0 : V} {v0 : Value} (r0 : RelV x0 v0) (f : Str) : RelO (List.lookup f (fs_LimitExceeded x0)) ((fun y : Str => if y = "limit" then some v0 else none) f) := by
  unfold fs_LimitExceeded
  exact (fun g => relO_put (f := "limit") (fs := []) (mA := fun _ => none) r0 (fun _ => trivial) g) f
section
variable {X : Cx} {C fI : Addr} {es : List Expr} {e : Expr} {ta : TA} {p pos : Pos} {k : Nat}
def tV_LimitExceeded (C : Addr) (ta : TA) : TE := fun σ H Q => ta σ H fun vs H1 => ∃ x0, vs = [x0] ∧ ∀ e d, H1 e = none → H1 d = none → d ≠ e → Q (.ref e) (upd (upd H1 d (.xd (fs_LimitExceeded x0))) e (ExD C d e))
/-- LimitExceeded(..) as a value -/
theorem pe_LimitExceeded (T : ExcT X.K X.mg C fI "LimitExceeded" ["limit"] "LimitExceeded.__init__" J.s_LimitExceeded_init) (hr : Room k X.A) (ha : PA X (e :: es) ta) (hg : Gl X "LimitExceeded" := by rfl)
    (he : starEach (e :: es) X.env = (false, eval e X.env) :: starEach es X.env := by rfl) (hpl : (backTo pos (starEach es X.env)).any (·.1) = false := by rfl) :
    PE X (.Call (.Name "LimitExceeded" p) (e :: es) [] pos) (tV_LimitExceeded C ta) := by
  refine ⟨fun pins s σ H Q I h => ?_⟩
  refine wpAny_Call_Name_kw (ld_glob I hg T.gC ?_)
  refine PySem.W.callWith_K (h₀ := X.base) I.ok.mod.kin T.kC (thn (ha.run pos pins s σ H _ I h) fun us s1 hh => ?_) he hpl
  obtain ⟨vs, H1, I1, r1, x0, ev, q1⟩ := hh
  subst ev
  refine ⟨I1.kIn, ?_⟩
  cases r1 with
  | cons r0 rn =>
  cases rn
  have hlim := I1.nolimit
  obtain ⟨hp, g, dr, tk, os⟩ := s1
  refine wpAny_call (made_LimitExceeded T I1.kIn hlim (by have := hr.dp; omega) fun h' tk' e d M => ?_)
  exact ⟨.ref e, _, own_value (tk' := tk') I1 M (rel_LimitExceeded r0), rfl, q1 e d (I1.hok.fresh M.new) (I1.hok.fresh M.dbig) M.dne⟩
def tMk_LimitExceeded (C : Addr) (ta : TA) : St → Hp → XK → Prop := fun σ H Q => ta σ H fun vs H1 => ∃ x0, vs = [x0] ∧ ∀ d, H1 d = none → Q (.ref C) (some d) (upd H1 d (.xd (fs_LimitExceeded x0)))
/-- LimitExceeded(..) to be raised -/
theorem pmk_LimitExceeded (T : ExcT X.K X.mg C fI "LimitExceeded" ["limit"] "LimitExceeded.__init__" J.s_LimitExceeded_init) (hr : Room k X.A) (ha : PA X (e :: es) ta) (hg : Gl X "LimitExceeded" := by rfl)
    (he : starEach (e :: es) X.env = (false, eval e X.env) :: starEach es X.env := by rfl) (hpl : (backTo pos (starEach es X.env)).any (·.1) = false := by rfl) :
    PMk X (.Call (.Name "LimitExceeded" p) (e :: es) [] pos) (tMk_LimitExceeded C ta) := by
  intro pins s σ H Q I h
  refine wpAny_Call_Name_kw (ld_glob I hg T.gC ?_)
  refine PySem.W.callWith_K (h₀ := X.base) I.ok.mod.kin T.kC (thn (ha.run pos pins s σ H _ I h) fun us s1 hh => ?_) he hpl
  obtain ⟨vs, H1, I1, r1, x0, ev, q1⟩ := hh
  subst ev
  refine ⟨I1.kIn, ?_⟩
  cases r1 with
  | cons r0 rn =>
  cases rn
  have hlim := I1.nolimit
  obtain ⟨hp, g, dr, tk, os⟩ := s1
  refine wpAny_call (made_LimitExceeded T I1.kIn hlim (by have := hr.dp; omega) fun h' tk' e d M => ?_)
  exact own_raise (tk' := tk') I1 M (rel_LimitExceeded r0) (raises_own T.exC T.tyC) q1
end
end L2
namespace PySem
namespace ExX
section
variable {prog : Program} {w : World} {A : Around} {E : Value → Shared → Prop} {R : Result → Shared → Prop} {s : Shared} {K : W.Frag} {mg : Str → Option Value} {C fI : Addr}
open PySem.W PySem.Calls PyProof.Rows PySem.HandSPX
theorem init_NothingLeft (T : ExcT K mg C fI "NothingLeft" ["word"] "NothingLeft.__init__" J.s_NothingLeft_init) {x t0 : Addr} {v0 : Value} (X : K.In s.heap) (hlim : s.heap.NoLimit) (hx : s.heap.get? x = some (excO C t0)) (hnx : K.lookup x = none) (hroom : A.depth < recursionLimit)
    (hq : ∀ h' tk dx, (∀ b o, b ≠ x → s.heap.get? b = some o → h'.get? b = some o) → h'.get? x = some { cls := .ref C, dict := some dx, data := .fields #[.ref t0, .none, .none, .none, .bool false, .none] } → s.heap.objs.size ≤ dx → dx ≠ x →
      h'.Ns1 dx (fun y => if y = "word" then some v0 else none) → R (.ok (.ret .none)) { s with heap := h', toks := tk }) :
    codeAny (model prog w) A (.call (.ref fI) ⟨[.ref x, v0], []⟩) R s := by
  obtain ⟨oc, od, kV, doc, pm, an, cdv, ct, osl, ho, hcd⟩ := T.fn
  obtain ⟨nm, q, N, bs, bm, sn, sub, ab, col, dd, k0, k1, k2, k3, k5, hC, hbm⟩ := T.cls
  have hcl : clsIn K C = some { name := nm, bases := bs, mro := .ref C :: bm, ns := N, qualname := q, hasDict := true, slotNames := sn, subclasses := sub, abstract := ab, collection := col, hasDel := false } := by unfold clsIn; rw [hC] <;> rfl
  refine Att.call_fn (binds := [("self", .ref x), ("word", v0)]) X hlim ho hcd hroom (BindsTo.of_eq (by first | rfl | with_unfolding_all rfl)) (by first | rfl | decide | with_unfolding_all rfl) (fun s₁ IC => ?_) rfl rfl rfl
  obtain ⟨h₁, tk₁, rfl⟩ := IC.toInCall.same
  have k : ∀ b o, s.heap.get? b = some o → h₁.get? b = some o := IC.toInCall.keep
  have hn := IC.toInCall.ns
  have hxL : s.heap.objs.size ≠ x := Nat.ne_of_gt (Heap.lt_size hx)
  have X₁ : K.In h₁ := X.keeps k
  have hx₁ := k _ _ hx
  have z : s.heap.objs.size < h₁.objs.size := hn.lt
  show wpAny _ _ (execs _ _) _ _ _
  refine wpAny_execs_cons (plainObj_wpAny_Assign_Attribute ?_)
  refine ldC (v := v0) hn (by first | rfl | with_unfolding_all rfl | kernel_rfl) (ldC (v := .ref x) hn (by first | rfl | with_unfolding_all rfl | kernel_rfl) ?_)
  refine set_plain X₁ (ox := excO C t0) (od := none) ⟨hx₁, rfl, rfl, trivial⟩ T.sa ?_
  refine osa_new X₁ hx₁ hcl (show refsEX (.ref C :: bm) = true from hbm) rfl (T.no "word" (by simp)) (fun h₃ tk₃ dx k₃ dn dne hx₃ hn₃ => ?_)
  show wpAny _ _ (execs _ _) _ _ _
  exact wpAny_execs_nil (hq h₃ tk₃ dx (fun b o hb e => k₃ b o hb (k b o e)) hx₃ (Nat.le_of_lt (Nat.lt_of_lt_of_le z dn)) dne hn₃)
theorem made_NothingLeft (T : ExcT K mg C fI "NothingLeft" ["word"] "NothingLeft.__init__" J.s_NothingLeft_init) {v0 : Value} (X : K.In s.heap) (hlim : s.heap.NoLimit) (hroom : A.depth + 1 < recursionLimit)
    (hq : ∀ h' tk e d, OwnMade s.heap h' e C d (fun y => if y = "word" then some v0 else none) → R (.ok (.ret (.ref e))) { s with heap := h', toks := tk }) :
    codeAny (model prog w) A (.call (.ref C) ⟨[v0], []⟩) R s := by
  obtain ⟨nm, q, N, bs, bm, sn, sub, ab, col, dd, k0, k1, k2, k3, k5, hC, hbm⟩ := T.cls
  obtain ⟨hp, g, dr, tk, os⟩ := s
  have k : ∀ b o, hp.get? b = some o → ((hp.push (kdv_tup [v0])).push (excO C hp.objs.size)).get? b = some o := fun b o e => Heap.get?_push_of_some _ (Heap.get?_push_of_some _ e)
  have hget : ((hp.push (kdv_tup [v0])).push (excO C hp.objs.size)).get? (hp.objs.size + 1) = some (excO C hp.objs.size) := by heap_get
  have hnx : K.lookup (hp.objs.size + 1) = none := by
    cases e : K.lookup (hp.objs.size + 1) with
    | none => rfl
    | some o =>
      have z : hp.get? (hp.objs.size + 1) = some o := X _ _ e
      exact absurd (Nat.lt_of_succ_lt (Heap.lt_size z)) (Nat.lt_irrefl _)
  refine call_own F.excBase_Exception (fun X => refsEX_contains X bm hbm) (X _ _ hC) (looks_findIn X T.iC) (fun self => bind_fn X self T.tC) (by show 1 ≤ sizeLine; rw [sizeLine_eq]; decide) ?_
  refine init_NothingLeft (s := ⟨(hp.push (kdv_tup [v0])).push (excO C hp.objs.size), g, dr, tk, os⟩) T (X.keeps k) (hlim.keeps k) hget hnx ?_ fun h' tk' dx k' hx dn dne hns => ?_
  · show A.depth + 1 < recursionLimit
    exact hroom
  · have old : ∀ b o, hp.get? b = some o → h'.get? b = some o := fun b o e => k' b o (Nat.ne_of_lt (Nat.lt_succ_of_lt (Heap.lt_size e))) (k b o e)
    have z : hp.objs.size + 1 + 1 ≤ dx := by
      first
        | (simpa only [Heap.size_push] using dn)
        | exact dn
        | (have q := dn; rw [Heap.size_push, Heap.size_push] at q; exact q)
    exact ⟨rfl, hq h' tk' (hp.objs.size + 1) dx ⟨old, Nat.le_succ _, ⟨_, _, hx, rfl, rfl, rfl, rfl⟩, Nat.le_trans (Nat.le_trans (Nat.le_succ _) (Nat.le_succ _)) z, dne, hns⟩⟩
end
end ExX
end PySem
namespace L2
open PySem PySem.Spec PyProof.Rows PySem.ExX
def fs_NothingLeft (x0 : V) : List (Str × V) := [(("word" : Str), x0)]
theorem rel_NothingLeft {x0 : V} {v0 : Value} (r0 : RelV x0 v0) (f : Str) : RelO (List.lookup f (fs_NothingLeft x0)) ((fun y : Str => if y = "word" then some v0 else none) f) := by
  unfold fs_NothingLeft
  exact (fun g => relO_put (f := "word") (fs := []) (mA := fun _ => none) r0 (fun _ => trivial) g) f
section
variable {X : Cx} {C fI : Addr} {es : List Expr} {e : Expr} {ta : TA} {p pos : Pos} {k : Nat}
def tV_NothingLeft (C : Addr) (ta : TA) : TE := fun σ H Q => ta σ H fun vs H1 => ∃ x0, vs = [x0] ∧ ∀ e d, H1 e = none → H1 d = none → d ≠ e → Q (.ref e) (upd (upd H1 d (.xd (fs_NothingLeft x0))) e (ExD C d e))
/-- NothingLeft(..) as a value -/
theorem pe_NothingLeft (T : ExcT X.K X.mg C fI "NothingLeft" ["word"] "NothingLeft.__init__" J.s_NothingLeft_init) (hr : Room k X.A) (ha : PA X (e :: es) ta) (hg : Gl X "NothingLeft" := by rfl)
    (he : starEach (e :: es) X.env = (false, eval e X.env) :: starEach es X.env := by rfl) (hpl : (backTo pos (starEach es X.env)).any (·.1) = false := by rfl) :
    PE X (.Call (.Name "NothingLeft" p) (e :: es) [] pos) (tV_NothingLeft C ta) := by
  refine ⟨fun pins s σ H Q I h => ?_⟩
  refine wpAny_Call_Name_kw (ld_glob I hg T.gC ?_)
  refine PySem.W.callWith_K (h₀ := X.base) I.ok.mod.kin T.kC (thn (ha.run pos pins s σ H _ I h) fun us s1 hh => ?_) he hpl
  obtain ⟨vs, H1, I1, r1, x0, ev, q1⟩ := hh
  subst ev
  refine ⟨I1.kIn, ?_⟩
  cases r1 with
  | cons r0 rn =>
  cases rn
  have hlim := I1.nolimit
  obtain ⟨hp, g, dr, tk, os⟩ := s1
  refine wpAny_call (made_NothingLeft T I1.kIn hlim (by have := hr.dp; omega) fun h' tk' e d M => ?_)
  exact ⟨.ref e, _, own_value (tk' := tk') I1 M (rel_NothingLeft r0), rfl, q1 e d (I1.hok.fresh M.new) (I1.hok.fresh M.dbig) M.dne⟩
def tMk_NothingLeft (C : Addr) (ta : TA) : St → Hp → XK → Prop := fun σ H Q => ta σ H fun vs H1 => ∃ x0, vs = [x0] ∧ ∀ d, H1 d = none → Q (.ref C) (some d) (upd H1 d (.xd (fs_NothingLeft x0)))
/-- NothingLeft(..) to be raised -/
theorem pmk_NothingLeft (T : ExcT X.K X.mg C fI "NothingLeft" ["word"] "NothingLeft.__init__" J.s_NothingLeft_init) (hr : Room k X.A) (ha : PA X (e :: es) ta) (hg : Gl X "NothingLeft" := by rfl)
    (he : starEach (e :: es) X.env = (false, eval e X.env) :: starEach es X.env := by rfl) (hpl : (backTo pos (starEach es X.env)).any (·.1) = false := by rfl) :
    PMk X (.Call (.Name "NothingLeft" p) (e :: es) [] pos) (tMk_NothingLeft C ta) := by
  intro pins s σ H Q I h
  refine wpAny_Call_Name_kw (ld_glob I hg T.gC ?_)
  refine PySem.W.callWith_K (h₀ := X.base) I.ok.mod.kin T.kC (thn (ha.run pos pins s σ H _ I h) fun us s1 hh => ?_) he hpl
  obtain ⟨vs, H1, I1, r1, x0, ev, q1⟩ := hh
  subst ev
  refine ⟨I1.kIn, ?_⟩
  cases r1 with
  | cons r0 rn =>
  cases rn
  have hlim := I1.nolimit
  obtain ⟨hp, g, dr, tk, os⟩ := s1
  refine wpAny_call (made_NothingLeft T I1.kIn hlim (by have := hr.dp; omega) fun h' tk' e d M => ?_)
  exact own_raise (tk' := tk') I1 M (rel_NothingLeft r0) (raises_own T.exC T.tyC) q1
end
end L2

set_option Elab.async false
set_option linter.all false
set_option maxRecDepth 100000
set_option maxHeartbeats 4000000
namespace J
open PySem L2
def Ex (p : Addr) (H H' : Hp) : Prop := ∀ b o, b ≠ p → H b = some o → H' b = some o
theorem Ex.refl (p : Addr) (H : Hp) : Ex p H H := fun _ _ _ h => h
theorem Ex.trans {p : Addr} {H H1 H2 : Hp} (a : Ex p H H1) (b : Ex p H1 H2) : Ex p H H2 := fun c o n h => b c o n (a c o n h)
theorem Ex.upd {p : Addr} {H : Hp} (o : HO) : Ex p H (upd H p o) := fun c u n h => by rw [upd_ne n]; exact h
theorem Same.ex {p : Addr} {H H' : Hp} (s : Same H H') : Ex p H H' := fun c o _ h => s c o h
theorem Same.new {q : Addr} {H : Hp} (o : HO) (h : H q = none) : Same H (L2.upd H q o) := fun c u e => by
  rw [upd_ne (ne_of_none e h)]; exact e
theorem hp_ne {H : Hp} {p q : Addr} {o : HO} (h : H p = some o) (hq : H q = none) : q ≠ p := by
  intro z
  rw [z, h] at hq
  cases hq
/-! ### things -/
inductive Thg (C : Addr) (H : Hp) : V → Prop
  | non : Thg C H .non
  | bl (b : Bool) : Thg C H (.bl b)
  | int (i : Int) : Thg C H (.int i)
  | str (x : Str) : Thg C H (.str x)
  | tup {a : Addr} (e : H a = some (.tup [.int 1, .int 2])) : Thg C H (.ref a)
  | lst {a : Addr} (e : H a = some (.lst [.int 3])) : Thg C H (.ref a)
  | dic {a : Addr} (e : H a = some (.dK [])) : Thg C H (.ref a)
  | exo {a : Addr} (e : H a = some (ExO (.ref C) a)) : Thg C H (.ref a)
theorem Thg.ex {C p : Addr} {H H' : Hp} {v : V} (h : Thg C H v) (s : ∀ b o, H b = some o → b ≠ p) (x : Ex p H H') : Thg C H' v := by
  cases h with
  | non => exact .non
  | bl b => exact .bl b
  | int i => exact .int i
  | str x => exact .str x
  | tup e => exact .tup (x _ _ (s _ _ e) e)
  | lst e => exact .lst (x _ _ (s _ _ e) e)
  | dic e => exact .dic (x _ _ (s _ _ e) e)
  | exo e => exact .exo (x _ _ (s _ _ e) e)
theorem Thg.same {C : Addr} {H H' : Hp} {v : V} (h : Thg C H v) (s : Same H H') : Thg C H' v := by
  cases h with
  | non => exact .non
  | bl b => exact .bl b
  | int i => exact .int i
  | str x => exact .str x
  | tup e => exact .tup (s _ _ e)
  | lst e => exact .lst (s _ _ e)
  | dic e => exact .dic (s _ _ e)
  | exo e => exact .exo (s _ _ e)
theorem kit_sub {K : PySem.W.Frag} {C : Addr} {t : String} {b : Bool} (hm : PySem.W.kitMeta t = true) (h : PySem.W.subIn K (.ref C) (.type t) = some b) : PySem.W.kitOne K (.ref C) (.type t) = some b := by
  unfold PySem.W.kitOne
  have e : ¬ ((Value.ref C == Value.type t) = true) := fun z => nomatch (eq_of_beq z)
  rw [if_neg e]
  show (if PySem.W.kitMeta t = true then PySem.W.subIn K (.ref C) (.type t) else none) = some b
  rw [if_pos hm]
  exact h
theorem kit_own {K : PySem.W.Frag} {t : Value} {C : Addr} {b : Bool} (h1 : PySem.W.isClsIn K C = true) (h2 : PySem.W.typeIn K (.ref C) = some (.type "type")) (h3 : PySem.W.subIn K t (.ref C) = some b) (hb : t = .ref C → b = true) : PySem.W.kitOne K t (.ref C) = some b := by
  unfold PySem.W.kitOne
  by_cases e : (t == Value.ref C) = true
  · rw [if_pos e, hb (eq_of_beq e)]
  · rw [if_neg e]
    have q : ((PySem.W.clsIn K C).isSome && PySem.W.typeIn K (.ref C) == some (.type "type")) = true := by
      have h1' : (PySem.W.clsIn K C).isSome = true := h1
      rw [h1', h2] <;> rfl
    show (if ((PySem.W.clsIn K C).isSome && PySem.W.typeIn K (.ref C) == some (.type "type")) = true then PySem.W.subIn K t (.ref C) else none) = some b
    rw [if_pos q]
    exact h3
/-! ### the classes -/
section
variable {K : PySem.W.Frag} {mg : Str → Option Value}
def Cs (T : Tx K mg) : List Addr := [T.C_UnknownState, T.C_InvalidText, T.C_Stuck, T.C_NotABook, T.C_NotPlain, T.C_NotFull, T.C_NotOneWay, T.C_NotAWire, T.C_Unlike, T.C_InvalidNumber, T.C_UnknownWord, T.C_InvalidWord, T.C_InvalidRow, T.C_InvalidLengths, T.C_InvalidWeights, T.C_InvalidBars, T.C_InvalidChoice, T.C_InvalidLoom, T.C_InvalidPage, T.C_LimitExceeded, T.C_NothingLeft]
def cs (T : Tx K mg) (k : Nat) : Addr := (Cs T).getD k 0
def Us (T : Tx K mg) : List Value := (Cs T).map Value.ref ++ [.ref T.C_ReadError, .type "Exception", .type "ValueError", .type "LookupError", .type "TypeError", .type "bool"]
theorem rows (T : Tx K mg) : ∀ k, k < 21 → (Us T).map (fun u => PySem.W.subIn K (.ref (cs T k)) u) = (List.range 21).map (fun j => some (j == k)) ++ [some true, some true, some false, some false, some false, some false]
  | 0, _ => T.row_UnknownState
  | 1, _ => T.row_InvalidText
  | 2, _ => T.row_Stuck
  | 3, _ => T.row_NotABook
  | 4, _ => T.row_NotPlain
  | 5, _ => T.row_NotFull
  | 6, _ => T.row_NotOneWay
  | 7, _ => T.row_NotAWire
  | 8, _ => T.row_Unlike
  | 9, _ => T.row_InvalidNumber
  | 10, _ => T.row_UnknownWord
  | 11, _ => T.row_InvalidWord
  | 12, _ => T.row_InvalidRow
  | 13, _ => T.row_InvalidLengths
  | 14, _ => T.row_InvalidWeights
  | 15, _ => T.row_InvalidBars
  | 16, _ => T.row_InvalidChoice
  | 17, _ => T.row_InvalidLoom
  | 18, _ => T.row_InvalidPage
  | 19, _ => T.row_LimitExceeded
  | 20, _ => T.row_NothingLeft
  | n + 21, h => absurd h (by omega)
theorem E_all (T : Tx K mg) : ∀ k, k < 21 → ExcC K (cs T k)
  | 0, _ => T.E_UnknownState
  | 1, _ => T.E_InvalidText
  | 2, _ => T.E_Stuck
  | 3, _ => T.E_NotABook
  | 4, _ => T.E_NotPlain
  | 5, _ => T.E_NotFull
  | 6, _ => T.E_NotOneWay
  | 7, _ => T.E_NotAWire
  | 8, _ => T.E_Unlike
  | 9, _ => T.E_InvalidNumber
  | 10, _ => T.E_UnknownWord
  | 11, _ => T.E_InvalidWord
  | 12, _ => T.E_InvalidRow
  | 13, _ => T.E_InvalidLengths
  | 14, _ => T.E_InvalidWeights
  | 15, _ => T.E_InvalidBars
  | 16, _ => T.E_InvalidChoice
  | 17, _ => T.E_InvalidLoom
  | 18, _ => T.E_InvalidPage
  | 19, _ => T.E_LimitExceeded
  | 20, _ => T.E_NothingLeft
  | n + 21, h => absurd h (by omega)
theorem cl_all (T : Tx K mg) : ∀ k, k < 21 → PySem.W.isClsIn K (cs T k) = true ∧ PySem.W.typeIn K (.ref (cs T k)) = some (.type "type")
  | 0, _ => ⟨T.cl_UnknownState, T.ty_UnknownState⟩
  | 1, _ => ⟨T.cl_InvalidText, T.ty_InvalidText⟩
  | 2, _ => ⟨T.cl_Stuck, T.ty_Stuck⟩
  | 3, _ => ⟨T.cl_NotABook, T.ty_NotABook⟩
  | 4, _ => ⟨T.cl_NotPlain, T.ty_NotPlain⟩
  | 5, _ => ⟨T.cl_NotFull, T.ty_NotFull⟩
  | 6, _ => ⟨T.cl_NotOneWay, T.ty_NotOneWay⟩
  | 7, _ => ⟨T.cl_NotAWire, T.ty_NotAWire⟩
  | 8, _ => ⟨T.cl_Unlike, T.ty_Unlike⟩
  | 9, _ => ⟨T.cl_InvalidNumber, T.ty_InvalidNumber⟩
  | 10, _ => ⟨T.cl_UnknownWord, T.ty_UnknownWord⟩
  | 11, _ => ⟨T.cl_InvalidWord, T.ty_InvalidWord⟩
  | 12, _ => ⟨T.cl_InvalidRow, T.ty_InvalidRow⟩
  | 13, _ => ⟨T.cl_InvalidLengths, T.ty_InvalidLengths⟩
  | 14, _ => ⟨T.cl_InvalidWeights, T.ty_InvalidWeights⟩
  | 15, _ => ⟨T.cl_InvalidBars, T.ty_InvalidBars⟩
  | 16, _ => ⟨T.cl_InvalidChoice, T.ty_InvalidChoice⟩
  | 17, _ => ⟨T.cl_InvalidLoom, T.ty_InvalidLoom⟩
  | 18, _ => ⟨T.cl_InvalidPage, T.ty_InvalidPage⟩
  | 19, _ => ⟨T.cl_LimitExceeded, T.ty_LimitExceeded⟩
  | 20, _ => ⟨T.cl_NothingLeft, T.ty_NothingLeft⟩
  | n + 21, h => absurd h (by omega)
theorem cs_at (T : Tx K mg) {j : Nat} (h : j < 21) : (Us T)[j]? = some (.ref (cs T j)) := by
  have hl : (Cs T).length = 21 := rfl
  unfold Us
  rw [List.getElem?_append_left (by rw [List.length_map, hl]; exact h), List.getElem?_map, List.getElem?_eq_getElem (by rw [hl]; exact h)]
  unfold cs
  rw [List.getD_eq_getElem?_getD, List.getElem?_eq_getElem (by rw [hl]; exact h)]
  rfl
theorem sub_own (T : Tx K mg) {k j : Nat} (hk : k < 21) (hj : j < 21) : PySem.W.subIn K (.ref (cs T k)) (.ref (cs T j)) = some (j == k) := by
  have h := congrArg (fun l : List (Option Bool) => l[j]?) (rows T k hk)
  simp only [List.getElem?_map, cs_at T hj, Option.map_some] at h
  rw [List.getElem?_append_left (by simpa using hj), List.getElem?_map, List.getElem?_range hj] at h
  simpa using h
theorem sub_more (T : Tx K mg) {k : Nat} (hk : k < 21) (i : Nat) : ((Us T)[21 + i]?.map fun u => PySem.W.subIn K (.ref (cs T k)) u) = [some true, some true, some false, some false, some false, some false][i]? := by
  have h := congrArg (fun l : List (Option Bool) => l[21 + i]?) (rows T k hk)
  simp only [List.getElem?_map] at h
  rw [List.getElem?_append_right (by simp), List.length_map, List.length_range] at h
  rw [h]
  congr 1
  omega
theorem kit_all (T : Tx K mg) {k j : Nat} (hk : k < 21) (hj : j < 21) : PySem.W.kitOne K (.ref (cs T k)) (.ref (cs T j)) = some (j == k) := by
  obtain ⟨h1, h2⟩ := cl_all T j hj
  refine kit_own h1 h2 (sub_own T hk hj) fun e => ?_
  injection e with e
  have h3 := sub_own T hk hk
  rw [e] at h3
  have h4 := sub_own T hj hk
  have h5 := sub_own T hj hj
  rw [e] at h4
  rw [h5] at h4
  have h6 := sub_own T hk hj
  rw [e, h5] at h6
  injection h6 with h6
  rw [← h6]
  simp
theorem kit_read (T : Tx K mg) {k : Nat} (hk : k < 21) : PySem.W.kitOne K (.ref (cs T k)) (.ref T.C_ReadError) = some true := by
  have h := sub_more T hk 0
  exact kit_own T.cl_ReadError T.ty_ReadError (Option.some.inj h) fun _ => rfl
theorem kit_exc (T : Tx K mg) {k : Nat} (hk : k < 21) : PySem.W.kitOne K (.ref (cs T k)) (.type "Exception") = some true := kit_sub (by decide +kernel) (Option.some.inj (sub_more T hk 1))
theorem kit_ve (T : Tx K mg) {k : Nat} (hk : k < 21) : PySem.W.kitOne K (.ref (cs T k)) (.type "ValueError") = some false := kit_sub (by decide +kernel) (Option.some.inj (sub_more T hk 2))
theorem kit_le (T : Tx K mg) {k : Nat} (hk : k < 21) : PySem.W.kitOne K (.ref (cs T k)) (.type "LookupError") = some false := kit_sub (by decide +kernel) (Option.some.inj (sub_more T hk 3))
theorem kit_te (T : Tx K mg) {k : Nat} (hk : k < 21) : PySem.W.kitOne K (.ref (cs T k)) (.type "TypeError") = some false := kit_sub (by decide +kernel) (Option.some.inj (sub_more T hk 4))
theorem kit_bl (T : Tx K mg) {k : Nat} (hk : k < 21) : PySem.W.kitOne K (.ref (cs T k)) (.type "bool") = some false := kit_sub (by decide +kernel) (Option.some.inj (sub_more T hk 5))
end
theorem fm_nonneg (a : Int) {b : Int} (h : 0 < b) : 0 ≤ a.fmod b := Int.fmod_nonneg_of_pos a h
theorem fm_lt (a : Int) {b : Int} (h : 0 < b) : a.fmod b < b := Int.fmod_lt_of_pos a h
theorem atI_ints {ns : List Int} {a : Int} (h0 : 0 ≤ a) (h1 : a < ns.length) : ∃ n, atI (ns.map V.int) a = some (V.int n) := by
  obtain ⟨j, rfl⟩ := Int.eq_ofNat_of_zero_le h0
  have hj : j < ns.length := by exact_mod_cast h1
  exact ⟨ns[j], atI_nat (by rw [List.getElem?_map, List.getElem?_eq_getElem hj]; rfl)⟩
/-! ### the pool -/
def PoolAt (H : Hp) (p : Addr) : Prop := ∃ (gl sl : Addr) (gs ss : List Int) (b c : Int), H p = some (.lst [.ref gl, .ref sl, .int b, .int c]) ∧ H gl = some (.lst (gs.map V.int)) ∧ H sl = some (.lst (ss.map V.int))
theorem PoolAt.same {H H' : Hp} {p : Addr} (h : PoolAt H p) (s : Same H H') : PoolAt H' p := by
  obtain ⟨gl, sl, gs, ss, b, c, h1, h2, h3⟩ := h
  exact ⟨gl, sl, gs, ss, b, c, s _ _ h1, s _ _ h2, s _ _ h3⟩
theorem ints_ne {xs : List Int} {a : Addr} {r : List V} : xs.map V.int ≠ .ref a :: r := by
  cases xs with
  | nil => intro z; cases z
  | cons x t => intro z; cases z
def spDraw : Sp := fun vs H Q _ => ∃ (p : Addr) (m : Int), vs = [.ref p, .int m] ∧ PoolAt H p ∧ 0 < m ∧ m < 1073741824 ∧
  ∀ H' (r : Int), Ex p H H' → PoolAt H' p → 0 ≤ r → r < m → Q (.int r) H'
def spPick : Sp := fun vs H Q _ => ∃ (p q : Addr) (xs : List V), vs = [.ref p, .ref q] ∧ PoolAt H p ∧ q ≠ p ∧ H q = some (.lst xs) ∧ 0 < xs.length ∧ xs.length < 1000 ∧
  ∀ H' x, Ex p H H' → PoolAt H' p → x ∈ xs → Q x H'
def spSame (C : Addr) : Sp := fun vs H Q _ => ∃ v, vs = [v, v] ∧ Thg C H v ∧ Q (.bl true) H
theorem cut_ints (ns : List Int) (lo hi : Option Int) : ∃ ms : List Int, cutV (ns.map V.int) lo hi = ms.map V.int := by
  unfold cutV
  exact ⟨_, by rw [← List.map_drop, ← List.map_take]⟩
section
variable {P : Program} {w : World} {K : PySem.W.Frag} {mg : Str → Option Value} {base : Heap}
theorem ok_l_draw (T : Tx K mg) : FnOk P w K mg base CX0 1 T.f_l_draw T.fd_l_draw P_l_draw spDraw := by
  refine T.F_l_draw.ok sc_l_draw (fun vs H Q E h => ?_) (fun cdv A outer s H vs Q E hr h => ?_)
  · obtain ⟨p, m, rfl, _⟩ := h
    rfl
  · obtain ⟨p, m, rfl, hst, hm, hm2, k⟩ := h
    refine ⟨_, (C8.pss_cut (ps_if (PW.pt (pw_and (pt_cmpR op_eq (pe_ix (ix_listK (K := K) rfl) (pv 0) pe_int (fun _ _ => rfl)) pe_int (nomark _)) (pw_and1 (pt_cmpR op_gt (pe_callB (call_len_seqK (K := K) rfl) rfl T.n_len (by decide +kernel) (pa_cons (pe_ix (ix_listK (K := K) rfl) (pv 0) pe_int (fun _ _ => rfl)) pa_nil)) pe_int (nomark _))))) (pss_cons (ps_set (i := 2) sc_l_draw.nd rfl (Or.inl rfl) (pe_ix (ix_listK (K := K) rfl) (pv 0) pe_int (fun _ _ => rfl)))
        (pss_cons (ps_asg (pe_ix (ix_listK (K := K) rfl) (pv 2) pe_int (fun _ _ => rfl)) (pg_sub (pv 0) pe_int set_list))
        (pss_one (ps_asg (pe_slice (sl_listK (K := K) rfl) (pv 2) (po_some pe_int) po_none) (pg_sub (pv 0) pe_int set_list))))) pss_nil)
        (C8.pss_cut (ps_if (pt_cmpR op_gt (pe_ix (ix_listK (K := K) rfl) (pv 0) pe_int (fun _ _ => rfl)) pe_int (nomark _)) (pss_cons (ps_set (i := 3) sc_l_draw.nd rfl (Or.inl rfl) (pe_op op_modN (pe_callTy call_int1 rfl T.n_int (by decide +kernel) (pa_cons (pe_ix (ix_listK (K := K) rfl) (pv 0) pe_int (fun _ _ => rfl)) pa_nil)) (pv 1)))
        (pss_cons (ps_asg (pe_op op_fdivN (pe_ix (ix_listK (K := K) rfl) (pv 0) pe_int (fun _ _ => rfl)) (pv 1)) (pg_sub (pv 0) pe_int set_list))
        (pss_one (ps_ret (pv 3))))) pss_nil)
        (pss_cons (ps_asg (pe_op op_add (pe_ix (ix_listK (K := K) rfl) (pv 0) pe_int (fun _ _ => rfl)) pe_int) (pg_sub (pv 0) pe_int set_list))
        (pss_cons (ps_set (i := 4) sc_l_draw.nd rfl (Or.inl rfl) pe_int)
        (C8.pss_cut (ps_if (pt_cmpR op_gt (pe_callB (call_len_seqK (K := K) rfl) rfl T.n_len (by decide +kernel) (pa_cons (pe_ix (ix_listK (K := K) rfl) (pv 0) pe_int (fun _ _ => rfl)) pa_nil)) pe_int (nomark _)) (pss_one (ps_set (i := 4) sc_l_draw.nd rfl (Or.inl rfl) (pe_ix (ix_listK (K := K) rfl) (pe_ix (ix_listK (K := K) rfl) (pv 0) pe_int (fun _ _ => rfl)) (pe_op op_modN (pe_callTy call_int1 rfl T.n_int (by decide +kernel) (pa_cons (pe_ix (ix_listK (K := K) rfl) (pv 0) pe_int (fun _ _ => rfl)) pa_nil)) (pe_callB (call_len_seqK (K := K) rfl) rfl T.n_len (by decide +kernel) (pa_cons (pe_ix (ix_listK (K := K) rfl) (pv 0) pe_int (fun _ _ => rfl)) pa_nil))) (fun _ _ => rfl)))) pss_nil)
        (pss_cons (ps_set (i := 5) sc_l_draw.nd rfl (Or.inl rfl) (pe_op op_modN (pe_callTy call_int1 rfl T.n_int (by decide +kernel) (pa_cons (pe_op op_mul (pe_op op_add (pe_op op_add (pv 4) (pe_op op_mul pe_int (pe_ix (ix_listK (K := K) rfl) (pv 0) pe_int (fun _ _ => rfl)))) pe_int) pe_int) pa_nil)) pe_int))
        (pss_cons (ps_set (i := 5) sc_l_draw.nd rfl (Or.inl rfl) (pe_op op_modN (pe_callTy call_int1 rfl T.n_int (by decide +kernel) (pa_cons (pe_op op_mul (pv 5) (pe_op op_add (pe_op op_fdivN (pv 5) pe_int) pe_int)) pa_nil)) pe_int))
        (pss_cons (ps_set (i := 5) sc_l_draw.nd rfl (Or.inl rfl) (pe_op op_modN (pe_callTy call_int1 rfl T.n_int (by decide +kernel) (pa_cons (pe_op op_mul (pv 5) (pe_op op_add (pe_op op_fdivN (pv 5) pe_int) pe_int)) pa_nil)) pe_int))
        (pss_one (ps_ret (pe_op op_modN (pe_callTy call_int1 rfl T.n_int (by decide +kernel) (pa_cons (pe_op op_fdivN (pv 5) pe_int) pa_nil)) (pv 1)))))))))))), ?_⟩
    obtain ⟨gl, sl, gs, ss, b, c, hp, hg, hs⟩ := hst
    have npg : gl ≠ p := fun q => by
      rw [q, hp] at hg
      injection hg with hg
      injection hg with hg
      exact ints_ne hg.symm
    have nps : sl ≠ p := fun q => by
      rw [q, hp] at hs
      injection hs with hs
      injection hs with hs
      exact ints_ne hs.symm
    refine ⟨fun σ' H' => (∃ v, σ' = [some (.ref p), some (.int m), v, none, none, none]) ∧ Ex p H H' ∧ PoolAt H' p, ?_, ?_⟩
    · refine ⟨_, rfl, _, _, _, _, rfl, rfl, SqL.of hp, rfl, rfl, _, rfl, ?_⟩
      refine ite2 (fun c1 => ?_) (fun c1 => ?_)
      · refine ⟨_, rfl, _, _, _, _, rfl, rfl, SqL.of hp, rfl, gl, _, rfl, .inl (SqL.of hg), _, _, rfl, rfl, _, rfl, ?_⟩
        refine ite2 (fun c2 => ?_) (fun c2 => ?_)
        · rw [List.length_map] at c2
          obtain ⟨n, hn⟩ := atI_ints (ns := gs) (Int.le_refl 0) (by simpa using c2)
          refine ⟨_, rfl, _, _, _, _, rfl, rfl, SqL.of hp, rfl, ?_⟩
          refine ⟨_, rfl, gl, _, _, _, rfl, rfl, SqL.of hg, hn, _, rfl, p, _, _, _, rfl, rfl, hp, rfl, ?_⟩
          refine ⟨_, rfl, _, rfl, gl, gs.map V.int, rfl, SqL.of (by rw [upd_ne npg]; exact hg), fun q hq => ?_⟩
          have hqp : q ≠ p := hp_ne upd_same hq
          refine ⟨_, rfl, p, _, _, _, rfl, rfl, by rw [upd_ne hqp.symm]; exact upd_same, rfl, ?_⟩
          obtain ⟨ms, hms⟩ := cut_ints gs (some 1) none
          refine ⟨⟨_, rfl⟩, ?_, q, sl, ms, ss, _, _, upd_same, ?_, ?_⟩
          · intro z o hz e
            have e1 : upd H p (.lst [.ref gl, .ref sl, .int n, .int c]) z = some o := by rw [upd_ne hz]; exact e
            rw [upd_ne hz, upd_ne (ne_of_none e1 hq)]
            exact e1
          · rw [upd_ne hqp, upd_same, hms]
          · have e1 : upd H p (.lst [.ref gl, .ref sl, .int n, .int c]) sl = some (.lst (ss.map V.int)) := by rw [upd_ne nps]; exact hs
            rw [upd_ne nps, upd_ne (ne_of_none e1 hq)]
            exact e1
        · exact ⟨⟨_, rfl⟩, Ex.refl _ _, gl, sl, gs, ss, b, c, hp, hg, hs⟩
      · exact iteF ⟨⟨_, rfl⟩, Ex.refl _ _, gl, sl, gs, ss, b, c, hp, hg, hs⟩
    · rintro σ' H1 ⟨⟨v, rfl⟩, x1, gl, sl, gs, ss, b, c, hp, hg, hs⟩
      have npg : gl ≠ p := fun q => by
        rw [q, hp] at hg
        injection hg with hg
        injection hg with hg
        exact ints_ne hg.symm
      have nps : sl ≠ p := fun q => by
        rw [q, hp] at hs
        injection hs with hs
        injection hs with hs
        exact ints_ne hs.symm
      refine ⟨fun σ' H' => (∃ v, σ' = [some (.ref p), some (.int m), v, none, none, none]) ∧ H' = H1, ?_, ?_⟩
      · refine ⟨_, rfl, _, _, _, _, rfl, rfl, SqL.of hp, rfl, _, _, rfl, rfl, _, rfl, ?_⟩
        refine ite2 (fun c1 => ?_) (fun c1 => ?_)
        · refine ⟨_, rfl, _, _, _, _, rfl, rfl, SqL.of hp, rfl, .inl ⟨_, rfl, _, rfl, _, _, rfl, rfl, by omega, ?_⟩⟩
          refine ⟨_, rfl, _, _, _, _, rfl, rfl, SqL.of hp, rfl, _, rfl, _, _, rfl, rfl, ⟨by omega, by omega⟩, _, rfl, p, _, _, _, rfl, rfl, hp, rfl, ?_⟩
          refine ⟨_, rfl, k _ _ (x1.trans (Ex.upd _)) ⟨gl, sl, gs, ss, _, _, upd_same, ?_, ?_⟩ (fm_nonneg _ hm) (fm_lt _ hm)⟩
          · rw [upd_ne npg]; exact hg
          · rw [upd_ne nps]; exact hs
        · exact ⟨⟨_, rfl⟩, rfl⟩
      · rintro σ' H' ⟨⟨v, rfl⟩, rfl⟩
        refine ⟨_, rfl, _, _, _, _, rfl, rfl, SqL.of hp, rfl, _, _, rfl, rfl, _, rfl, p, _, _, _, rfl, rfl, hp, rfl, ?_⟩
        have hg2 : ∀ o, upd H' p o gl = some (.lst (gs.map V.int)) := fun o => by rw [upd_ne npg]; exact hg
        have hs2 : ∀ o, upd H' p o sl = some (.lst (ss.map V.int)) := fun o => by rw [upd_ne nps]; exact hs
        refine ⟨fun σ2 H2 => (∃ n : Int, σ2 = [some (.ref p), some (.int m), v, none, some (.int n), none]) ∧ Ex p H' H2 ∧ ∃ c', H2 p = some (.lst [.ref gl, .ref sl, .int b, .int c']) ∧ H2 gl = some (.lst (gs.map V.int)) ∧ H2 sl = some (.lst (ss.map V.int)), ?_, ?_⟩
        · refine ⟨_, rfl, _, _, _, _, rfl, rfl, SqL.of upd_same, rfl, sl, _, rfl, .inl (SqL.of (hs2 _)), _, _, rfl, rfl, _, rfl, ?_⟩
          refine ite2 (fun c1 => ?_) (fun c1 => ?_)
          · rw [List.length_map] at c1
            have c2 : (0 : Int) < (ss.length : Int) := by simpa using c1
            refine ⟨_, rfl, _, _, _, _, rfl, rfl, SqL.of upd_same, rfl, _, rfl, _, _, _, _, rfl, rfl, SqL.of upd_same, rfl, .inl ⟨_, rfl, ?_⟩⟩
            obtain ⟨n, hn⟩ := atI_ints (ns := ss) (fm_nonneg (c + 1) c2) (fm_lt (c + 1) c2)
            refine ⟨_, rfl, _, _, _, _, rfl, rfl, SqL.of upd_same, rfl, sl, _, rfl, .inl (SqL.of (hs2 _)), _, _, rfl, rfl, by rw [List.length_map]; omega, ?_⟩
            exact ⟨_, _, _, _, rfl, rfl, SqL.of (hs2 _), by rw [List.length_map]; exact hn, ⟨_, rfl⟩, Ex.upd _, _, upd_same, hg2 _, hs2 _⟩
          · exact ⟨⟨_, rfl⟩, Ex.upd _, _, upd_same, hg2 _, hs2 _⟩
        · rintro σ2 H2 ⟨⟨n, rfl⟩, x2, c', hp2, hg3, hs3⟩
          have hx0 := fm_nonneg ((n + 8237 * c' + 1) * 48271) (b := 2147483647) (by decide)
          have hx1 := fm_lt ((n + 8237 * c' + 1) * 48271) (b := 2147483647) (by decide)
          refine ⟨_, rfl, _, rfl, _, _, _, _, rfl, rfl, SqL.of hp2, rfl, _, _, rfl, rfl, .inl (by decide), _, _, rfl, rfl, _, _, rfl, rfl, _, _, rfl, rfl, .inr (by decide), .inl ⟨_, rfl, _, _, rfl, rfl, (by decide : (2147483647 : Int) ≠ 0), ?_⟩⟩
          refine ⟨_, rfl, _, rfl, _, _, rfl, rfl, ⟨by decide, by decide⟩, _, _, rfl, rfl, _, _, rfl, rfl, .inl ⟨Int.lt_of_lt_of_le (by decide) hx0, Int.lt_trans hx1 (by decide)⟩, .inl ⟨_, rfl, _, _, rfl, rfl, (by decide : (2147483647 : Int) ≠ 0), ?_⟩⟩
          refine ⟨_, rfl, _, rfl, _, _, rfl, rfl, ⟨by decide, by decide⟩, _, _, rfl, rfl, _, _, rfl, rfl, .inl ⟨Int.lt_of_lt_of_le (by decide) (fm_nonneg _ (by decide)), Int.lt_trans (fm_lt _ (by decide)) (by decide)⟩, .inl ⟨_, rfl, _, _, rfl, rfl, (by decide : (2147483399 : Int) ≠ 0), ?_⟩⟩
          refine ⟨_, rfl, _, _, rfl, rfl, ⟨by decide, by decide⟩, .inl ⟨_, rfl, _, rfl, _, _, rfl, rfl, by omega, ?_⟩⟩
          exact k _ _ ((x1.trans (Ex.refl _ _)).trans x2) ⟨gl, sl, gs, ss, _, _, hp2, hg3, hs3⟩ (fm_nonneg _ hm) (fm_lt _ hm)
theorem ok_l_pick (T : Tx K mg) : FnOk P w K mg base CX0 2 T.f_l_pick T.fd_l_pick P_l_pick spPick := by
  have G_l_draw : FnOk P w K mg base CX0 1 T.f_l_draw T.fd_l_draw P_l_draw spDraw := ok_l_draw T
  refine T.F_l_pick.ok sc_l_pick (fun vs H Q E h => ?_) (fun cdv A outer s H vs Q E hr h => ?_)
  · obtain ⟨p, q, xs, rfl, _⟩ := h
    rfl
  · obtain ⟨p, q, xs, rfl, hst, hn, hq, h0, h1, k⟩ := h
    refine ⟨_, (pss_one (ps_ret (pe_ix (ix_listK (K := K) rfl) (pv 1) (pe_call G_l_draw (hr.mono (by decide)) rfl T.m_l_draw T.F_l_draw.kp T.b_l_draw .nil pass0 (pa_cons (pv 0) (pa_cons (pe_callB (call_len_seqK (K := K) rfl) rfl T.n_len (by decide +kernel) (pa_cons (pv 1) pa_nil)) pa_nil))) (fun _ _ => rfl)))), ?_⟩
    refine ⟨_, rfl, _, rfl, _, rfl, q, xs, rfl, .inl (SqL.of hq), p, _, rfl, hst, by omega, by omega, fun H' r x st r0 r1 => ?_⟩
    obtain ⟨j, rfl⟩ := Int.eq_ofNat_of_zero_le r0
    have hj : j < xs.length := by exact_mod_cast r1
    refine ⟨q, xs, _, _, rfl, rfl, SqL.of (x _ _ hn hq), atI_nat (List.getElem?_eq_getElem hj), ?_⟩
    exact k _ _ x st (List.getElem_mem hj)
theorem ok_l_same (T : Tx K mg) : FnOk P w K mg base CX0 1 T.f_l_same T.fd_l_same P_l_same (spSame T.C_Stuck) := by
  refine T.F_l_same.ok sc_l_same (fun vs H Q E h => ?_) (fun cdv A outer s H vs Q E hr h => ?_)
  · obtain ⟨v, rfl, _⟩ := h
    rfl
  · obtain ⟨v, rfl, ht, k⟩ := h
    refine ⟨_, (pss_one (ps_ret (pe_and (pe_cmpR op_eq (pe_callB (call_isiZ (K := K) rfl) rfl T.n_isinstance (by decide +kernel) (pa_cons (pv 0) (pa_cons (pe_bltn (v := V.ty "bool") (u := .type "bool") rfl T.n_bool (by decide +kernel) rfl) pa_nil))) (pe_callB (call_isiZ (K := K) rfl) rfl T.n_isinstance (by decide +kernel) (pa_cons (pv 1) (pa_cons (pe_bltn (v := V.ty "bool") (u := .type "bool") rfl T.n_bool (by decide +kernel) rfl) pa_nil))) (nomark _)) (pe_one (pe_cmpR (op_orX op_eq (op_orX (op_eqD hr.units) (op_orX (op_eqV hr.units) (op_eqX hr.units0)))) (pv 0) (pv 1) (nomark _)))))), ?_⟩
    have hK : ∃ t b, TyZ K H v t ∧ PySem.W.kitOne K t (.type "bool") = some b := by
      cases ht with
      | non => exact ⟨_, false, .x (.base .non), kit_ty (by decide +kernel)⟩
      | bl b => exact ⟨_, true, .x (.base (.bl b)), kit_ty (by decide +kernel)⟩
      | int i => exact ⟨_, false, .x (.base (.int i)), kit_ty (by decide +kernel)⟩
      | str x => exact ⟨_, false, .x (.base (.str x)), kit_ty (by decide +kernel)⟩
      | tup e => exact ⟨_, false, .x (.base (.tup e)), kit_ty (by decide +kernel)⟩
      | lst e => exact ⟨_, false, .x (.base (.lst e)), kit_ty (by decide +kernel)⟩
      | dic e => exact ⟨_, false, .x (.base (.dK e)), kit_ty (by decide +kernel)⟩
      | exo e => exact ⟨_, false, .exo e T.E_Stuck, kit_bl T (k := 2) (by decide)⟩
    obtain ⟨t, b, hty, hk⟩ := hK
    refine ⟨_, rfl, _, _, _, _, b, rfl, .ty "bool", hty, hk, _, rfl, _, _, _, _, b, rfl, .ty "bool", hty, hk, rfl, true, congrArg V.bl (decide_eq_true rfl), ?_⟩
    refine ⟨_, rfl, _, rfl, ?_⟩
    cases ht with
    | non => exact .inl ⟨rfl, by rw [decide_eq_true rfl]; exact k⟩
    | bl b => exact .inl ⟨rfl, by rw [decide_eq_true rfl]; exact k⟩
    | int i => exact .inl ⟨rfl, by rw [decide_eq_true rfl]; exact k⟩
    | str x => exact .inl ⟨rfl, by rw [decide_eq_true rfl]; exact k⟩
    | tup e => exact .inr (.inl ⟨_, _, .tup (SqT.of e) (.cons (.int _) (.cons (.int _) .nil)), .tup (SqT.of e) (.cons (.int _) (.cons (.int _) .nil)), by decide, by decide, by rw [show PyData.eqv _ _ = true from by decide]; exact k⟩)
    | lst e => exact .inr (.inl ⟨_, _, .lst (SqL.of e) (.cons (.int _) .nil), .lst (SqL.of e) (.cons (.int _) .nil), by decide, by decide, by rw [show PyData.eqv _ _ = true from by decide]; exact k⟩)
    | dic e => exact .inr (.inr (.inl ⟨0, by decide, .inr ⟨_, _, [], [], rfl, rfl, e, e, rfl, fun p hp => (nomatch hp)⟩, k⟩))
    | exo e => exact .inr (.inr (.inr ⟨_, _, rfl, rfl, e, T.eq_Stuck, T.E_Stuck.hm, k⟩))
end
end J

set_option Elab.async false
set_option linter.all false
set_option maxRecDepth 100000
set_option maxHeartbeats 4000000
namespace J
open PySem L2
theorem le_size {n : Nat} (h : n ≤ 100000) : n ≤ sizeLine := Nat.le_trans h (by decide)
theorem lt_size {n : Nat} (h : n ≤ 100000) : n < sizeLine := Nat.lt_of_le_of_lt h (by decide)
section
variable {P : Program} {w : World} {K : PySem.W.Frag} {mg : Str → Option Value} {base : Heap}
def ErrAt (T : Tx K mg) (H : Hp) (k : Nat) (v : V) : Prop := ∃ a, v = .ref a ∧ (H a = some (ExO (.ref (cs T k)) a) ∨ ∃ d fs, H a = some (ExD (cs T k) d a) ∧ H d = some (.xd fs))
def Err1 (T : Tx K mg) (H : Hp) (k : Nat) (x v : V) : Prop := ∃ a d fs, v = .ref a ∧ H a = some (ExD (cs T k) d a) ∧ H d = some (.xd fs) ∧ List.lookup ("at" : Str) fs = some x
theorem ErrAt.same {T : Tx K mg} {H H' : Hp} {k : Nat} {v : V} (h : ErrAt T H k v) (s : Same H H') : ErrAt T H' k v := by
  obtain ⟨a, rfl, h | ⟨d, fs, h1, h2⟩⟩ := h
  · exact ⟨a, rfl, .inl (s _ _ h)⟩
  · exact ⟨a, rfl, .inr ⟨d, fs, s _ _ h1, s _ _ h2⟩⟩
theorem Err1.same {T : Tx K mg} {H H' : Hp} {k : Nat} {x v : V} (h : Err1 T H k x v) (s : Same H H') : Err1 T H' k x v := by
  obtain ⟨a, d, fs, rfl, h1, h2, h3⟩ := h
  exact ⟨a, d, fs, rfl, s _ _ h1, s _ _ h2, h3⟩
theorem Err1.err {T : Tx K mg} {H : Hp} {k : Nat} {x v : V} (h : Err1 T H k x v) : ErrAt T H k v := by
  obtain ⟨a, d, fs, rfl, h1, h2, h3⟩ := h
  exact ⟨a, rfl, .inr ⟨d, fs, h1, h2⟩⟩
theorem ErrAt.ty {T : Tx K mg} {H : Hp} {k : Nat} {v : V} (hk : k < 21) (h : ErrAt T H k v) : TyZ K H v (.ref (cs T k)) := by
  obtain ⟨a, rfl, h | ⟨d, fs, h1, h2⟩⟩ := h
  · exact .exo h (E_all T k hk)
  · exact .exd h1 h2 (E_all T k hk)
theorem xf_all (T : Tx K mg) {k : Nat} (hk : k < 21) : XfC K (cs T k) := ⟨(E_all T k hk).hg, (E_all T k hk).hk, (E_all T k hk).hs, (E_all T k hk).hd⟩
def kindsOf (k : Nat) : List V := (List.range 21).map fun j => V.bl (j == k)
def spKinds (T : Tx K mg) : Sp := fun vs H Q _ => ∃ (v : V) (k : Nat), vs = [v] ∧ k < 21 ∧ ErrAt T H k v ∧ ∀ (q : Addr) H', H' q = some (.lst (kindsOf k)) → Same H H' → Q (.ref q) H'
def spPlain (T : Tx K mg) : Sp := fun vs H Q _ => vs = [] ∧ ∀ (q : Addr) (xs : List V) H', H' q = some (.lst xs) → xs.length = 12 → (∀ i v, xs[i]? = some v → ErrAt T H' i v) → Same H H' → Q (.ref q) H'
def spPlace (T : Tx K mg) : Sp := fun vs H Q _ => ∃ x, vs = [x] ∧ ∀ (q : Addr) (xs : List V) H', H' q = some (.lst xs) → xs.length = 5 → (∀ i v, xs[i]? = some v → Err1 T H' (12 + i) x v) → Same H H' → Q (.ref q) H'
theorem ok_l_kinds_of (T : Tx K mg) : FnOk P w K mg base CX0 1 T.f_l_kinds_of T.fd_l_kinds_of P_l_kinds_of (spKinds T) := by
  refine T.F_l_kinds_of.ok sc_l_kinds_of (fun vs H Q E h => ?_) (fun cdv A outer s H vs Q E hr h => ?_)
  · obtain ⟨v, k, rfl, _⟩ := h
    rfl
  · obtain ⟨v, k, rfl, hk, he, kq⟩ := h
    refine ⟨_, (pss_cons (ps_set (i := 1) sc_l_kinds_of.nd rfl (Or.inl rfl) (pe_lst (pa_cons (pe_callB (call_isiZ (K := K) rfl) rfl T.n_isinstance (by decide +kernel) (pa_cons (pv 0) (pa_cons (pe_glob (v := V.ref T.C_UnknownState) rfl T.g_UnknownState rfl) pa_nil))) (pa_cons (pe_callB (call_isiZ (K := K) rfl) rfl T.n_isinstance (by decide +kernel) (pa_cons (pv 0) (pa_cons (pe_glob (v := V.ref T.C_InvalidText) rfl T.g_InvalidText rfl) pa_nil))) (pa_cons (pe_callB (call_isiZ (K := K) rfl) rfl T.n_isinstance (by decide +kernel) (pa_cons (pv 0) (pa_cons (pe_glob (v := V.ref T.C_Stuck) rfl T.g_Stuck rfl) pa_nil))) pa_nil)))))
        (pss_cons (ps_set (i := 1) sc_l_kinds_of.nd rfl (Or.inl rfl) (pe_op op_cat (pv 1) (pe_lst (pa_cons (pe_callB (call_isiZ (K := K) rfl) rfl T.n_isinstance (by decide +kernel) (pa_cons (pv 0) (pa_cons (pe_glob (v := V.ref T.C_NotABook) rfl T.g_NotABook rfl) pa_nil))) (pa_cons (pe_callB (call_isiZ (K := K) rfl) rfl T.n_isinstance (by decide +kernel) (pa_cons (pv 0) (pa_cons (pe_glob (v := V.ref T.C_NotPlain) rfl T.g_NotPlain rfl) pa_nil))) (pa_cons (pe_callB (call_isiZ (K := K) rfl) rfl T.n_isinstance (by decide +kernel) (pa_cons (pv 0) (pa_cons (pe_glob (v := V.ref T.C_NotFull) rfl T.g_NotFull rfl) pa_nil))) pa_nil))))))
        (pss_cons (ps_set (i := 1) sc_l_kinds_of.nd rfl (Or.inl rfl) (pe_op op_cat (pv 1) (pe_lst (pa_cons (pe_callB (call_isiZ (K := K) rfl) rfl T.n_isinstance (by decide +kernel) (pa_cons (pv 0) (pa_cons (pe_glob (v := V.ref T.C_NotOneWay) rfl T.g_NotOneWay rfl) pa_nil))) (pa_cons (pe_callB (call_isiZ (K := K) rfl) rfl T.n_isinstance (by decide +kernel) (pa_cons (pv 0) (pa_cons (pe_glob (v := V.ref T.C_NotAWire) rfl T.g_NotAWire rfl) pa_nil))) pa_nil)))))
        (pss_cons (ps_set (i := 1) sc_l_kinds_of.nd rfl (Or.inl rfl) (pe_op op_cat (pv 1) (pe_lst (pa_cons (pe_callB (call_isiZ (K := K) rfl) rfl T.n_isinstance (by decide +kernel) (pa_cons (pv 0) (pa_cons (pe_glob (v := V.ref T.C_Unlike) rfl T.g_Unlike rfl) pa_nil))) (pa_cons (pe_callB (call_isiZ (K := K) rfl) rfl T.n_isinstance (by decide +kernel) (pa_cons (pv 0) (pa_cons (pe_glob (v := V.ref T.C_InvalidNumber) rfl T.g_InvalidNumber rfl) pa_nil))) (pa_cons (pe_callB (call_isiZ (K := K) rfl) rfl T.n_isinstance (by decide +kernel) (pa_cons (pv 0) (pa_cons (pe_glob (v := V.ref T.C_UnknownWord) rfl T.g_UnknownWord rfl) pa_nil))) pa_nil))))))
        (pss_cons (ps_set (i := 1) sc_l_kinds_of.nd rfl (Or.inl rfl) (pe_op op_cat (pv 1) (pe_lst (pa_cons (pe_callB (call_isiZ (K := K) rfl) rfl T.n_isinstance (by decide +kernel) (pa_cons (pv 0) (pa_cons (pe_glob (v := V.ref T.C_InvalidWord) rfl T.g_InvalidWord rfl) pa_nil))) (pa_cons (pe_callB (call_isiZ (K := K) rfl) rfl T.n_isinstance (by decide +kernel) (pa_cons (pv 0) (pa_cons (pe_glob (v := V.ref T.C_InvalidRow) rfl T.g_InvalidRow rfl) pa_nil))) (pa_cons (pe_callB (call_isiZ (K := K) rfl) rfl T.n_isinstance (by decide +kernel) (pa_cons (pv 0) (pa_cons (pe_glob (v := V.ref T.C_InvalidLengths) rfl T.g_InvalidLengths rfl) pa_nil))) pa_nil))))))
        (pss_cons (ps_set (i := 1) sc_l_kinds_of.nd rfl (Or.inl rfl) (pe_op op_cat (pv 1) (pe_lst (pa_cons (pe_callB (call_isiZ (K := K) rfl) rfl T.n_isinstance (by decide +kernel) (pa_cons (pv 0) (pa_cons (pe_glob (v := V.ref T.C_InvalidWeights) rfl T.g_InvalidWeights rfl) pa_nil))) (pa_cons (pe_callB (call_isiZ (K := K) rfl) rfl T.n_isinstance (by decide +kernel) (pa_cons (pv 0) (pa_cons (pe_glob (v := V.ref T.C_InvalidBars) rfl T.g_InvalidBars rfl) pa_nil))) (pa_cons (pe_callB (call_isiZ (K := K) rfl) rfl T.n_isinstance (by decide +kernel) (pa_cons (pv 0) (pa_cons (pe_glob (v := V.ref T.C_InvalidChoice) rfl T.g_InvalidChoice rfl) pa_nil))) pa_nil))))))
        (pss_cons (ps_set (i := 1) sc_l_kinds_of.nd rfl (Or.inl rfl) (pe_op op_cat (pv 1) (pe_lst (pa_cons (pe_callB (call_isiZ (K := K) rfl) rfl T.n_isinstance (by decide +kernel) (pa_cons (pv 0) (pa_cons (pe_glob (v := V.ref T.C_InvalidLoom) rfl T.g_InvalidLoom rfl) pa_nil))) (pa_cons (pe_callB (call_isiZ (K := K) rfl) rfl T.n_isinstance (by decide +kernel) (pa_cons (pv 0) (pa_cons (pe_glob (v := V.ref T.C_InvalidPage) rfl T.g_InvalidPage rfl) pa_nil))) (pa_cons (pe_callB (call_isiZ (K := K) rfl) rfl T.n_isinstance (by decide +kernel) (pa_cons (pv 0) (pa_cons (pe_glob (v := V.ref T.C_LimitExceeded) rfl T.g_LimitExceeded rfl) pa_nil))) pa_nil))))))
        (pss_one (ps_ret (pe_op op_cat (pv 1) (pe_lst (pa_cons (pe_callB (call_isiZ (K := K) rfl) rfl T.n_isinstance (by decide +kernel) (pa_cons (pv 0) (pa_cons (pe_glob (v := V.ref T.C_NothingLeft) rfl T.g_NothingLeft rfl) pa_nil))) pa_nil)))))))))))), ?_⟩
    have sm0 : Same H H := fun _ _ e => e
    have ht : TyZ K H v (.ref (cs T k)) := he.ty hk
    refine ⟨_, rfl, _, _, _, _, _, rfl, .own _, he.same sm0 |>.ty hk, kit_all T hk (j := 0) (by decide), ?_⟩
    refine ⟨_, rfl, _, _, _, _, _, rfl, .own _, he.same sm0 |>.ty hk, kit_all T hk (j := 1) (by decide), ?_⟩
    refine ⟨_, rfl, _, _, _, _, _, rfl, .own _, he.same sm0 |>.ty hk, kit_all T hk (j := 2) (by decide), ?_⟩
    refine ⟨le_size (by simp), fun a1 h1 => ?_⟩
    have s1 : Same H (upd H a1 (HO.lst [V.bl (0 == k), V.bl (1 == k), V.bl (2 == k)])) := Same.new _ h1
    have g1 : (upd H a1 (HO.lst [V.bl (0 == k), V.bl (1 == k), V.bl (2 == k)])) a1 = some (HO.lst [V.bl (0 == k), V.bl (1 == k), V.bl (2 == k)]) := upd_same
    generalize upd H a1 (HO.lst [V.bl (0 == k), V.bl (1 == k), V.bl (2 == k)]) = H1 at *
    have sm1 : Same H H1 := sm0.trans s1
    refine ⟨_, rfl, ?_⟩
    refine ⟨_, rfl, _, _, _, _, _, rfl, .own _, he.same sm1 |>.ty hk, kit_all T hk (j := 3) (by decide), ?_⟩
    refine ⟨_, rfl, _, _, _, _, _, rfl, .own _, he.same sm1 |>.ty hk, kit_all T hk (j := 4) (by decide), ?_⟩
    refine ⟨_, rfl, _, _, _, _, _, rfl, .own _, he.same sm1 |>.ty hk, kit_all T hk (j := 5) (by decide), ?_⟩
    refine ⟨le_size (by simp), fun a2 h2 => ?_⟩
    have s2 : Same H1 (upd H1 a2 (HO.lst [V.bl (3 == k), V.bl (4 == k), V.bl (5 == k)])) := Same.new _ h2
    have g2 : (upd H1 a2 (HO.lst [V.bl (3 == k), V.bl (4 == k), V.bl (5 == k)])) a2 = some (HO.lst [V.bl (3 == k), V.bl (4 == k), V.bl (5 == k)]) := upd_same
    generalize upd H1 a2 (HO.lst [V.bl (3 == k), V.bl (4 == k), V.bl (5 == k)]) = H2 at *
    replace g1 := s2 _ _ g1
    have sm2 : Same H H2 := sm1.trans s2
    refine ⟨_, _, _, _, rfl, rfl, g1, g2, le_size (by simp), fun a3 h3 => ?_⟩
    dsimp only [List.cons_append, List.nil_append]
    have s3 : Same H2 (upd H2 a3 (HO.lst [V.bl (0 == k), V.bl (1 == k), V.bl (2 == k), V.bl (3 == k), V.bl (4 == k), V.bl (5 == k)])) := Same.new _ h3
    have g3 : (upd H2 a3 (HO.lst [V.bl (0 == k), V.bl (1 == k), V.bl (2 == k), V.bl (3 == k), V.bl (4 == k), V.bl (5 == k)])) a3 = some (HO.lst [V.bl (0 == k), V.bl (1 == k), V.bl (2 == k), V.bl (3 == k), V.bl (4 == k), V.bl (5 == k)]) := upd_same
    generalize upd H2 a3 (HO.lst [V.bl (0 == k), V.bl (1 == k), V.bl (2 == k), V.bl (3 == k), V.bl (4 == k), V.bl (5 == k)]) = H3 at *
    replace g1 := s3 _ _ g1
    replace g2 := s3 _ _ g2
    have sm3 : Same H H3 := sm2.trans s3
    refine ⟨_, rfl, ?_⟩
    refine ⟨_, rfl, _, _, _, _, _, rfl, .own _, he.same sm3 |>.ty hk, kit_all T hk (j := 6) (by decide), ?_⟩
    refine ⟨_, rfl, _, _, _, _, _, rfl, .own _, he.same sm3 |>.ty hk, kit_all T hk (j := 7) (by decide), ?_⟩
    refine ⟨le_size (by simp), fun a4 h4 => ?_⟩
    have s4 : Same H3 (upd H3 a4 (HO.lst [V.bl (6 == k), V.bl (7 == k)])) := Same.new _ h4
    have g4 : (upd H3 a4 (HO.lst [V.bl (6 == k), V.bl (7 == k)])) a4 = some (HO.lst [V.bl (6 == k), V.bl (7 == k)]) := upd_same
    generalize upd H3 a4 (HO.lst [V.bl (6 == k), V.bl (7 == k)]) = H4 at *
    replace g1 := s4 _ _ g1
    replace g2 := s4 _ _ g2
    replace g3 := s4 _ _ g3
    have sm4 : Same H H4 := sm3.trans s4
    refine ⟨_, _, _, _, rfl, rfl, g3, g4, le_size (by simp), fun a5 h5 => ?_⟩
    dsimp only [List.cons_append, List.nil_append]
    have s5 : Same H4 (upd H4 a5 (HO.lst [V.bl (0 == k), V.bl (1 == k), V.bl (2 == k), V.bl (3 == k), V.bl (4 == k), V.bl (5 == k), V.bl (6 == k), V.bl (7 == k)])) := Same.new _ h5
    have g5 : (upd H4 a5 (HO.lst [V.bl (0 == k), V.bl (1 == k), V.bl (2 == k), V.bl (3 == k), V.bl (4 == k), V.bl (5 == k), V.bl (6 == k), V.bl (7 == k)])) a5 = some (HO.lst [V.bl (0 == k), V.bl (1 == k), V.bl (2 == k), V.bl (3 == k), V.bl (4 == k), V.bl (5 == k), V.bl (6 == k), V.bl (7 == k)]) := upd_same
    generalize upd H4 a5 (HO.lst [V.bl (0 == k), V.bl (1 == k), V.bl (2 == k), V.bl (3 == k), V.bl (4 == k), V.bl (5 == k), V.bl (6 == k), V.bl (7 == k)]) = H5 at *
    replace g1 := s5 _ _ g1
    replace g2 := s5 _ _ g2
    replace g3 := s5 _ _ g3
    replace g4 := s5 _ _ g4
    have sm5 : Same H H5 := sm4.trans s5
    refine ⟨_, rfl, ?_⟩
    refine ⟨_, rfl, _, _, _, _, _, rfl, .own _, he.same sm5 |>.ty hk, kit_all T hk (j := 8) (by decide), ?_⟩
    refine ⟨_, rfl, _, _, _, _, _, rfl, .own _, he.same sm5 |>.ty hk, kit_all T hk (j := 9) (by decide), ?_⟩
    refine ⟨_, rfl, _, _, _, _, _, rfl, .own _, he.same sm5 |>.ty hk, kit_all T hk (j := 10) (by decide), ?_⟩
    refine ⟨le_size (by simp), fun a6 h6 => ?_⟩
    have s6 : Same H5 (upd H5 a6 (HO.lst [V.bl (8 == k), V.bl (9 == k), V.bl (10 == k)])) := Same.new _ h6
    have g6 : (upd H5 a6 (HO.lst [V.bl (8 == k), V.bl (9 == k), V.bl (10 == k)])) a6 = some (HO.lst [V.bl (8 == k), V.bl (9 == k), V.bl (10 == k)]) := upd_same
    generalize upd H5 a6 (HO.lst [V.bl (8 == k), V.bl (9 == k), V.bl (10 == k)]) = H6 at *
    replace g1 := s6 _ _ g1
    replace g2 := s6 _ _ g2
    replace g3 := s6 _ _ g3
    replace g4 := s6 _ _ g4
    replace g5 := s6 _ _ g5
    have sm6 : Same H H6 := sm5.trans s6
    refine ⟨_, _, _, _, rfl, rfl, g5, g6, le_size (by simp), fun a7 h7 => ?_⟩
    dsimp only [List.cons_append, List.nil_append]
    have s7 : Same H6 (upd H6 a7 (HO.lst [V.bl (0 == k), V.bl (1 == k), V.bl (2 == k), V.bl (3 == k), V.bl (4 == k), V.bl (5 == k), V.bl (6 == k), V.bl (7 == k), V.bl (8 == k), V.bl (9 == k), V.bl (10 == k)])) := Same.new _ h7
    have g7 : (upd H6 a7 (HO.lst [V.bl (0 == k), V.bl (1 == k), V.bl (2 == k), V.bl (3 == k), V.bl (4 == k), V.bl (5 == k), V.bl (6 == k), V.bl (7 == k), V.bl (8 == k), V.bl (9 == k), V.bl (10 == k)])) a7 = some (HO.lst [V.bl (0 == k), V.bl (1 == k), V.bl (2 == k), V.bl (3 == k), V.bl (4 == k), V.bl (5 == k), V.bl (6 == k), V.bl (7 == k), V.bl (8 == k), V.bl (9 == k), V.bl (10 == k)]) := upd_same
    generalize upd H6 a7 (HO.lst [V.bl (0 == k), V.bl (1 == k), V.bl (2 == k), V.bl (3 == k), V.bl (4 == k), V.bl (5 == k), V.bl (6 == k), V.bl (7 == k), V.bl (8 == k), V.bl (9 == k), V.bl (10 == k)]) = H7 at *
    replace g1 := s7 _ _ g1
    replace g2 := s7 _ _ g2
    replace g3 := s7 _ _ g3
    replace g4 := s7 _ _ g4
    replace g5 := s7 _ _ g5
    replace g6 := s7 _ _ g6
    have sm7 : Same H H7 := sm6.trans s7
    refine ⟨_, rfl, ?_⟩
    refine ⟨_, rfl, _, _, _, _, _, rfl, .own _, he.same sm7 |>.ty hk, kit_all T hk (j := 11) (by decide), ?_⟩
    refine ⟨_, rfl, _, _, _, _, _, rfl, .own _, he.same sm7 |>.ty hk, kit_all T hk (j := 12) (by decide), ?_⟩
    refine ⟨_, rfl, _, _, _, _, _, rfl, .own _, he.same sm7 |>.ty hk, kit_all T hk (j := 13) (by decide), ?_⟩
    refine ⟨le_size (by simp), fun a8 h8 => ?_⟩
    have s8 : Same H7 (upd H7 a8 (HO.lst [V.bl (11 == k), V.bl (12 == k), V.bl (13 == k)])) := Same.new _ h8
    have g8 : (upd H7 a8 (HO.lst [V.bl (11 == k), V.bl (12 == k), V.bl (13 == k)])) a8 = some (HO.lst [V.bl (11 == k), V.bl (12 == k), V.bl (13 == k)]) := upd_same
    generalize upd H7 a8 (HO.lst [V.bl (11 == k), V.bl (12 == k), V.bl (13 == k)]) = H8 at *
    replace g1 := s8 _ _ g1
    replace g2 := s8 _ _ g2
    replace g3 := s8 _ _ g3
    replace g4 := s8 _ _ g4
    replace g5 := s8 _ _ g5
    replace g6 := s8 _ _ g6
    replace g7 := s8 _ _ g7
    have sm8 : Same H H8 := sm7.trans s8
    refine ⟨_, _, _, _, rfl, rfl, g7, g8, le_size (by simp), fun a9 h9 => ?_⟩
    dsimp only [List.cons_append, List.nil_append]
    have s9 : Same H8 (upd H8 a9 (HO.lst [V.bl (0 == k), V.bl (1 == k), V.bl (2 == k), V.bl (3 == k), V.bl (4 == k), V.bl (5 == k), V.bl (6 == k), V.bl (7 == k), V.bl (8 == k), V.bl (9 == k), V.bl (10 == k), V.bl (11 == k), V.bl (12 == k), V.bl (13 == k)])) := Same.new _ h9
    have g9 : (upd H8 a9 (HO.lst [V.bl (0 == k), V.bl (1 == k), V.bl (2 == k), V.bl (3 == k), V.bl (4 == k), V.bl (5 == k), V.bl (6 == k), V.bl (7 == k), V.bl (8 == k), V.bl (9 == k), V.bl (10 == k), V.bl (11 == k), V.bl (12 == k), V.bl (13 == k)])) a9 = some (HO.lst [V.bl (0 == k), V.bl (1 == k), V.bl (2 == k), V.bl (3 == k), V.bl (4 == k), V.bl (5 == k), V.bl (6 == k), V.bl (7 == k), V.bl (8 == k), V.bl (9 == k), V.bl (10 == k), V.bl (11 == k), V.bl (12 == k), V.bl (13 == k)]) := upd_same
    generalize upd H8 a9 (HO.lst [V.bl (0 == k), V.bl (1 == k), V.bl (2 == k), V.bl (3 == k), V.bl (4 == k), V.bl (5 == k), V.bl (6 == k), V.bl (7 == k), V.bl (8 == k), V.bl (9 == k), V.bl (10 == k), V.bl (11 == k), V.bl (12 == k), V.bl (13 == k)]) = H9 at *
    replace g1 := s9 _ _ g1
    replace g2 := s9 _ _ g2
    replace g3 := s9 _ _ g3
    replace g4 := s9 _ _ g4
    replace g5 := s9 _ _ g5
    replace g6 := s9 _ _ g6
    replace g7 := s9 _ _ g7
    replace g8 := s9 _ _ g8
    have sm9 : Same H H9 := sm8.trans s9
    refine ⟨_, rfl, ?_⟩
    refine ⟨_, rfl, _, _, _, _, _, rfl, .own _, he.same sm9 |>.ty hk, kit_all T hk (j := 14) (by decide), ?_⟩
    refine ⟨_, rfl, _, _, _, _, _, rfl, .own _, he.same sm9 |>.ty hk, kit_all T hk (j := 15) (by decide), ?_⟩
    refine ⟨_, rfl, _, _, _, _, _, rfl, .own _, he.same sm9 |>.ty hk, kit_all T hk (j := 16) (by decide), ?_⟩
    refine ⟨le_size (by simp), fun a10 h10 => ?_⟩
    have s10 : Same H9 (upd H9 a10 (HO.lst [V.bl (14 == k), V.bl (15 == k), V.bl (16 == k)])) := Same.new _ h10
    have g10 : (upd H9 a10 (HO.lst [V.bl (14 == k), V.bl (15 == k), V.bl (16 == k)])) a10 = some (HO.lst [V.bl (14 == k), V.bl (15 == k), V.bl (16 == k)]) := upd_same
    generalize upd H9 a10 (HO.lst [V.bl (14 == k), V.bl (15 == k), V.bl (16 == k)]) = H10 at *
    replace g1 := s10 _ _ g1
    replace g2 := s10 _ _ g2
    replace g3 := s10 _ _ g3
    replace g4 := s10 _ _ g4
    replace g5 := s10 _ _ g5
    replace g6 := s10 _ _ g6
    replace g7 := s10 _ _ g7
    replace g8 := s10 _ _ g8
    replace g9 := s10 _ _ g9
    have sm10 : Same H H10 := sm9.trans s10
    refine ⟨_, _, _, _, rfl, rfl, g9, g10, le_size (by simp), fun a11 h11 => ?_⟩
    dsimp only [List.cons_append, List.nil_append]
    have s11 : Same H10 (upd H10 a11 (HO.lst [V.bl (0 == k), V.bl (1 == k), V.bl (2 == k), V.bl (3 == k), V.bl (4 == k), V.bl (5 == k), V.bl (6 == k), V.bl (7 == k), V.bl (8 == k), V.bl (9 == k), V.bl (10 == k), V.bl (11 == k), V.bl (12 == k), V.bl (13 == k), V.bl (14 == k), V.bl (15 == k), V.bl (16 == k)])) := Same.new _ h11
    have g11 : (upd H10 a11 (HO.lst [V.bl (0 == k), V.bl (1 == k), V.bl (2 == k), V.bl (3 == k), V.bl (4 == k), V.bl (5 == k), V.bl (6 == k), V.bl (7 == k), V.bl (8 == k), V.bl (9 == k), V.bl (10 == k), V.bl (11 == k), V.bl (12 == k), V.bl (13 == k), V.bl (14 == k), V.bl (15 == k), V.bl (16 == k)])) a11 = some (HO.lst [V.bl (0 == k), V.bl (1 == k), V.bl (2 == k), V.bl (3 == k), V.bl (4 == k), V.bl (5 == k), V.bl (6 == k), V.bl (7 == k), V.bl (8 == k), V.bl (9 == k), V.bl (10 == k), V.bl (11 == k), V.bl (12 == k), V.bl (13 == k), V.bl (14 == k), V.bl (15 == k), V.bl (16 == k)]) := upd_same
    generalize upd H10 a11 (HO.lst [V.bl (0 == k), V.bl (1 == k), V.bl (2 == k), V.bl (3 == k), V.bl (4 == k), V.bl (5 == k), V.bl (6 == k), V.bl (7 == k), V.bl (8 == k), V.bl (9 == k), V.bl (10 == k), V.bl (11 == k), V.bl (12 == k), V.bl (13 == k), V.bl (14 == k), V.bl (15 == k), V.bl (16 == k)]) = H11 at *
    replace g1 := s11 _ _ g1
    replace g2 := s11 _ _ g2
    replace g3 := s11 _ _ g3
    replace g4 := s11 _ _ g4
    replace g5 := s11 _ _ g5
    replace g6 := s11 _ _ g6
    replace g7 := s11 _ _ g7
    replace g8 := s11 _ _ g8
    replace g9 := s11 _ _ g9
    replace g10 := s11 _ _ g10
    have sm11 : Same H H11 := sm10.trans s11
    refine ⟨_, rfl, ?_⟩
    refine ⟨_, rfl, _, _, _, _, _, rfl, .own _, he.same sm11 |>.ty hk, kit_all T hk (j := 17) (by decide), ?_⟩
    refine ⟨_, rfl, _, _, _, _, _, rfl, .own _, he.same sm11 |>.ty hk, kit_all T hk (j := 18) (by decide), ?_⟩
    refine ⟨_, rfl, _, _, _, _, _, rfl, .own _, he.same sm11 |>.ty hk, kit_all T hk (j := 19) (by decide), ?_⟩
    refine ⟨le_size (by simp), fun a12 h12 => ?_⟩
    have s12 : Same H11 (upd H11 a12 (HO.lst [V.bl (17 == k), V.bl (18 == k), V.bl (19 == k)])) := Same.new _ h12
    have g12 : (upd H11 a12 (HO.lst [V.bl (17 == k), V.bl (18 == k), V.bl (19 == k)])) a12 = some (HO.lst [V.bl (17 == k), V.bl (18 == k), V.bl (19 == k)]) := upd_same
    generalize upd H11 a12 (HO.lst [V.bl (17 == k), V.bl (18 == k), V.bl (19 == k)]) = H12 at *
    replace g1 := s12 _ _ g1
    replace g2 := s12 _ _ g2
    replace g3 := s12 _ _ g3
    replace g4 := s12 _ _ g4
    replace g5 := s12 _ _ g5
    replace g6 := s12 _ _ g6
    replace g7 := s12 _ _ g7
    replace g8 := s12 _ _ g8
    replace g9 := s12 _ _ g9
    replace g10 := s12 _ _ g10
    replace g11 := s12 _ _ g11
    have sm12 : Same H H12 := sm11.trans s12
    refine ⟨_, _, _, _, rfl, rfl, g11, g12, le_size (by simp), fun a13 h13 => ?_⟩
    dsimp only [List.cons_append, List.nil_append]
    have s13 : Same H12 (upd H12 a13 (HO.lst [V.bl (0 == k), V.bl (1 == k), V.bl (2 == k), V.bl (3 == k), V.bl (4 == k), V.bl (5 == k), V.bl (6 == k), V.bl (7 == k), V.bl (8 == k), V.bl (9 == k), V.bl (10 == k), V.bl (11 == k), V.bl (12 == k), V.bl (13 == k), V.bl (14 == k), V.bl (15 == k), V.bl (16 == k), V.bl (17 == k), V.bl (18 == k), V.bl (19 == k)])) := Same.new _ h13
    have g13 : (upd H12 a13 (HO.lst [V.bl (0 == k), V.bl (1 == k), V.bl (2 == k), V.bl (3 == k), V.bl (4 == k), V.bl (5 == k), V.bl (6 == k), V.bl (7 == k), V.bl (8 == k), V.bl (9 == k), V.bl (10 == k), V.bl (11 == k), V.bl (12 == k), V.bl (13 == k), V.bl (14 == k), V.bl (15 == k), V.bl (16 == k), V.bl (17 == k), V.bl (18 == k), V.bl (19 == k)])) a13 = some (HO.lst [V.bl (0 == k), V.bl (1 == k), V.bl (2 == k), V.bl (3 == k), V.bl (4 == k), V.bl (5 == k), V.bl (6 == k), V.bl (7 == k), V.bl (8 == k), V.bl (9 == k), V.bl (10 == k), V.bl (11 == k), V.bl (12 == k), V.bl (13 == k), V.bl (14 == k), V.bl (15 == k), V.bl (16 == k), V.bl (17 == k), V.bl (18 == k), V.bl (19 == k)]) := upd_same
    generalize upd H12 a13 (HO.lst [V.bl (0 == k), V.bl (1 == k), V.bl (2 == k), V.bl (3 == k), V.bl (4 == k), V.bl (5 == k), V.bl (6 == k), V.bl (7 == k), V.bl (8 == k), V.bl (9 == k), V.bl (10 == k), V.bl (11 == k), V.bl (12 == k), V.bl (13 == k), V.bl (14 == k), V.bl (15 == k), V.bl (16 == k), V.bl (17 == k), V.bl (18 == k), V.bl (19 == k)]) = H13 at *
    replace g1 := s13 _ _ g1
    replace g2 := s13 _ _ g2
    replace g3 := s13 _ _ g3
    replace g4 := s13 _ _ g4
    replace g5 := s13 _ _ g5
    replace g6 := s13 _ _ g6
    replace g7 := s13 _ _ g7
    replace g8 := s13 _ _ g8
    replace g9 := s13 _ _ g9
    replace g10 := s13 _ _ g10
    replace g11 := s13 _ _ g11
    replace g12 := s13 _ _ g12
    have sm13 : Same H H13 := sm12.trans s13
    refine ⟨_, rfl, ?_⟩
    refine ⟨_, rfl, _, _, _, _, _, rfl, .own _, he.same sm13 |>.ty hk, kit_all T hk (j := 20) (by decide), ?_⟩
    refine ⟨le_size (by simp), fun a14 h14 => ?_⟩
    have s14 : Same H13 (upd H13 a14 (HO.lst [V.bl (20 == k)])) := Same.new _ h14
    have g14 : (upd H13 a14 (HO.lst [V.bl (20 == k)])) a14 = some (HO.lst [V.bl (20 == k)]) := upd_same
    generalize upd H13 a14 (HO.lst [V.bl (20 == k)]) = H14 at *
    replace g1 := s14 _ _ g1
    replace g2 := s14 _ _ g2
    replace g3 := s14 _ _ g3
    replace g4 := s14 _ _ g4
    replace g5 := s14 _ _ g5
    replace g6 := s14 _ _ g6
    replace g7 := s14 _ _ g7
    replace g8 := s14 _ _ g8
    replace g9 := s14 _ _ g9
    replace g10 := s14 _ _ g10
    replace g11 := s14 _ _ g11
    replace g12 := s14 _ _ g12
    replace g13 := s14 _ _ g13
    have sm14 : Same H H14 := sm13.trans s14
    refine ⟨_, _, _, _, rfl, rfl, g13, g14, le_size (by simp), fun a15 h15 => ?_⟩
    dsimp only [List.cons_append, List.nil_append]
    have s15 : Same H14 (upd H14 a15 (HO.lst [V.bl (0 == k), V.bl (1 == k), V.bl (2 == k), V.bl (3 == k), V.bl (4 == k), V.bl (5 == k), V.bl (6 == k), V.bl (7 == k), V.bl (8 == k), V.bl (9 == k), V.bl (10 == k), V.bl (11 == k), V.bl (12 == k), V.bl (13 == k), V.bl (14 == k), V.bl (15 == k), V.bl (16 == k), V.bl (17 == k), V.bl (18 == k), V.bl (19 == k), V.bl (20 == k)])) := Same.new _ h15
    have g15 : (upd H14 a15 (HO.lst [V.bl (0 == k), V.bl (1 == k), V.bl (2 == k), V.bl (3 == k), V.bl (4 == k), V.bl (5 == k), V.bl (6 == k), V.bl (7 == k), V.bl (8 == k), V.bl (9 == k), V.bl (10 == k), V.bl (11 == k), V.bl (12 == k), V.bl (13 == k), V.bl (14 == k), V.bl (15 == k), V.bl (16 == k), V.bl (17 == k), V.bl (18 == k), V.bl (19 == k), V.bl (20 == k)])) a15 = some (HO.lst [V.bl (0 == k), V.bl (1 == k), V.bl (2 == k), V.bl (3 == k), V.bl (4 == k), V.bl (5 == k), V.bl (6 == k), V.bl (7 == k), V.bl (8 == k), V.bl (9 == k), V.bl (10 == k), V.bl (11 == k), V.bl (12 == k), V.bl (13 == k), V.bl (14 == k), V.bl (15 == k), V.bl (16 == k), V.bl (17 == k), V.bl (18 == k), V.bl (19 == k), V.bl (20 == k)]) := upd_same
    generalize upd H14 a15 (HO.lst [V.bl (0 == k), V.bl (1 == k), V.bl (2 == k), V.bl (3 == k), V.bl (4 == k), V.bl (5 == k), V.bl (6 == k), V.bl (7 == k), V.bl (8 == k), V.bl (9 == k), V.bl (10 == k), V.bl (11 == k), V.bl (12 == k), V.bl (13 == k), V.bl (14 == k), V.bl (15 == k), V.bl (16 == k), V.bl (17 == k), V.bl (18 == k), V.bl (19 == k), V.bl (20 == k)]) = H15 at *
    replace g1 := s15 _ _ g1
    replace g2 := s15 _ _ g2
    replace g3 := s15 _ _ g3
    replace g4 := s15 _ _ g4
    replace g5 := s15 _ _ g5
    replace g6 := s15 _ _ g6
    replace g7 := s15 _ _ g7
    replace g8 := s15 _ _ g8
    replace g9 := s15 _ _ g9
    replace g10 := s15 _ _ g10
    replace g11 := s15 _ _ g11
    replace g12 := s15 _ _ g12
    replace g13 := s15 _ _ g13
    replace g14 := s15 _ _ g14
    have sm15 : Same H H15 := sm14.trans s15
    exact kq _ _ g15 sm15
theorem ok_l_plain_errors (T : Tx K mg) : FnOk P w K mg base CX0 1 T.f_l_plain_errors T.fd_l_plain_errors P_l_plain_errors (spPlain T) := by
  refine T.F_l_plain_errors.ok sc_l_plain_errors (fun vs H Q E h => ?_) (fun cdv A outer s H vs Q E hr h => ?_)
  · obtain ⟨rfl, _⟩ := h
    rfl
  · obtain ⟨rfl, kq⟩ := h
    refine ⟨_, (pss_cons (ps_set (i := 0) sc_l_plain_errors.nd rfl (Or.inl rfl) (pe_lst (pa_cons (pe_exc0 PySem.F.excBase_Exception T.in_UnknownState T.g_UnknownState T.kc_UnknownState rfl) (pa_cons (pe_exc0 PySem.F.excBase_Exception T.in_InvalidText T.g_InvalidText T.kc_InvalidText rfl) (pa_cons (pe_exc0 PySem.F.excBase_Exception T.in_Stuck T.g_Stuck T.kc_Stuck rfl) (pa_cons (pe_exc0 PySem.F.excBase_Exception T.in_NotABook T.g_NotABook T.kc_NotABook rfl) (pa_cons (pe_exc0 PySem.F.excBase_Exception T.in_NotPlain T.g_NotPlain T.kc_NotPlain rfl) (pa_cons (pe_exc0 PySem.F.excBase_Exception T.in_NotFull T.g_NotFull T.kc_NotFull rfl) (pa_cons (pe_exc0 PySem.F.excBase_Exception T.in_NotOneWay T.g_NotOneWay T.kc_NotOneWay rfl) pa_nil)))))))))
        (pss_one (ps_ret (pe_op op_cat (pv 0) (pe_lst (pa_cons (pe_exc0 PySem.F.excBase_Exception T.in_NotAWire T.g_NotAWire T.kc_NotAWire rfl) (pa_cons (pe_exc0 PySem.F.excBase_Exception T.in_Unlike T.g_Unlike T.kc_Unlike rfl) (pa_cons (pe_exc0 PySem.F.excBase_Exception T.in_InvalidNumber T.g_InvalidNumber T.kc_InvalidNumber rfl) (pa_cons (pe_exc0 PySem.F.excBase_Exception T.in_UnknownWord T.g_UnknownWord T.kc_UnknownWord rfl) (pa_cons (pe_exc0 PySem.F.excBase_Exception T.in_InvalidWord T.g_InvalidWord T.kc_InvalidWord rfl) pa_nil)))))))))), ?_⟩
    have sm0 : Same H H := fun _ _ e => e
    intro a1 h1
    have s1 : Same H (upd H a1 (ExO (.ref T.C_UnknownState) a1)) := Same.new _ h1
    have g1 : (upd H a1 (ExO (.ref T.C_UnknownState) a1)) a1 = some (ExO (.ref T.C_UnknownState) a1) := upd_same
    have f1 : ErrAt T (upd H a1 (ExO (.ref T.C_UnknownState) a1)) 0 (.ref a1) := ⟨_, rfl, .inl upd_same⟩
    generalize upd H a1 (ExO (.ref T.C_UnknownState) a1) = H1 at *
    have sm1 : Same H H1 := sm0.trans s1
    intro a2 h2
    have s2 : Same H1 (upd H1 a2 (ExO (.ref T.C_InvalidText) a2)) := Same.new _ h2
    have g2 : (upd H1 a2 (ExO (.ref T.C_InvalidText) a2)) a2 = some (ExO (.ref T.C_InvalidText) a2) := upd_same
    have f2 : ErrAt T (upd H1 a2 (ExO (.ref T.C_InvalidText) a2)) 1 (.ref a2) := ⟨_, rfl, .inl upd_same⟩
    generalize upd H1 a2 (ExO (.ref T.C_InvalidText) a2) = H2 at *
    replace g1 := s2 _ _ g1
    replace f1 := f1.same s2
    have sm2 : Same H H2 := sm1.trans s2
    intro a3 h3
    have s3 : Same H2 (upd H2 a3 (ExO (.ref T.C_Stuck) a3)) := Same.new _ h3
    have g3 : (upd H2 a3 (ExO (.ref T.C_Stuck) a3)) a3 = some (ExO (.ref T.C_Stuck) a3) := upd_same
    have f3 : ErrAt T (upd H2 a3 (ExO (.ref T.C_Stuck) a3)) 2 (.ref a3) := ⟨_, rfl, .inl upd_same⟩
    generalize upd H2 a3 (ExO (.ref T.C_Stuck) a3) = H3 at *
    replace g1 := s3 _ _ g1
    replace f1 := f1.same s3
    replace g2 := s3 _ _ g2
    replace f2 := f2.same s3
    have sm3 : Same H H3 := sm2.trans s3
    intro a4 h4
    have s4 : Same H3 (upd H3 a4 (ExO (.ref T.C_NotABook) a4)) := Same.new _ h4
    have g4 : (upd H3 a4 (ExO (.ref T.C_NotABook) a4)) a4 = some (ExO (.ref T.C_NotABook) a4) := upd_same
    have f4 : ErrAt T (upd H3 a4 (ExO (.ref T.C_NotABook) a4)) 3 (.ref a4) := ⟨_, rfl, .inl upd_same⟩
    generalize upd H3 a4 (ExO (.ref T.C_NotABook) a4) = H4 at *
    replace g1 := s4 _ _ g1
    replace f1 := f1.same s4
    replace g2 := s4 _ _ g2
    replace f2 := f2.same s4
    replace g3 := s4 _ _ g3
    replace f3 := f3.same s4
    have sm4 : Same H H4 := sm3.trans s4
    intro a5 h5
    have s5 : Same H4 (upd H4 a5 (ExO (.ref T.C_NotPlain) a5)) := Same.new _ h5
    have g5 : (upd H4 a5 (ExO (.ref T.C_NotPlain) a5)) a5 = some (ExO (.ref T.C_NotPlain) a5) := upd_same
    have f5 : ErrAt T (upd H4 a5 (ExO (.ref T.C_NotPlain) a5)) 4 (.ref a5) := ⟨_, rfl, .inl upd_same⟩
    generalize upd H4 a5 (ExO (.ref T.C_NotPlain) a5) = H5 at *
    replace g1 := s5 _ _ g1
    replace f1 := f1.same s5
    replace g2 := s5 _ _ g2
    replace f2 := f2.same s5
    replace g3 := s5 _ _ g3
    replace f3 := f3.same s5
    replace g4 := s5 _ _ g4
    replace f4 := f4.same s5
    have sm5 : Same H H5 := sm4.trans s5
    intro a6 h6
    have s6 : Same H5 (upd H5 a6 (ExO (.ref T.C_NotFull) a6)) := Same.new _ h6
    have g6 : (upd H5 a6 (ExO (.ref T.C_NotFull) a6)) a6 = some (ExO (.ref T.C_NotFull) a6) := upd_same
    have f6 : ErrAt T (upd H5 a6 (ExO (.ref T.C_NotFull) a6)) 5 (.ref a6) := ⟨_, rfl, .inl upd_same⟩
    generalize upd H5 a6 (ExO (.ref T.C_NotFull) a6) = H6 at *
    replace g1 := s6 _ _ g1
    replace f1 := f1.same s6
    replace g2 := s6 _ _ g2
    replace f2 := f2.same s6
    replace g3 := s6 _ _ g3
    replace f3 := f3.same s6
    replace g4 := s6 _ _ g4
    replace f4 := f4.same s6
    replace g5 := s6 _ _ g5
    replace f5 := f5.same s6
    have sm6 : Same H H6 := sm5.trans s6
    intro a7 h7
    have s7 : Same H6 (upd H6 a7 (ExO (.ref T.C_NotOneWay) a7)) := Same.new _ h7
    have g7 : (upd H6 a7 (ExO (.ref T.C_NotOneWay) a7)) a7 = some (ExO (.ref T.C_NotOneWay) a7) := upd_same
    have f7 : ErrAt T (upd H6 a7 (ExO (.ref T.C_NotOneWay) a7)) 6 (.ref a7) := ⟨_, rfl, .inl upd_same⟩
    generalize upd H6 a7 (ExO (.ref T.C_NotOneWay) a7) = H7 at *
    replace g1 := s7 _ _ g1
    replace f1 := f1.same s7
    replace g2 := s7 _ _ g2
    replace f2 := f2.same s7
    replace g3 := s7 _ _ g3
    replace f3 := f3.same s7
    replace g4 := s7 _ _ g4
    replace f4 := f4.same s7
    replace g5 := s7 _ _ g5
    replace f5 := f5.same s7
    replace g6 := s7 _ _ g6
    replace f6 := f6.same s7
    have sm7 : Same H H7 := sm6.trans s7
    refine ⟨le_size (by simp), fun a8 h8 => ?_⟩
    have s8 : Same H7 (upd H7 a8 (HO.lst [V.ref a1, V.ref a2, V.ref a3, V.ref a4, V.ref a5, V.ref a6, V.ref a7])) := Same.new _ h8
    have g8 : (upd H7 a8 (HO.lst [V.ref a1, V.ref a2, V.ref a3, V.ref a4, V.ref a5, V.ref a6, V.ref a7])) a8 = some (HO.lst [V.ref a1, V.ref a2, V.ref a3, V.ref a4, V.ref a5, V.ref a6, V.ref a7]) := upd_same
    generalize upd H7 a8 (HO.lst [V.ref a1, V.ref a2, V.ref a3, V.ref a4, V.ref a5, V.ref a6, V.ref a7]) = H8 at *
    replace g1 := s8 _ _ g1
    replace f1 := f1.same s8
    replace g2 := s8 _ _ g2
    replace f2 := f2.same s8
    replace g3 := s8 _ _ g3
    replace f3 := f3.same s8
    replace g4 := s8 _ _ g4
    replace f4 := f4.same s8
    replace g5 := s8 _ _ g5
    replace f5 := f5.same s8
    replace g6 := s8 _ _ g6
    replace f6 := f6.same s8
    replace g7 := s8 _ _ g7
    replace f7 := f7.same s8
    have sm8 : Same H H8 := sm7.trans s8
    refine ⟨_, rfl, ?_⟩
    intro a9 h9
    have s9 : Same H8 (upd H8 a9 (ExO (.ref T.C_NotAWire) a9)) := Same.new _ h9
    have g9 : (upd H8 a9 (ExO (.ref T.C_NotAWire) a9)) a9 = some (ExO (.ref T.C_NotAWire) a9) := upd_same
    have f9 : ErrAt T (upd H8 a9 (ExO (.ref T.C_NotAWire) a9)) 7 (.ref a9) := ⟨_, rfl, .inl upd_same⟩
    generalize upd H8 a9 (ExO (.ref T.C_NotAWire) a9) = H9 at *
    replace g1 := s9 _ _ g1
    replace f1 := f1.same s9
    replace g2 := s9 _ _ g2
    replace f2 := f2.same s9
    replace g3 := s9 _ _ g3
    replace f3 := f3.same s9
    replace g4 := s9 _ _ g4
    replace f4 := f4.same s9
    replace g5 := s9 _ _ g5
    replace f5 := f5.same s9
    replace g6 := s9 _ _ g6
    replace f6 := f6.same s9
    replace g7 := s9 _ _ g7
    replace f7 := f7.same s9
    replace g8 := s9 _ _ g8
    have sm9 : Same H H9 := sm8.trans s9
    intro a10 h10
    have s10 : Same H9 (upd H9 a10 (ExO (.ref T.C_Unlike) a10)) := Same.new _ h10
    have g10 : (upd H9 a10 (ExO (.ref T.C_Unlike) a10)) a10 = some (ExO (.ref T.C_Unlike) a10) := upd_same
    have f10 : ErrAt T (upd H9 a10 (ExO (.ref T.C_Unlike) a10)) 8 (.ref a10) := ⟨_, rfl, .inl upd_same⟩
    generalize upd H9 a10 (ExO (.ref T.C_Unlike) a10) = H10 at *
    replace g1 := s10 _ _ g1
    replace f1 := f1.same s10
    replace g2 := s10 _ _ g2
    replace f2 := f2.same s10
    replace g3 := s10 _ _ g3
    replace f3 := f3.same s10
    replace g4 := s10 _ _ g4
    replace f4 := f4.same s10
    replace g5 := s10 _ _ g5
    replace f5 := f5.same s10
    replace g6 := s10 _ _ g6
    replace f6 := f6.same s10
    replace g7 := s10 _ _ g7
    replace f7 := f7.same s10
    replace g8 := s10 _ _ g8
    replace g9 := s10 _ _ g9
    replace f9 := f9.same s10
    have sm10 : Same H H10 := sm9.trans s10
    intro a11 h11
    have s11 : Same H10 (upd H10 a11 (ExO (.ref T.C_InvalidNumber) a11)) := Same.new _ h11
    have g11 : (upd H10 a11 (ExO (.ref T.C_InvalidNumber) a11)) a11 = some (ExO (.ref T.C_InvalidNumber) a11) := upd_same
    have f11 : ErrAt T (upd H10 a11 (ExO (.ref T.C_InvalidNumber) a11)) 9 (.ref a11) := ⟨_, rfl, .inl upd_same⟩
    generalize upd H10 a11 (ExO (.ref T.C_InvalidNumber) a11) = H11 at *
    replace g1 := s11 _ _ g1
    replace f1 := f1.same s11
    replace g2 := s11 _ _ g2
    replace f2 := f2.same s11
    replace g3 := s11 _ _ g3
    replace f3 := f3.same s11
    replace g4 := s11 _ _ g4
    replace f4 := f4.same s11
    replace g5 := s11 _ _ g5
    replace f5 := f5.same s11
    replace g6 := s11 _ _ g6
    replace f6 := f6.same s11
    replace g7 := s11 _ _ g7
    replace f7 := f7.same s11
    replace g8 := s11 _ _ g8
    replace g9 := s11 _ _ g9
    replace f9 := f9.same s11
    replace g10 := s11 _ _ g10
    replace f10 := f10.same s11
    have sm11 : Same H H11 := sm10.trans s11
    intro a12 h12
    have s12 : Same H11 (upd H11 a12 (ExO (.ref T.C_UnknownWord) a12)) := Same.new _ h12
    have g12 : (upd H11 a12 (ExO (.ref T.C_UnknownWord) a12)) a12 = some (ExO (.ref T.C_UnknownWord) a12) := upd_same
    have f12 : ErrAt T (upd H11 a12 (ExO (.ref T.C_UnknownWord) a12)) 10 (.ref a12) := ⟨_, rfl, .inl upd_same⟩
    generalize upd H11 a12 (ExO (.ref T.C_UnknownWord) a12) = H12 at *
    replace g1 := s12 _ _ g1
    replace f1 := f1.same s12
    replace g2 := s12 _ _ g2
    replace f2 := f2.same s12
    replace g3 := s12 _ _ g3
    replace f3 := f3.same s12
    replace g4 := s12 _ _ g4
    replace f4 := f4.same s12
    replace g5 := s12 _ _ g5
    replace f5 := f5.same s12
    replace g6 := s12 _ _ g6
    replace f6 := f6.same s12
    replace g7 := s12 _ _ g7
    replace f7 := f7.same s12
    replace g8 := s12 _ _ g8
    replace g9 := s12 _ _ g9
    replace f9 := f9.same s12
    replace g10 := s12 _ _ g10
    replace f10 := f10.same s12
    replace g11 := s12 _ _ g11
    replace f11 := f11.same s12
    have sm12 : Same H H12 := sm11.trans s12
    intro a13 h13
    have s13 : Same H12 (upd H12 a13 (ExO (.ref T.C_InvalidWord) a13)) := Same.new _ h13
    have g13 : (upd H12 a13 (ExO (.ref T.C_InvalidWord) a13)) a13 = some (ExO (.ref T.C_InvalidWord) a13) := upd_same
    have f13 : ErrAt T (upd H12 a13 (ExO (.ref T.C_InvalidWord) a13)) 11 (.ref a13) := ⟨_, rfl, .inl upd_same⟩
    generalize upd H12 a13 (ExO (.ref T.C_InvalidWord) a13) = H13 at *
    replace g1 := s13 _ _ g1
    replace f1 := f1.same s13
    replace g2 := s13 _ _ g2
    replace f2 := f2.same s13
    replace g3 := s13 _ _ g3
    replace f3 := f3.same s13
    replace g4 := s13 _ _ g4
    replace f4 := f4.same s13
    replace g5 := s13 _ _ g5
    replace f5 := f5.same s13
    replace g6 := s13 _ _ g6
    replace f6 := f6.same s13
    replace g7 := s13 _ _ g7
    replace f7 := f7.same s13
    replace g8 := s13 _ _ g8
    replace g9 := s13 _ _ g9
    replace f9 := f9.same s13
    replace g10 := s13 _ _ g10
    replace f10 := f10.same s13
    replace g11 := s13 _ _ g11
    replace f11 := f11.same s13
    replace g12 := s13 _ _ g12
    replace f12 := f12.same s13
    have sm13 : Same H H13 := sm12.trans s13
    refine ⟨le_size (by simp), fun a14 h14 => ?_⟩
    have s14 : Same H13 (upd H13 a14 (HO.lst [V.ref a9, V.ref a10, V.ref a11, V.ref a12, V.ref a13])) := Same.new _ h14
    have g14 : (upd H13 a14 (HO.lst [V.ref a9, V.ref a10, V.ref a11, V.ref a12, V.ref a13])) a14 = some (HO.lst [V.ref a9, V.ref a10, V.ref a11, V.ref a12, V.ref a13]) := upd_same
    generalize upd H13 a14 (HO.lst [V.ref a9, V.ref a10, V.ref a11, V.ref a12, V.ref a13]) = H14 at *
    replace g1 := s14 _ _ g1
    replace f1 := f1.same s14
    replace g2 := s14 _ _ g2
    replace f2 := f2.same s14
    replace g3 := s14 _ _ g3
    replace f3 := f3.same s14
    replace g4 := s14 _ _ g4
    replace f4 := f4.same s14
    replace g5 := s14 _ _ g5
    replace f5 := f5.same s14
    replace g6 := s14 _ _ g6
    replace f6 := f6.same s14
    replace g7 := s14 _ _ g7
    replace f7 := f7.same s14
    replace g8 := s14 _ _ g8
    replace g9 := s14 _ _ g9
    replace f9 := f9.same s14
    replace g10 := s14 _ _ g10
    replace f10 := f10.same s14
    replace g11 := s14 _ _ g11
    replace f11 := f11.same s14
    replace g12 := s14 _ _ g12
    replace f12 := f12.same s14
    replace g13 := s14 _ _ g13
    replace f13 := f13.same s14
    have sm14 : Same H H14 := sm13.trans s14
    refine ⟨_, _, _, _, rfl, rfl, g8, g14, le_size (by simp), fun a15 h15 => ?_⟩
    dsimp only [List.cons_append, List.nil_append]
    have s15 : Same H14 (upd H14 a15 (HO.lst [V.ref a1, V.ref a2, V.ref a3, V.ref a4, V.ref a5, V.ref a6, V.ref a7, V.ref a9, V.ref a10, V.ref a11, V.ref a12, V.ref a13])) := Same.new _ h15
    have g15 : (upd H14 a15 (HO.lst [V.ref a1, V.ref a2, V.ref a3, V.ref a4, V.ref a5, V.ref a6, V.ref a7, V.ref a9, V.ref a10, V.ref a11, V.ref a12, V.ref a13])) a15 = some (HO.lst [V.ref a1, V.ref a2, V.ref a3, V.ref a4, V.ref a5, V.ref a6, V.ref a7, V.ref a9, V.ref a10, V.ref a11, V.ref a12, V.ref a13]) := upd_same
    generalize upd H14 a15 (HO.lst [V.ref a1, V.ref a2, V.ref a3, V.ref a4, V.ref a5, V.ref a6, V.ref a7, V.ref a9, V.ref a10, V.ref a11, V.ref a12, V.ref a13]) = H15 at *
    replace g1 := s15 _ _ g1
    replace f1 := f1.same s15
    replace g2 := s15 _ _ g2
    replace f2 := f2.same s15
    replace g3 := s15 _ _ g3
    replace f3 := f3.same s15
    replace g4 := s15 _ _ g4
    replace f4 := f4.same s15
    replace g5 := s15 _ _ g5
    replace f5 := f5.same s15
    replace g6 := s15 _ _ g6
    replace f6 := f6.same s15
    replace g7 := s15 _ _ g7
    replace f7 := f7.same s15
    replace g8 := s15 _ _ g8
    replace g9 := s15 _ _ g9
    replace f9 := f9.same s15
    replace g10 := s15 _ _ g10
    replace f10 := f10.same s15
    replace g11 := s15 _ _ g11
    replace f11 := f11.same s15
    replace g12 := s15 _ _ g12
    replace f12 := f12.same s15
    replace g13 := s15 _ _ g13
    replace f13 := f13.same s15
    replace g14 := s15 _ _ g14
    have sm15 : Same H H15 := sm14.trans s15
    refine kq _ _ _ g15 rfl (fun i v hv => ?_) sm15
    match i, hv with
    | 0, rfl => exact f1
    | 1, rfl => exact f2
    | 2, rfl => exact f3
    | 3, rfl => exact f4
    | 4, rfl => exact f5
    | 5, rfl => exact f6
    | 6, rfl => exact f7
    | 7, rfl => exact f9
    | 8, rfl => exact f10
    | 9, rfl => exact f11
    | 10, rfl => exact f12
    | 11, rfl => exact f13
    | n + 12, hv => exact absurd hv (by simp)
theorem ok_l_place_errors (T : Tx K mg) : FnOk P w K mg base CX0 4 T.f_l_place_errors T.fd_l_place_errors P_l_place_errors (spPlace T) := by
  refine T.F_l_place_errors.ok sc_l_place_errors (fun vs H Q E h => ?_) (fun cdv A outer s H vs Q E hr h => ?_)
  · obtain ⟨x, rfl, _⟩ := h
    rfl
  · obtain ⟨x, rfl, kq⟩ := h
    refine ⟨_, (pss_cons (ps_set (i := 1) sc_l_place_errors.nd rfl (Or.inl rfl) (pe_lst (pa_cons (pe_InvalidRow (k := 3) T.X_InvalidRow (hr.mono (by decide)) (pa_cons (pv 0) pa_nil)) (pa_cons (pe_InvalidLengths (k := 3) T.X_InvalidLengths (hr.mono (by decide)) (pa_cons (pv 0) pa_nil)) (pa_cons (pe_InvalidWeights (k := 3) T.X_InvalidWeights (hr.mono (by decide)) (pa_cons (pv 0) pa_nil)) (pa_cons (pe_InvalidBars (k := 3) T.X_InvalidBars (hr.mono (by decide)) (pa_cons (pv 0) pa_nil)) pa_nil))))))
        (pss_one (ps_ret (pe_op op_cat (pv 1) (pe_lst (pa_cons (pe_InvalidChoice (k := 3) T.X_InvalidChoice (hr.mono (by decide)) (pa_cons (pv 0) pa_nil)) pa_nil)))))), ?_⟩
    have sm0 : Same H H := fun _ _ e => e
    refine ⟨_, rfl, _, rfl, fun a1 d1 h1 hd1 hne1 => ?_⟩
    have s1 : Same H (upd (upd H d1 (.xd (fs_InvalidRow x))) a1 (ExD T.C_InvalidRow d1 a1)) := (Same.new _ hd1).trans (Same.new _ (by rw [upd_ne hne1.symm]; exact h1))
    have g1 : (upd (upd H d1 (.xd (fs_InvalidRow x))) a1 (ExD T.C_InvalidRow d1 a1)) a1 = some (ExD T.C_InvalidRow d1 a1) := upd_same
    have e1 : (upd (upd H d1 (.xd (fs_InvalidRow x))) a1 (ExD T.C_InvalidRow d1 a1)) d1 = some (.xd (fs_InvalidRow x)) := by rw [upd_ne hne1]; exact upd_same
    have f1 : Err1 T (upd (upd H d1 (.xd (fs_InvalidRow x))) a1 (ExD T.C_InvalidRow d1 a1)) 12 x (.ref a1) := ⟨_, d1, _, rfl, g1, e1, rfl⟩
    generalize upd (upd H d1 (.xd (fs_InvalidRow x))) a1 (ExD T.C_InvalidRow d1 a1) = H1 at *
    have sm1 : Same H H1 := sm0.trans s1
    refine ⟨_, rfl, _, rfl, fun a2 d2 h2 hd2 hne2 => ?_⟩
    have s2 : Same H1 (upd (upd H1 d2 (.xd (fs_InvalidLengths x))) a2 (ExD T.C_InvalidLengths d2 a2)) := (Same.new _ hd2).trans (Same.new _ (by rw [upd_ne hne2.symm]; exact h2))
    have g2 : (upd (upd H1 d2 (.xd (fs_InvalidLengths x))) a2 (ExD T.C_InvalidLengths d2 a2)) a2 = some (ExD T.C_InvalidLengths d2 a2) := upd_same
    have e2 : (upd (upd H1 d2 (.xd (fs_InvalidLengths x))) a2 (ExD T.C_InvalidLengths d2 a2)) d2 = some (.xd (fs_InvalidLengths x)) := by rw [upd_ne hne2]; exact upd_same
    have f2 : Err1 T (upd (upd H1 d2 (.xd (fs_InvalidLengths x))) a2 (ExD T.C_InvalidLengths d2 a2)) 13 x (.ref a2) := ⟨_, d2, _, rfl, g2, e2, rfl⟩
    generalize upd (upd H1 d2 (.xd (fs_InvalidLengths x))) a2 (ExD T.C_InvalidLengths d2 a2) = H2 at *
    replace g1 := s2 _ _ g1
    replace f1 := f1.same s2
    replace e1 := s2 _ _ e1
    have sm2 : Same H H2 := sm1.trans s2
    refine ⟨_, rfl, _, rfl, fun a3 d3 h3 hd3 hne3 => ?_⟩
    have s3 : Same H2 (upd (upd H2 d3 (.xd (fs_InvalidWeights x))) a3 (ExD T.C_InvalidWeights d3 a3)) := (Same.new _ hd3).trans (Same.new _ (by rw [upd_ne hne3.symm]; exact h3))
    have g3 : (upd (upd H2 d3 (.xd (fs_InvalidWeights x))) a3 (ExD T.C_InvalidWeights d3 a3)) a3 = some (ExD T.C_InvalidWeights d3 a3) := upd_same
    have e3 : (upd (upd H2 d3 (.xd (fs_InvalidWeights x))) a3 (ExD T.C_InvalidWeights d3 a3)) d3 = some (.xd (fs_InvalidWeights x)) := by rw [upd_ne hne3]; exact upd_same
    have f3 : Err1 T (upd (upd H2 d3 (.xd (fs_InvalidWeights x))) a3 (ExD T.C_InvalidWeights d3 a3)) 14 x (.ref a3) := ⟨_, d3, _, rfl, g3, e3, rfl⟩
    generalize upd (upd H2 d3 (.xd (fs_InvalidWeights x))) a3 (ExD T.C_InvalidWeights d3 a3) = H3 at *
    replace g1 := s3 _ _ g1
    replace f1 := f1.same s3
    replace e1 := s3 _ _ e1
    replace g2 := s3 _ _ g2
    replace f2 := f2.same s3
    replace e2 := s3 _ _ e2
    have sm3 : Same H H3 := sm2.trans s3
    refine ⟨_, rfl, _, rfl, fun a4 d4 h4 hd4 hne4 => ?_⟩
    have s4 : Same H3 (upd (upd H3 d4 (.xd (fs_InvalidBars x))) a4 (ExD T.C_InvalidBars d4 a4)) := (Same.new _ hd4).trans (Same.new _ (by rw [upd_ne hne4.symm]; exact h4))
    have g4 : (upd (upd H3 d4 (.xd (fs_InvalidBars x))) a4 (ExD T.C_InvalidBars d4 a4)) a4 = some (ExD T.C_InvalidBars d4 a4) := upd_same
    have e4 : (upd (upd H3 d4 (.xd (fs_InvalidBars x))) a4 (ExD T.C_InvalidBars d4 a4)) d4 = some (.xd (fs_InvalidBars x)) := by rw [upd_ne hne4]; exact upd_same
    have f4 : Err1 T (upd (upd H3 d4 (.xd (fs_InvalidBars x))) a4 (ExD T.C_InvalidBars d4 a4)) 15 x (.ref a4) := ⟨_, d4, _, rfl, g4, e4, rfl⟩
    generalize upd (upd H3 d4 (.xd (fs_InvalidBars x))) a4 (ExD T.C_InvalidBars d4 a4) = H4 at *
    replace g1 := s4 _ _ g1
    replace f1 := f1.same s4
    replace e1 := s4 _ _ e1
    replace g2 := s4 _ _ g2
    replace f2 := f2.same s4
    replace e2 := s4 _ _ e2
    replace g3 := s4 _ _ g3
    replace f3 := f3.same s4
    replace e3 := s4 _ _ e3
    have sm4 : Same H H4 := sm3.trans s4
    refine ⟨le_size (by simp), fun a5 h5 => ?_⟩
    have s5 : Same H4 (upd H4 a5 (HO.lst [V.ref a1, V.ref a2, V.ref a3, V.ref a4])) := Same.new _ h5
    have g5 : (upd H4 a5 (HO.lst [V.ref a1, V.ref a2, V.ref a3, V.ref a4])) a5 = some (HO.lst [V.ref a1, V.ref a2, V.ref a3, V.ref a4]) := upd_same
    generalize upd H4 a5 (HO.lst [V.ref a1, V.ref a2, V.ref a3, V.ref a4]) = H5 at *
    replace g1 := s5 _ _ g1
    replace f1 := f1.same s5
    replace e1 := s5 _ _ e1
    replace g2 := s5 _ _ g2
    replace f2 := f2.same s5
    replace e2 := s5 _ _ e2
    replace g3 := s5 _ _ g3
    replace f3 := f3.same s5
    replace e3 := s5 _ _ e3
    replace g4 := s5 _ _ g4
    replace f4 := f4.same s5
    replace e4 := s5 _ _ e4
    have sm5 : Same H H5 := sm4.trans s5
    refine ⟨_, rfl, ?_⟩
    refine ⟨_, rfl, _, rfl, fun a6 d6 h6 hd6 hne6 => ?_⟩
    have s6 : Same H5 (upd (upd H5 d6 (.xd (fs_InvalidChoice x))) a6 (ExD T.C_InvalidChoice d6 a6)) := (Same.new _ hd6).trans (Same.new _ (by rw [upd_ne hne6.symm]; exact h6))
    have g6 : (upd (upd H5 d6 (.xd (fs_InvalidChoice x))) a6 (ExD T.C_InvalidChoice d6 a6)) a6 = some (ExD T.C_InvalidChoice d6 a6) := upd_same
    have e6 : (upd (upd H5 d6 (.xd (fs_InvalidChoice x))) a6 (ExD T.C_InvalidChoice d6 a6)) d6 = some (.xd (fs_InvalidChoice x)) := by rw [upd_ne hne6]; exact upd_same
    have f6 : Err1 T (upd (upd H5 d6 (.xd (fs_InvalidChoice x))) a6 (ExD T.C_InvalidChoice d6 a6)) 16 x (.ref a6) := ⟨_, d6, _, rfl, g6, e6, rfl⟩
    generalize upd (upd H5 d6 (.xd (fs_InvalidChoice x))) a6 (ExD T.C_InvalidChoice d6 a6) = H6 at *
    replace g1 := s6 _ _ g1
    replace f1 := f1.same s6
    replace e1 := s6 _ _ e1
    replace g2 := s6 _ _ g2
    replace f2 := f2.same s6
    replace e2 := s6 _ _ e2
    replace g3 := s6 _ _ g3
    replace f3 := f3.same s6
    replace e3 := s6 _ _ e3
    replace g4 := s6 _ _ g4
    replace f4 := f4.same s6
    replace e4 := s6 _ _ e4
    replace g5 := s6 _ _ g5
    have sm6 : Same H H6 := sm5.trans s6
    refine ⟨le_size (by simp), fun a7 h7 => ?_⟩
    have s7 : Same H6 (upd H6 a7 (HO.lst [V.ref a6])) := Same.new _ h7
    have g7 : (upd H6 a7 (HO.lst [V.ref a6])) a7 = some (HO.lst [V.ref a6]) := upd_same
    generalize upd H6 a7 (HO.lst [V.ref a6]) = H7 at *
    replace g1 := s7 _ _ g1
    replace f1 := f1.same s7
    replace e1 := s7 _ _ e1
    replace g2 := s7 _ _ g2
    replace f2 := f2.same s7
    replace e2 := s7 _ _ e2
    replace g3 := s7 _ _ g3
    replace f3 := f3.same s7
    replace e3 := s7 _ _ e3
    replace g4 := s7 _ _ g4
    replace f4 := f4.same s7
    replace e4 := s7 _ _ e4
    replace g5 := s7 _ _ g5
    replace g6 := s7 _ _ g6
    replace f6 := f6.same s7
    replace e6 := s7 _ _ e6
    have sm7 : Same H H7 := sm6.trans s7
    refine ⟨_, _, _, _, rfl, rfl, g5, g7, le_size (by simp), fun a8 h8 => ?_⟩
    dsimp only [List.cons_append, List.nil_append]
    have s8 : Same H7 (upd H7 a8 (HO.lst [V.ref a1, V.ref a2, V.ref a3, V.ref a4, V.ref a6])) := Same.new _ h8
    have g8 : (upd H7 a8 (HO.lst [V.ref a1, V.ref a2, V.ref a3, V.ref a4, V.ref a6])) a8 = some (HO.lst [V.ref a1, V.ref a2, V.ref a3, V.ref a4, V.ref a6]) := upd_same
    generalize upd H7 a8 (HO.lst [V.ref a1, V.ref a2, V.ref a3, V.ref a4, V.ref a6]) = H8 at *
    replace g1 := s8 _ _ g1
    replace f1 := f1.same s8
    replace e1 := s8 _ _ e1
    replace g2 := s8 _ _ g2
    replace f2 := f2.same s8
    replace e2 := s8 _ _ e2
    replace g3 := s8 _ _ g3
    replace f3 := f3.same s8
    replace e3 := s8 _ _ e3
    replace g4 := s8 _ _ g4
    replace f4 := f4.same s8
    replace e4 := s8 _ _ e4
    replace g5 := s8 _ _ g5
    replace g6 := s8 _ _ g6
    replace f6 := f6.same s8
    replace e6 := s8 _ _ e6
    replace g7 := s8 _ _ g7
    have sm8 : Same H H8 := sm7.trans s8
    refine kq _ _ _ g8 rfl (fun i v hv => ?_) sm8
    match i, hv with
    | 0, rfl => exact f1
    | 1, rfl => exact f2
    | 2, rfl => exact f3
    | 3, rfl => exact f4
    | 4, rfl => exact f6
    | n + 5, hv => exact absurd hv (by simp)
end
end J

set_option Elab.async false
set_option linter.all false
set_option maxRecDepth 100000
set_option maxHeartbeats 4000000
namespace J
open PySem L2
theorem _root_.L2.Same.updNew {q : Addr} {H H' : Hp} {o : HO} (x : Same H H') (hq : H q = none) : Same H (L2.upd H' q o) := fun b u e => by
  rw [upd_ne (ne_of_none e hq)]; exact x b u e
theorem cut_intsL (ns : List Int) (lo hi : Option Int) : ∃ ms : List Int, cutV (ns.map V.int) lo hi = ms.map V.int ∧ ms.length ≤ ns.length := by
  unfold cutV
  refine ⟨_, by rw [← List.map_drop, ← List.map_take], ?_⟩
  rw [List.length_take, List.length_drop]
  omega
def spPool (K : PySem.W.Frag) : Sp := fun vs H Q _ => ∃ (a : Addr) (ns : List Int), vs = [.ref a] ∧ SqL K H a (ns.map V.int) ∧ ns.length ≤ 63 ∧ ∀ (p : Addr) H', PoolAt H' p → Same H H' → Q (.ref p) H'
section
variable {P : Program} {w : World} {K : PySem.W.Frag} {mg : Str → Option Value} {base : Heap}
theorem ok_l_pool (T : Tx K mg) : FnOk P w K mg base CX0 1 T.f_l_pool T.fd_l_pool P_l_pool (spPool K) := by
  refine T.F_l_pool.ok sc_l_pool (fun vs H Q E h => ?_) (fun cdv A outer s H vs Q E hr h => ?_)
  · obtain ⟨a, ns, rfl, _⟩ := h
    rfl
  · obtain ⟨a, ns, rfl, hS, hlen, kq⟩ := h
    refine ⟨_, (pss_cons (ps_setLc (i := 1) (own := [("_law_cell", 4)]) (g := (gName 4)) rfl sc_l_pool.nd rfl rfl (sw_true rfl rfl rfl (by decide +kernel)) (pi_list (pe_slice (sl_listK (K := K) rfl) (pv 0) po_none (po_some pe_int))) (blkOk_by (N := N_l_pool) (sc := defScope s_l_pool) (by decide +kernel)) (fun _ _ _ _ _ => (pg_name (i := 4) sc_l_pool.nd rfl (Or.inl rfl))) (fun _ _ _ _ _ => pts_nil) (fun _ _ _ _ _ => (pe_callB call_abs rfl T.n_abs (by decide +kernel) (pa_cons (pe_callTy call_int1 rfl T.n_int (by decide +kernel) (pa_cons (pv 4) pa_nil)) pa_nil))))
        (pss_cons (ps_setLc (i := 2) (own := [("_law_cell", 4)]) (g := (gName 4)) rfl sc_l_pool.nd rfl rfl (sw_true rfl rfl rfl (by decide +kernel)) (pi_list (pv 1)) (blkOk_by (N := N_l_pool) (sc := defScope s_l_pool) (by decide +kernel)) (fun _ _ _ _ _ => (pg_name (i := 4) sc_l_pool.nd rfl (Or.inl rfl))) (fun _ _ _ _ _ => (pts_one (pt_cmpR op_ge (pv 4) (pe_op op_pow pe_int pe_int) (nomark _)))) (fun _ _ _ _ _ => (pv 4)))
        (pss_cons (ps_setLc (i := 3) (own := [("_law_cell", 4)]) (g := (gName 4)) rfl sc_l_pool.nd rfl rfl (sw_true rfl rfl rfl (by decide +kernel)) (pi_list (pv 1)) (blkOk_by (N := N_l_pool) (sc := defScope s_l_pool) (by decide +kernel)) (fun _ _ _ _ _ => (pg_name (i := 4) sc_l_pool.nd rfl (Or.inl rfl))) (fun _ _ _ _ _ => (pts_one (pt_cmpR op_lt (pv 4) (pe_op op_pow pe_int pe_int) (nomark _)))) (fun _ _ _ _ _ => (pe_op op_modN (pe_callTy call_int1 rfl T.n_int (by decide +kernel) (pa_cons (pv 4) pa_nil)) pe_int)))
        (pss_one (ps_ret (pe_lst (pa_cons (pv 2) (pa_cons (pv 3) (pa_cons pe_int (pa_cons pe_int pa_nil)))))))))), ?_⟩
    refine ⟨_, rfl, _, rfl, a, _, rfl, hS, fun q hq => ?_⟩
    obtain ⟨ms, hms, hml⟩ := cut_intsL ns none (some 63)
    rw [hms]
    have s1 : Same H (upd H q (.lst (ms.map V.int))) := Same.new _ hq
    have g1 : upd H q (.lst (ms.map V.int)) q = some (.lst (ms.map V.int)) := upd_same
    generalize upd H q (.lst (ms.map V.int)) = H1 at *
    refine ⟨q, rfl, ⟨_, SqL.of g1⟩, fun D hD => lc_list (K := K) (a := q) (xs := ms.map V.int) (fun i H' => ∃ cs : List Int, cs.length = i ∧ H' D = some (.lst (cs.map V.int)) ∧ Same H1 H') ⟨[], rfl, upd_same, Same.new _ hD⟩ (fun i H' _ ⟨_, _, _, sm⟩ => SqL.of (sm _ _ g1)) ?_ ?_⟩
    · rintro i y H2 hy ⟨cs, rfl, hDl, sm⟩
      have hil := (List.getElem?_eq_some_iff.mp hy).1
      rw [List.length_map] at hil
      rw [List.getElem?_map] at hy
      obtain ⟨z, _, rfl⟩ := Option.map_eq_some_iff.mp hy
      refine ⟨rfl, _, rfl, .inl ⟨_, rfl, _, rfl, _, hDl, lt_size (by rw [List.length_map]; omega), cs ++ [if z < 0 then -z else z], by simp, ?_, sm.updNew hD⟩⟩
      rw [upd_same, List.map_append]
      rfl
    · rintro H2 ⟨cs, hcl, hDl, sm⟩
      have s2 : Same H H2 := s1.trans sm
      have hcm : cs.length ≤ 63 := by rw [hcl, List.length_map]; omega
      clear hcl
      refine ⟨_, rfl, D, rfl, ⟨_, SqL.of hDl⟩, fun E1 hE => lc_list (K := K) (a := D) (xs := cs.map V.int) (fun i H' => ∃ gs : List Int, gs.length ≤ i ∧ H' E1 = some (.lst (gs.map V.int)) ∧ Same H2 H') ⟨[], Nat.le_refl _, upd_same, Same.new _ hE⟩ (fun i H' _ ⟨_, _, _, sm⟩ => SqL.of (sm _ _ hDl)) ?_ ?_⟩
      · rintro i y H3 hy ⟨gs, hgl, hEl, sm3⟩
        have hil := (List.getElem?_eq_some_iff.mp hy).1
        rw [List.length_map] at hil
        rw [List.getElem?_map] at hy
        obtain ⟨z, _, rfl⟩ := Option.map_eq_some_iff.mp hy
        refine ⟨rfl, _, rfl, _, _, rfl, rfl, ⟨by decide, by decide, by decide⟩, _, _, rfl, rfl, _, rfl, ?_⟩
        refine ite2 (fun c => ?_) (fun c => ?_)
        · refine ⟨_, rfl, _, hEl, lt_size (by rw [List.length_map]; omega), gs ++ [z], by simp; omega, ?_, sm3.updNew hE⟩
          rw [upd_same, List.map_append]
          rfl
        · exact ⟨gs, by omega, hEl, sm3⟩
      · rintro H3 ⟨gs, hgl, hEl, sm3⟩
        have hD3 := sm3 _ _ hDl
        refine ⟨_, rfl, D, rfl, ⟨_, SqL.of hD3⟩, fun F1 hF => lc_list (K := K) (a := D) (xs := cs.map V.int) (fun i H' => ∃ ss : List Int, ss.length ≤ i ∧ H' F1 = some (.lst (ss.map V.int)) ∧ Same H3 H') ⟨[], Nat.le_refl _, upd_same, Same.new _ hF⟩ (fun i H' _ ⟨_, _, _, sm⟩ => SqL.of (sm _ _ hD3)) ?_ ?_⟩
        · rintro i y H4 hy ⟨ss, hsl, hFl, sm4⟩
          have hil := (List.getElem?_eq_some_iff.mp hy).1
          rw [List.length_map] at hil
          rw [List.getElem?_map] at hy
          obtain ⟨z, _, rfl⟩ := Option.map_eq_some_iff.mp hy
          refine ⟨rfl, _, rfl, _, _, rfl, rfl, ⟨by decide, by decide, by decide⟩, _, _, rfl, rfl, _, rfl, ?_⟩
          refine ite2 (fun c => ?_) (fun c => ?_)
          · refine ⟨_, rfl, .inl ⟨_, rfl, _, _, rfl, rfl, (by decide : (1000003 : Int) ≠ 0), _, hFl, lt_size (by rw [List.length_map]; omega), ss ++ [z.fmod 1000003], by simp; omega, ?_, sm4.updNew hF⟩⟩
            rw [upd_same, List.map_append]
            rfl
          · exact ⟨ss, by omega, hFl, sm4⟩
        · rintro H4 ⟨ss, hsl, hFl, sm4⟩
          refine ⟨_, rfl, _, rfl, le_size (by simp), fun p hp => ?_⟩
          exact kq _ _ ⟨E1, F1, gs, ss, 0, 0, upd_same, by rw [upd_ne (ne_of_none (sm4 _ _ hEl) hp)]; exact sm4 _ _ hEl, by rw [upd_ne (ne_of_none hFl hp)]; exact hFl⟩ (((s2.trans sm3).trans sm4).trans (Same.new _ hp))
end
end J

set_option Elab.async false
set_option linter.all false
set_option maxRecDepth 100000
set_option maxHeartbeats 4000000
namespace J
open PySem L2
def spLaw (K : PySem.W.Frag) : Sp := fun vs H Q _ => ∃ (a : Addr) (ns : List Int), vs = [.ref a] ∧ SqL K H a (ns.map V.int) ∧ ns.length ≤ 63 ∧ ∀ H', Q (.bl true) H'
theorem thg_move {C p : Addr} {H H' : Hp} {v : V} (h : Thg C H v) (hp : PoolAt H p) (x : Ex p H H') : Thg C H' v := by
  obtain ⟨gl, sl, gs, ss, b, c, h1, _, _⟩ := hp
  have ne : ∀ a o, H a = some o → o ≠ HO.lst [.ref gl, .ref sl, .int b, .int c] → a ≠ p := fun a o e n z => by
    rw [z, h1] at e
    injection e with e
    exact n e.symm
  cases h with
  | non => exact .non
  | bl b => exact .bl b
  | int i => exact .int i
  | str x => exact .str x
  | tup e => exact .tup (x _ _ (ne _ _ e (fun z => nomatch z)) e)
  | lst e => exact .lst (x _ _ (ne _ _ e (fun z => nomatch z)) e)
  | dic e => exact .dic (x _ _ (ne _ _ e (fun z => nomatch z)) e)
  | exo e => exact .exo (x _ _ (ne _ _ e (fun z => nomatch z)) e)
theorem dp_kinds {K : PySem.W.Frag} {H : Hp} (k : Nat) : ∀ l : List Nat, DpAll K H (l.map fun j => V.bl (j == k)) (l.map fun j => PyData.bool (j == k))
  | [] => .nil
  | _ :: t => .cons (.bl _) (dp_kinds k t)
theorem kinds_ok : ∀ k, k < 21 → SeqAt.shaped (.list ((List.range 21).map fun j => PyData.bool (j == k))) = true ∧ PyData.eqv (.list ((List.range 21).map fun j => PyData.bool (j == k))) (.list ((List.range 21).map fun j => PyData.bool (j == k))) = true := by decide +kernel
theorem eqv_int (i j : Nat) : decide (V.int ((0 : Int) + (j : Int)) = V.int ((0 : Int) + (i : Int))) = (j == i) := by
  by_cases h : j = i
  · subst h
    simp
  · rw [decide_eq_false (fun z => h (by injection z with z; omega))]
    exact (beq_false_of_ne h).symm
section
variable {P : Program} {w : World} {K : PySem.W.Frag} {mg : Str → Option Value} {base : Heap}
theorem no_at (T : Tx K mg) : ∀ i, i < 5 → PySem.W.findIn K (.ref (cs T (12 + i))) "at" = some none
  | 0, _ => T.nx_InvalidRow_at
  | 1, _ => T.nx_InvalidLengths_at
  | 2, _ => T.nx_InvalidWeights_at
  | 3, _ => T.nx_InvalidBars_at
  | 4, _ => T.nx_InvalidChoice_at
  | n + 5, h => absurd h (by omega)
theorem kit_three (T : Tx K mg) {k : Nat} (hk : k < 21) : PySem.W.kitAny K (.ref (cs T k)) [.type "ValueError", .type "LookupError", .type "TypeError"] = some false := by
  unfold PySem.W.kitAny
  rw [kit_ve T hk]
  dsimp only
  unfold PySem.W.kitAny
  rw [kit_le T hk]
  dsimp only
  unfold PySem.W.kitAny
  rw [kit_te T hk]
  rfl
theorem ok_law (T : Tx K mg) : FnOk P w K mg base CX0 8 T.f_law T.fd_law P_law (spLaw K) := by
  refine T.F_law.ok sc_law (fun vs H Q E h => ?_) (fun cdv A outer s H vs Q E hr h => ?_)
  · obtain ⟨a, ns, rfl, _⟩ := h
    rfl
  · obtain ⟨a, ns, rfl, hS, hlen, kq⟩ := h
    have G_l_pool : FnOk P w K mg base CX0 1 T.f_l_pool T.fd_l_pool P_l_pool (spPool K) := ok_l_pool T
    have G_l_pick : FnOk P w K mg base CX0 2 T.f_l_pick T.fd_l_pick P_l_pick spPick := ok_l_pick T
    have G_l_plain_errors : FnOk P w K mg base CX0 1 T.f_l_plain_errors T.fd_l_plain_errors P_l_plain_errors (spPlain T) := ok_l_plain_errors T
    have G_l_place_errors : FnOk P w K mg base CX0 4 T.f_l_place_errors T.fd_l_place_errors P_l_place_errors (spPlace T) := ok_l_place_errors T
    have G_l_kinds_of : FnOk P w K mg base CX0 1 T.f_l_kinds_of T.fd_l_kinds_of P_l_kinds_of (spKinds T) := ok_l_kinds_of T
    have G_l_same : FnOk P w K mg base CX0 1 T.f_l_same T.fd_l_same P_l_same (spSame T.C_Stuck) := ok_l_same T
    refine ⟨_, (pss_cons (ps_set (i := 1) sc_law.nd rfl (Or.inl rfl) (pe_call G_l_pool (hr.mono (by decide)) rfl T.m_l_pool T.F_l_pool.kp T.b_l_pool .nil pass0 (pa_cons (pv 0) pa_nil)))
        (pss_cons (ps_set (i := 2) sc_law.nd rfl (Or.inl rfl) (pe_lst (pa_cons pe_non (pa_cons pe_int (pa_cons (pe_un un_neg pe_int) (pa_cons pe_str (pa_cons pe_str (pa_cons (pe_tup (pa_cons pe_int (pa_cons pe_int pa_nil))) (pa_cons (pe_lst (pa_cons pe_int pa_nil)) (pa_cons pe_dnewK (pa_cons pe_bl (pa_cons (pe_op op_pow pe_int pe_int) (pa_cons (pe_exc0 PySem.F.excBase_Exception T.in_Stuck T.g_Stuck T.kc_Stuck rfl) pa_nil)))))))))))))
        (pss_cons (ps_asg (pe_tup (pa_cons (pe_call G_l_pick (hr.mono (by decide)) rfl T.m_l_pick T.F_l_pick.kp T.b_l_pick .nil pass0 (pa_cons (pv 1) (pa_cons (pv 2) pa_nil))) (pa_cons (pe_call G_l_pick (hr.mono (by decide)) rfl T.m_l_pick T.F_l_pick.kp T.b_l_pick .nil pass0 (pa_cons (pv 1) (pa_cons (pv 2) pa_nil))) pa_nil))) (pg_tup rfl (pgs_cons (pg_name (i := 3) sc_law.nd rfl (Or.inr rfl)) (pgs_cons (pg_name (i := 4) sc_law.nd rfl (Or.inl rfl)) pgs_nil))))
        (pss_cons (ps_set (i := 5) sc_law.nd rfl (Or.inl rfl) (pe_op op_cat (pe_call0 G_l_plain_errors (hr.mono (by decide)) rfl T.m_l_plain_errors T.F_l_plain_errors.kp T.b_l_plain_errors .nil pass0) (pe_call G_l_place_errors (hr.mono (by decide)) rfl T.m_l_place_errors T.F_l_place_errors.kp T.b_l_place_errors .nil pass0 (pa_cons (pv 3) pa_nil))))
        (pss_cons (ps_set (i := 5) sc_law.nd rfl (Or.inl rfl) (pe_op op_cat (pv 5) (pe_lst (pa_cons (pe_InvalidLoom (k := 3) T.X_InvalidLoom (hr.mono (by decide)) (pa_cons (pv 3) (pa_cons (pv 4) pa_nil))) (pa_cons (pe_InvalidPage (k := 3) T.X_InvalidPage (hr.mono (by decide)) (pa_cons (pv 3) pa_nil)) (pa_cons (pe_LimitExceeded (k := 3) T.X_LimitExceeded (hr.mono (by decide)) (pa_cons (pv 3) pa_nil)) (pa_cons (pe_NothingLeft (k := 3) T.X_NothingLeft (hr.mono (by decide)) (pa_cons (pv 3) pa_nil)) pa_nil)))))))
        (pss_cons (ps_for PassesOwn.never rfl (pi_range1 rfl T.n_range (pa_cons (pe_callB (call_len_seqK (K := K) rfl) rfl T.n_len (by decide +kernel) (pa_cons (pv 5) pa_nil)) pa_nil)) (pg_name (i := 6) sc_law.nd rfl (Or.inr rfl)) (pss_cons (ps_set (i := 7) sc_law.nd rfl (Or.inl rfl) (pe_ix (ix_listK (K := K) rfl) (pv 5) (pv 6) (fun _ _ => rfl)))
        (pss_cons (ps_if (pt_cmpR (op_neD hr.units) (pe_call G_l_kinds_of (hr.mono (by decide)) rfl T.m_l_kinds_of T.F_l_kinds_of.kp T.b_l_kinds_of .nil pass0 (pa_cons (pv 7) pa_nil)) (pe_lc (own := [("_law_j", 9)]) (g := (gName 9)) rfl sc_law.nd (pi_range1 rfl T.n_range (pa_cons (pe_callB (call_len_seqK (K := K) rfl) rfl T.n_len (by decide +kernel) (pa_cons (pv 5) pa_nil)) pa_nil)) (blkOk_by (N := N_law) (sc := defScope s_law) (by decide +kernel)) (fun _ _ _ _ _ => (pg_name (i := 9) sc_law.nd rfl (Or.inl rfl))) (fun _ _ _ _ _ => pts_nil) (fun _ _ _ _ _ => (pe_cmpR op_eq (pv 9) (pv 6) (nomark _)))) (nomark _)) (pss_one (ps_ret pe_bl)) pss_nil)
        (pss_cons (ps_if (PW.pt (pw_or (pt_not (pt_val (pe_callB (call_isiZ (K := K) rfl) rfl T.n_isinstance (by decide +kernel) (pa_cons (pv 7) (pa_cons (pe_glob (v := V.ref T.C_ReadError) rfl T.g_ReadError rfl) pa_nil))))) (pw_or1 (pt_not (pt_val (pe_callB (call_isiZ (K := K) rfl) rfl T.n_isinstance (by decide +kernel) (pa_cons (pv 7) (pa_cons (pe_bltn (v := V.ty "Exception") (u := .type "Exception") rfl T.n_Exception (by decide +kernel) rfl) pa_nil)))))))) (pss_one (ps_ret pe_bl)) pss_nil)
        (pss_one (ps_if (pt_val (pe_callB (call_isiTZ (K := K) rfl) rfl T.n_isinstance (by decide +kernel) (pa_cons (pv 7) (pa_cons (pe_tup (pa_cons (pe_bltn (v := V.ty "ValueError") (u := .type "ValueError") rfl T.n_ValueError (by decide +kernel) rfl) (pa_cons (pe_bltn (v := V.ty "LookupError") (u := .type "LookupError") rfl T.n_LookupError (by decide +kernel) rfl) (pa_cons (pe_bltn (v := V.ty "TypeError") (u := .type "TypeError") rfl T.n_TypeError (by decide +kernel) rfl) pa_nil)))) pa_nil)))) (pss_one (ps_ret pe_bl)) pss_nil))))))
        (pss_cons (ps_if (pt_cmpR (op_neD hr.units) (pe_lc (own := [("_law_e", 7)]) (g := (gName 7)) rfl sc_law.nd (pi_list (pe_call G_l_place_errors (hr.mono (by decide)) rfl T.m_l_place_errors T.F_l_place_errors.kp T.b_l_place_errors .nil pass0 (pa_cons (pv 3) pa_nil))) (blkOk_by (N := N_law) (sc := defScope s_law) (by decide +kernel)) (fun _ _ _ _ _ => (pg_name (i := 7) sc_law.nd rfl (Or.inl rfl))) (fun _ _ _ _ _ => (pts_one (pt_not (pt_val (pe_call G_l_same (hr.mono (by decide)) rfl T.m_l_same T.F_l_same.kp T.b_l_same .nil pass0 (pa_cons (pe_xat (K := K) rfl (pv 7) rfl) (pa_cons (pv 3) pa_nil))))))) (fun _ _ _ _ _ => pe_int)) (pe_lst pa_nil) (nomark _)) (pss_one (ps_ret pe_bl)) pss_nil)
        (pss_cons (ps_set (i := 8) sc_law.nd rfl (Or.inl rfl) (pe_InvalidLoom (k := 3) T.X_InvalidLoom (hr.mono (by decide)) (pa_cons (pv 3) (pa_cons (pv 4) pa_nil))))
        (pss_cons (ps_if (PW.pt (pw_or (pt_not (pt_val (pe_call G_l_same (hr.mono (by decide)) rfl T.m_l_same T.F_l_same.kp T.b_l_same .nil pass0 (pa_cons (pe_xat (K := K) rfl (pv 8) rfl) (pa_cons (pv 3) pa_nil))))) (pw_or1 (pt_not (pt_val (pe_call G_l_same (hr.mono (by decide)) rfl T.m_l_same T.F_l_same.kp T.b_l_same .nil pass0 (pa_cons (pe_xat (K := K) rfl (pv 8) rfl) (pa_cons (pv 4) pa_nil)))))))) (pss_one (ps_ret pe_bl)) pss_nil)
        (pss_cons (ps_if (PW.pt (pw_or (pt_not (pt_val (pe_call G_l_same (hr.mono (by decide)) rfl T.m_l_same T.F_l_same.kp T.b_l_same .nil pass0 (pa_cons (pe_xat (K := K) rfl (pe_InvalidPage (k := 3) T.X_InvalidPage (hr.mono (by decide)) (pa_cons (pv 3) pa_nil)) rfl) (pa_cons (pv 3) pa_nil))))) (pw_or1 (pt_not (pt_val (pe_call G_l_same (hr.mono (by decide)) rfl T.m_l_same T.F_l_same.kp T.b_l_same .nil pass0 (pa_cons (pe_xat (K := K) rfl (pe_LimitExceeded (k := 3) T.X_LimitExceeded (hr.mono (by decide)) (pa_cons (pv 3) pa_nil)) rfl) (pa_cons (pv 3) pa_nil)))))))) (pss_one (ps_ret pe_bl)) pss_nil)
        (pss_one (ps_ret (pe_call G_l_same (hr.mono (by decide)) rfl T.m_l_same T.F_l_same.kp T.b_l_same .nil pass0 (pa_cons (pe_xat (K := K) rfl (pe_NothingLeft (k := 3) T.X_NothingLeft (hr.mono (by decide)) (pa_cons (pv 3) pa_nil)) rfl) (pa_cons (pv 3) pa_nil))))))))))))))), ?_⟩
    refine ⟨_, rfl, a, ns, rfl, hS, hlen, fun p Hp hP sp => ?_⟩
    refine ⟨_, rfl, ?_⟩
    clear hS sp
    have sm0 : Same Hp Hp := fun _ _ e => e
    refine ⟨le_size (by simp), fun a1 h1 => ?_⟩
    have s1 : Same Hp (upd Hp a1 (HO.tup [V.int 1, V.int 2])) := Same.new _ h1
    have g1 : (upd Hp a1 (HO.tup [V.int 1, V.int 2])) a1 = some (HO.tup [V.int 1, V.int 2]) := upd_same
    generalize upd Hp a1 (HO.tup [V.int 1, V.int 2]) = H1 at *
    have sm1 : Same Hp H1 := sm0.trans s1
    refine ⟨le_size (by simp), fun a2 h2 => ?_⟩
    have s2 : Same H1 (upd H1 a2 (HO.lst [V.int 3])) := Same.new _ h2
    have g2 : (upd H1 a2 (HO.lst [V.int 3])) a2 = some (HO.lst [V.int 3]) := upd_same
    generalize upd H1 a2 (HO.lst [V.int 3]) = H2 at *
    replace g1 := s2 _ _ g1
    have sm2 : Same Hp H2 := sm1.trans s2
    intro a3 h3
    have s3 : Same H2 (upd H2 a3 (HO.dK [])) := Same.new _ h3
    have g3 : (upd H2 a3 (HO.dK [])) a3 = some (HO.dK []) := upd_same
    generalize upd H2 a3 (HO.dK []) = H3 at *
    replace g1 := s3 _ _ g1
    replace g2 := s3 _ _ g2
    have sm3 : Same Hp H3 := sm2.trans s3
    refine ⟨_, _, rfl, rfl, ⟨by decide, by decide, by decide⟩, ?_⟩
    intro a4 h4
    have s4 : Same H3 (upd H3 a4 (ExO (.ref T.C_Stuck) a4)) := Same.new _ h4
    have g4 : (upd H3 a4 (ExO (.ref T.C_Stuck) a4)) a4 = some (ExO (.ref T.C_Stuck) a4) := upd_same
    generalize upd H3 a4 (ExO (.ref T.C_Stuck) a4) = H4 at *
    replace g1 := s4 _ _ g1
    replace g2 := s4 _ _ g2
    replace g3 := s4 _ _ g3
    have sm4 : Same Hp H4 := sm3.trans s4
    refine ⟨le_size (by simp), fun a5 h5 => ?_⟩
    have s5 : Same H4 (upd H4 a5 (HO.lst [V.non, V.int 0, V.int (-1), V.str "a", V.str "", V.ref a1, V.ref a2, V.ref a3, V.bl true, V.int (10 ^ (30 : Int).toNat), V.ref a4])) := Same.new _ h5
    have g5 : (upd H4 a5 (HO.lst [V.non, V.int 0, V.int (-1), V.str "a", V.str "", V.ref a1, V.ref a2, V.ref a3, V.bl true, V.int (10 ^ (30 : Int).toNat), V.ref a4])) a5 = some (HO.lst [V.non, V.int 0, V.int (-1), V.str "a", V.str "", V.ref a1, V.ref a2, V.ref a3, V.bl true, V.int (10 ^ (30 : Int).toNat), V.ref a4]) := upd_same
    generalize upd H4 a5 (HO.lst [V.non, V.int 0, V.int (-1), V.str "a", V.str "", V.ref a1, V.ref a2, V.ref a3, V.bl true, V.int (10 ^ (30 : Int).toNat), V.ref a4]) = H5 at *
    replace g1 := s5 _ _ g1
    replace g2 := s5 _ _ g2
    replace g3 := s5 _ _ g3
    replace g4 := s5 _ _ g4
    have sm5 : Same Hp H5 := sm4.trans s5
    have hP5 := hP.same sm5
    have q5 : a5 ≠ p := (by obtain ⟨_, _, _, _, _, _, z, _, _⟩ := hP.same sm4; exact hp_ne z h5)
    have th5 : ∀ x ∈ [V.non, V.int 0, V.int (-1), V.str "a", V.str "", V.ref a1, V.ref a2, V.ref a3, V.bl true, V.int (10 ^ (30 : Int).toNat), V.ref a4], Thg T.C_Stuck H5 x := fun x hx => by
      simp only [List.mem_cons, List.not_mem_nil, or_false] at hx
      rcases hx with rfl | rfl | rfl | rfl | rfl | rfl | rfl | rfl | rfl | rfl | rfl
      · exact .non
      · exact .int _
      · exact .int _
      · exact .str _
      · exact .str _
      · exact .tup g1
      · exact .lst g2
      · exact .dic g3
      · exact .bl _
      · exact .int _
      · exact .exo g4
    clear g1 g2 g3 g4 h1 h2 h3 h4 h5 sm1 sm2 sm3 sm4 sm0 s1 s2 s3 s4 s5 sm5
    refine ⟨_, rfl, _, rfl, p, a5, _, rfl, hP5, q5, g5, by simp, by simp, fun H6 x x6 hP6 hx => ?_⟩
    refine ⟨_, rfl, _, rfl, p, a5, _, rfl, hP6, q5, x6 _ _ q5 g5, by simp, by simp, fun H7 y x7 hP7 hy => ?_⟩
    have tx : Thg T.C_Stuck H7 x := thg_move (thg_move (th5 x hx) hP5 x6) hP6 x7
    have ty : Thg T.C_Stuck H7 y := thg_move (thg_move (th5 y hy) hP5 x6) hP6 x7
    clear th5 hx hy hP5 hP6 hP7 x6 x7
    refine ⟨le_size (by simp), fun t ht => ?_⟩
    replace tx := tx.same (Same.new (.tup [x, y]) ht)
    replace ty := ty.same (Same.new (.tup [x, y]) ht)
    have gt : upd H7 t (.tup [x, y]) t = some (.tup [x, y]) := upd_same
    generalize upd H7 t (.tup [x, y]) = H8 at *
    refine ⟨t, _, rfl, SqT.of gt, rfl, _, _, rfl, _, _, rfl, rfl, ?_⟩
    clear gt ht
    refine ⟨rfl, fun q1 xs1 H9 g9 l1 er1 s9 => ?_⟩
    refine ⟨_, rfl, x, rfl, fun q2 xs2 H10 g10 l2 er2 s10 => ?_⟩
    refine ⟨_, _, _, _, rfl, rfl, s10 _ _ g9, g10, le_size (by omega), fun b hb => ?_⟩
    have er : ∀ i v, (xs1 ++ xs2)[i]? = some v → ErrAt T H10 i v := fun i v hv => by
      by_cases hi : i < 12
      · rw [List.getElem?_append_left (by omega)] at hv
        exact (er1 i v hv).same s10
      · rw [List.getElem?_append_right (by omega), l1] at hv
        have z := (er2 _ v hv).err
        rwa [show 12 + (i - 12) = i by omega] at z
    have sb : Same H10 (upd H10 b (.lst (xs1 ++ xs2))) := Same.new _ hb
    have gb : upd H10 b (.lst (xs1 ++ xs2)) b = some (.lst (xs1 ++ xs2)) := upd_same
    replace er := fun i v hv => (er i v hv).same sb
    replace tx := tx.same ((s9.trans s10).trans sb)
    replace ty := ty.same ((s9.trans s10).trans sb)
    generalize upd H10 b (.lst (xs1 ++ xs2)) = H11 at *
    have hl17 : (xs1 ++ xs2).length = 17 := by rw [List.length_append, l1, l2]
    generalize xs1 ++ xs2 = xs at *
    clear er1 er2 g9 g10 hb
    refine ⟨_, rfl, ?_⟩
    have sm0 : Same H11 H11 := fun _ _ e => e
    refine ⟨_, rfl, _, rfl, _, _, rfl, fun a1 d1 h1 hd1 hne1 => ?_⟩
    have s1 : Same H11 (upd (upd H11 d1 (.xd (fs_InvalidLoom x y))) a1 (ExD T.C_InvalidLoom d1 a1)) := (Same.new _ hd1).trans (Same.new _ (by rw [upd_ne hne1.symm]; exact h1))
    have g1 : (upd (upd H11 d1 (.xd (fs_InvalidLoom x y))) a1 (ExD T.C_InvalidLoom d1 a1)) a1 = some (ExD T.C_InvalidLoom d1 a1) := upd_same
    have e1 : (upd (upd H11 d1 (.xd (fs_InvalidLoom x y))) a1 (ExD T.C_InvalidLoom d1 a1)) d1 = some (.xd (fs_InvalidLoom x y)) := by rw [upd_ne hne1]; exact upd_same
    have f1 : ErrAt T (upd (upd H11 d1 (.xd (fs_InvalidLoom x y))) a1 (ExD T.C_InvalidLoom d1 a1)) 17 (.ref a1) := ⟨_, rfl, .inr ⟨d1, _, g1, e1⟩⟩
    generalize upd (upd H11 d1 (.xd (fs_InvalidLoom x y))) a1 (ExD T.C_InvalidLoom d1 a1) = H1 at *
    have sm1 : Same H11 H1 := sm0.trans s1
    refine ⟨_, rfl, _, rfl, fun a2 d2 h2 hd2 hne2 => ?_⟩
    have s2 : Same H1 (upd (upd H1 d2 (.xd (fs_InvalidPage x))) a2 (ExD T.C_InvalidPage d2 a2)) := (Same.new _ hd2).trans (Same.new _ (by rw [upd_ne hne2.symm]; exact h2))
    have g2 : (upd (upd H1 d2 (.xd (fs_InvalidPage x))) a2 (ExD T.C_InvalidPage d2 a2)) a2 = some (ExD T.C_InvalidPage d2 a2) := upd_same
    have e2 : (upd (upd H1 d2 (.xd (fs_InvalidPage x))) a2 (ExD T.C_InvalidPage d2 a2)) d2 = some (.xd (fs_InvalidPage x)) := by rw [upd_ne hne2]; exact upd_same
    have f2 : ErrAt T (upd (upd H1 d2 (.xd (fs_InvalidPage x))) a2 (ExD T.C_InvalidPage d2 a2)) 18 (.ref a2) := ⟨_, rfl, .inr ⟨d2, _, g2, e2⟩⟩
    generalize upd (upd H1 d2 (.xd (fs_InvalidPage x))) a2 (ExD T.C_InvalidPage d2 a2) = H2 at *
    replace g1 := s2 _ _ g1
    replace f1 := f1.same s2
    replace e1 := s2 _ _ e1
    have sm2 : Same H11 H2 := sm1.trans s2
    refine ⟨_, rfl, _, rfl, fun a3 d3 h3 hd3 hne3 => ?_⟩
    have s3 : Same H2 (upd (upd H2 d3 (.xd (fs_LimitExceeded x))) a3 (ExD T.C_LimitExceeded d3 a3)) := (Same.new _ hd3).trans (Same.new _ (by rw [upd_ne hne3.symm]; exact h3))
    have g3 : (upd (upd H2 d3 (.xd (fs_LimitExceeded x))) a3 (ExD T.C_LimitExceeded d3 a3)) a3 = some (ExD T.C_LimitExceeded d3 a3) := upd_same
    have e3 : (upd (upd H2 d3 (.xd (fs_LimitExceeded x))) a3 (ExD T.C_LimitExceeded d3 a3)) d3 = some (.xd (fs_LimitExceeded x)) := by rw [upd_ne hne3]; exact upd_same
    have f3 : ErrAt T (upd (upd H2 d3 (.xd (fs_LimitExceeded x))) a3 (ExD T.C_LimitExceeded d3 a3)) 19 (.ref a3) := ⟨_, rfl, .inr ⟨d3, _, g3, e3⟩⟩
    generalize upd (upd H2 d3 (.xd (fs_LimitExceeded x))) a3 (ExD T.C_LimitExceeded d3 a3) = H3 at *
    replace g1 := s3 _ _ g1
    replace f1 := f1.same s3
    replace e1 := s3 _ _ e1
    replace g2 := s3 _ _ g2
    replace f2 := f2.same s3
    replace e2 := s3 _ _ e2
    have sm3 : Same H11 H3 := sm2.trans s3
    refine ⟨_, rfl, _, rfl, fun a4 d4 h4 hd4 hne4 => ?_⟩
    have s4 : Same H3 (upd (upd H3 d4 (.xd (fs_NothingLeft x))) a4 (ExD T.C_NothingLeft d4 a4)) := (Same.new _ hd4).trans (Same.new _ (by rw [upd_ne hne4.symm]; exact h4))
    have g4 : (upd (upd H3 d4 (.xd (fs_NothingLeft x))) a4 (ExD T.C_NothingLeft d4 a4)) a4 = some (ExD T.C_NothingLeft d4 a4) := upd_same
    have e4 : (upd (upd H3 d4 (.xd (fs_NothingLeft x))) a4 (ExD T.C_NothingLeft d4 a4)) d4 = some (.xd (fs_NothingLeft x)) := by rw [upd_ne hne4]; exact upd_same
    have f4 : ErrAt T (upd (upd H3 d4 (.xd (fs_NothingLeft x))) a4 (ExD T.C_NothingLeft d4 a4)) 20 (.ref a4) := ⟨_, rfl, .inr ⟨d4, _, g4, e4⟩⟩
    generalize upd (upd H3 d4 (.xd (fs_NothingLeft x))) a4 (ExD T.C_NothingLeft d4 a4) = H4 at *
    replace g1 := s4 _ _ g1
    replace f1 := f1.same s4
    replace e1 := s4 _ _ e1
    replace g2 := s4 _ _ g2
    replace f2 := f2.same s4
    replace e2 := s4 _ _ e2
    replace g3 := s4 _ _ g3
    replace f3 := f3.same s4
    replace e3 := s4 _ _ e3
    have sm4 : Same H11 H4 := sm3.trans s4
    refine ⟨le_size (by simp), fun a5 h5 => ?_⟩
    have s5 : Same H4 (upd H4 a5 (HO.lst [V.ref a1, V.ref a2, V.ref a3, V.ref a4])) := Same.new _ h5
    have g5 : (upd H4 a5 (HO.lst [V.ref a1, V.ref a2, V.ref a3, V.ref a4])) a5 = some (HO.lst [V.ref a1, V.ref a2, V.ref a3, V.ref a4]) := upd_same
    generalize upd H4 a5 (HO.lst [V.ref a1, V.ref a2, V.ref a3, V.ref a4]) = H5 at *
    replace g1 := s5 _ _ g1
    replace f1 := f1.same s5
    replace e1 := s5 _ _ e1
    replace g2 := s5 _ _ g2
    replace f2 := f2.same s5
    replace e2 := s5 _ _ e2
    replace g3 := s5 _ _ g3
    replace f3 := f3.same s5
    replace e3 := s5 _ _ e3
    replace g4 := s5 _ _ g4
    replace f4 := f4.same s5
    replace e4 := s5 _ _ e4
    have sm5 : Same H11 H5 := sm4.trans s5
    refine ⟨_, _, _, _, rfl, rfl, sm5 _ _ gb, g5, le_size (by simp; omega), fun c hc => ?_⟩
    have er21 : ∀ i v, (xs ++ [V.ref a1, V.ref a2, V.ref a3, V.ref a4])[i]? = some v → ErrAt T H5 i v := fun i v hv => by
      by_cases hi : i < 17
      · rw [List.getElem?_append_left (by omega)] at hv
        exact (er i v hv).same sm5
      · rw [List.getElem?_append_right (by omega), hl17] at hv
        obtain ⟨j, rfl⟩ : ∃ j, i = 17 + j := ⟨i - 17, by omega⟩
        rw [show 17 + j - 17 = j by omega] at hv
        match j, hv with
        | 0, rfl => exact f1
        | 1, rfl => exact f2
        | 2, rfl => exact f3
        | 3, rfl => exact f4
        | n + 4, hv => exact absurd hv (by simp)
    have hl21 : (xs ++ [V.ref a1, V.ref a2, V.ref a3, V.ref a4]).length = 21 := by simp [hl17]
    replace tx := tx.same sm5
    replace ty := ty.same sm5
    clear er f1 f2 f3 f4 g1 g2 g3 g4 g5 e1 e2 e3 e4 s1 s2 s3 s4 s5 sm0 sm1 sm2 sm3 sm4 sm5 h1 h2 h3 h4 h5 hd1 hd2 hd3 hd4 hne1 hne2 hne3 hne4 gb
    generalize xs ++ [V.ref a1, V.ref a2, V.ref a3, V.ref a4] = es at *
    replace er21 := fun i v hv => (er21 i v hv).same (Same.new (.lst es) hc)
    replace tx := tx.same (Same.new (.lst es) hc)
    replace ty := ty.same (Same.new (.lst es) hc)
    have gc : upd H5 c (.lst es) c = some (.lst es) := upd_same
    generalize upd H5 c (.lst es) = H12 at *
    refine ⟨_, rfl, c, es, rfl, .inl (SqL.of gc), _, rfl, by omega, by omega, for_range (lo := 0) (n := es.length) (fun i σ H' => (∃ v2 v6 v7 : Option V, σ = [some (.ref a), some (.ref p), v2, some x, some y, some (.ref c), v6, v7, none, none]) ∧ Same H12 H') ?_ ?_ ?_⟩
    · exact ⟨⟨_, none, none, rfl⟩, fun _ _ e => e⟩
    · rintro i σ H13 hi ⟨⟨v2, v6, v7, rfl⟩, s13⟩
      have hi21 : i < 21 := by omega
      have ei : es[i]? = some es[i] := List.getElem?_eq_getElem hi
      have ez : (0 : Int) + (i : Int) = (i : Int) := by omega
      have he := er21 i _ ei
      generalize es[i] = ev at *
      refine ⟨_, rfl, _, rfl, c, es, _, _, rfl, rfl, SqL.of (s13 _ _ gc), by rw [ez]; exact atI_nat ei, ?_⟩
      refine ⟨_, rfl, ev, i, rfl, hi21, he.same s13, fun q H14 g14 s14 => ?_⟩
      have s1314 : Same H12 H14 := s13.trans s14
      refine ⟨_, rfl, c, es, rfl, .inl (SqL.of (s1314 _ _ gc)), _, rfl, by omega, by omega, fun D hD => lc_range (lo := 0) (n := es.length) (fun j H' => H' D = some (.lst ((List.range j).map fun j => V.bl (j == i))) ∧ Same H14 H') ⟨upd_same, Same.new _ hD⟩ ?_ ?_⟩
      · rintro j H15 hj ⟨hDl, s15⟩
        refine ⟨rfl, _, rfl, _, rfl, rfl, _, hDl, lt_size (by simp; omega), ?_, s15.updNew hD⟩
        rw [upd_same, List.range_succ, List.map_append, eqv_int]
        rfl
      · rintro H15 ⟨hDl, s15⟩
        have hk := kinds_ok i hi21
        rw [hl21] at hDl
        have s12 : Same H12 H15 := s1314.trans s15
        refine ⟨_, _, .lst (SqL.of (s15 _ _ g14)) (dp_kinds i _), .lst (SqL.of hDl) (dp_kinds i _), hk.1, hk.1, false, congrArg V.bl (by rw [hk.2]; rfl), ?_⟩
        refine iteF ?_
        refine ⟨_, rfl, _, _, _, _, true, rfl, .own _, (he.same s12).ty hi21, kit_read T hi21, true, rfl, ?_⟩
        refine iteF ?_
        refine ⟨_, rfl, _, _, _, _, true, rfl, .ty "Exception", (he.same s12).ty hi21, kit_exc T hi21, true, rfl, ?_⟩
        refine iteF ?_
        refine ⟨_, rfl, le_size (by simp), fun t ht => ⟨_, t, _, _, _, false, rfl, upd_same, .cons (.ty _) (.cons (.ty _) (.cons (.ty _) .nil)), ((he.same s12).same (Same.new _ ht)).ty hi21, kit_three T hi21, false, rfl, ?_⟩⟩
        refine iteF ?_
        exact ⟨⟨_, _, _, rfl⟩, s12.trans (Same.new _ ht)⟩
    · rintro σ H13 ⟨⟨v2, v6, v7, rfl⟩, s13⟩
      replace tx := tx.same s13
      replace ty := ty.same s13
      refine ⟨_, rfl, x, rfl, fun q xs H14 g14 l14 er14 s14 => ⟨q, rfl, ⟨_, SqL.of g14⟩, fun D hD => lc_list (K := K) (a := q) (xs := xs) (fun i H' => H' D = some (.lst []) ∧ Same H14 H') ⟨upd_same, Same.new _ hD⟩ (fun i H' _ ⟨_, sm⟩ => SqL.of (sm _ _ g14)) ?_ ?_⟩⟩
      · rintro i y1 H15 hy1 ⟨hDl, s15⟩
        have hi5 : i < 5 := by have := (List.getElem?_eq_some_iff.mp hy1).1; omega
        obtain ⟨m, d, fs, rfl, gm, gd, hlk⟩ := (er14 i _ hy1).same s15
        refine ⟨rfl, _, rfl, m, cs T (12 + i), d, fs, x, rfl, gm, gd, xf_all T (by omega), no_at T i hi5, hlk, _, rfl, x, rfl, (tx.same s14).same s15, true, rfl, ?_⟩
        exact iteF ⟨hDl, s15⟩
      · rintro H15 ⟨hDl, s15⟩
        refine ⟨le_size (by simp), fun e0 he0 => ?_⟩
        refine ⟨_, _, .lst (SqL.of (Same.new (.lst []) he0 _ _ hDl)) .nil, .lst (SqL.of upd_same) .nil, by decide, by decide, false, congrArg V.bl (by decide), ?_⟩
        refine iteF ?_
        have s16 : Same H13 (upd H15 e0 (.lst [])) := (s14.trans s15).trans (Same.new _ he0)
        replace tx := tx.same s16
        replace ty := ty.same s16
        generalize upd H15 e0 (.lst []) = H16 at *
        clear s16 s15 s14 s13 hDl he0 g14 er14 gc er21 hD
        refine ⟨_, rfl, _, rfl, _, _, rfl, fun m d hm hd hne => ?_⟩
        have S1 : Same H16 (upd (upd H16 d (.xd (fs_InvalidLoom x y))) m (ExD T.C_InvalidLoom d m)) := (Same.new _ hd).trans (Same.new _ (by rw [upd_ne hne.symm]; exact hm))
        have gm : upd (upd H16 d (.xd (fs_InvalidLoom x y))) m (ExD T.C_InvalidLoom d m) m = some (ExD T.C_InvalidLoom d m) := upd_same
        have gd : upd (upd H16 d (.xd (fs_InvalidLoom x y))) m (ExD T.C_InvalidLoom d m) d = some (.xd (fs_InvalidLoom x y)) := by rw [upd_ne hne]; exact upd_same
        replace tx := tx.same S1
        replace ty := ty.same S1
        generalize upd (upd H16 d (.xd (fs_InvalidLoom x y))) m (ExD T.C_InvalidLoom d m) = H17 at *
        clear S1 hm hd hne
        refine ⟨_, rfl, m, T.C_InvalidLoom, d, _, x, rfl, gm, gd, xf_all T (k := 17) (by decide), T.nx_InvalidLoom_part, rfl, _, rfl, x, rfl, tx, true, rfl, ?_⟩
        refine iteF ?_
        refine ⟨_, rfl, m, T.C_InvalidLoom, d, _, y, rfl, gm, gd, xf_all T (k := 17) (by decide), T.nx_InvalidLoom_at, rfl, _, rfl, y, rfl, ty, true, rfl, ?_⟩
        refine iteF ?_
        clear gm gd
        refine ⟨_, rfl, _, rfl, fun m3 d3 hm hd hne => ?_⟩
        have S1 : Same H17 (upd (upd H17 d3 (.xd (fs_InvalidPage x))) m3 (ExD T.C_InvalidPage d3 m3)) := (Same.new _ hd).trans (Same.new _ (by rw [upd_ne hne.symm]; exact hm))
        have gm : (upd (upd H17 d3 (.xd (fs_InvalidPage x))) m3 (ExD T.C_InvalidPage d3 m3)) m3 = some (ExD T.C_InvalidPage d3 m3) := upd_same
        have gd : (upd (upd H17 d3 (.xd (fs_InvalidPage x))) m3 (ExD T.C_InvalidPage d3 m3)) d3 = some (.xd (fs_InvalidPage x)) := by rw [upd_ne hne]; exact upd_same
        replace tx := tx.same S1
        generalize upd (upd H17 d3 (.xd (fs_InvalidPage x))) m3 (ExD T.C_InvalidPage d3 m3) = H18 at *
        clear S1 hm hd hne
        refine ⟨m3, T.C_InvalidPage, d3, _, x, rfl, gm, gd, xf_all T (k := 18) (by decide), T.nx_InvalidPage_line, rfl, _, rfl, x, rfl, tx, true, rfl, ?_⟩
        refine iteF ?_
        clear gm gd
        refine ⟨_, rfl, _, rfl, fun m4 d4 hm hd hne => ?_⟩
        have S1 : Same H18 (upd (upd H18 d4 (.xd (fs_LimitExceeded x))) m4 (ExD T.C_LimitExceeded d4 m4)) := (Same.new _ hd).trans (Same.new _ (by rw [upd_ne hne.symm]; exact hm))
        have gm : (upd (upd H18 d4 (.xd (fs_LimitExceeded x))) m4 (ExD T.C_LimitExceeded d4 m4)) m4 = some (ExD T.C_LimitExceeded d4 m4) := upd_same
        have gd : (upd (upd H18 d4 (.xd (fs_LimitExceeded x))) m4 (ExD T.C_LimitExceeded d4 m4)) d4 = some (.xd (fs_LimitExceeded x)) := by rw [upd_ne hne]; exact upd_same
        replace tx := tx.same S1
        generalize upd (upd H18 d4 (.xd (fs_LimitExceeded x))) m4 (ExD T.C_LimitExceeded d4 m4) = H19 at *
        clear S1 hm hd hne
        refine ⟨m4, T.C_LimitExceeded, d4, _, x, rfl, gm, gd, xf_all T (k := 19) (by decide), T.nx_LimitExceeded_limit, rfl, _, rfl, x, rfl, tx, true, rfl, ?_⟩
        refine iteF ?_
        clear gm gd
        refine ⟨_, rfl, _, rfl, fun m5 d5 hm hd hne => ?_⟩
        have S1 : Same H19 (upd (upd H19 d5 (.xd (fs_NothingLeft x))) m5 (ExD T.C_NothingLeft d5 m5)) := (Same.new _ hd).trans (Same.new _ (by rw [upd_ne hne.symm]; exact hm))
        have gm : (upd (upd H19 d5 (.xd (fs_NothingLeft x))) m5 (ExD T.C_NothingLeft d5 m5)) m5 = some (ExD T.C_NothingLeft d5 m5) := upd_same
        have gd : (upd (upd H19 d5 (.xd (fs_NothingLeft x))) m5 (ExD T.C_NothingLeft d5 m5)) d5 = some (.xd (fs_NothingLeft x)) := by rw [upd_ne hne]; exact upd_same
        replace tx := tx.same S1
        generalize upd (upd H19 d5 (.xd (fs_NothingLeft x))) m5 (ExD T.C_NothingLeft d5 m5) = H20 at *
        clear S1 hm hd hne
        refine ⟨m5, T.C_NothingLeft, d5, _, x, rfl, gm, gd, xf_all T (k := 20) (by decide), T.nx_NothingLeft_word, rfl, _, rfl, x, rfl, tx, kq _⟩
end
end J

set_option Elab.async false
set_option linter.all false
set_option maxRecDepth 100000
set_option maxHeartbeats 4000000
namespace J
open PySem L2
theorem row_nil {α : Type} : ([] : List α) = [] := rfl
theorem row_cons {α : Type} {a b : α} {l m : List α} (h : a = b) (t : l = m) : (a :: l) = (b :: m) := by rw [h, t]
theorem all_mk {l : PySem.W.OpenLaw} {w : World} {K : PySem.W.Frag} {h : Heap} {mg : Str → Option Value} {fa f_InvalidLoom_init f_InvalidRow_init f_InvalidLengths_init f_InvalidWeights_init f_InvalidBars_init f_InvalidChoice_init f_InvalidPage_init f_LimitExceeded_init f_NothingLeft_init f_l_pool f_l_draw f_l_pick f_l_plain_errors f_l_place_errors f_l_kinds_of f_l_same f_law C_InvalidBars C_InvalidChoice C_InvalidLengths C_InvalidLoom C_InvalidPage C_InvalidRow C_InvalidWeights C_LimitExceeded C_NothingLeft C_ReadError C_UnknownState C_InvalidText C_Stuck C_NotABook C_NotPlain C_NotFull C_NotOneWay C_NotAWire C_Unlike C_InvalidNumber C_UnknownWord C_InvalidWord : Addr} (X : K.In h) (G : h.Ns mainGlobals mg) (hfa : mg "law" = some (.ref fa))
    {od_InvalidLoom_init an_InvalidLoom_init : Option Addr} {sl_InvalidLoom_init : Array (Option Value)} {oc_InvalidLoom_init kV_InvalidLoom_init dc_InvalidLoom_init pm_InvalidLoom_init cd_InvalidLoom_init ct_InvalidLoom_init : Value}
    {od_InvalidRow_init an_InvalidRow_init : Option Addr} {sl_InvalidRow_init : Array (Option Value)} {oc_InvalidRow_init kV_InvalidRow_init dc_InvalidRow_init pm_InvalidRow_init cd_InvalidRow_init ct_InvalidRow_init : Value}
    {od_InvalidLengths_init an_InvalidLengths_init : Option Addr} {sl_InvalidLengths_init : Array (Option Value)} {oc_InvalidLengths_init kV_InvalidLengths_init dc_InvalidLengths_init pm_InvalidLengths_init cd_InvalidLengths_init ct_InvalidLengths_init : Value}
    {od_InvalidWeights_init an_InvalidWeights_init : Option Addr} {sl_InvalidWeights_init : Array (Option Value)} {oc_InvalidWeights_init kV_InvalidWeights_init dc_InvalidWeights_init pm_InvalidWeights_init cd_InvalidWeights_init ct_InvalidWeights_init : Value}
    {od_InvalidBars_init an_InvalidBars_init : Option Addr} {sl_InvalidBars_init : Array (Option Value)} {oc_InvalidBars_init kV_InvalidBars_init dc_InvalidBars_init pm_InvalidBars_init cd_InvalidBars_init ct_InvalidBars_init : Value}
    {od_InvalidChoice_init an_InvalidChoice_init : Option Addr} {sl_InvalidChoice_init : Array (Option Value)} {oc_InvalidChoice_init kV_InvalidChoice_init dc_InvalidChoice_init pm_InvalidChoice_init cd_InvalidChoice_init ct_InvalidChoice_init : Value}
    {od_InvalidPage_init an_InvalidPage_init : Option Addr} {sl_InvalidPage_init : Array (Option Value)} {oc_InvalidPage_init kV_InvalidPage_init dc_InvalidPage_init pm_InvalidPage_init cd_InvalidPage_init ct_InvalidPage_init : Value}
    {od_LimitExceeded_init an_LimitExceeded_init : Option Addr} {sl_LimitExceeded_init : Array (Option Value)} {oc_LimitExceeded_init kV_LimitExceeded_init dc_LimitExceeded_init pm_LimitExceeded_init cd_LimitExceeded_init ct_LimitExceeded_init : Value}
    {od_NothingLeft_init an_NothingLeft_init : Option Addr} {sl_NothingLeft_init : Array (Option Value)} {oc_NothingLeft_init kV_NothingLeft_init dc_NothingLeft_init pm_NothingLeft_init cd_NothingLeft_init ct_NothingLeft_init : Value}
    {od_l_pool an_l_pool : Option Addr} {sl_l_pool : Array (Option Value)} {oc_l_pool kV_l_pool dc_l_pool pm_l_pool cd_l_pool ct_l_pool : Value}
    {od_l_draw an_l_draw : Option Addr} {sl_l_draw : Array (Option Value)} {oc_l_draw kV_l_draw dc_l_draw pm_l_draw cd_l_draw ct_l_draw : Value}
    {od_l_pick an_l_pick : Option Addr} {sl_l_pick : Array (Option Value)} {oc_l_pick kV_l_pick dc_l_pick pm_l_pick cd_l_pick ct_l_pick : Value}
    {od_l_plain_errors an_l_plain_errors : Option Addr} {sl_l_plain_errors : Array (Option Value)} {oc_l_plain_errors kV_l_plain_errors dc_l_plain_errors pm_l_plain_errors cd_l_plain_errors ct_l_plain_errors : Value}
    {od_l_place_errors an_l_place_errors : Option Addr} {sl_l_place_errors : Array (Option Value)} {oc_l_place_errors kV_l_place_errors dc_l_place_errors pm_l_place_errors cd_l_place_errors ct_l_place_errors : Value}
    {od_l_kinds_of an_l_kinds_of : Option Addr} {sl_l_kinds_of : Array (Option Value)} {oc_l_kinds_of kV_l_kinds_of dc_l_kinds_of pm_l_kinds_of cd_l_kinds_of ct_l_kinds_of : Value}
    {od_l_same an_l_same : Option Addr} {sl_l_same : Array (Option Value)} {oc_l_same kV_l_same dc_l_same pm_l_same cd_l_same ct_l_same : Value}
    {od_law an_law : Option Addr} {sl_law : Array (Option Value)} {oc_law kV_law dc_law pm_law cd_law ct_law : Value}
    {nm_InvalidRow q_InvalidRow : Str} {ns_InvalidRow : Addr} {bs_InvalidRow : List Value} {sn_InvalidRow : List Str} {sub_InvalidRow : List Value} {ab_InvalidRow : Bool} {col_InvalidRow : Option Bool} {dd_InvalidRow : Option Addr} {m0_InvalidRow m1_InvalidRow m2_InvalidRow m3_InvalidRow m5_InvalidRow : Option Value}
    {nm_InvalidLengths q_InvalidLengths : Str} {ns_InvalidLengths : Addr} {bs_InvalidLengths : List Value} {sn_InvalidLengths : List Str} {sub_InvalidLengths : List Value} {ab_InvalidLengths : Bool} {col_InvalidLengths : Option Bool} {dd_InvalidLengths : Option Addr} {m0_InvalidLengths m1_InvalidLengths m2_InvalidLengths m3_InvalidLengths m5_InvalidLengths : Option Value}
    {nm_InvalidWeights q_InvalidWeights : Str} {ns_InvalidWeights : Addr} {bs_InvalidWeights : List Value} {sn_InvalidWeights : List Str} {sub_InvalidWeights : List Value} {ab_InvalidWeights : Bool} {col_InvalidWeights : Option Bool} {dd_InvalidWeights : Option Addr} {m0_InvalidWeights m1_InvalidWeights m2_InvalidWeights m3_InvalidWeights m5_InvalidWeights : Option Value}
    {nm_InvalidBars q_InvalidBars : Str} {ns_InvalidBars : Addr} {bs_InvalidBars : List Value} {sn_InvalidBars : List Str} {sub_InvalidBars : List Value} {ab_InvalidBars : Bool} {col_InvalidBars : Option Bool} {dd_InvalidBars : Option Addr} {m0_InvalidBars m1_InvalidBars m2_InvalidBars m3_InvalidBars m5_InvalidBars : Option Value}
    {nm_InvalidChoice q_InvalidChoice : Str} {ns_InvalidChoice : Addr} {bs_InvalidChoice : List Value} {sn_InvalidChoice : List Str} {sub_InvalidChoice : List Value} {ab_InvalidChoice : Bool} {col_InvalidChoice : Option Bool} {dd_InvalidChoice : Option Addr} {m0_InvalidChoice m1_InvalidChoice m2_InvalidChoice m3_InvalidChoice m5_InvalidChoice : Option Value}
    {nm_InvalidLoom q_InvalidLoom : Str} {ns_InvalidLoom : Addr} {bs_InvalidLoom : List Value} {sn_InvalidLoom : List Str} {sub_InvalidLoom : List Value} {ab_InvalidLoom : Bool} {col_InvalidLoom : Option Bool} {dd_InvalidLoom : Option Addr} {m0_InvalidLoom m1_InvalidLoom m2_InvalidLoom m3_InvalidLoom m5_InvalidLoom : Option Value}
    {nm_InvalidPage q_InvalidPage : Str} {ns_InvalidPage : Addr} {bs_InvalidPage : List Value} {sn_InvalidPage : List Str} {sub_InvalidPage : List Value} {ab_InvalidPage : Bool} {col_InvalidPage : Option Bool} {dd_InvalidPage : Option Addr} {m0_InvalidPage m1_InvalidPage m2_InvalidPage m3_InvalidPage m5_InvalidPage : Option Value}
    {nm_LimitExceeded q_LimitExceeded : Str} {ns_LimitExceeded : Addr} {bs_LimitExceeded : List Value} {sn_LimitExceeded : List Str} {sub_LimitExceeded : List Value} {ab_LimitExceeded : Bool} {col_LimitExceeded : Option Bool} {dd_LimitExceeded : Option Addr} {m0_LimitExceeded m1_LimitExceeded m2_LimitExceeded m3_LimitExceeded m5_LimitExceeded : Option Value}
    {nm_NothingLeft q_NothingLeft : Str} {ns_NothingLeft : Addr} {bs_NothingLeft : List Value} {sn_NothingLeft : List Str} {sub_NothingLeft : List Value} {ab_NothingLeft : Bool} {col_NothingLeft : Option Bool} {dd_NothingLeft : Option Addr} {m0_NothingLeft m1_NothingLeft m2_NothingLeft m3_NothingLeft m5_NothingLeft : Option Value}
    (a_CInvalidWord : PySem.W.nsIn K mainGlobals "InvalidWord" = some (some (.ref C_InvalidWord)))
    (a_CUnknownWord : PySem.W.nsIn K mainGlobals "UnknownWord" = some (some (.ref C_UnknownWord)))
    (a_CInvalidNumber : PySem.W.nsIn K mainGlobals "InvalidNumber" = some (some (.ref C_InvalidNumber)))
    (a_CUnlike : PySem.W.nsIn K mainGlobals "Unlike" = some (some (.ref C_Unlike)))
    (a_CNotAWire : PySem.W.nsIn K mainGlobals "NotAWire" = some (some (.ref C_NotAWire)))
    (a_CNotOneWay : PySem.W.nsIn K mainGlobals "NotOneWay" = some (some (.ref C_NotOneWay)))
    (a_CNotFull : PySem.W.nsIn K mainGlobals "NotFull" = some (some (.ref C_NotFull)))
    (a_CNotPlain : PySem.W.nsIn K mainGlobals "NotPlain" = some (some (.ref C_NotPlain)))
    (a_CNotABook : PySem.W.nsIn K mainGlobals "NotABook" = some (some (.ref C_NotABook)))
    (a_CStuck : PySem.W.nsIn K mainGlobals "Stuck" = some (some (.ref C_Stuck)))
    (a_CInvalidText : PySem.W.nsIn K mainGlobals "InvalidText" = some (some (.ref C_InvalidText)))
    (a_CUnknownState : PySem.W.nsIn K mainGlobals "UnknownState" = some (some (.ref C_UnknownState)))
    (a_CReadError : PySem.W.nsIn K mainGlobals "ReadError" = some (some (.ref C_ReadError)))
    (a_CNothingLeft : PySem.W.nsIn K mainGlobals "NothingLeft" = some (some (.ref C_NothingLeft)))
    (a_CLimitExceeded : PySem.W.nsIn K mainGlobals "LimitExceeded" = some (some (.ref C_LimitExceeded)))
    (a_CInvalidWeights : PySem.W.nsIn K mainGlobals "InvalidWeights" = some (some (.ref C_InvalidWeights)))
    (a_CInvalidRow : PySem.W.nsIn K mainGlobals "InvalidRow" = some (some (.ref C_InvalidRow)))
    (a_CInvalidPage : PySem.W.nsIn K mainGlobals "InvalidPage" = some (some (.ref C_InvalidPage)))
    (a_CInvalidLoom : PySem.W.nsIn K mainGlobals "InvalidLoom" = some (some (.ref C_InvalidLoom)))
    (a_CInvalidLengths : PySem.W.nsIn K mainGlobals "InvalidLengths" = some (some (.ref C_InvalidLengths)))
    (a_CInvalidChoice : PySem.W.nsIn K mainGlobals "InvalidChoice" = some (some (.ref C_InvalidChoice)))
    (a_CInvalidBars : PySem.W.nsIn K mainGlobals "InvalidBars" = some (some (.ref C_InvalidBars)))
    (a_InvalidLoom_init : PySem.W.findIn K (.ref C_InvalidLoom) "__init__" = some (some (.ref f_InvalidLoom_init)))
    (i_InvalidLoom_init : PySem.W.isFn K (.ref f_InvalidLoom_init) = true)
    (l_InvalidLoom_init : K.lookup f_InvalidLoom_init = some ⟨oc_InvalidLoom_init, od_InvalidLoom_init, .func (PySem.W.fnOf "__init__" "InvalidLoom.__init__" (defArgs s_InvalidLoom_init) (defBody s_InvalidLoom_init) (defScope s_InvalidLoom_init) .none kV_InvalidLoom_init dc_InvalidLoom_init pm_InvalidLoom_init an_InvalidLoom_init cd_InvalidLoom_init ct_InvalidLoom_init), sl_InvalidLoom_init⟩)
    (c_InvalidLoom_init : PySem.W.codeIn K cd_InvalidLoom_init "InvalidLoom.__init__" = true)
    (k_InvalidLoom_init : PySem.W.keepIn K (.ref f_InvalidLoom_init) = true)
    (a_InvalidRow_init : PySem.W.findIn K (.ref C_InvalidRow) "__init__" = some (some (.ref f_InvalidRow_init)))
    (i_InvalidRow_init : PySem.W.isFn K (.ref f_InvalidRow_init) = true)
    (l_InvalidRow_init : K.lookup f_InvalidRow_init = some ⟨oc_InvalidRow_init, od_InvalidRow_init, .func (PySem.W.fnOf "__init__" "InvalidRow.__init__" (defArgs s_InvalidRow_init) (defBody s_InvalidRow_init) (defScope s_InvalidRow_init) .none kV_InvalidRow_init dc_InvalidRow_init pm_InvalidRow_init an_InvalidRow_init cd_InvalidRow_init ct_InvalidRow_init), sl_InvalidRow_init⟩)
    (c_InvalidRow_init : PySem.W.codeIn K cd_InvalidRow_init "InvalidRow.__init__" = true)
    (k_InvalidRow_init : PySem.W.keepIn K (.ref f_InvalidRow_init) = true)
    (a_InvalidLengths_init : PySem.W.findIn K (.ref C_InvalidLengths) "__init__" = some (some (.ref f_InvalidLengths_init)))
    (i_InvalidLengths_init : PySem.W.isFn K (.ref f_InvalidLengths_init) = true)
    (l_InvalidLengths_init : K.lookup f_InvalidLengths_init = some ⟨oc_InvalidLengths_init, od_InvalidLengths_init, .func (PySem.W.fnOf "__init__" "InvalidLengths.__init__" (defArgs s_InvalidLengths_init) (defBody s_InvalidLengths_init) (defScope s_InvalidLengths_init) .none kV_InvalidLengths_init dc_InvalidLengths_init pm_InvalidLengths_init an_InvalidLengths_init cd_InvalidLengths_init ct_InvalidLengths_init), sl_InvalidLengths_init⟩)
    (c_InvalidLengths_init : PySem.W.codeIn K cd_InvalidLengths_init "InvalidLengths.__init__" = true)
    (k_InvalidLengths_init : PySem.W.keepIn K (.ref f_InvalidLengths_init) = true)
    (a_InvalidWeights_init : PySem.W.findIn K (.ref C_InvalidWeights) "__init__" = some (some (.ref f_InvalidWeights_init)))
    (i_InvalidWeights_init : PySem.W.isFn K (.ref f_InvalidWeights_init) = true)
    (l_InvalidWeights_init : K.lookup f_InvalidWeights_init = some ⟨oc_InvalidWeights_init, od_InvalidWeights_init, .func (PySem.W.fnOf "__init__" "InvalidWeights.__init__" (defArgs s_InvalidWeights_init) (defBody s_InvalidWeights_init) (defScope s_InvalidWeights_init) .none kV_InvalidWeights_init dc_InvalidWeights_init pm_InvalidWeights_init an_InvalidWeights_init cd_InvalidWeights_init ct_InvalidWeights_init), sl_InvalidWeights_init⟩)
    (c_InvalidWeights_init : PySem.W.codeIn K cd_InvalidWeights_init "InvalidWeights.__init__" = true)
    (k_InvalidWeights_init : PySem.W.keepIn K (.ref f_InvalidWeights_init) = true)
    (a_InvalidBars_init : PySem.W.findIn K (.ref C_InvalidBars) "__init__" = some (some (.ref f_InvalidBars_init)))
    (i_InvalidBars_init : PySem.W.isFn K (.ref f_InvalidBars_init) = true)
    (l_InvalidBars_init : K.lookup f_InvalidBars_init = some ⟨oc_InvalidBars_init, od_InvalidBars_init, .func (PySem.W.fnOf "__init__" "InvalidBars.__init__" (defArgs s_InvalidBars_init) (defBody s_InvalidBars_init) (defScope s_InvalidBars_init) .none kV_InvalidBars_init dc_InvalidBars_init pm_InvalidBars_init an_InvalidBars_init cd_InvalidBars_init ct_InvalidBars_init), sl_InvalidBars_init⟩)
    (c_InvalidBars_init : PySem.W.codeIn K cd_InvalidBars_init "InvalidBars.__init__" = true)
    (k_InvalidBars_init : PySem.W.keepIn K (.ref f_InvalidBars_init) = true)
    (a_InvalidChoice_init : PySem.W.findIn K (.ref C_InvalidChoice) "__init__" = some (some (.ref f_InvalidChoice_init)))
    (i_InvalidChoice_init : PySem.W.isFn K (.ref f_InvalidChoice_init) = true)
    (l_InvalidChoice_init : K.lookup f_InvalidChoice_init = some ⟨oc_InvalidChoice_init, od_InvalidChoice_init, .func (PySem.W.fnOf "__init__" "InvalidChoice.__init__" (defArgs s_InvalidChoice_init) (defBody s_InvalidChoice_init) (defScope s_InvalidChoice_init) .none kV_InvalidChoice_init dc_InvalidChoice_init pm_InvalidChoice_init an_InvalidChoice_init cd_InvalidChoice_init ct_InvalidChoice_init), sl_InvalidChoice_init⟩)
    (c_InvalidChoice_init : PySem.W.codeIn K cd_InvalidChoice_init "InvalidChoice.__init__" = true)
    (k_InvalidChoice_init : PySem.W.keepIn K (.ref f_InvalidChoice_init) = true)
    (a_InvalidPage_init : PySem.W.findIn K (.ref C_InvalidPage) "__init__" = some (some (.ref f_InvalidPage_init)))
    (i_InvalidPage_init : PySem.W.isFn K (.ref f_InvalidPage_init) = true)
    (l_InvalidPage_init : K.lookup f_InvalidPage_init = some ⟨oc_InvalidPage_init, od_InvalidPage_init, .func (PySem.W.fnOf "__init__" "InvalidPage.__init__" (defArgs s_InvalidPage_init) (defBody s_InvalidPage_init) (defScope s_InvalidPage_init) .none kV_InvalidPage_init dc_InvalidPage_init pm_InvalidPage_init an_InvalidPage_init cd_InvalidPage_init ct_InvalidPage_init), sl_InvalidPage_init⟩)
    (c_InvalidPage_init : PySem.W.codeIn K cd_InvalidPage_init "InvalidPage.__init__" = true)
    (k_InvalidPage_init : PySem.W.keepIn K (.ref f_InvalidPage_init) = true)
    (a_LimitExceeded_init : PySem.W.findIn K (.ref C_LimitExceeded) "__init__" = some (some (.ref f_LimitExceeded_init)))
    (i_LimitExceeded_init : PySem.W.isFn K (.ref f_LimitExceeded_init) = true)
    (l_LimitExceeded_init : K.lookup f_LimitExceeded_init = some ⟨oc_LimitExceeded_init, od_LimitExceeded_init, .func (PySem.W.fnOf "__init__" "LimitExceeded.__init__" (defArgs s_LimitExceeded_init) (defBody s_LimitExceeded_init) (defScope s_LimitExceeded_init) .none kV_LimitExceeded_init dc_LimitExceeded_init pm_LimitExceeded_init an_LimitExceeded_init cd_LimitExceeded_init ct_LimitExceeded_init), sl_LimitExceeded_init⟩)
    (c_LimitExceeded_init : PySem.W.codeIn K cd_LimitExceeded_init "LimitExceeded.__init__" = true)
    (k_LimitExceeded_init : PySem.W.keepIn K (.ref f_LimitExceeded_init) = true)
    (a_NothingLeft_init : PySem.W.findIn K (.ref C_NothingLeft) "__init__" = some (some (.ref f_NothingLeft_init)))
    (i_NothingLeft_init : PySem.W.isFn K (.ref f_NothingLeft_init) = true)
    (l_NothingLeft_init : K.lookup f_NothingLeft_init = some ⟨oc_NothingLeft_init, od_NothingLeft_init, .func (PySem.W.fnOf "__init__" "NothingLeft.__init__" (defArgs s_NothingLeft_init) (defBody s_NothingLeft_init) (defScope s_NothingLeft_init) .none kV_NothingLeft_init dc_NothingLeft_init pm_NothingLeft_init an_NothingLeft_init cd_NothingLeft_init ct_NothingLeft_init), sl_NothingLeft_init⟩)
    (c_NothingLeft_init : PySem.W.codeIn K cd_NothingLeft_init "NothingLeft.__init__" = true)
    (k_NothingLeft_init : PySem.W.keepIn K (.ref f_NothingLeft_init) = true)
    (a_l_pool : PySem.W.nsIn K mainGlobals "_law_pool" = some (some (.ref f_l_pool)))
    (l_l_pool : K.lookup f_l_pool = some ⟨oc_l_pool, od_l_pool, .func (PySem.W.fnOf "_law_pool" "_law_pool" (defArgs s_l_pool) (defBody s_l_pool) (defScope s_l_pool) .none kV_l_pool dc_l_pool pm_l_pool an_l_pool cd_l_pool ct_l_pool), sl_l_pool⟩)
    (c_l_pool : PySem.W.codeIn K cd_l_pool "_law_pool" = true)
    (k_l_pool : PySem.W.keepIn K (.ref f_l_pool) = true)
    (a_l_draw : PySem.W.nsIn K mainGlobals "_law_draw" = some (some (.ref f_l_draw)))
    (l_l_draw : K.lookup f_l_draw = some ⟨oc_l_draw, od_l_draw, .func (PySem.W.fnOf "_law_draw" "_law_draw" (defArgs s_l_draw) (defBody s_l_draw) (defScope s_l_draw) .none kV_l_draw dc_l_draw pm_l_draw an_l_draw cd_l_draw ct_l_draw), sl_l_draw⟩)
    (c_l_draw : PySem.W.codeIn K cd_l_draw "_law_draw" = true)
    (k_l_draw : PySem.W.keepIn K (.ref f_l_draw) = true)
    (a_l_pick : PySem.W.nsIn K mainGlobals "_law_pick" = some (some (.ref f_l_pick)))
    (l_l_pick : K.lookup f_l_pick = some ⟨oc_l_pick, od_l_pick, .func (PySem.W.fnOf "_law_pick" "_law_pick" (defArgs s_l_pick) (defBody s_l_pick) (defScope s_l_pick) .none kV_l_pick dc_l_pick pm_l_pick an_l_pick cd_l_pick ct_l_pick), sl_l_pick⟩)
    (c_l_pick : PySem.W.codeIn K cd_l_pick "_law_pick" = true)
    (k_l_pick : PySem.W.keepIn K (.ref f_l_pick) = true)
    (a_l_plain_errors : PySem.W.nsIn K mainGlobals "_law_plain_errors" = some (some (.ref f_l_plain_errors)))
    (l_l_plain_errors : K.lookup f_l_plain_errors = some ⟨oc_l_plain_errors, od_l_plain_errors, .func (PySem.W.fnOf "_law_plain_errors" "_law_plain_errors" (defArgs s_l_plain_errors) (defBody s_l_plain_errors) (defScope s_l_plain_errors) .none kV_l_plain_errors dc_l_plain_errors pm_l_plain_errors an_l_plain_errors cd_l_plain_errors ct_l_plain_errors), sl_l_plain_errors⟩)
    (c_l_plain_errors : PySem.W.codeIn K cd_l_plain_errors "_law_plain_errors" = true)
    (k_l_plain_errors : PySem.W.keepIn K (.ref f_l_plain_errors) = true)
    (a_l_place_errors : PySem.W.nsIn K mainGlobals "_law_place_errors" = some (some (.ref f_l_place_errors)))
    (l_l_place_errors : K.lookup f_l_place_errors = some ⟨oc_l_place_errors, od_l_place_errors, .func (PySem.W.fnOf "_law_place_errors" "_law_place_errors" (defArgs s_l_place_errors) (defBody s_l_place_errors) (defScope s_l_place_errors) .none kV_l_place_errors dc_l_place_errors pm_l_place_errors an_l_place_errors cd_l_place_errors ct_l_place_errors), sl_l_place_errors⟩)
    (c_l_place_errors : PySem.W.codeIn K cd_l_place_errors "_law_place_errors" = true)
    (k_l_place_errors : PySem.W.keepIn K (.ref f_l_place_errors) = true)
    (a_l_kinds_of : PySem.W.nsIn K mainGlobals "_law_kinds_of" = some (some (.ref f_l_kinds_of)))
    (l_l_kinds_of : K.lookup f_l_kinds_of = some ⟨oc_l_kinds_of, od_l_kinds_of, .func (PySem.W.fnOf "_law_kinds_of" "_law_kinds_of" (defArgs s_l_kinds_of) (defBody s_l_kinds_of) (defScope s_l_kinds_of) .none kV_l_kinds_of dc_l_kinds_of pm_l_kinds_of an_l_kinds_of cd_l_kinds_of ct_l_kinds_of), sl_l_kinds_of⟩)
    (c_l_kinds_of : PySem.W.codeIn K cd_l_kinds_of "_law_kinds_of" = true)
    (k_l_kinds_of : PySem.W.keepIn K (.ref f_l_kinds_of) = true)
    (a_l_same : PySem.W.nsIn K mainGlobals "_law_same" = some (some (.ref f_l_same)))
    (l_l_same : K.lookup f_l_same = some ⟨oc_l_same, od_l_same, .func (PySem.W.fnOf "_law_same" "_law_same" (defArgs s_l_same) (defBody s_l_same) (defScope s_l_same) .none kV_l_same dc_l_same pm_l_same an_l_same cd_l_same ct_l_same), sl_l_same⟩)
    (c_l_same : PySem.W.codeIn K cd_l_same "_law_same" = true)
    (k_l_same : PySem.W.keepIn K (.ref f_l_same) = true)
    (a_law : PySem.W.nsIn K mainGlobals "law" = some (some (.ref f_law)))
    (l_law : K.lookup f_law = some ⟨oc_law, od_law, .func (PySem.W.fnOf "law" "law" (defArgs s_law) (defBody s_law) (defScope s_law) .none kV_law dc_law pm_law an_law cd_law ct_law), sl_law⟩)
    (c_law : PySem.W.codeIn K cd_law "law" = true)
    (k_law : PySem.W.keepIn K (.ref f_law) = true)
    (kc_ReadError : PySem.W.keepIn K (.ref C_ReadError) = true)
    (e1_ReadError : PySem.W.findIn K (.ref C_ReadError) "__getattribute__" = some (some (.builtin "BaseException.__getattribute__")))
    (e2_ReadError : PySem.W.findIn K (.ref C_ReadError) "__getattr__" = some none)
    (e3_ReadError : PySem.W.subIn K (.ref C_ReadError) (.type "BaseException") = some true)
    (e4_ReadError : PySem.W.hasDictIn K C_ReadError = true)
    (e5_ReadError : PySem.W.findIn K (.ref C_ReadError) "__class__" = some (some (.builtin "object.__class__")))
    (e8_ReadError : PySem.W.mroIn K C_ReadError (.type "object") = some true)
    (ty_ReadError : PySem.W.typeIn K (.ref C_ReadError) = some (.type "type"))
    (in_ReadError : PySem.W.excIn K C_ReadError [.type "Exception", .type "BaseException", .type "object"] "Exception.__new__" = true)
    (kc_UnknownState : PySem.W.keepIn K (.ref C_UnknownState) = true)
    (e1_UnknownState : PySem.W.findIn K (.ref C_UnknownState) "__getattribute__" = some (some (.builtin "BaseException.__getattribute__")))
    (e2_UnknownState : PySem.W.findIn K (.ref C_UnknownState) "__getattr__" = some none)
    (e3_UnknownState : PySem.W.subIn K (.ref C_UnknownState) (.type "BaseException") = some true)
    (e4_UnknownState : PySem.W.hasDictIn K C_UnknownState = true)
    (e5_UnknownState : PySem.W.findIn K (.ref C_UnknownState) "__class__" = some (some (.builtin "object.__class__")))
    (e8_UnknownState : PySem.W.mroIn K C_UnknownState (.type "object") = some true)
    (ty_UnknownState : PySem.W.typeIn K (.ref C_UnknownState) = some (.type "type"))
    (in_UnknownState : PySem.W.excIn K C_UnknownState [.type "Exception", .type "BaseException", .type "object"] "Exception.__new__" = true)
    (kc_InvalidText : PySem.W.keepIn K (.ref C_InvalidText) = true)
    (e1_InvalidText : PySem.W.findIn K (.ref C_InvalidText) "__getattribute__" = some (some (.builtin "BaseException.__getattribute__")))
    (e2_InvalidText : PySem.W.findIn K (.ref C_InvalidText) "__getattr__" = some none)
    (e3_InvalidText : PySem.W.subIn K (.ref C_InvalidText) (.type "BaseException") = some true)
    (e4_InvalidText : PySem.W.hasDictIn K C_InvalidText = true)
    (e5_InvalidText : PySem.W.findIn K (.ref C_InvalidText) "__class__" = some (some (.builtin "object.__class__")))
    (e8_InvalidText : PySem.W.mroIn K C_InvalidText (.type "object") = some true)
    (ty_InvalidText : PySem.W.typeIn K (.ref C_InvalidText) = some (.type "type"))
    (in_InvalidText : PySem.W.excIn K C_InvalidText [.type "Exception", .type "BaseException", .type "object"] "Exception.__new__" = true)
    (kc_Stuck : PySem.W.keepIn K (.ref C_Stuck) = true)
    (e1_Stuck : PySem.W.findIn K (.ref C_Stuck) "__getattribute__" = some (some (.builtin "BaseException.__getattribute__")))
    (e2_Stuck : PySem.W.findIn K (.ref C_Stuck) "__getattr__" = some none)
    (e3_Stuck : PySem.W.subIn K (.ref C_Stuck) (.type "BaseException") = some true)
    (e4_Stuck : PySem.W.hasDictIn K C_Stuck = true)
    (e5_Stuck : PySem.W.findIn K (.ref C_Stuck) "__class__" = some (some (.builtin "object.__class__")))
    (e8_Stuck : PySem.W.mroIn K C_Stuck (.type "object") = some true)
    (ty_Stuck : PySem.W.typeIn K (.ref C_Stuck) = some (.type "type"))
    (in_Stuck : PySem.W.excIn K C_Stuck [.type "Exception", .type "BaseException", .type "object"] "Exception.__new__" = true)
    (kc_NotABook : PySem.W.keepIn K (.ref C_NotABook) = true)
    (e1_NotABook : PySem.W.findIn K (.ref C_NotABook) "__getattribute__" = some (some (.builtin "BaseException.__getattribute__")))
    (e2_NotABook : PySem.W.findIn K (.ref C_NotABook) "__getattr__" = some none)
    (e3_NotABook : PySem.W.subIn K (.ref C_NotABook) (.type "BaseException") = some true)
    (e4_NotABook : PySem.W.hasDictIn K C_NotABook = true)
    (e5_NotABook : PySem.W.findIn K (.ref C_NotABook) "__class__" = some (some (.builtin "object.__class__")))
    (e8_NotABook : PySem.W.mroIn K C_NotABook (.type "object") = some true)
    (ty_NotABook : PySem.W.typeIn K (.ref C_NotABook) = some (.type "type"))
    (in_NotABook : PySem.W.excIn K C_NotABook [.type "Exception", .type "BaseException", .type "object"] "Exception.__new__" = true)
    (kc_NotPlain : PySem.W.keepIn K (.ref C_NotPlain) = true)
    (e1_NotPlain : PySem.W.findIn K (.ref C_NotPlain) "__getattribute__" = some (some (.builtin "BaseException.__getattribute__")))
    (e2_NotPlain : PySem.W.findIn K (.ref C_NotPlain) "__getattr__" = some none)
    (e3_NotPlain : PySem.W.subIn K (.ref C_NotPlain) (.type "BaseException") = some true)
    (e4_NotPlain : PySem.W.hasDictIn K C_NotPlain = true)
    (e5_NotPlain : PySem.W.findIn K (.ref C_NotPlain) "__class__" = some (some (.builtin "object.__class__")))
    (e8_NotPlain : PySem.W.mroIn K C_NotPlain (.type "object") = some true)
    (ty_NotPlain : PySem.W.typeIn K (.ref C_NotPlain) = some (.type "type"))
    (in_NotPlain : PySem.W.excIn K C_NotPlain [.type "Exception", .type "BaseException", .type "object"] "Exception.__new__" = true)
    (kc_NotFull : PySem.W.keepIn K (.ref C_NotFull) = true)
    (e1_NotFull : PySem.W.findIn K (.ref C_NotFull) "__getattribute__" = some (some (.builtin "BaseException.__getattribute__")))
    (e2_NotFull : PySem.W.findIn K (.ref C_NotFull) "__getattr__" = some none)
    (e3_NotFull : PySem.W.subIn K (.ref C_NotFull) (.type "BaseException") = some true)
    (e4_NotFull : PySem.W.hasDictIn K C_NotFull = true)
    (e5_NotFull : PySem.W.findIn K (.ref C_NotFull) "__class__" = some (some (.builtin "object.__class__")))
    (e8_NotFull : PySem.W.mroIn K C_NotFull (.type "object") = some true)
    (ty_NotFull : PySem.W.typeIn K (.ref C_NotFull) = some (.type "type"))
    (in_NotFull : PySem.W.excIn K C_NotFull [.type "Exception", .type "BaseException", .type "object"] "Exception.__new__" = true)
    (kc_NotOneWay : PySem.W.keepIn K (.ref C_NotOneWay) = true)
    (e1_NotOneWay : PySem.W.findIn K (.ref C_NotOneWay) "__getattribute__" = some (some (.builtin "BaseException.__getattribute__")))
    (e2_NotOneWay : PySem.W.findIn K (.ref C_NotOneWay) "__getattr__" = some none)
    (e3_NotOneWay : PySem.W.subIn K (.ref C_NotOneWay) (.type "BaseException") = some true)
    (e4_NotOneWay : PySem.W.hasDictIn K C_NotOneWay = true)
    (e5_NotOneWay : PySem.W.findIn K (.ref C_NotOneWay) "__class__" = some (some (.builtin "object.__class__")))
    (e8_NotOneWay : PySem.W.mroIn K C_NotOneWay (.type "object") = some true)
    (ty_NotOneWay : PySem.W.typeIn K (.ref C_NotOneWay) = some (.type "type"))
    (in_NotOneWay : PySem.W.excIn K C_NotOneWay [.type "Exception", .type "BaseException", .type "object"] "Exception.__new__" = true)
    (kc_NotAWire : PySem.W.keepIn K (.ref C_NotAWire) = true)
    (e1_NotAWire : PySem.W.findIn K (.ref C_NotAWire) "__getattribute__" = some (some (.builtin "BaseException.__getattribute__")))
    (e2_NotAWire : PySem.W.findIn K (.ref C_NotAWire) "__getattr__" = some none)
    (e3_NotAWire : PySem.W.subIn K (.ref C_NotAWire) (.type "BaseException") = some true)
    (e4_NotAWire : PySem.W.hasDictIn K C_NotAWire = true)
    (e5_NotAWire : PySem.W.findIn K (.ref C_NotAWire) "__class__" = some (some (.builtin "object.__class__")))
    (e8_NotAWire : PySem.W.mroIn K C_NotAWire (.type "object") = some true)
    (ty_NotAWire : PySem.W.typeIn K (.ref C_NotAWire) = some (.type "type"))
    (in_NotAWire : PySem.W.excIn K C_NotAWire [.type "Exception", .type "BaseException", .type "object"] "Exception.__new__" = true)
    (kc_Unlike : PySem.W.keepIn K (.ref C_Unlike) = true)
    (e1_Unlike : PySem.W.findIn K (.ref C_Unlike) "__getattribute__" = some (some (.builtin "BaseException.__getattribute__")))
    (e2_Unlike : PySem.W.findIn K (.ref C_Unlike) "__getattr__" = some none)
    (e3_Unlike : PySem.W.subIn K (.ref C_Unlike) (.type "BaseException") = some true)
    (e4_Unlike : PySem.W.hasDictIn K C_Unlike = true)
    (e5_Unlike : PySem.W.findIn K (.ref C_Unlike) "__class__" = some (some (.builtin "object.__class__")))
    (e8_Unlike : PySem.W.mroIn K C_Unlike (.type "object") = some true)
    (ty_Unlike : PySem.W.typeIn K (.ref C_Unlike) = some (.type "type"))
    (in_Unlike : PySem.W.excIn K C_Unlike [.type "Exception", .type "BaseException", .type "object"] "Exception.__new__" = true)
    (kc_InvalidNumber : PySem.W.keepIn K (.ref C_InvalidNumber) = true)
    (e1_InvalidNumber : PySem.W.findIn K (.ref C_InvalidNumber) "__getattribute__" = some (some (.builtin "BaseException.__getattribute__")))
    (e2_InvalidNumber : PySem.W.findIn K (.ref C_InvalidNumber) "__getattr__" = some none)
    (e3_InvalidNumber : PySem.W.subIn K (.ref C_InvalidNumber) (.type "BaseException") = some true)
    (e4_InvalidNumber : PySem.W.hasDictIn K C_InvalidNumber = true)
    (e5_InvalidNumber : PySem.W.findIn K (.ref C_InvalidNumber) "__class__" = some (some (.builtin "object.__class__")))
    (e8_InvalidNumber : PySem.W.mroIn K C_InvalidNumber (.type "object") = some true)
    (ty_InvalidNumber : PySem.W.typeIn K (.ref C_InvalidNumber) = some (.type "type"))
    (in_InvalidNumber : PySem.W.excIn K C_InvalidNumber [.type "Exception", .type "BaseException", .type "object"] "Exception.__new__" = true)
    (kc_UnknownWord : PySem.W.keepIn K (.ref C_UnknownWord) = true)
    (e1_UnknownWord : PySem.W.findIn K (.ref C_UnknownWord) "__getattribute__" = some (some (.builtin "BaseException.__getattribute__")))
    (e2_UnknownWord : PySem.W.findIn K (.ref C_UnknownWord) "__getattr__" = some none)
    (e3_UnknownWord : PySem.W.subIn K (.ref C_UnknownWord) (.type "BaseException") = some true)
    (e4_UnknownWord : PySem.W.hasDictIn K C_UnknownWord = true)
    (e5_UnknownWord : PySem.W.findIn K (.ref C_UnknownWord) "__class__" = some (some (.builtin "object.__class__")))
    (e8_UnknownWord : PySem.W.mroIn K C_UnknownWord (.type "object") = some true)
    (ty_UnknownWord : PySem.W.typeIn K (.ref C_UnknownWord) = some (.type "type"))
    (in_UnknownWord : PySem.W.excIn K C_UnknownWord [.type "Exception", .type "BaseException", .type "object"] "Exception.__new__" = true)
    (kc_InvalidWord : PySem.W.keepIn K (.ref C_InvalidWord) = true)
    (e1_InvalidWord : PySem.W.findIn K (.ref C_InvalidWord) "__getattribute__" = some (some (.builtin "BaseException.__getattribute__")))
    (e2_InvalidWord : PySem.W.findIn K (.ref C_InvalidWord) "__getattr__" = some none)
    (e3_InvalidWord : PySem.W.subIn K (.ref C_InvalidWord) (.type "BaseException") = some true)
    (e4_InvalidWord : PySem.W.hasDictIn K C_InvalidWord = true)
    (e5_InvalidWord : PySem.W.findIn K (.ref C_InvalidWord) "__class__" = some (some (.builtin "object.__class__")))
    (e8_InvalidWord : PySem.W.mroIn K C_InvalidWord (.type "object") = some true)
    (ty_InvalidWord : PySem.W.typeIn K (.ref C_InvalidWord) = some (.type "type"))
    (in_InvalidWord : PySem.W.excIn K C_InvalidWord [.type "Exception", .type "BaseException", .type "object"] "Exception.__new__" = true)
    (kc_InvalidRow : PySem.W.keepIn K (.ref C_InvalidRow) = true)
    (e1_InvalidRow : PySem.W.findIn K (.ref C_InvalidRow) "__getattribute__" = some (some (.builtin "BaseException.__getattribute__")))
    (e2_InvalidRow : PySem.W.findIn K (.ref C_InvalidRow) "__getattr__" = some none)
    (e3_InvalidRow : PySem.W.subIn K (.ref C_InvalidRow) (.type "BaseException") = some true)
    (e4_InvalidRow : PySem.W.hasDictIn K C_InvalidRow = true)
    (e5_InvalidRow : PySem.W.findIn K (.ref C_InvalidRow) "__class__" = some (some (.builtin "object.__class__")))
    (e8_InvalidRow : PySem.W.mroIn K C_InvalidRow (.type "object") = some true)
    (ty_InvalidRow : PySem.W.typeIn K (.ref C_InvalidRow) = some (.type "type"))
    (xi_InvalidRow : K.lookup C_InvalidRow = some (excClassObj nm_InvalidRow q_InvalidRow C_InvalidRow ns_InvalidRow bs_InvalidRow [.ref C_ReadError, .type "Exception", .type "BaseException", .type "object"] true sn_InvalidRow sub_InvalidRow ab_InvalidRow col_InvalidRow dd_InvalidRow m0_InvalidRow m1_InvalidRow m2_InvalidRow m3_InvalidRow m5_InvalidRow "Exception.__new__"))
    (tf_InvalidRow : PySem.W.typeIn K (.ref f_InvalidRow_init) = some (.type "function"))
    (sa_InvalidRow : PySem.W.findIn K (.ref C_InvalidRow) "__setattr__" = some (some (.builtin "object.__setattr__")))
    (no_InvalidRow_at : PySem.W.findIn K (.ref C_InvalidRow) "at" = some none)
    (kc_InvalidLengths : PySem.W.keepIn K (.ref C_InvalidLengths) = true)
    (e1_InvalidLengths : PySem.W.findIn K (.ref C_InvalidLengths) "__getattribute__" = some (some (.builtin "BaseException.__getattribute__")))
    (e2_InvalidLengths : PySem.W.findIn K (.ref C_InvalidLengths) "__getattr__" = some none)
    (e3_InvalidLengths : PySem.W.subIn K (.ref C_InvalidLengths) (.type "BaseException") = some true)
    (e4_InvalidLengths : PySem.W.hasDictIn K C_InvalidLengths = true)
    (e5_InvalidLengths : PySem.W.findIn K (.ref C_InvalidLengths) "__class__" = some (some (.builtin "object.__class__")))
    (e8_InvalidLengths : PySem.W.mroIn K C_InvalidLengths (.type "object") = some true)
    (ty_InvalidLengths : PySem.W.typeIn K (.ref C_InvalidLengths) = some (.type "type"))
    (xi_InvalidLengths : K.lookup C_InvalidLengths = some (excClassObj nm_InvalidLengths q_InvalidLengths C_InvalidLengths ns_InvalidLengths bs_InvalidLengths [.ref C_ReadError, .type "Exception", .type "BaseException", .type "object"] true sn_InvalidLengths sub_InvalidLengths ab_InvalidLengths col_InvalidLengths dd_InvalidLengths m0_InvalidLengths m1_InvalidLengths m2_InvalidLengths m3_InvalidLengths m5_InvalidLengths "Exception.__new__"))
    (tf_InvalidLengths : PySem.W.typeIn K (.ref f_InvalidLengths_init) = some (.type "function"))
    (sa_InvalidLengths : PySem.W.findIn K (.ref C_InvalidLengths) "__setattr__" = some (some (.builtin "object.__setattr__")))
    (no_InvalidLengths_at : PySem.W.findIn K (.ref C_InvalidLengths) "at" = some none)
    (kc_InvalidWeights : PySem.W.keepIn K (.ref C_InvalidWeights) = true)
    (e1_InvalidWeights : PySem.W.findIn K (.ref C_InvalidWeights) "__getattribute__" = some (some (.builtin "BaseException.__getattribute__")))
    (e2_InvalidWeights : PySem.W.findIn K (.ref C_InvalidWeights) "__getattr__" = some none)
    (e3_InvalidWeights : PySem.W.subIn K (.ref C_InvalidWeights) (.type "BaseException") = some true)
    (e4_InvalidWeights : PySem.W.hasDictIn K C_InvalidWeights = true)
    (e5_InvalidWeights : PySem.W.findIn K (.ref C_InvalidWeights) "__class__" = some (some (.builtin "object.__class__")))
    (e8_InvalidWeights : PySem.W.mroIn K C_InvalidWeights (.type "object") = some true)
    (ty_InvalidWeights : PySem.W.typeIn K (.ref C_InvalidWeights) = some (.type "type"))
    (xi_InvalidWeights : K.lookup C_InvalidWeights = some (excClassObj nm_InvalidWeights q_InvalidWeights C_InvalidWeights ns_InvalidWeights bs_InvalidWeights [.ref C_ReadError, .type "Exception", .type "BaseException", .type "object"] true sn_InvalidWeights sub_InvalidWeights ab_InvalidWeights col_InvalidWeights dd_InvalidWeights m0_InvalidWeights m1_InvalidWeights m2_InvalidWeights m3_InvalidWeights m5_InvalidWeights "Exception.__new__"))
    (tf_InvalidWeights : PySem.W.typeIn K (.ref f_InvalidWeights_init) = some (.type "function"))
    (sa_InvalidWeights : PySem.W.findIn K (.ref C_InvalidWeights) "__setattr__" = some (some (.builtin "object.__setattr__")))
    (no_InvalidWeights_at : PySem.W.findIn K (.ref C_InvalidWeights) "at" = some none)
    (kc_InvalidBars : PySem.W.keepIn K (.ref C_InvalidBars) = true)
    (e1_InvalidBars : PySem.W.findIn K (.ref C_InvalidBars) "__getattribute__" = some (some (.builtin "BaseException.__getattribute__")))
    (e2_InvalidBars : PySem.W.findIn K (.ref C_InvalidBars) "__getattr__" = some none)
    (e3_InvalidBars : PySem.W.subIn K (.ref C_InvalidBars) (.type "BaseException") = some true)
    (e4_InvalidBars : PySem.W.hasDictIn K C_InvalidBars = true)
    (e5_InvalidBars : PySem.W.findIn K (.ref C_InvalidBars) "__class__" = some (some (.builtin "object.__class__")))
    (e8_InvalidBars : PySem.W.mroIn K C_InvalidBars (.type "object") = some true)
    (ty_InvalidBars : PySem.W.typeIn K (.ref C_InvalidBars) = some (.type "type"))
    (xi_InvalidBars : K.lookup C_InvalidBars = some (excClassObj nm_InvalidBars q_InvalidBars C_InvalidBars ns_InvalidBars bs_InvalidBars [.ref C_ReadError, .type "Exception", .type "BaseException", .type "object"] true sn_InvalidBars sub_InvalidBars ab_InvalidBars col_InvalidBars dd_InvalidBars m0_InvalidBars m1_InvalidBars m2_InvalidBars m3_InvalidBars m5_InvalidBars "Exception.__new__"))
    (tf_InvalidBars : PySem.W.typeIn K (.ref f_InvalidBars_init) = some (.type "function"))
    (sa_InvalidBars : PySem.W.findIn K (.ref C_InvalidBars) "__setattr__" = some (some (.builtin "object.__setattr__")))
    (no_InvalidBars_at : PySem.W.findIn K (.ref C_InvalidBars) "at" = some none)
    (kc_InvalidChoice : PySem.W.keepIn K (.ref C_InvalidChoice) = true)
    (e1_InvalidChoice : PySem.W.findIn K (.ref C_InvalidChoice) "__getattribute__" = some (some (.builtin "BaseException.__getattribute__")))
    (e2_InvalidChoice : PySem.W.findIn K (.ref C_InvalidChoice) "__getattr__" = some none)
    (e3_InvalidChoice : PySem.W.subIn K (.ref C_InvalidChoice) (.type "BaseException") = some true)
    (e4_InvalidChoice : PySem.W.hasDictIn K C_InvalidChoice = true)
    (e5_InvalidChoice : PySem.W.findIn K (.ref C_InvalidChoice) "__class__" = some (some (.builtin "object.__class__")))
    (e8_InvalidChoice : PySem.W.mroIn K C_InvalidChoice (.type "object") = some true)
    (ty_InvalidChoice : PySem.W.typeIn K (.ref C_InvalidChoice) = some (.type "type"))
    (xi_InvalidChoice : K.lookup C_InvalidChoice = some (excClassObj nm_InvalidChoice q_InvalidChoice C_InvalidChoice ns_InvalidChoice bs_InvalidChoice [.ref C_ReadError, .type "Exception", .type "BaseException", .type "object"] true sn_InvalidChoice sub_InvalidChoice ab_InvalidChoice col_InvalidChoice dd_InvalidChoice m0_InvalidChoice m1_InvalidChoice m2_InvalidChoice m3_InvalidChoice m5_InvalidChoice "Exception.__new__"))
    (tf_InvalidChoice : PySem.W.typeIn K (.ref f_InvalidChoice_init) = some (.type "function"))
    (sa_InvalidChoice : PySem.W.findIn K (.ref C_InvalidChoice) "__setattr__" = some (some (.builtin "object.__setattr__")))
    (no_InvalidChoice_at : PySem.W.findIn K (.ref C_InvalidChoice) "at" = some none)
    (kc_InvalidLoom : PySem.W.keepIn K (.ref C_InvalidLoom) = true)
    (e1_InvalidLoom : PySem.W.findIn K (.ref C_InvalidLoom) "__getattribute__" = some (some (.builtin "BaseException.__getattribute__")))
    (e2_InvalidLoom : PySem.W.findIn K (.ref C_InvalidLoom) "__getattr__" = some none)
    (e3_InvalidLoom : PySem.W.subIn K (.ref C_InvalidLoom) (.type "BaseException") = some true)
    (e4_InvalidLoom : PySem.W.hasDictIn K C_InvalidLoom = true)
    (e5_InvalidLoom : PySem.W.findIn K (.ref C_InvalidLoom) "__class__" = some (some (.builtin "object.__class__")))
    (e8_InvalidLoom : PySem.W.mroIn K C_InvalidLoom (.type "object") = some true)
    (ty_InvalidLoom : PySem.W.typeIn K (.ref C_InvalidLoom) = some (.type "type"))
    (xi_InvalidLoom : K.lookup C_InvalidLoom = some (excClassObj nm_InvalidLoom q_InvalidLoom C_InvalidLoom ns_InvalidLoom bs_InvalidLoom [.ref C_ReadError, .type "Exception", .type "BaseException", .type "object"] true sn_InvalidLoom sub_InvalidLoom ab_InvalidLoom col_InvalidLoom dd_InvalidLoom m0_InvalidLoom m1_InvalidLoom m2_InvalidLoom m3_InvalidLoom m5_InvalidLoom "Exception.__new__"))
    (tf_InvalidLoom : PySem.W.typeIn K (.ref f_InvalidLoom_init) = some (.type "function"))
    (sa_InvalidLoom : PySem.W.findIn K (.ref C_InvalidLoom) "__setattr__" = some (some (.builtin "object.__setattr__")))
    (no_InvalidLoom_part : PySem.W.findIn K (.ref C_InvalidLoom) "part" = some none)
    (no_InvalidLoom_at : PySem.W.findIn K (.ref C_InvalidLoom) "at" = some none)
    (kc_InvalidPage : PySem.W.keepIn K (.ref C_InvalidPage) = true)
    (e1_InvalidPage : PySem.W.findIn K (.ref C_InvalidPage) "__getattribute__" = some (some (.builtin "BaseException.__getattribute__")))
    (e2_InvalidPage : PySem.W.findIn K (.ref C_InvalidPage) "__getattr__" = some none)
    (e3_InvalidPage : PySem.W.subIn K (.ref C_InvalidPage) (.type "BaseException") = some true)
    (e4_InvalidPage : PySem.W.hasDictIn K C_InvalidPage = true)
    (e5_InvalidPage : PySem.W.findIn K (.ref C_InvalidPage) "__class__" = some (some (.builtin "object.__class__")))
    (e8_InvalidPage : PySem.W.mroIn K C_InvalidPage (.type "object") = some true)
    (ty_InvalidPage : PySem.W.typeIn K (.ref C_InvalidPage) = some (.type "type"))
    (xi_InvalidPage : K.lookup C_InvalidPage = some (excClassObj nm_InvalidPage q_InvalidPage C_InvalidPage ns_InvalidPage bs_InvalidPage [.ref C_ReadError, .type "Exception", .type "BaseException", .type "object"] true sn_InvalidPage sub_InvalidPage ab_InvalidPage col_InvalidPage dd_InvalidPage m0_InvalidPage m1_InvalidPage m2_InvalidPage m3_InvalidPage m5_InvalidPage "Exception.__new__"))
    (tf_InvalidPage : PySem.W.typeIn K (.ref f_InvalidPage_init) = some (.type "function"))
    (sa_InvalidPage : PySem.W.findIn K (.ref C_InvalidPage) "__setattr__" = some (some (.builtin "object.__setattr__")))
    (no_InvalidPage_line : PySem.W.findIn K (.ref C_InvalidPage) "line" = some none)
    (kc_LimitExceeded : PySem.W.keepIn K (.ref C_LimitExceeded) = true)
    (e1_LimitExceeded : PySem.W.findIn K (.ref C_LimitExceeded) "__getattribute__" = some (some (.builtin "BaseException.__getattribute__")))
    (e2_LimitExceeded : PySem.W.findIn K (.ref C_LimitExceeded) "__getattr__" = some none)
    (e3_LimitExceeded : PySem.W.subIn K (.ref C_LimitExceeded) (.type "BaseException") = some true)
    (e4_LimitExceeded : PySem.W.hasDictIn K C_LimitExceeded = true)
    (e5_LimitExceeded : PySem.W.findIn K (.ref C_LimitExceeded) "__class__" = some (some (.builtin "object.__class__")))
    (e8_LimitExceeded : PySem.W.mroIn K C_LimitExceeded (.type "object") = some true)
    (ty_LimitExceeded : PySem.W.typeIn K (.ref C_LimitExceeded) = some (.type "type"))
    (xi_LimitExceeded : K.lookup C_LimitExceeded = some (excClassObj nm_LimitExceeded q_LimitExceeded C_LimitExceeded ns_LimitExceeded bs_LimitExceeded [.ref C_ReadError, .type "Exception", .type "BaseException", .type "object"] true sn_LimitExceeded sub_LimitExceeded ab_LimitExceeded col_LimitExceeded dd_LimitExceeded m0_LimitExceeded m1_LimitExceeded m2_LimitExceeded m3_LimitExceeded m5_LimitExceeded "Exception.__new__"))
    (tf_LimitExceeded : PySem.W.typeIn K (.ref f_LimitExceeded_init) = some (.type "function"))
    (sa_LimitExceeded : PySem.W.findIn K (.ref C_LimitExceeded) "__setattr__" = some (some (.builtin "object.__setattr__")))
    (no_LimitExceeded_limit : PySem.W.findIn K (.ref C_LimitExceeded) "limit" = some none)
    (kc_NothingLeft : PySem.W.keepIn K (.ref C_NothingLeft) = true)
    (e1_NothingLeft : PySem.W.findIn K (.ref C_NothingLeft) "__getattribute__" = some (some (.builtin "BaseException.__getattribute__")))
    (e2_NothingLeft : PySem.W.findIn K (.ref C_NothingLeft) "__getattr__" = some none)
    (e3_NothingLeft : PySem.W.subIn K (.ref C_NothingLeft) (.type "BaseException") = some true)
    (e4_NothingLeft : PySem.W.hasDictIn K C_NothingLeft = true)
    (e5_NothingLeft : PySem.W.findIn K (.ref C_NothingLeft) "__class__" = some (some (.builtin "object.__class__")))
    (e8_NothingLeft : PySem.W.mroIn K C_NothingLeft (.type "object") = some true)
    (ty_NothingLeft : PySem.W.typeIn K (.ref C_NothingLeft) = some (.type "type"))
    (xi_NothingLeft : K.lookup C_NothingLeft = some (excClassObj nm_NothingLeft q_NothingLeft C_NothingLeft ns_NothingLeft bs_NothingLeft [.ref C_ReadError, .type "Exception", .type "BaseException", .type "object"] true sn_NothingLeft sub_NothingLeft ab_NothingLeft col_NothingLeft dd_NothingLeft m0_NothingLeft m1_NothingLeft m2_NothingLeft m3_NothingLeft m5_NothingLeft "Exception.__new__"))
    (tf_NothingLeft : PySem.W.typeIn K (.ref f_NothingLeft_init) = some (.type "function"))
    (sa_NothingLeft : PySem.W.findIn K (.ref C_NothingLeft) "__setattr__" = some (some (.builtin "object.__setattr__")))
    (no_NothingLeft_word : PySem.W.findIn K (.ref C_NothingLeft) "word" = some none)
    (e6 : PySem.W.specialIn K (.builtin "object.__class__") "__get__" = some (some (.builtin "getset_descriptor.__get__")))
    (e7 : PySem.W.takesIn K (.builtin "object.__class__") = some true)
    (row_UnknownState : [PySem.W.subIn K (.ref C_UnknownState) (.ref C_UnknownState), PySem.W.subIn K (.ref C_UnknownState) (.ref C_InvalidText), PySem.W.subIn K (.ref C_UnknownState) (.ref C_Stuck), PySem.W.subIn K (.ref C_UnknownState) (.ref C_NotABook), PySem.W.subIn K (.ref C_UnknownState) (.ref C_NotPlain), PySem.W.subIn K (.ref C_UnknownState) (.ref C_NotFull), PySem.W.subIn K (.ref C_UnknownState) (.ref C_NotOneWay), PySem.W.subIn K (.ref C_UnknownState) (.ref C_NotAWire), PySem.W.subIn K (.ref C_UnknownState) (.ref C_Unlike), PySem.W.subIn K (.ref C_UnknownState) (.ref C_InvalidNumber), PySem.W.subIn K (.ref C_UnknownState) (.ref C_UnknownWord), PySem.W.subIn K (.ref C_UnknownState) (.ref C_InvalidWord), PySem.W.subIn K (.ref C_UnknownState) (.ref C_InvalidRow), PySem.W.subIn K (.ref C_UnknownState) (.ref C_InvalidLengths), PySem.W.subIn K (.ref C_UnknownState) (.ref C_InvalidWeights), PySem.W.subIn K (.ref C_UnknownState) (.ref C_InvalidBars), PySem.W.subIn K (.ref C_UnknownState) (.ref C_InvalidChoice), PySem.W.subIn K (.ref C_UnknownState) (.ref C_InvalidLoom), PySem.W.subIn K (.ref C_UnknownState) (.ref C_InvalidPage), PySem.W.subIn K (.ref C_UnknownState) (.ref C_LimitExceeded), PySem.W.subIn K (.ref C_UnknownState) (.ref C_NothingLeft), PySem.W.subIn K (.ref C_UnknownState) (.ref C_ReadError), PySem.W.subIn K (.ref C_UnknownState) (.type "Exception"), PySem.W.subIn K (.ref C_UnknownState) (.type "ValueError"), PySem.W.subIn K (.ref C_UnknownState) (.type "LookupError"), PySem.W.subIn K (.ref C_UnknownState) (.type "TypeError"), PySem.W.subIn K (.ref C_UnknownState) (.type "bool")] = [some true, some false, some false, some false, some false, some false, some false, some false, some false, some false, some false, some false, some false, some false, some false, some false, some false, some false, some false, some false, some false, some true, some true, some false, some false, some false, some false])
    (cl_UnknownState : PySem.W.isClsIn K C_UnknownState = true)
    (row_InvalidText : [PySem.W.subIn K (.ref C_InvalidText) (.ref C_UnknownState), PySem.W.subIn K (.ref C_InvalidText) (.ref C_InvalidText), PySem.W.subIn K (.ref C_InvalidText) (.ref C_Stuck), PySem.W.subIn K (.ref C_InvalidText) (.ref C_NotABook), PySem.W.subIn K (.ref C_InvalidText) (.ref C_NotPlain), PySem.W.subIn K (.ref C_InvalidText) (.ref C_NotFull), PySem.W.subIn K (.ref C_InvalidText) (.ref C_NotOneWay), PySem.W.subIn K (.ref C_InvalidText) (.ref C_NotAWire), PySem.W.subIn K (.ref C_InvalidText) (.ref C_Unlike), PySem.W.subIn K (.ref C_InvalidText) (.ref C_InvalidNumber), PySem.W.subIn K (.ref C_InvalidText) (.ref C_UnknownWord), PySem.W.subIn K (.ref C_InvalidText) (.ref C_InvalidWord), PySem.W.subIn K (.ref C_InvalidText) (.ref C_InvalidRow), PySem.W.subIn K (.ref C_InvalidText) (.ref C_InvalidLengths), PySem.W.subIn K (.ref C_InvalidText) (.ref C_InvalidWeights), PySem.W.subIn K (.ref C_InvalidText) (.ref C_InvalidBars), PySem.W.subIn K (.ref C_InvalidText) (.ref C_InvalidChoice), PySem.W.subIn K (.ref C_InvalidText) (.ref C_InvalidLoom), PySem.W.subIn K (.ref C_InvalidText) (.ref C_InvalidPage), PySem.W.subIn K (.ref C_InvalidText) (.ref C_LimitExceeded), PySem.W.subIn K (.ref C_InvalidText) (.ref C_NothingLeft), PySem.W.subIn K (.ref C_InvalidText) (.ref C_ReadError), PySem.W.subIn K (.ref C_InvalidText) (.type "Exception"), PySem.W.subIn K (.ref C_InvalidText) (.type "ValueError"), PySem.W.subIn K (.ref C_InvalidText) (.type "LookupError"), PySem.W.subIn K (.ref C_InvalidText) (.type "TypeError"), PySem.W.subIn K (.ref C_InvalidText) (.type "bool")] = [some false, some true, some false, some false, some false, some false, some false, some false, some false, some false, some false, some false, some false, some false, some false, some false, some false, some false, some false, some false, some false, some true, some true, some false, some false, some false, some false])
    (cl_InvalidText : PySem.W.isClsIn K C_InvalidText = true)
    (row_Stuck : [PySem.W.subIn K (.ref C_Stuck) (.ref C_UnknownState), PySem.W.subIn K (.ref C_Stuck) (.ref C_InvalidText), PySem.W.subIn K (.ref C_Stuck) (.ref C_Stuck), PySem.W.subIn K (.ref C_Stuck) (.ref C_NotABook), PySem.W.subIn K (.ref C_Stuck) (.ref C_NotPlain), PySem.W.subIn K (.ref C_Stuck) (.ref C_NotFull), PySem.W.subIn K (.ref C_Stuck) (.ref C_NotOneWay), PySem.W.subIn K (.ref C_Stuck) (.ref C_NotAWire), PySem.W.subIn K (.ref C_Stuck) (.ref C_Unlike), PySem.W.subIn K (.ref C_Stuck) (.ref C_InvalidNumber), PySem.W.subIn K (.ref C_Stuck) (.ref C_UnknownWord), PySem.W.subIn K (.ref C_Stuck) (.ref C_InvalidWord), PySem.W.subIn K (.ref C_Stuck) (.ref C_InvalidRow), PySem.W.subIn K (.ref C_Stuck) (.ref C_InvalidLengths), PySem.W.subIn K (.ref C_Stuck) (.ref C_InvalidWeights), PySem.W.subIn K (.ref C_Stuck) (.ref C_InvalidBars), PySem.W.subIn K (.ref C_Stuck) (.ref C_InvalidChoice), PySem.W.subIn K (.ref C_Stuck) (.ref C_InvalidLoom), PySem.W.subIn K (.ref C_Stuck) (.ref C_InvalidPage), PySem.W.subIn K (.ref C_Stuck) (.ref C_LimitExceeded), PySem.W.subIn K (.ref C_Stuck) (.ref C_NothingLeft), PySem.W.subIn K (.ref C_Stuck) (.ref C_ReadError), PySem.W.subIn K (.ref C_Stuck) (.type "Exception"), PySem.W.subIn K (.ref C_Stuck) (.type "ValueError"), PySem.W.subIn K (.ref C_Stuck) (.type "LookupError"), PySem.W.subIn K (.ref C_Stuck) (.type "TypeError"), PySem.W.subIn K (.ref C_Stuck) (.type "bool")] = [some false, some false, some true, some false, some false, some false, some false, some false, some false, some false, some false, some false, some false, some false, some false, some false, some false, some false, some false, some false, some false, some true, some true, some false, some false, some false, some false])
    (cl_Stuck : PySem.W.isClsIn K C_Stuck = true)
    (row_NotABook : [PySem.W.subIn K (.ref C_NotABook) (.ref C_UnknownState), PySem.W.subIn K (.ref C_NotABook) (.ref C_InvalidText), PySem.W.subIn K (.ref C_NotABook) (.ref C_Stuck), PySem.W.subIn K (.ref C_NotABook) (.ref C_NotABook), PySem.W.subIn K (.ref C_NotABook) (.ref C_NotPlain), PySem.W.subIn K (.ref C_NotABook) (.ref C_NotFull), PySem.W.subIn K (.ref C_NotABook) (.ref C_NotOneWay), PySem.W.subIn K (.ref C_NotABook) (.ref C_NotAWire), PySem.W.subIn K (.ref C_NotABook) (.ref C_Unlike), PySem.W.subIn K (.ref C_NotABook) (.ref C_InvalidNumber), PySem.W.subIn K (.ref C_NotABook) (.ref C_UnknownWord), PySem.W.subIn K (.ref C_NotABook) (.ref C_InvalidWord), PySem.W.subIn K (.ref C_NotABook) (.ref C_InvalidRow), PySem.W.subIn K (.ref C_NotABook) (.ref C_InvalidLengths), PySem.W.subIn K (.ref C_NotABook) (.ref C_InvalidWeights), PySem.W.subIn K (.ref C_NotABook) (.ref C_InvalidBars), PySem.W.subIn K (.ref C_NotABook) (.ref C_InvalidChoice), PySem.W.subIn K (.ref C_NotABook) (.ref C_InvalidLoom), PySem.W.subIn K (.ref C_NotABook) (.ref C_InvalidPage), PySem.W.subIn K (.ref C_NotABook) (.ref C_LimitExceeded), PySem.W.subIn K (.ref C_NotABook) (.ref C_NothingLeft), PySem.W.subIn K (.ref C_NotABook) (.ref C_ReadError), PySem.W.subIn K (.ref C_NotABook) (.type "Exception"), PySem.W.subIn K (.ref C_NotABook) (.type "ValueError"), PySem.W.subIn K (.ref C_NotABook) (.type "LookupError"), PySem.W.subIn K (.ref C_NotABook) (.type "TypeError"), PySem.W.subIn K (.ref C_NotABook) (.type "bool")] = [some false, some false, some false, some true, some false, some false, some false, some false, some false, some false, some false, some false, some false, some false, some false, some false, some false, some false, some false, some false, some false, some true, some true, some false, some false, some false, some false])
    (cl_NotABook : PySem.W.isClsIn K C_NotABook = true)
    (row_NotPlain : [PySem.W.subIn K (.ref C_NotPlain) (.ref C_UnknownState), PySem.W.subIn K (.ref C_NotPlain) (.ref C_InvalidText), PySem.W.subIn K (.ref C_NotPlain) (.ref C_Stuck), PySem.W.subIn K (.ref C_NotPlain) (.ref C_NotABook), PySem.W.subIn K (.ref C_NotPlain) (.ref C_NotPlain), PySem.W.subIn K (.ref C_NotPlain) (.ref C_NotFull), PySem.W.subIn K (.ref C_NotPlain) (.ref C_NotOneWay), PySem.W.subIn K (.ref C_NotPlain) (.ref C_NotAWire), PySem.W.subIn K (.ref C_NotPlain) (.ref C_Unlike), PySem.W.subIn K (.ref C_NotPlain) (.ref C_InvalidNumber), PySem.W.subIn K (.ref C_NotPlain) (.ref C_UnknownWord), PySem.W.subIn K (.ref C_NotPlain) (.ref C_InvalidWord), PySem.W.subIn K (.ref C_NotPlain) (.ref C_InvalidRow), PySem.W.subIn K (.ref C_NotPlain) (.ref C_InvalidLengths), PySem.W.subIn K (.ref C_NotPlain) (.ref C_InvalidWeights), PySem.W.subIn K (.ref C_NotPlain) (.ref C_InvalidBars), PySem.W.subIn K (.ref C_NotPlain) (.ref C_InvalidChoice), PySem.W.subIn K (.ref C_NotPlain) (.ref C_InvalidLoom), PySem.W.subIn K (.ref C_NotPlain) (.ref C_InvalidPage), PySem.W.subIn K (.ref C_NotPlain) (.ref C_LimitExceeded), PySem.W.subIn K (.ref C_NotPlain) (.ref C_NothingLeft), PySem.W.subIn K (.ref C_NotPlain) (.ref C_ReadError), PySem.W.subIn K (.ref C_NotPlain) (.type "Exception"), PySem.W.subIn K (.ref C_NotPlain) (.type "ValueError"), PySem.W.subIn K (.ref C_NotPlain) (.type "LookupError"), PySem.W.subIn K (.ref C_NotPlain) (.type "TypeError"), PySem.W.subIn K (.ref C_NotPlain) (.type "bool")] = [some false, some false, some false, some false, some true, some false, some false, some false, some false, some false, some false, some false, some false, some false, some false, some false, some false, some false, some false, some false, some false, some true, some true, some false, some false, some false, some false])
    (cl_NotPlain : PySem.W.isClsIn K C_NotPlain = true)
    (row_NotFull : [PySem.W.subIn K (.ref C_NotFull) (.ref C_UnknownState), PySem.W.subIn K (.ref C_NotFull) (.ref C_InvalidText), PySem.W.subIn K (.ref C_NotFull) (.ref C_Stuck), PySem.W.subIn K (.ref C_NotFull) (.ref C_NotABook), PySem.W.subIn K (.ref C_NotFull) (.ref C_NotPlain), PySem.W.subIn K (.ref C_NotFull) (.ref C_NotFull), PySem.W.subIn K (.ref C_NotFull) (.ref C_NotOneWay), PySem.W.subIn K (.ref C_NotFull) (.ref C_NotAWire), PySem.W.subIn K (.ref C_NotFull) (.ref C_Unlike), PySem.W.subIn K (.ref C_NotFull) (.ref C_InvalidNumber), PySem.W.subIn K (.ref C_NotFull) (.ref C_UnknownWord), PySem.W.subIn K (.ref C_NotFull) (.ref C_InvalidWord), PySem.W.subIn K (.ref C_NotFull) (.ref C_InvalidRow), PySem.W.subIn K (.ref C_NotFull) (.ref C_InvalidLengths), PySem.W.subIn K (.ref C_NotFull) (.ref C_InvalidWeights), PySem.W.subIn K (.ref C_NotFull) (.ref C_InvalidBars), PySem.W.subIn K (.ref C_NotFull) (.ref C_InvalidChoice), PySem.W.subIn K (.ref C_NotFull) (.ref C_InvalidLoom), PySem.W.subIn K (.ref C_NotFull) (.ref C_InvalidPage), PySem.W.subIn K (.ref C_NotFull) (.ref C_LimitExceeded), PySem.W.subIn K (.ref C_NotFull) (.ref C_NothingLeft), PySem.W.subIn K (.ref C_NotFull) (.ref C_ReadError), PySem.W.subIn K (.ref C_NotFull) (.type "Exception"), PySem.W.subIn K (.ref C_NotFull) (.type "ValueError"), PySem.W.subIn K (.ref C_NotFull) (.type "LookupError"), PySem.W.subIn K (.ref C_NotFull) (.type "TypeError"), PySem.W.subIn K (.ref C_NotFull) (.type "bool")] = [some false, some false, some false, some false, some false, some true, some false, some false, some false, some false, some false, some false, some false, some false, some false, some false, some false, some false, some false, some false, some false, some true, some true, some false, some false, some false, some false])
    (cl_NotFull : PySem.W.isClsIn K C_NotFull = true)
    (row_NotOneWay : [PySem.W.subIn K (.ref C_NotOneWay) (.ref C_UnknownState), PySem.W.subIn K (.ref C_NotOneWay) (.ref C_InvalidText), PySem.W.subIn K (.ref C_NotOneWay) (.ref C_Stuck), PySem.W.subIn K (.ref C_NotOneWay) (.ref C_NotABook), PySem.W.subIn K (.ref C_NotOneWay) (.ref C_NotPlain), PySem.W.subIn K (.ref C_NotOneWay) (.ref C_NotFull), PySem.W.subIn K (.ref C_NotOneWay) (.ref C_NotOneWay), PySem.W.subIn K (.ref C_NotOneWay) (.ref C_NotAWire), PySem.W.subIn K (.ref C_NotOneWay) (.ref C_Unlike), PySem.W.subIn K (.ref C_NotOneWay) (.ref C_InvalidNumber), PySem.W.subIn K (.ref C_NotOneWay) (.ref C_UnknownWord), PySem.W.subIn K (.ref C_NotOneWay) (.ref C_InvalidWord), PySem.W.subIn K (.ref C_NotOneWay) (.ref C_InvalidRow), PySem.W.subIn K (.ref C_NotOneWay) (.ref C_InvalidLengths), PySem.W.subIn K (.ref C_NotOneWay) (.ref C_InvalidWeights), PySem.W.subIn K (.ref C_NotOneWay) (.ref C_InvalidBars), PySem.W.subIn K (.ref C_NotOneWay) (.ref C_InvalidChoice), PySem.W.subIn K (.ref C_NotOneWay) (.ref C_InvalidLoom), PySem.W.subIn K (.ref C_NotOneWay) (.ref C_InvalidPage), PySem.W.subIn K (.ref C_NotOneWay) (.ref C_LimitExceeded), PySem.W.subIn K (.ref C_NotOneWay) (.ref C_NothingLeft), PySem.W.subIn K (.ref C_NotOneWay) (.ref C_ReadError), PySem.W.subIn K (.ref C_NotOneWay) (.type "Exception"), PySem.W.subIn K (.ref C_NotOneWay) (.type "ValueError"), PySem.W.subIn K (.ref C_NotOneWay) (.type "LookupError"), PySem.W.subIn K (.ref C_NotOneWay) (.type "TypeError"), PySem.W.subIn K (.ref C_NotOneWay) (.type "bool")] = [some false, some false, some false, some false, some false, some false, some true, some false, some false, some false, some false, some false, some false, some false, some false, some false, some false, some false, some false, some false, some false, some true, some true, some false, some false, some false, some false])
    (cl_NotOneWay : PySem.W.isClsIn K C_NotOneWay = true)
    (row_NotAWire : [PySem.W.subIn K (.ref C_NotAWire) (.ref C_UnknownState), PySem.W.subIn K (.ref C_NotAWire) (.ref C_InvalidText), PySem.W.subIn K (.ref C_NotAWire) (.ref C_Stuck), PySem.W.subIn K (.ref C_NotAWire) (.ref C_NotABook), PySem.W.subIn K (.ref C_NotAWire) (.ref C_NotPlain), PySem.W.subIn K (.ref C_NotAWire) (.ref C_NotFull), PySem.W.subIn K (.ref C_NotAWire) (.ref C_NotOneWay), PySem.W.subIn K (.ref C_NotAWire) (.ref C_NotAWire), PySem.W.subIn K (.ref C_NotAWire) (.ref C_Unlike), PySem.W.subIn K (.ref C_NotAWire) (.ref C_InvalidNumber), PySem.W.subIn K (.ref C_NotAWire) (.ref C_UnknownWord), PySem.W.subIn K (.ref C_NotAWire) (.ref C_InvalidWord), PySem.W.subIn K (.ref C_NotAWire) (.ref C_InvalidRow), PySem.W.subIn K (.ref C_NotAWire) (.ref C_InvalidLengths), PySem.W.subIn K (.ref C_NotAWire) (.ref C_InvalidWeights), PySem.W.subIn K (.ref C_NotAWire) (.ref C_InvalidBars), PySem.W.subIn K (.ref C_NotAWire) (.ref C_InvalidChoice), PySem.W.subIn K (.ref C_NotAWire) (.ref C_InvalidLoom), PySem.W.subIn K (.ref C_NotAWire) (.ref C_InvalidPage), PySem.W.subIn K (.ref C_NotAWire) (.ref C_LimitExceeded), PySem.W.subIn K (.ref C_NotAWire) (.ref C_NothingLeft), PySem.W.subIn K (.ref C_NotAWire) (.ref C_ReadError), PySem.W.subIn K (.ref C_NotAWire) (.type "Exception"), PySem.W.subIn K (.ref C_NotAWire) (.type "ValueError"), PySem.W.subIn K (.ref C_NotAWire) (.type "LookupError"), PySem.W.subIn K (.ref C_NotAWire) (.type "TypeError"), PySem.W.subIn K (.ref C_NotAWire) (.type "bool")] = [some false, some false, some false, some false, some false, some false, some false, some true, some false, some false, some false, some false, some false, some false, some false, some false, some false, some false, some false, some false, some false, some true, some true, some false, some false, some false, some false])
    (cl_NotAWire : PySem.W.isClsIn K C_NotAWire = true)
    (row_Unlike : [PySem.W.subIn K (.ref C_Unlike) (.ref C_UnknownState), PySem.W.subIn K (.ref C_Unlike) (.ref C_InvalidText), PySem.W.subIn K (.ref C_Unlike) (.ref C_Stuck), PySem.W.subIn K (.ref C_Unlike) (.ref C_NotABook), PySem.W.subIn K (.ref C_Unlike) (.ref C_NotPlain), PySem.W.subIn K (.ref C_Unlike) (.ref C_NotFull), PySem.W.subIn K (.ref C_Unlike) (.ref C_NotOneWay), PySem.W.subIn K (.ref C_Unlike) (.ref C_NotAWire), PySem.W.subIn K (.ref C_Unlike) (.ref C_Unlike), PySem.W.subIn K (.ref C_Unlike) (.ref C_InvalidNumber), PySem.W.subIn K (.ref C_Unlike) (.ref C_UnknownWord), PySem.W.subIn K (.ref C_Unlike) (.ref C_InvalidWord), PySem.W.subIn K (.ref C_Unlike) (.ref C_InvalidRow), PySem.W.subIn K (.ref C_Unlike) (.ref C_InvalidLengths), PySem.W.subIn K (.ref C_Unlike) (.ref C_InvalidWeights), PySem.W.subIn K (.ref C_Unlike) (.ref C_InvalidBars), PySem.W.subIn K (.ref C_Unlike) (.ref C_InvalidChoice), PySem.W.subIn K (.ref C_Unlike) (.ref C_InvalidLoom), PySem.W.subIn K (.ref C_Unlike) (.ref C_InvalidPage), PySem.W.subIn K (.ref C_Unlike) (.ref C_LimitExceeded), PySem.W.subIn K (.ref C_Unlike) (.ref C_NothingLeft), PySem.W.subIn K (.ref C_Unlike) (.ref C_ReadError), PySem.W.subIn K (.ref C_Unlike) (.type "Exception"), PySem.W.subIn K (.ref C_Unlike) (.type "ValueError"), PySem.W.subIn K (.ref C_Unlike) (.type "LookupError"), PySem.W.subIn K (.ref C_Unlike) (.type "TypeError"), PySem.W.subIn K (.ref C_Unlike) (.type "bool")] = [some false, some false, some false, some false, some false, some false, some false, some false, some true, some false, some false, some false, some false, some false, some false, some false, some false, some false, some false, some false, some false, some true, some true, some false, some false, some false, some false])
    (cl_Unlike : PySem.W.isClsIn K C_Unlike = true)
    (row_InvalidNumber : [PySem.W.subIn K (.ref C_InvalidNumber) (.ref C_UnknownState), PySem.W.subIn K (.ref C_InvalidNumber) (.ref C_InvalidText), PySem.W.subIn K (.ref C_InvalidNumber) (.ref C_Stuck), PySem.W.subIn K (.ref C_InvalidNumber) (.ref C_NotABook), PySem.W.subIn K (.ref C_InvalidNumber) (.ref C_NotPlain), PySem.W.subIn K (.ref C_InvalidNumber) (.ref C_NotFull), PySem.W.subIn K (.ref C_InvalidNumber) (.ref C_NotOneWay), PySem.W.subIn K (.ref C_InvalidNumber) (.ref C_NotAWire), PySem.W.subIn K (.ref C_InvalidNumber) (.ref C_Unlike), PySem.W.subIn K (.ref C_InvalidNumber) (.ref C_InvalidNumber), PySem.W.subIn K (.ref C_InvalidNumber) (.ref C_UnknownWord), PySem.W.subIn K (.ref C_InvalidNumber) (.ref C_InvalidWord), PySem.W.subIn K (.ref C_InvalidNumber) (.ref C_InvalidRow), PySem.W.subIn K (.ref C_InvalidNumber) (.ref C_InvalidLengths), PySem.W.subIn K (.ref C_InvalidNumber) (.ref C_InvalidWeights), PySem.W.subIn K (.ref C_InvalidNumber) (.ref C_InvalidBars), PySem.W.subIn K (.ref C_InvalidNumber) (.ref C_InvalidChoice), PySem.W.subIn K (.ref C_InvalidNumber) (.ref C_InvalidLoom), PySem.W.subIn K (.ref C_InvalidNumber) (.ref C_InvalidPage), PySem.W.subIn K (.ref C_InvalidNumber) (.ref C_LimitExceeded), PySem.W.subIn K (.ref C_InvalidNumber) (.ref C_NothingLeft), PySem.W.subIn K (.ref C_InvalidNumber) (.ref C_ReadError), PySem.W.subIn K (.ref C_InvalidNumber) (.type "Exception"), PySem.W.subIn K (.ref C_InvalidNumber) (.type "ValueError"), PySem.W.subIn K (.ref C_InvalidNumber) (.type "LookupError"), PySem.W.subIn K (.ref C_InvalidNumber) (.type "TypeError"), PySem.W.subIn K (.ref C_InvalidNumber) (.type "bool")] = [some false, some false, some false, some false, some false, some false, some false, some false, some false, some true, some false, some false, some false, some false, some false, some false, some false, some false, some false, some false, some false, some true, some true, some false, some false, some false, some false])
    (cl_InvalidNumber : PySem.W.isClsIn K C_InvalidNumber = true)
    (row_UnknownWord : [PySem.W.subIn K (.ref C_UnknownWord) (.ref C_UnknownState), PySem.W.subIn K (.ref C_UnknownWord) (.ref C_InvalidText), PySem.W.subIn K (.ref C_UnknownWord) (.ref C_Stuck), PySem.W.subIn K (.ref C_UnknownWord) (.ref C_NotABook), PySem.W.subIn K (.ref C_UnknownWord) (.ref C_NotPlain), PySem.W.subIn K (.ref C_UnknownWord) (.ref C_NotFull), PySem.W.subIn K (.ref C_UnknownWord) (.ref C_NotOneWay), PySem.W.subIn K (.ref C_UnknownWord) (.ref C_NotAWire), PySem.W.subIn K (.ref C_UnknownWord) (.ref C_Unlike), PySem.W.subIn K (.ref C_UnknownWord) (.ref C_InvalidNumber), PySem.W.subIn K (.ref C_UnknownWord) (.ref C_UnknownWord), PySem.W.subIn K (.ref C_UnknownWord) (.ref C_InvalidWord), PySem.W.subIn K (.ref C_UnknownWord) (.ref C_InvalidRow), PySem.W.subIn K (.ref C_UnknownWord) (.ref C_InvalidLengths), PySem.W.subIn K (.ref C_UnknownWord) (.ref C_InvalidWeights), PySem.W.subIn K (.ref C_UnknownWord) (.ref C_InvalidBars), PySem.W.subIn K (.ref C_UnknownWord) (.ref C_InvalidChoice), PySem.W.subIn K (.ref C_UnknownWord) (.ref C_InvalidLoom), PySem.W.subIn K (.ref C_UnknownWord) (.ref C_InvalidPage), PySem.W.subIn K (.ref C_UnknownWord) (.ref C_LimitExceeded), PySem.W.subIn K (.ref C_UnknownWord) (.ref C_NothingLeft), PySem.W.subIn K (.ref C_UnknownWord) (.ref C_ReadError), PySem.W.subIn K (.ref C_UnknownWord) (.type "Exception"), PySem.W.subIn K (.ref C_UnknownWord) (.type "ValueError"), PySem.W.subIn K (.ref C_UnknownWord) (.type "LookupError"), PySem.W.subIn K (.ref C_UnknownWord) (.type "TypeError"), PySem.W.subIn K (.ref C_UnknownWord) (.type "bool")] = [some false, some false, some false, some false, some false, some false, some false, some false, some false, some false, some true, some false, some false, some false, some false, some false, some false, some false, some false, some false, some false, some true, some true, some false, some false, some false, some false])
    (cl_UnknownWord : PySem.W.isClsIn K C_UnknownWord = true)
    (row_InvalidWord : [PySem.W.subIn K (.ref C_InvalidWord) (.ref C_UnknownState), PySem.W.subIn K (.ref C_InvalidWord) (.ref C_InvalidText), PySem.W.subIn K (.ref C_InvalidWord) (.ref C_Stuck), PySem.W.subIn K (.ref C_InvalidWord) (.ref C_NotABook), PySem.W.subIn K (.ref C_InvalidWord) (.ref C_NotPlain), PySem.W.subIn K (.ref C_InvalidWord) (.ref C_NotFull), PySem.W.subIn K (.ref C_InvalidWord) (.ref C_NotOneWay), PySem.W.subIn K (.ref C_InvalidWord) (.ref C_NotAWire), PySem.W.subIn K (.ref C_InvalidWord) (.ref C_Unlike), PySem.W.subIn K (.ref C_InvalidWord) (.ref C_InvalidNumber), PySem.W.subIn K (.ref C_InvalidWord) (.ref C_UnknownWord), PySem.W.subIn K (.ref C_InvalidWord) (.ref C_InvalidWord), PySem.W.subIn K (.ref C_InvalidWord) (.ref C_InvalidRow), PySem.W.subIn K (.ref C_InvalidWord) (.ref C_InvalidLengths), PySem.W.subIn K (.ref C_InvalidWord) (.ref C_InvalidWeights), PySem.W.subIn K (.ref C_InvalidWord) (.ref C_InvalidBars), PySem.W.subIn K (.ref C_InvalidWord) (.ref C_InvalidChoice), PySem.W.subIn K (.ref C_InvalidWord) (.ref C_InvalidLoom), PySem.W.subIn K (.ref C_InvalidWord) (.ref C_InvalidPage), PySem.W.subIn K (.ref C_InvalidWord) (.ref C_LimitExceeded), PySem.W.subIn K (.ref C_InvalidWord) (.ref C_NothingLeft), PySem.W.subIn K (.ref C_InvalidWord) (.ref C_ReadError), PySem.W.subIn K (.ref C_InvalidWord) (.type "Exception"), PySem.W.subIn K (.ref C_InvalidWord) (.type "ValueError"), PySem.W.subIn K (.ref C_InvalidWord) (.type "LookupError"), PySem.W.subIn K (.ref C_InvalidWord) (.type "TypeError"), PySem.W.subIn K (.ref C_InvalidWord) (.type "bool")] = [some false, some false, some false, some false, some false, some false, some false, some false, some false, some false, some false, some true, some false, some false, some false, some false, some false, some false, some false, some false, some false, some true, some true, some false, some false, some false, some false])
    (cl_InvalidWord : PySem.W.isClsIn K C_InvalidWord = true)
    (row_InvalidRow : [PySem.W.subIn K (.ref C_InvalidRow) (.ref C_UnknownState), PySem.W.subIn K (.ref C_InvalidRow) (.ref C_InvalidText), PySem.W.subIn K (.ref C_InvalidRow) (.ref C_Stuck), PySem.W.subIn K (.ref C_InvalidRow) (.ref C_NotABook), PySem.W.subIn K (.ref C_InvalidRow) (.ref C_NotPlain), PySem.W.subIn K (.ref C_InvalidRow) (.ref C_NotFull), PySem.W.subIn K (.ref C_InvalidRow) (.ref C_NotOneWay), PySem.W.subIn K (.ref C_InvalidRow) (.ref C_NotAWire), PySem.W.subIn K (.ref C_InvalidRow) (.ref C_Unlike), PySem.W.subIn K (.ref C_InvalidRow) (.ref C_InvalidNumber), PySem.W.subIn K (.ref C_InvalidRow) (.ref C_UnknownWord), PySem.W.subIn K (.ref C_InvalidRow) (.ref C_InvalidWord), PySem.W.subIn K (.ref C_InvalidRow) (.ref C_InvalidRow), PySem.W.subIn K (.ref C_InvalidRow) (.ref C_InvalidLengths), PySem.W.subIn K (.ref C_InvalidRow) (.ref C_InvalidWeights), PySem.W.subIn K (.ref C_InvalidRow) (.ref C_InvalidBars), PySem.W.subIn K (.ref C_InvalidRow) (.ref C_InvalidChoice), PySem.W.subIn K (.ref C_InvalidRow) (.ref C_InvalidLoom), PySem.W.subIn K (.ref C_InvalidRow) (.ref C_InvalidPage), PySem.W.subIn K (.ref C_InvalidRow) (.ref C_LimitExceeded), PySem.W.subIn K (.ref C_InvalidRow) (.ref C_NothingLeft), PySem.W.subIn K (.ref C_InvalidRow) (.ref C_ReadError), PySem.W.subIn K (.ref C_InvalidRow) (.type "Exception"), PySem.W.subIn K (.ref C_InvalidRow) (.type "ValueError"), PySem.W.subIn K (.ref C_InvalidRow) (.type "LookupError"), PySem.W.subIn K (.ref C_InvalidRow) (.type "TypeError"), PySem.W.subIn K (.ref C_InvalidRow) (.type "bool")] = [some false, some false, some false, some false, some false, some false, some false, some false, some false, some false, some false, some false, some true, some false, some false, some false, some false, some false, some false, some false, some false, some true, some true, some false, some false, some false, some false])
    (cl_InvalidRow : PySem.W.isClsIn K C_InvalidRow = true)
    (nx_InvalidRow_at : PySem.W.findIn K (.ref C_InvalidRow) "at" = some none)
    (row_InvalidLengths : [PySem.W.subIn K (.ref C_InvalidLengths) (.ref C_UnknownState), PySem.W.subIn K (.ref C_InvalidLengths) (.ref C_InvalidText), PySem.W.subIn K (.ref C_InvalidLengths) (.ref C_Stuck), PySem.W.subIn K (.ref C_InvalidLengths) (.ref C_NotABook), PySem.W.subIn K (.ref C_InvalidLengths) (.ref C_NotPlain), PySem.W.subIn K (.ref C_InvalidLengths) (.ref C_NotFull), PySem.W.subIn K (.ref C_InvalidLengths) (.ref C_NotOneWay), PySem.W.subIn K (.ref C_InvalidLengths) (.ref C_NotAWire), PySem.W.subIn K (.ref C_InvalidLengths) (.ref C_Unlike), PySem.W.subIn K (.ref C_InvalidLengths) (.ref C_InvalidNumber), PySem.W.subIn K (.ref C_InvalidLengths) (.ref C_UnknownWord), PySem.W.subIn K (.ref C_InvalidLengths) (.ref C_InvalidWord), PySem.W.subIn K (.ref C_InvalidLengths) (.ref C_InvalidRow), PySem.W.subIn K (.ref C_InvalidLengths) (.ref C_InvalidLengths), PySem.W.subIn K (.ref C_InvalidLengths) (.ref C_InvalidWeights), PySem.W.subIn K (.ref C_InvalidLengths) (.ref C_InvalidBars), PySem.W.subIn K (.ref C_InvalidLengths) (.ref C_InvalidChoice), PySem.W.subIn K (.ref C_InvalidLengths) (.ref C_InvalidLoom), PySem.W.subIn K (.ref C_InvalidLengths) (.ref C_InvalidPage), PySem.W.subIn K (.ref C_InvalidLengths) (.ref C_LimitExceeded), PySem.W.subIn K (.ref C_InvalidLengths) (.ref C_NothingLeft), PySem.W.subIn K (.ref C_InvalidLengths) (.ref C_ReadError), PySem.W.subIn K (.ref C_InvalidLengths) (.type "Exception"), PySem.W.subIn K (.ref C_InvalidLengths) (.type "ValueError"), PySem.W.subIn K (.ref C_InvalidLengths) (.type "LookupError"), PySem.W.subIn K (.ref C_InvalidLengths) (.type "TypeError"), PySem.W.subIn K (.ref C_InvalidLengths) (.type "bool")] = [some false, some false, some false, some false, some false, some false, some false, some false, some false, some false, some false, some false, some false, some true, some false, some false, some false, some false, some false, some false, some false, some true, some true, some false, some false, some false, some false])
    (cl_InvalidLengths : PySem.W.isClsIn K C_InvalidLengths = true)
    (nx_InvalidLengths_at : PySem.W.findIn K (.ref C_InvalidLengths) "at" = some none)
    (row_InvalidWeights : [PySem.W.subIn K (.ref C_InvalidWeights) (.ref C_UnknownState), PySem.W.subIn K (.ref C_InvalidWeights) (.ref C_InvalidText), PySem.W.subIn K (.ref C_InvalidWeights) (.ref C_Stuck), PySem.W.subIn K (.ref C_InvalidWeights) (.ref C_NotABook), PySem.W.subIn K (.ref C_InvalidWeights) (.ref C_NotPlain), PySem.W.subIn K (.ref C_InvalidWeights) (.ref C_NotFull), PySem.W.subIn K (.ref C_InvalidWeights) (.ref C_NotOneWay), PySem.W.subIn K (.ref C_InvalidWeights) (.ref C_NotAWire), PySem.W.subIn K (.ref C_InvalidWeights) (.ref C_Unlike), PySem.W.subIn K (.ref C_InvalidWeights) (.ref C_InvalidNumber), PySem.W.subIn K (.ref C_InvalidWeights) (.ref C_UnknownWord), PySem.W.subIn K (.ref C_InvalidWeights) (.ref C_InvalidWord), PySem.W.subIn K (.ref C_InvalidWeights) (.ref C_InvalidRow), PySem.W.subIn K (.ref C_InvalidWeights) (.ref C_InvalidLengths), PySem.W.subIn K (.ref C_InvalidWeights) (.ref C_InvalidWeights), PySem.W.subIn K (.ref C_InvalidWeights) (.ref C_InvalidBars), PySem.W.subIn K (.ref C_InvalidWeights) (.ref C_InvalidChoice), PySem.W.subIn K (.ref C_InvalidWeights) (.ref C_InvalidLoom), PySem.W.subIn K (.ref C_InvalidWeights) (.ref C_InvalidPage), PySem.W.subIn K (.ref C_InvalidWeights) (.ref C_LimitExceeded), PySem.W.subIn K (.ref C_InvalidWeights) (.ref C_NothingLeft), PySem.W.subIn K (.ref C_InvalidWeights) (.ref C_ReadError), PySem.W.subIn K (.ref C_InvalidWeights) (.type "Exception"), PySem.W.subIn K (.ref C_InvalidWeights) (.type "ValueError"), PySem.W.subIn K (.ref C_InvalidWeights) (.type "LookupError"), PySem.W.subIn K (.ref C_InvalidWeights) (.type "TypeError"), PySem.W.subIn K (.ref C_InvalidWeights) (.type "bool")] = [some false, some false, some false, some false, some false, some false, some false, some false, some false, some false, some false, some false, some false, some false, some true, some false, some false, some false, some false, some false, some false, some true, some true, some false, some false, some false, some false])
    (cl_InvalidWeights : PySem.W.isClsIn K C_InvalidWeights = true)
    (nx_InvalidWeights_at : PySem.W.findIn K (.ref C_InvalidWeights) "at" = some none)
    (row_InvalidBars : [PySem.W.subIn K (.ref C_InvalidBars) (.ref C_UnknownState), PySem.W.subIn K (.ref C_InvalidBars) (.ref C_InvalidText), PySem.W.subIn K (.ref C_InvalidBars) (.ref C_Stuck), PySem.W.subIn K (.ref C_InvalidBars) (.ref C_NotABook), PySem.W.subIn K (.ref C_InvalidBars) (.ref C_NotPlain), PySem.W.subIn K (.ref C_InvalidBars) (.ref C_NotFull), PySem.W.subIn K (.ref C_InvalidBars) (.ref C_NotOneWay), PySem.W.subIn K (.ref C_InvalidBars) (.ref C_NotAWire), PySem.W.subIn K (.ref C_InvalidBars) (.ref C_Unlike), PySem.W.subIn K (.ref C_InvalidBars) (.ref C_InvalidNumber), PySem.W.subIn K (.ref C_InvalidBars) (.ref C_UnknownWord), PySem.W.subIn K (.ref C_InvalidBars) (.ref C_InvalidWord), PySem.W.subIn K (.ref C_InvalidBars) (.ref C_InvalidRow), PySem.W.subIn K (.ref C_InvalidBars) (.ref C_InvalidLengths), PySem.W.subIn K (.ref C_InvalidBars) (.ref C_InvalidWeights), PySem.W.subIn K (.ref C_InvalidBars) (.ref C_InvalidBars), PySem.W.subIn K (.ref C_InvalidBars) (.ref C_InvalidChoice), PySem.W.subIn K (.ref C_InvalidBars) (.ref C_InvalidLoom), PySem.W.subIn K (.ref C_InvalidBars) (.ref C_InvalidPage), PySem.W.subIn K (.ref C_InvalidBars) (.ref C_LimitExceeded), PySem.W.subIn K (.ref C_InvalidBars) (.ref C_NothingLeft), PySem.W.subIn K (.ref C_InvalidBars) (.ref C_ReadError), PySem.W.subIn K (.ref C_InvalidBars) (.type "Exception"), PySem.W.subIn K (.ref C_InvalidBars) (.type "ValueError"), PySem.W.subIn K (.ref C_InvalidBars) (.type "LookupError"), PySem.W.subIn K (.ref C_InvalidBars) (.type "TypeError"), PySem.W.subIn K (.ref C_InvalidBars) (.type "bool")] = [some false, some false, some false, some false, some false, some false, some false, some false, some false, some false, some false, some false, some false, some false, some false, some true, some false, some false, some false, some false, some false, some true, some true, some false, some false, some false, some false])
    (cl_InvalidBars : PySem.W.isClsIn K C_InvalidBars = true)
    (nx_InvalidBars_at : PySem.W.findIn K (.ref C_InvalidBars) "at" = some none)
    (row_InvalidChoice : [PySem.W.subIn K (.ref C_InvalidChoice) (.ref C_UnknownState), PySem.W.subIn K (.ref C_InvalidChoice) (.ref C_InvalidText), PySem.W.subIn K (.ref C_InvalidChoice) (.ref C_Stuck), PySem.W.subIn K (.ref C_InvalidChoice) (.ref C_NotABook), PySem.W.subIn K (.ref C_InvalidChoice) (.ref C_NotPlain), PySem.W.subIn K (.ref C_InvalidChoice) (.ref C_NotFull), PySem.W.subIn K (.ref C_InvalidChoice) (.ref C_NotOneWay), PySem.W.subIn K (.ref C_InvalidChoice) (.ref C_NotAWire), PySem.W.subIn K (.ref C_InvalidChoice) (.ref C_Unlike), PySem.W.subIn K (.ref C_InvalidChoice) (.ref C_InvalidNumber), PySem.W.subIn K (.ref C_InvalidChoice) (.ref C_UnknownWord), PySem.W.subIn K (.ref C_InvalidChoice) (.ref C_InvalidWord), PySem.W.subIn K (.ref C_InvalidChoice) (.ref C_InvalidRow), PySem.W.subIn K (.ref C_InvalidChoice) (.ref C_InvalidLengths), PySem.W.subIn K (.ref C_InvalidChoice) (.ref C_InvalidWeights), PySem.W.subIn K (.ref C_InvalidChoice) (.ref C_InvalidBars), PySem.W.subIn K (.ref C_InvalidChoice) (.ref C_InvalidChoice), PySem.W.subIn K (.ref C_InvalidChoice) (.ref C_InvalidLoom), PySem.W.subIn K (.ref C_InvalidChoice) (.ref C_InvalidPage), PySem.W.subIn K (.ref C_InvalidChoice) (.ref C_LimitExceeded), PySem.W.subIn K (.ref C_InvalidChoice) (.ref C_NothingLeft), PySem.W.subIn K (.ref C_InvalidChoice) (.ref C_ReadError), PySem.W.subIn K (.ref C_InvalidChoice) (.type "Exception"), PySem.W.subIn K (.ref C_InvalidChoice) (.type "ValueError"), PySem.W.subIn K (.ref C_InvalidChoice) (.type "LookupError"), PySem.W.subIn K (.ref C_InvalidChoice) (.type "TypeError"), PySem.W.subIn K (.ref C_InvalidChoice) (.type "bool")] = [some false, some false, some false, some false, some false, some false, some false, some false, some false, some false, some false, some false, some false, some false, some false, some false, some true, some false, some false, some false, some false, some true, some true, some false, some false, some false, some false])
    (cl_InvalidChoice : PySem.W.isClsIn K C_InvalidChoice = true)
    (nx_InvalidChoice_at : PySem.W.findIn K (.ref C_InvalidChoice) "at" = some none)
    (row_InvalidLoom : [PySem.W.subIn K (.ref C_InvalidLoom) (.ref C_UnknownState), PySem.W.subIn K (.ref C_InvalidLoom) (.ref C_InvalidText), PySem.W.subIn K (.ref C_InvalidLoom) (.ref C_Stuck), PySem.W.subIn K (.ref C_InvalidLoom) (.ref C_NotABook), PySem.W.subIn K (.ref C_InvalidLoom) (.ref C_NotPlain), PySem.W.subIn K (.ref C_InvalidLoom) (.ref C_NotFull), PySem.W.subIn K (.ref C_InvalidLoom) (.ref C_NotOneWay), PySem.W.subIn K (.ref C_InvalidLoom) (.ref C_NotAWire), PySem.W.subIn K (.ref C_InvalidLoom) (.ref C_Unlike), PySem.W.subIn K (.ref C_InvalidLoom) (.ref C_InvalidNumber), PySem.W.subIn K (.ref C_InvalidLoom) (.ref C_UnknownWord), PySem.W.subIn K (.ref C_InvalidLoom) (.ref C_InvalidWord), PySem.W.subIn K (.ref C_InvalidLoom) (.ref C_InvalidRow), PySem.W.subIn K (.ref C_InvalidLoom) (.ref C_InvalidLengths), PySem.W.subIn K (.ref C_InvalidLoom) (.ref C_InvalidWeights), PySem.W.subIn K (.ref C_InvalidLoom) (.ref C_InvalidBars), PySem.W.subIn K (.ref C_InvalidLoom) (.ref C_InvalidChoice), PySem.W.subIn K (.ref C_InvalidLoom) (.ref C_InvalidLoom), PySem.W.subIn K (.ref C_InvalidLoom) (.ref C_InvalidPage), PySem.W.subIn K (.ref C_InvalidLoom) (.ref C_LimitExceeded), PySem.W.subIn K (.ref C_InvalidLoom) (.ref C_NothingLeft), PySem.W.subIn K (.ref C_InvalidLoom) (.ref C_ReadError), PySem.W.subIn K (.ref C_InvalidLoom) (.type "Exception"), PySem.W.subIn K (.ref C_InvalidLoom) (.type "ValueError"), PySem.W.subIn K (.ref C_InvalidLoom) (.type "LookupError"), PySem.W.subIn K (.ref C_InvalidLoom) (.type "TypeError"), PySem.W.subIn K (.ref C_InvalidLoom) (.type "bool")] = [some false, some false, some false, some false, some false, some false, some false, some false, some false, some false, some false, some false, some false, some false, some false, some false, some false, some true, some false, some false, some false, some true, some true, some false, some false, some false, some false])
    (cl_InvalidLoom : PySem.W.isClsIn K C_InvalidLoom = true)
    (nx_InvalidLoom_part : PySem.W.findIn K (.ref C_InvalidLoom) "part" = some none)
    (nx_InvalidLoom_at : PySem.W.findIn K (.ref C_InvalidLoom) "at" = some none)
    (row_InvalidPage : [PySem.W.subIn K (.ref C_InvalidPage) (.ref C_UnknownState), PySem.W.subIn K (.ref C_InvalidPage) (.ref C_InvalidText), PySem.W.subIn K (.ref C_InvalidPage) (.ref C_Stuck), PySem.W.subIn K (.ref C_InvalidPage) (.ref C_NotABook), PySem.W.subIn K (.ref C_InvalidPage) (.ref C_NotPlain), PySem.W.subIn K (.ref C_InvalidPage) (.ref C_NotFull), PySem.W.subIn K (.ref C_InvalidPage) (.ref C_NotOneWay), PySem.W.subIn K (.ref C_InvalidPage) (.ref C_NotAWire), PySem.W.subIn K (.ref C_InvalidPage) (.ref C_Unlike), PySem.W.subIn K (.ref C_InvalidPage) (.ref C_InvalidNumber), PySem.W.subIn K (.ref C_InvalidPage) (.ref C_UnknownWord), PySem.W.subIn K (.ref C_InvalidPage) (.ref C_InvalidWord), PySem.W.subIn K (.ref C_InvalidPage) (.ref C_InvalidRow), PySem.W.subIn K (.ref C_InvalidPage) (.ref C_InvalidLengths), PySem.W.subIn K (.ref C_InvalidPage) (.ref C_InvalidWeights), PySem.W.subIn K (.ref C_InvalidPage) (.ref C_InvalidBars), PySem.W.subIn K (.ref C_InvalidPage) (.ref C_InvalidChoice), PySem.W.subIn K (.ref C_InvalidPage) (.ref C_InvalidLoom), PySem.W.subIn K (.ref C_InvalidPage) (.ref C_InvalidPage), PySem.W.subIn K (.ref C_InvalidPage) (.ref C_LimitExceeded), PySem.W.subIn K (.ref C_InvalidPage) (.ref C_NothingLeft), PySem.W.subIn K (.ref C_InvalidPage) (.ref C_ReadError), PySem.W.subIn K (.ref C_InvalidPage) (.type "Exception"), PySem.W.subIn K (.ref C_InvalidPage) (.type "ValueError"), PySem.W.subIn K (.ref C_InvalidPage) (.type "LookupError"), PySem.W.subIn K (.ref C_InvalidPage) (.type "TypeError"), PySem.W.subIn K (.ref C_InvalidPage) (.type "bool")] = [some false, some false, some false, some false, some false, some false, some false, some false, some false, some false, some false, some false, some false, some false, some false, some false, some false, some false, some true, some false, some false, some true, some true, some false, some false, some false, some false])
    (cl_InvalidPage : PySem.W.isClsIn K C_InvalidPage = true)
    (nx_InvalidPage_line : PySem.W.findIn K (.ref C_InvalidPage) "line" = some none)
    (row_LimitExceeded : [PySem.W.subIn K (.ref C_LimitExceeded) (.ref C_UnknownState), PySem.W.subIn K (.ref C_LimitExceeded) (.ref C_InvalidText), PySem.W.subIn K (.ref C_LimitExceeded) (.ref C_Stuck), PySem.W.subIn K (.ref C_LimitExceeded) (.ref C_NotABook), PySem.W.subIn K (.ref C_LimitExceeded) (.ref C_NotPlain), PySem.W.subIn K (.ref C_LimitExceeded) (.ref C_NotFull), PySem.W.subIn K (.ref C_LimitExceeded) (.ref C_NotOneWay), PySem.W.subIn K (.ref C_LimitExceeded) (.ref C_NotAWire), PySem.W.subIn K (.ref C_LimitExceeded) (.ref C_Unlike), PySem.W.subIn K (.ref C_LimitExceeded) (.ref C_InvalidNumber), PySem.W.subIn K (.ref C_LimitExceeded) (.ref C_UnknownWord), PySem.W.subIn K (.ref C_LimitExceeded) (.ref C_InvalidWord), PySem.W.subIn K (.ref C_LimitExceeded) (.ref C_InvalidRow), PySem.W.subIn K (.ref C_LimitExceeded) (.ref C_InvalidLengths), PySem.W.subIn K (.ref C_LimitExceeded) (.ref C_InvalidWeights), PySem.W.subIn K (.ref C_LimitExceeded) (.ref C_InvalidBars), PySem.W.subIn K (.ref C_LimitExceeded) (.ref C_InvalidChoice), PySem.W.subIn K (.ref C_LimitExceeded) (.ref C_InvalidLoom), PySem.W.subIn K (.ref C_LimitExceeded) (.ref C_InvalidPage), PySem.W.subIn K (.ref C_LimitExceeded) (.ref C_LimitExceeded), PySem.W.subIn K (.ref C_LimitExceeded) (.ref C_NothingLeft), PySem.W.subIn K (.ref C_LimitExceeded) (.ref C_ReadError), PySem.W.subIn K (.ref C_LimitExceeded) (.type "Exception"), PySem.W.subIn K (.ref C_LimitExceeded) (.type "ValueError"), PySem.W.subIn K (.ref C_LimitExceeded) (.type "LookupError"), PySem.W.subIn K (.ref C_LimitExceeded) (.type "TypeError"), PySem.W.subIn K (.ref C_LimitExceeded) (.type "bool")] = [some false, some false, some false, some false, some false, some false, some false, some false, some false, some false, some false, some false, some false, some false, some false, some false, some false, some false, some false, some true, some false, some true, some true, some false, some false, some false, some false])
    (cl_LimitExceeded : PySem.W.isClsIn K C_LimitExceeded = true)
    (nx_LimitExceeded_limit : PySem.W.findIn K (.ref C_LimitExceeded) "limit" = some none)
    (row_NothingLeft : [PySem.W.subIn K (.ref C_NothingLeft) (.ref C_UnknownState), PySem.W.subIn K (.ref C_NothingLeft) (.ref C_InvalidText), PySem.W.subIn K (.ref C_NothingLeft) (.ref C_Stuck), PySem.W.subIn K (.ref C_NothingLeft) (.ref C_NotABook), PySem.W.subIn K (.ref C_NothingLeft) (.ref C_NotPlain), PySem.W.subIn K (.ref C_NothingLeft) (.ref C_NotFull), PySem.W.subIn K (.ref C_NothingLeft) (.ref C_NotOneWay), PySem.W.subIn K (.ref C_NothingLeft) (.ref C_NotAWire), PySem.W.subIn K (.ref C_NothingLeft) (.ref C_Unlike), PySem.W.subIn K (.ref C_NothingLeft) (.ref C_InvalidNumber), PySem.W.subIn K (.ref C_NothingLeft) (.ref C_UnknownWord), PySem.W.subIn K (.ref C_NothingLeft) (.ref C_InvalidWord), PySem.W.subIn K (.ref C_NothingLeft) (.ref C_InvalidRow), PySem.W.subIn K (.ref C_NothingLeft) (.ref C_InvalidLengths), PySem.W.subIn K (.ref C_NothingLeft) (.ref C_InvalidWeights), PySem.W.subIn K (.ref C_NothingLeft) (.ref C_InvalidBars), PySem.W.subIn K (.ref C_NothingLeft) (.ref C_InvalidChoice), PySem.W.subIn K (.ref C_NothingLeft) (.ref C_InvalidLoom), PySem.W.subIn K (.ref C_NothingLeft) (.ref C_InvalidPage), PySem.W.subIn K (.ref C_NothingLeft) (.ref C_LimitExceeded), PySem.W.subIn K (.ref C_NothingLeft) (.ref C_NothingLeft), PySem.W.subIn K (.ref C_NothingLeft) (.ref C_ReadError), PySem.W.subIn K (.ref C_NothingLeft) (.type "Exception"), PySem.W.subIn K (.ref C_NothingLeft) (.type "ValueError"), PySem.W.subIn K (.ref C_NothingLeft) (.type "LookupError"), PySem.W.subIn K (.ref C_NothingLeft) (.type "TypeError"), PySem.W.subIn K (.ref C_NothingLeft) (.type "bool")] = [some false, some false, some false, some false, some false, some false, some false, some false, some false, some false, some false, some false, some false, some false, some false, some false, some false, some false, some false, some false, some true, some true, some true, some false, some false, some false, some false])
    (cl_NothingLeft : PySem.W.isClsIn K C_NothingLeft = true)
    (nx_NothingLeft_word : PySem.W.findIn K (.ref C_NothingLeft) "word" = some none)
    (cl_ReadError : PySem.W.isClsIn K C_ReadError = true)
    (eq_Stuck : PySem.W.findIn K (.ref C_Stuck) "__eq__" = some (some (.builtin "object.__eq__")))
    (z_Exception : PySem.W.nsIn K mainGlobals "Exception" = some none)
    (z_LookupError : PySem.W.nsIn K mainGlobals "LookupError" = some none)
    (z_TypeError : PySem.W.nsIn K mainGlobals "TypeError" = some none)
    (z_ValueError : PySem.W.nsIn K mainGlobals "ValueError" = some none)
    (z_abs : PySem.W.nsIn K mainGlobals "abs" = some none)
    (z_bool : PySem.W.nsIn K mainGlobals "bool" = some none)
    (z_int : PySem.W.nsIn K mainGlobals "int" = some none)
    (z_isinstance : PySem.W.nsIn K mainGlobals "isinstance" = some none)
    (z_len : PySem.W.nsIn K mainGlobals "len" = some none)
    (z_range : PySem.W.nsIn K mainGlobals "range" = some none)
    : ∃ fd : FuncData, (∀ (s : Shared) (v : Value), BindsTo s fd ⟨[v], []⟩ [("_law_script", v)]) ∧ ∀ base : Heap, K.In base → base.Ns mainGlobals mg → FnOk l.prog w K mg base CX0 8 fa fd P_law (spLaw K) := by
  have e := hfa.symm.trans (PySem.W.mg_of X G a_law)
  cases e
  have F_InvalidLoom_init := fun_mk (st := s_InvalidLoom_init) l_InvalidLoom_init c_InvalidLoom_init k_InvalidLoom_init
  have b_InvalidLoom_init := F_InvalidLoom_init.binds (ps := P_InvalidLoom_init) fun _ _ _ _ _ _ us hl => match us, hl with | [_, _, _], _ => rfl
  have F_InvalidRow_init := fun_mk (st := s_InvalidRow_init) l_InvalidRow_init c_InvalidRow_init k_InvalidRow_init
  have b_InvalidRow_init := F_InvalidRow_init.binds (ps := P_InvalidRow_init) fun _ _ _ _ _ _ us hl => match us, hl with | [_, _], _ => rfl
  have F_InvalidLengths_init := fun_mk (st := s_InvalidLengths_init) l_InvalidLengths_init c_InvalidLengths_init k_InvalidLengths_init
  have b_InvalidLengths_init := F_InvalidLengths_init.binds (ps := P_InvalidLengths_init) fun _ _ _ _ _ _ us hl => match us, hl with | [_, _], _ => rfl
  have F_InvalidWeights_init := fun_mk (st := s_InvalidWeights_init) l_InvalidWeights_init c_InvalidWeights_init k_InvalidWeights_init
  have b_InvalidWeights_init := F_InvalidWeights_init.binds (ps := P_InvalidWeights_init) fun _ _ _ _ _ _ us hl => match us, hl with | [_, _], _ => rfl
  have F_InvalidBars_init := fun_mk (st := s_InvalidBars_init) l_InvalidBars_init c_InvalidBars_init k_InvalidBars_init
  have b_InvalidBars_init := F_InvalidBars_init.binds (ps := P_InvalidBars_init) fun _ _ _ _ _ _ us hl => match us, hl with | [_, _], _ => rfl
  have F_InvalidChoice_init := fun_mk (st := s_InvalidChoice_init) l_InvalidChoice_init c_InvalidChoice_init k_InvalidChoice_init
  have b_InvalidChoice_init := F_InvalidChoice_init.binds (ps := P_InvalidChoice_init) fun _ _ _ _ _ _ us hl => match us, hl with | [_, _], _ => rfl
  have F_InvalidPage_init := fun_mk (st := s_InvalidPage_init) l_InvalidPage_init c_InvalidPage_init k_InvalidPage_init
  have b_InvalidPage_init := F_InvalidPage_init.binds (ps := P_InvalidPage_init) fun _ _ _ _ _ _ us hl => match us, hl with | [_, _], _ => rfl
  have F_LimitExceeded_init := fun_mk (st := s_LimitExceeded_init) l_LimitExceeded_init c_LimitExceeded_init k_LimitExceeded_init
  have b_LimitExceeded_init := F_LimitExceeded_init.binds (ps := P_LimitExceeded_init) fun _ _ _ _ _ _ us hl => match us, hl with | [_, _], _ => rfl
  have F_NothingLeft_init := fun_mk (st := s_NothingLeft_init) l_NothingLeft_init c_NothingLeft_init k_NothingLeft_init
  have b_NothingLeft_init := F_NothingLeft_init.binds (ps := P_NothingLeft_init) fun _ _ _ _ _ _ us hl => match us, hl with | [_, _], _ => rfl
  have F_l_pool := fun_mk (st := s_l_pool) l_l_pool c_l_pool k_l_pool
  have b_l_pool := F_l_pool.binds (ps := P_l_pool) fun _ _ _ _ _ _ us hl => match us, hl with | [_], _ => rfl
  have F_l_draw := fun_mk (st := s_l_draw) l_l_draw c_l_draw k_l_draw
  have b_l_draw := F_l_draw.binds (ps := P_l_draw) fun _ _ _ _ _ _ us hl => match us, hl with | [_, _], _ => rfl
  have F_l_pick := fun_mk (st := s_l_pick) l_l_pick c_l_pick k_l_pick
  have b_l_pick := F_l_pick.binds (ps := P_l_pick) fun _ _ _ _ _ _ us hl => match us, hl with | [_, _], _ => rfl
  have F_l_plain_errors := fun_mk (st := s_l_plain_errors) l_l_plain_errors c_l_plain_errors k_l_plain_errors
  have b_l_plain_errors := F_l_plain_errors.binds (ps := P_l_plain_errors) fun _ _ _ _ _ _ us hl => match us, hl with | [], _ => rfl
  have F_l_place_errors := fun_mk (st := s_l_place_errors) l_l_place_errors c_l_place_errors k_l_place_errors
  have b_l_place_errors := F_l_place_errors.binds (ps := P_l_place_errors) fun _ _ _ _ _ _ us hl => match us, hl with | [_], _ => rfl
  have F_l_kinds_of := fun_mk (st := s_l_kinds_of) l_l_kinds_of c_l_kinds_of k_l_kinds_of
  have b_l_kinds_of := F_l_kinds_of.binds (ps := P_l_kinds_of) fun _ _ _ _ _ _ us hl => match us, hl with | [_], _ => rfl
  have F_l_same := fun_mk (st := s_l_same) l_l_same c_l_same k_l_same
  have b_l_same := F_l_same.binds (ps := P_l_same) fun _ _ _ _ _ _ us hl => match us, hl with | [_, _], _ => rfl
  have F_law := fun_mk (st := s_law) l_law c_law k_law
  have b_law := F_law.binds (ps := P_law) fun _ _ _ _ _ _ us hl => match us, hl with | [_], _ => rfl
  exact ⟨_, fun s v => .of_eq rfl, fun base _ _ => ok_law {
    f_InvalidLoom_init := _
    fd_InvalidLoom_init := _
    F_InvalidLoom_init := F_InvalidLoom_init
    b_InvalidLoom_init := b_InvalidLoom_init
    f_InvalidRow_init := _
    fd_InvalidRow_init := _
    F_InvalidRow_init := F_InvalidRow_init
    b_InvalidRow_init := b_InvalidRow_init
    f_InvalidLengths_init := _
    fd_InvalidLengths_init := _
    F_InvalidLengths_init := F_InvalidLengths_init
    b_InvalidLengths_init := b_InvalidLengths_init
    f_InvalidWeights_init := _
    fd_InvalidWeights_init := _
    F_InvalidWeights_init := F_InvalidWeights_init
    b_InvalidWeights_init := b_InvalidWeights_init
    f_InvalidBars_init := _
    fd_InvalidBars_init := _
    F_InvalidBars_init := F_InvalidBars_init
    b_InvalidBars_init := b_InvalidBars_init
    f_InvalidChoice_init := _
    fd_InvalidChoice_init := _
    F_InvalidChoice_init := F_InvalidChoice_init
    b_InvalidChoice_init := b_InvalidChoice_init
    f_InvalidPage_init := _
    fd_InvalidPage_init := _
    F_InvalidPage_init := F_InvalidPage_init
    b_InvalidPage_init := b_InvalidPage_init
    f_LimitExceeded_init := _
    fd_LimitExceeded_init := _
    F_LimitExceeded_init := F_LimitExceeded_init
    b_LimitExceeded_init := b_LimitExceeded_init
    f_NothingLeft_init := _
    fd_NothingLeft_init := _
    F_NothingLeft_init := F_NothingLeft_init
    b_NothingLeft_init := b_NothingLeft_init
    f_l_pool := _
    fd_l_pool := _
    F_l_pool := F_l_pool
    b_l_pool := b_l_pool
    m_l_pool := PySem.W.mg_of X G a_l_pool
    f_l_draw := _
    fd_l_draw := _
    F_l_draw := F_l_draw
    b_l_draw := b_l_draw
    m_l_draw := PySem.W.mg_of X G a_l_draw
    f_l_pick := _
    fd_l_pick := _
    F_l_pick := F_l_pick
    b_l_pick := b_l_pick
    m_l_pick := PySem.W.mg_of X G a_l_pick
    f_l_plain_errors := _
    fd_l_plain_errors := _
    F_l_plain_errors := F_l_plain_errors
    b_l_plain_errors := b_l_plain_errors
    m_l_plain_errors := PySem.W.mg_of X G a_l_plain_errors
    f_l_place_errors := _
    fd_l_place_errors := _
    F_l_place_errors := F_l_place_errors
    b_l_place_errors := b_l_place_errors
    m_l_place_errors := PySem.W.mg_of X G a_l_place_errors
    f_l_kinds_of := _
    fd_l_kinds_of := _
    F_l_kinds_of := F_l_kinds_of
    b_l_kinds_of := b_l_kinds_of
    m_l_kinds_of := PySem.W.mg_of X G a_l_kinds_of
    f_l_same := _
    fd_l_same := _
    F_l_same := F_l_same
    b_l_same := b_l_same
    m_l_same := PySem.W.mg_of X G a_l_same
    f_law := _
    fd_law := _
    F_law := F_law
    b_law := b_law
    m_law := PySem.W.mg_of X G a_law
    n_Exception := PySem.W.mg_none_of X G z_Exception
    n_LookupError := PySem.W.mg_none_of X G z_LookupError
    n_TypeError := PySem.W.mg_none_of X G z_TypeError
    n_ValueError := PySem.W.mg_none_of X G z_ValueError
    n_abs := PySem.W.mg_none_of X G z_abs
    n_bool := PySem.W.mg_none_of X G z_bool
    n_int := PySem.W.mg_none_of X G z_int
    n_isinstance := PySem.W.mg_none_of X G z_isinstance
    n_len := PySem.W.mg_none_of X G z_len
    n_range := PySem.W.mg_none_of X G z_range
    C_ReadError := C_ReadError
    g_ReadError := PySem.W.mg_of X G a_CReadError
    kc_ReadError := kc_ReadError
    E_ReadError := ⟨e1_ReadError, e2_ReadError, e3_ReadError, e4_ReadError, e5_ReadError, e6, e7, e8_ReadError⟩
    ty_ReadError := ty_ReadError
    in_ReadError := in_ReadError
    C_UnknownState := C_UnknownState
    g_UnknownState := PySem.W.mg_of X G a_CUnknownState
    kc_UnknownState := kc_UnknownState
    E_UnknownState := ⟨e1_UnknownState, e2_UnknownState, e3_UnknownState, e4_UnknownState, e5_UnknownState, e6, e7, e8_UnknownState⟩
    ty_UnknownState := ty_UnknownState
    in_UnknownState := in_UnknownState
    C_InvalidText := C_InvalidText
    g_InvalidText := PySem.W.mg_of X G a_CInvalidText
    kc_InvalidText := kc_InvalidText
    E_InvalidText := ⟨e1_InvalidText, e2_InvalidText, e3_InvalidText, e4_InvalidText, e5_InvalidText, e6, e7, e8_InvalidText⟩
    ty_InvalidText := ty_InvalidText
    in_InvalidText := in_InvalidText
    C_Stuck := C_Stuck
    g_Stuck := PySem.W.mg_of X G a_CStuck
    kc_Stuck := kc_Stuck
    E_Stuck := ⟨e1_Stuck, e2_Stuck, e3_Stuck, e4_Stuck, e5_Stuck, e6, e7, e8_Stuck⟩
    ty_Stuck := ty_Stuck
    in_Stuck := in_Stuck
    C_NotABook := C_NotABook
    g_NotABook := PySem.W.mg_of X G a_CNotABook
    kc_NotABook := kc_NotABook
    E_NotABook := ⟨e1_NotABook, e2_NotABook, e3_NotABook, e4_NotABook, e5_NotABook, e6, e7, e8_NotABook⟩
    ty_NotABook := ty_NotABook
    in_NotABook := in_NotABook
    C_NotPlain := C_NotPlain
    g_NotPlain := PySem.W.mg_of X G a_CNotPlain
    kc_NotPlain := kc_NotPlain
    E_NotPlain := ⟨e1_NotPlain, e2_NotPlain, e3_NotPlain, e4_NotPlain, e5_NotPlain, e6, e7, e8_NotPlain⟩
    ty_NotPlain := ty_NotPlain
    in_NotPlain := in_NotPlain
    C_NotFull := C_NotFull
    g_NotFull := PySem.W.mg_of X G a_CNotFull
    kc_NotFull := kc_NotFull
    E_NotFull := ⟨e1_NotFull, e2_NotFull, e3_NotFull, e4_NotFull, e5_NotFull, e6, e7, e8_NotFull⟩
    ty_NotFull := ty_NotFull
    in_NotFull := in_NotFull
    C_NotOneWay := C_NotOneWay
    g_NotOneWay := PySem.W.mg_of X G a_CNotOneWay
    kc_NotOneWay := kc_NotOneWay
    E_NotOneWay := ⟨e1_NotOneWay, e2_NotOneWay, e3_NotOneWay, e4_NotOneWay, e5_NotOneWay, e6, e7, e8_NotOneWay⟩
    ty_NotOneWay := ty_NotOneWay
    in_NotOneWay := in_NotOneWay
    C_NotAWire := C_NotAWire
    g_NotAWire := PySem.W.mg_of X G a_CNotAWire
    kc_NotAWire := kc_NotAWire
    E_NotAWire := ⟨e1_NotAWire, e2_NotAWire, e3_NotAWire, e4_NotAWire, e5_NotAWire, e6, e7, e8_NotAWire⟩
    ty_NotAWire := ty_NotAWire
    in_NotAWire := in_NotAWire
    C_Unlike := C_Unlike
    g_Unlike := PySem.W.mg_of X G a_CUnlike
    kc_Unlike := kc_Unlike
    E_Unlike := ⟨e1_Unlike, e2_Unlike, e3_Unlike, e4_Unlike, e5_Unlike, e6, e7, e8_Unlike⟩
    ty_Unlike := ty_Unlike
    in_Unlike := in_Unlike
    C_InvalidNumber := C_InvalidNumber
    g_InvalidNumber := PySem.W.mg_of X G a_CInvalidNumber
    kc_InvalidNumber := kc_InvalidNumber
    E_InvalidNumber := ⟨e1_InvalidNumber, e2_InvalidNumber, e3_InvalidNumber, e4_InvalidNumber, e5_InvalidNumber, e6, e7, e8_InvalidNumber⟩
    ty_InvalidNumber := ty_InvalidNumber
    in_InvalidNumber := in_InvalidNumber
    C_UnknownWord := C_UnknownWord
    g_UnknownWord := PySem.W.mg_of X G a_CUnknownWord
    kc_UnknownWord := kc_UnknownWord
    E_UnknownWord := ⟨e1_UnknownWord, e2_UnknownWord, e3_UnknownWord, e4_UnknownWord, e5_UnknownWord, e6, e7, e8_UnknownWord⟩
    ty_UnknownWord := ty_UnknownWord
    in_UnknownWord := in_UnknownWord
    C_InvalidWord := C_InvalidWord
    g_InvalidWord := PySem.W.mg_of X G a_CInvalidWord
    kc_InvalidWord := kc_InvalidWord
    E_InvalidWord := ⟨e1_InvalidWord, e2_InvalidWord, e3_InvalidWord, e4_InvalidWord, e5_InvalidWord, e6, e7, e8_InvalidWord⟩
    ty_InvalidWord := ty_InvalidWord
    in_InvalidWord := in_InvalidWord
    C_InvalidRow := C_InvalidRow
    g_InvalidRow := PySem.W.mg_of X G a_CInvalidRow
    kc_InvalidRow := kc_InvalidRow
    E_InvalidRow := ⟨e1_InvalidRow, e2_InvalidRow, e3_InvalidRow, e4_InvalidRow, e5_InvalidRow, e6, e7, e8_InvalidRow⟩
    ty_InvalidRow := ty_InvalidRow
    X_InvalidRow := { gC := PySem.W.mg_of X G a_CInvalidRow, cls := ⟨_, _, _, _, _, _, _, _, _, _, _, _, _, _, _, xi_InvalidRow, by first | rfl | decide +kernel⟩, sa := sa_InvalidRow, ga := e1_InvalidRow, gg := e2_InvalidRow, no := fun f hf => by rw [List.mem_singleton.mp hf]; assumption, iC := a_InvalidRow_init, tC := tf_InvalidRow, kC := kc_InvalidRow, exC := e3_InvalidRow, tyC := ty_InvalidRow, hdC := e4_InvalidRow, fn := ⟨_, _, _, _, _, _, _, _, _, l_InvalidRow_init, c_InvalidRow_init⟩ }
    C_InvalidLengths := C_InvalidLengths
    g_InvalidLengths := PySem.W.mg_of X G a_CInvalidLengths
    kc_InvalidLengths := kc_InvalidLengths
    E_InvalidLengths := ⟨e1_InvalidLengths, e2_InvalidLengths, e3_InvalidLengths, e4_InvalidLengths, e5_InvalidLengths, e6, e7, e8_InvalidLengths⟩
    ty_InvalidLengths := ty_InvalidLengths
    X_InvalidLengths := { gC := PySem.W.mg_of X G a_CInvalidLengths, cls := ⟨_, _, _, _, _, _, _, _, _, _, _, _, _, _, _, xi_InvalidLengths, by first | rfl | decide +kernel⟩, sa := sa_InvalidLengths, ga := e1_InvalidLengths, gg := e2_InvalidLengths, no := fun f hf => by rw [List.mem_singleton.mp hf]; assumption, iC := a_InvalidLengths_init, tC := tf_InvalidLengths, kC := kc_InvalidLengths, exC := e3_InvalidLengths, tyC := ty_InvalidLengths, hdC := e4_InvalidLengths, fn := ⟨_, _, _, _, _, _, _, _, _, l_InvalidLengths_init, c_InvalidLengths_init⟩ }
    C_InvalidWeights := C_InvalidWeights
    g_InvalidWeights := PySem.W.mg_of X G a_CInvalidWeights
    kc_InvalidWeights := kc_InvalidWeights
    E_InvalidWeights := ⟨e1_InvalidWeights, e2_InvalidWeights, e3_InvalidWeights, e4_InvalidWeights, e5_InvalidWeights, e6, e7, e8_InvalidWeights⟩
    ty_InvalidWeights := ty_InvalidWeights
    X_InvalidWeights := { gC := PySem.W.mg_of X G a_CInvalidWeights, cls := ⟨_, _, _, _, _, _, _, _, _, _, _, _, _, _, _, xi_InvalidWeights, by first | rfl | decide +kernel⟩, sa := sa_InvalidWeights, ga := e1_InvalidWeights, gg := e2_InvalidWeights, no := fun f hf => by rw [List.mem_singleton.mp hf]; assumption, iC := a_InvalidWeights_init, tC := tf_InvalidWeights, kC := kc_InvalidWeights, exC := e3_InvalidWeights, tyC := ty_InvalidWeights, hdC := e4_InvalidWeights, fn := ⟨_, _, _, _, _, _, _, _, _, l_InvalidWeights_init, c_InvalidWeights_init⟩ }
    C_InvalidBars := C_InvalidBars
    g_InvalidBars := PySem.W.mg_of X G a_CInvalidBars
    kc_InvalidBars := kc_InvalidBars
    E_InvalidBars := ⟨e1_InvalidBars, e2_InvalidBars, e3_InvalidBars, e4_InvalidBars, e5_InvalidBars, e6, e7, e8_InvalidBars⟩
    ty_InvalidBars := ty_InvalidBars
    X_InvalidBars := { gC := PySem.W.mg_of X G a_CInvalidBars, cls := ⟨_, _, _, _, _, _, _, _, _, _, _, _, _, _, _, xi_InvalidBars, by first | rfl | decide +kernel⟩, sa := sa_InvalidBars, ga := e1_InvalidBars, gg := e2_InvalidBars, no := fun f hf => by rw [List.mem_singleton.mp hf]; assumption, iC := a_InvalidBars_init, tC := tf_InvalidBars, kC := kc_InvalidBars, exC := e3_InvalidBars, tyC := ty_InvalidBars, hdC := e4_InvalidBars, fn := ⟨_, _, _, _, _, _, _, _, _, l_InvalidBars_init, c_InvalidBars_init⟩ }
    C_InvalidChoice := C_InvalidChoice
    g_InvalidChoice := PySem.W.mg_of X G a_CInvalidChoice
    kc_InvalidChoice := kc_InvalidChoice
    E_InvalidChoice := ⟨e1_InvalidChoice, e2_InvalidChoice, e3_InvalidChoice, e4_InvalidChoice, e5_InvalidChoice, e6, e7, e8_InvalidChoice⟩
    ty_InvalidChoice := ty_InvalidChoice
    X_InvalidChoice := { gC := PySem.W.mg_of X G a_CInvalidChoice, cls := ⟨_, _, _, _, _, _, _, _, _, _, _, _, _, _, _, xi_InvalidChoice, by first | rfl | decide +kernel⟩, sa := sa_InvalidChoice, ga := e1_InvalidChoice, gg := e2_InvalidChoice, no := fun f hf => by rw [List.mem_singleton.mp hf]; assumption, iC := a_InvalidChoice_init, tC := tf_InvalidChoice, kC := kc_InvalidChoice, exC := e3_InvalidChoice, tyC := ty_InvalidChoice, hdC := e4_InvalidChoice, fn := ⟨_, _, _, _, _, _, _, _, _, l_InvalidChoice_init, c_InvalidChoice_init⟩ }
    C_InvalidLoom := C_InvalidLoom
    g_InvalidLoom := PySem.W.mg_of X G a_CInvalidLoom
    kc_InvalidLoom := kc_InvalidLoom
    E_InvalidLoom := ⟨e1_InvalidLoom, e2_InvalidLoom, e3_InvalidLoom, e4_InvalidLoom, e5_InvalidLoom, e6, e7, e8_InvalidLoom⟩
    ty_InvalidLoom := ty_InvalidLoom
    X_InvalidLoom := { gC := PySem.W.mg_of X G a_CInvalidLoom, cls := ⟨_, _, _, _, _, _, _, _, _, _, _, _, _, _, _, xi_InvalidLoom, by first | rfl | decide +kernel⟩, sa := sa_InvalidLoom, ga := e1_InvalidLoom, gg := e2_InvalidLoom, no := fun f hf => by simp only [List.mem_cons, List.not_mem_nil, or_false] at hf; rcases hf with rfl | rfl <;> assumption, iC := a_InvalidLoom_init, tC := tf_InvalidLoom, kC := kc_InvalidLoom, exC := e3_InvalidLoom, tyC := ty_InvalidLoom, hdC := e4_InvalidLoom, fn := ⟨_, _, _, _, _, _, _, _, _, l_InvalidLoom_init, c_InvalidLoom_init⟩ }
    C_InvalidPage := C_InvalidPage
    g_InvalidPage := PySem.W.mg_of X G a_CInvalidPage
    kc_InvalidPage := kc_InvalidPage
    E_InvalidPage := ⟨e1_InvalidPage, e2_InvalidPage, e3_InvalidPage, e4_InvalidPage, e5_InvalidPage, e6, e7, e8_InvalidPage⟩
    ty_InvalidPage := ty_InvalidPage
    X_InvalidPage := { gC := PySem.W.mg_of X G a_CInvalidPage, cls := ⟨_, _, _, _, _, _, _, _, _, _, _, _, _, _, _, xi_InvalidPage, by first | rfl | decide +kernel⟩, sa := sa_InvalidPage, ga := e1_InvalidPage, gg := e2_InvalidPage, no := fun f hf => by rw [List.mem_singleton.mp hf]; assumption, iC := a_InvalidPage_init, tC := tf_InvalidPage, kC := kc_InvalidPage, exC := e3_InvalidPage, tyC := ty_InvalidPage, hdC := e4_InvalidPage, fn := ⟨_, _, _, _, _, _, _, _, _, l_InvalidPage_init, c_InvalidPage_init⟩ }
    C_LimitExceeded := C_LimitExceeded
    g_LimitExceeded := PySem.W.mg_of X G a_CLimitExceeded
    kc_LimitExceeded := kc_LimitExceeded
    E_LimitExceeded := ⟨e1_LimitExceeded, e2_LimitExceeded, e3_LimitExceeded, e4_LimitExceeded, e5_LimitExceeded, e6, e7, e8_LimitExceeded⟩
    ty_LimitExceeded := ty_LimitExceeded
    X_LimitExceeded := { gC := PySem.W.mg_of X G a_CLimitExceeded, cls := ⟨_, _, _, _, _, _, _, _, _, _, _, _, _, _, _, xi_LimitExceeded, by first | rfl | decide +kernel⟩, sa := sa_LimitExceeded, ga := e1_LimitExceeded, gg := e2_LimitExceeded, no := fun f hf => by rw [List.mem_singleton.mp hf]; assumption, iC := a_LimitExceeded_init, tC := tf_LimitExceeded, kC := kc_LimitExceeded, exC := e3_LimitExceeded, tyC := ty_LimitExceeded, hdC := e4_LimitExceeded, fn := ⟨_, _, _, _, _, _, _, _, _, l_LimitExceeded_init, c_LimitExceeded_init⟩ }
    C_NothingLeft := C_NothingLeft
    g_NothingLeft := PySem.W.mg_of X G a_CNothingLeft
    kc_NothingLeft := kc_NothingLeft
    E_NothingLeft := ⟨e1_NothingLeft, e2_NothingLeft, e3_NothingLeft, e4_NothingLeft, e5_NothingLeft, e6, e7, e8_NothingLeft⟩
    ty_NothingLeft := ty_NothingLeft
    X_NothingLeft := { gC := PySem.W.mg_of X G a_CNothingLeft, cls := ⟨_, _, _, _, _, _, _, _, _, _, _, _, _, _, _, xi_NothingLeft, by first | rfl | decide +kernel⟩, sa := sa_NothingLeft, ga := e1_NothingLeft, gg := e2_NothingLeft, no := fun f hf => by rw [List.mem_singleton.mp hf]; assumption, iC := a_NothingLeft_init, tC := tf_NothingLeft, kC := kc_NothingLeft, exC := e3_NothingLeft, tyC := ty_NothingLeft, hdC := e4_NothingLeft, fn := ⟨_, _, _, _, _, _, _, _, _, l_NothingLeft_init, c_NothingLeft_init⟩ }
    row_UnknownState := row_UnknownState
    cl_UnknownState := cl_UnknownState
    row_InvalidText := row_InvalidText
    cl_InvalidText := cl_InvalidText
    row_Stuck := row_Stuck
    cl_Stuck := cl_Stuck
    row_NotABook := row_NotABook
    cl_NotABook := cl_NotABook
    row_NotPlain := row_NotPlain
    cl_NotPlain := cl_NotPlain
    row_NotFull := row_NotFull
    cl_NotFull := cl_NotFull
    row_NotOneWay := row_NotOneWay
    cl_NotOneWay := cl_NotOneWay
    row_NotAWire := row_NotAWire
    cl_NotAWire := cl_NotAWire
    row_Unlike := row_Unlike
    cl_Unlike := cl_Unlike
    row_InvalidNumber := row_InvalidNumber
    cl_InvalidNumber := cl_InvalidNumber
    row_UnknownWord := row_UnknownWord
    cl_UnknownWord := cl_UnknownWord
    row_InvalidWord := row_InvalidWord
    cl_InvalidWord := cl_InvalidWord
    row_InvalidRow := row_InvalidRow
    cl_InvalidRow := cl_InvalidRow
    nx_InvalidRow_at := nx_InvalidRow_at
    row_InvalidLengths := row_InvalidLengths
    cl_InvalidLengths := cl_InvalidLengths
    nx_InvalidLengths_at := nx_InvalidLengths_at
    row_InvalidWeights := row_InvalidWeights
    cl_InvalidWeights := cl_InvalidWeights
    nx_InvalidWeights_at := nx_InvalidWeights_at
    row_InvalidBars := row_InvalidBars
    cl_InvalidBars := cl_InvalidBars
    nx_InvalidBars_at := nx_InvalidBars_at
    row_InvalidChoice := row_InvalidChoice
    cl_InvalidChoice := cl_InvalidChoice
    nx_InvalidChoice_at := nx_InvalidChoice_at
    row_InvalidLoom := row_InvalidLoom
    cl_InvalidLoom := cl_InvalidLoom
    nx_InvalidLoom_part := nx_InvalidLoom_part
    nx_InvalidLoom_at := nx_InvalidLoom_at
    row_InvalidPage := row_InvalidPage
    cl_InvalidPage := cl_InvalidPage
    nx_InvalidPage_line := nx_InvalidPage_line
    row_LimitExceeded := row_LimitExceeded
    cl_LimitExceeded := cl_LimitExceeded
    nx_LimitExceeded_limit := nx_LimitExceeded_limit
    row_NothingLeft := row_NothingLeft
    cl_NothingLeft := cl_NothingLeft
    nx_NothingLeft_word := nx_NothingLeft_word
    cl_ReadError := cl_ReadError
    eq_Stuck := eq_Stuck }⟩
theorem walk {l : PySem.W.OpenLaw} {q : Program} {loose : List Str} {XP : (Str → Option Value) → Heap → Prop} {YP : World → Heap → Prop} {d : DefRec} {K : Params → PySem.W.Frag} (hn : l.most = some 63) (hdf : d.params.defaults = [])
    (hY : ∀ (w : World) (h : Heap), YP w h → (K w.params).In h)
    (F : ∀ (w : World) (mg : Str → Option Value) (fa : Addr) (h : Heap), (K w.params).In h → h.Ns mainGlobals mg → mg d.name = some (.ref fa) →
      ∃ fd : FuncData, (∀ (s : Shared) (u : Value), BindsTo s fd ⟨[u], []⟩ [("_law_script", u)]) ∧ ∀ base : Heap, (K w.params).In base → base.Ns mainGlobals mg → FnOk l.prog w (K w.params) mg base CX0 8 fa fd P_law (spLaw (K w.params))) :
    PySem.W.WalkO q loose XP YP l.row.toRowW d [] (fun f vs => PySem.call f vs) :=
  L2.walk_of (n := 63) (k := 8) (x := "_law_script") (CX := fun _ => CX0) (sp := fun w => spLaw (K w.params)) hn (by decide) hdf ⟨rfl, by decide, by decide⟩ hY F (fun _ _ a ns hl _ hS => ⟨a, ns, rfl, hS, hl, fun _ => rfl⟩) fun _ _ _ _ _ z => z
end J

open PySem PySem.W PyProof.Rows in
set_option maxRecDepth 100000 in
set_option maxHeartbeats 0 in
theorem PySem.Challenge.cw_onewayread_k98_errors_holds : PySem.Challenge.rw_onewayread_k98_errors.Holds := by
  w_on; o_law; k_head; (case hw => w_witness2)
  k_fill
  refine J.walk (l := PySem.Challenge.rw_onewayread_k98_errors) rfl rfl (fun w h Y => PySem.W.kIn_of Y) ?F
  case F =>
    intro w mg fa h KX G hmg
    refine' J.all_mk KX G hmg ?a_CInvalidWord ?a_CUnknownWord ?a_CInvalidNumber ?a_CUnlike ?a_CNotAWire ?a_CNotOneWay ?a_CNotFull ?a_CNotPlain ?a_CNotABook ?a_CStuck ?a_CInvalidText ?a_CUnknownState ?a_CReadError ?a_CNothingLeft ?a_CLimitExceeded ?a_CInvalidWeights ?a_CInvalidRow ?a_CInvalidPage ?a_CInvalidLoom ?a_CInvalidLengths ?a_CInvalidChoice ?a_CInvalidBars ?a_InvalidLoom_init ?i_InvalidLoom_init ?l_InvalidLoom_init ?c_InvalidLoom_init ?k_InvalidLoom_init ?a_InvalidRow_init ?i_InvalidRow_init ?l_InvalidRow_init ?c_InvalidRow_init ?k_InvalidRow_init ?a_InvalidLengths_init ?i_InvalidLengths_init ?l_InvalidLengths_init ?c_InvalidLengths_init ?k_InvalidLengths_init ?a_InvalidWeights_init ?i_InvalidWeights_init ?l_InvalidWeights_init ?c_InvalidWeights_init ?k_InvalidWeights_init ?a_InvalidBars_init ?i_InvalidBars_init ?l_InvalidBars_init ?c_InvalidBars_init ?k_InvalidBars_init ?a_InvalidChoice_init ?i_InvalidChoice_init ?l_InvalidChoice_init ?c_InvalidChoice_init ?k_InvalidChoice_init ?a_InvalidPage_init ?i_InvalidPage_init ?l_InvalidPage_init ?c_InvalidPage_init ?k_InvalidPage_init ?a_LimitExceeded_init ?i_LimitExceeded_init ?l_LimitExceeded_init ?c_LimitExceeded_init ?k_LimitExceeded_init ?a_NothingLeft_init ?i_NothingLeft_init ?l_NothingLeft_init ?c_NothingLeft_init ?k_NothingLeft_init ?a_l_pool ?l_l_pool ?c_l_pool ?k_l_pool ?a_l_draw ?l_l_draw ?c_l_draw ?k_l_draw ?a_l_pick ?l_l_pick ?c_l_pick ?k_l_pick ?a_l_plain_errors ?l_l_plain_errors ?c_l_plain_errors ?k_l_plain_errors ?a_l_place_errors ?l_l_place_errors ?c_l_place_errors ?k_l_place_errors ?a_l_kinds_of ?l_l_kinds_of ?c_l_kinds_of ?k_l_kinds_of ?a_l_same ?l_l_same ?c_l_same ?k_l_same ?a_law ?l_law ?c_law ?k_law ?kc_ReadError ?e1_ReadError ?e2_ReadError ?e3_ReadError ?e4_ReadError ?e5_ReadError ?e8_ReadError ?ty_ReadError ?in_ReadError ?kc_UnknownState ?e1_UnknownState ?e2_UnknownState ?e3_UnknownState ?e4_UnknownState ?e5_UnknownState ?e8_UnknownState ?ty_UnknownState ?in_UnknownState ?kc_InvalidText ?e1_InvalidText ?e2_InvalidText ?e3_InvalidText ?e4_InvalidText ?e5_InvalidText ?e8_InvalidText ?ty_InvalidText ?in_InvalidText ?kc_Stuck ?e1_Stuck ?e2_Stuck ?e3_Stuck ?e4_Stuck ?e5_Stuck ?e8_Stuck ?ty_Stuck ?in_Stuck ?kc_NotABook ?e1_NotABook ?e2_NotABook ?e3_NotABook ?e4_NotABook ?e5_NotABook ?e8_NotABook ?ty_NotABook ?in_NotABook ?kc_NotPlain ?e1_NotPlain ?e2_NotPlain ?e3_NotPlain ?e4_NotPlain ?e5_NotPlain ?e8_NotPlain ?ty_NotPlain ?in_NotPlain ?kc_NotFull ?e1_NotFull ?e2_NotFull ?e3_NotFull ?e4_NotFull ?e5_NotFull ?e8_NotFull ?ty_NotFull ?in_NotFull ?kc_NotOneWay ?e1_NotOneWay ?e2_NotOneWay ?e3_NotOneWay ?e4_NotOneWay ?e5_NotOneWay ?e8_NotOneWay ?ty_NotOneWay ?in_NotOneWay ?kc_NotAWire ?e1_NotAWire ?e2_NotAWire ?e3_NotAWire ?e4_NotAWire ?e5_NotAWire ?e8_NotAWire ?ty_NotAWire ?in_NotAWire ?kc_Unlike ?e1_Unlike ?e2_Unlike ?e3_Unlike ?e4_Unlike ?e5_Unlike ?e8_Unlike ?ty_Unlike ?in_Unlike ?kc_InvalidNumber ?e1_InvalidNumber ?e2_InvalidNumber ?e3_InvalidNumber ?e4_InvalidNumber ?e5_InvalidNumber ?e8_InvalidNumber ?ty_InvalidNumber ?in_InvalidNumber ?kc_UnknownWord ?e1_UnknownWord ?e2_UnknownWord ?e3_UnknownWord ?e4_UnknownWord ?e5_UnknownWord ?e8_UnknownWord ?ty_UnknownWord ?in_UnknownWord ?kc_InvalidWord ?e1_InvalidWord ?e2_InvalidWord ?e3_InvalidWord ?e4_InvalidWord ?e5_InvalidWord ?e8_InvalidWord ?ty_InvalidWord ?in_InvalidWord ?kc_InvalidRow ?e1_InvalidRow ?e2_InvalidRow ?e3_InvalidRow ?e4_InvalidRow ?e5_InvalidRow ?e8_InvalidRow ?ty_InvalidRow ?xi_InvalidRow ?tf_InvalidRow ?sa_InvalidRow ?no_InvalidRow_at ?kc_InvalidLengths ?e1_InvalidLengths ?e2_InvalidLengths ?e3_InvalidLengths ?e4_InvalidLengths ?e5_InvalidLengths ?e8_InvalidLengths ?ty_InvalidLengths ?xi_InvalidLengths ?tf_InvalidLengths ?sa_InvalidLengths ?no_InvalidLengths_at ?kc_InvalidWeights ?e1_InvalidWeights ?e2_InvalidWeights ?e3_InvalidWeights ?e4_InvalidWeights ?e5_InvalidWeights ?e8_InvalidWeights ?ty_InvalidWeights ?xi_InvalidWeights ?tf_InvalidWeights ?sa_InvalidWeights ?no_InvalidWeights_at ?kc_InvalidBars ?e1_InvalidBars ?e2_InvalidBars ?e3_InvalidBars ?e4_InvalidBars ?e5_InvalidBars ?e8_InvalidBars ?ty_InvalidBars ?xi_InvalidBars ?tf_InvalidBars ?sa_InvalidBars ?no_InvalidBars_at ?kc_InvalidChoice ?e1_InvalidChoice ?e2_InvalidChoice ?e3_InvalidChoice ?e4_InvalidChoice ?e5_InvalidChoice ?e8_InvalidChoice ?ty_InvalidChoice ?xi_InvalidChoice ?tf_InvalidChoice ?sa_InvalidChoice ?no_InvalidChoice_at ?kc_InvalidLoom ?e1_InvalidLoom ?e2_InvalidLoom ?e3_InvalidLoom ?e4_InvalidLoom ?e5_InvalidLoom ?e8_InvalidLoom ?ty_InvalidLoom ?xi_InvalidLoom ?tf_InvalidLoom ?sa_InvalidLoom ?no_InvalidLoom_part ?no_InvalidLoom_at ?kc_InvalidPage ?e1_InvalidPage ?e2_InvalidPage ?e3_InvalidPage ?e4_InvalidPage ?e5_InvalidPage ?e8_InvalidPage ?ty_InvalidPage ?xi_InvalidPage ?tf_InvalidPage ?sa_InvalidPage ?no_InvalidPage_line ?kc_LimitExceeded ?e1_LimitExceeded ?e2_LimitExceeded ?e3_LimitExceeded ?e4_LimitExceeded ?e5_LimitExceeded ?e8_LimitExceeded ?ty_LimitExceeded ?xi_LimitExceeded ?tf_LimitExceeded ?sa_LimitExceeded ?no_LimitExceeded_limit ?kc_NothingLeft ?e1_NothingLeft ?e2_NothingLeft ?e3_NothingLeft ?e4_NothingLeft ?e5_NothingLeft ?e8_NothingLeft ?ty_NothingLeft ?xi_NothingLeft ?tf_NothingLeft ?sa_NothingLeft ?no_NothingLeft_word ?e6 ?e7 ?row_UnknownState ?cl_UnknownState ?row_InvalidText ?cl_InvalidText ?row_Stuck ?cl_Stuck ?row_NotABook ?cl_NotABook ?row_NotPlain ?cl_NotPlain ?row_NotFull ?cl_NotFull ?row_NotOneWay ?cl_NotOneWay ?row_NotAWire ?cl_NotAWire ?row_Unlike ?cl_Unlike ?row_InvalidNumber ?cl_InvalidNumber ?row_UnknownWord ?cl_UnknownWord ?row_InvalidWord ?cl_InvalidWord ?row_InvalidRow ?cl_InvalidRow ?nx_InvalidRow_at ?row_InvalidLengths ?cl_InvalidLengths ?nx_InvalidLengths_at ?row_InvalidWeights ?cl_InvalidWeights ?nx_InvalidWeights_at ?row_InvalidBars ?cl_InvalidBars ?nx_InvalidBars_at ?row_InvalidChoice ?cl_InvalidChoice ?nx_InvalidChoice_at ?row_InvalidLoom ?cl_InvalidLoom ?nx_InvalidLoom_part ?nx_InvalidLoom_at ?row_InvalidPage ?cl_InvalidPage ?nx_InvalidPage_line ?row_LimitExceeded ?cl_LimitExceeded ?nx_LimitExceeded_limit ?row_NothingLeft ?cl_NothingLeft ?nx_NothingLeft_word ?cl_ReadError ?eq_Stuck ?z_Exception ?z_LookupError ?z_TypeError ?z_ValueError ?z_abs ?z_bool ?z_int ?z_isinstance ?z_len ?z_range
    (case a_CInvalidWord => k_is)
    (case a_CUnknownWord => k_is)
    (case a_CInvalidNumber => k_is)
    (case a_CUnlike => k_is)
    (case a_CNotAWire => k_is)
    (case a_CNotOneWay => k_is)
    (case a_CNotFull => k_is)
    (case a_CNotPlain => k_is)
    (case a_CNotABook => k_is)
    (case a_CStuck => k_is)
    (case a_CInvalidText => k_is)
    (case a_CUnknownState => k_is)
    (case a_CReadError => k_is)
    (case a_CNothingLeft => k_is)
    (case a_CLimitExceeded => k_is)
    (case a_CInvalidWeights => k_is)
    (case a_CInvalidRow => k_is)
    (case a_CInvalidPage => k_is)
    (case a_CInvalidLoom => k_is)
    (case a_CInvalidLengths => k_is)
    (case a_CInvalidChoice => k_is)
    (case a_CInvalidBars => k_is)
    (case a_InvalidLoom_init => k_is)
    (case i_InvalidLoom_init => k_is)
    (case l_InvalidLoom_init => k_is)
    (case c_InvalidLoom_init => k_is)
    (case k_InvalidLoom_init => k_is)
    (case a_InvalidRow_init => k_is)
    (case i_InvalidRow_init => k_is)
    (case l_InvalidRow_init => k_is)
    (case c_InvalidRow_init => k_is)
    (case k_InvalidRow_init => k_is)
    (case a_InvalidLengths_init => k_is)
    (case i_InvalidLengths_init => k_is)
    (case l_InvalidLengths_init => k_is)
    (case c_InvalidLengths_init => k_is)
    (case k_InvalidLengths_init => k_is)
    (case a_InvalidWeights_init => k_is)
    (case i_InvalidWeights_init => k_is)
    (case l_InvalidWeights_init => k_is)
    (case c_InvalidWeights_init => k_is)
    (case k_InvalidWeights_init => k_is)
    (case a_InvalidBars_init => k_is)
    (case i_InvalidBars_init => k_is)
    (case l_InvalidBars_init => k_is)
    (case c_InvalidBars_init => k_is)
    (case k_InvalidBars_init => k_is)
    (case a_InvalidChoice_init => k_is)
    (case i_InvalidChoice_init => k_is)
    (case l_InvalidChoice_init => k_is)
    (case c_InvalidChoice_init => k_is)
    (case k_InvalidChoice_init => k_is)
    (case a_InvalidPage_init => k_is)
    (case i_InvalidPage_init => k_is)
    (case l_InvalidPage_init => k_is)
    (case c_InvalidPage_init => k_is)
    (case k_InvalidPage_init => k_is)
    (case a_LimitExceeded_init => k_is)
    (case i_LimitExceeded_init => k_is)
    (case l_LimitExceeded_init => k_is)
    (case c_LimitExceeded_init => k_is)
    (case k_LimitExceeded_init => k_is)
    (case a_NothingLeft_init => k_is)
    (case i_NothingLeft_init => k_is)
    (case l_NothingLeft_init => k_is)
    (case c_NothingLeft_init => k_is)
    (case k_NothingLeft_init => k_is)
    (case a_l_pool => k_is)
    (case l_l_pool => k_is)
    (case c_l_pool => k_is)
    (case k_l_pool => k_is)
    (case a_l_draw => k_is)
    (case l_l_draw => k_is)
    (case c_l_draw => k_is)
    (case k_l_draw => k_is)
    (case a_l_pick => k_is)
    (case l_l_pick => k_is)
    (case c_l_pick => k_is)
    (case k_l_pick => k_is)
    (case a_l_plain_errors => k_is)
    (case l_l_plain_errors => k_is)
    (case c_l_plain_errors => k_is)
    (case k_l_plain_errors => k_is)
    (case a_l_place_errors => k_is)
    (case l_l_place_errors => k_is)
    (case c_l_place_errors => k_is)
    (case k_l_place_errors => k_is)
    (case a_l_kinds_of => k_is)
    (case l_l_kinds_of => k_is)
    (case c_l_kinds_of => k_is)
    (case k_l_kinds_of => k_is)
    (case a_l_same => k_is)
    (case l_l_same => k_is)
    (case c_l_same => k_is)
    (case k_l_same => k_is)
    (case a_law => k_is)
    (case l_law => k_is)
    (case c_law => k_is)
    (case k_law => k_is)
    (case kc_ReadError => k_is)
    (case e1_ReadError => k_is)
    (case e2_ReadError => k_is)
    (case e3_ReadError => k_is)
    (case e4_ReadError => k_is)
    (case e5_ReadError => k_is)
    (case e8_ReadError => k_is)
    (case ty_ReadError => k_is)
    (case in_ReadError => k_exc)
    (case kc_UnknownState => k_is)
    (case e1_UnknownState => k_is)
    (case e2_UnknownState => k_is)
    (case e3_UnknownState => k_is)
    (case e4_UnknownState => k_is)
    (case e5_UnknownState => k_is)
    (case e8_UnknownState => k_is)
    (case ty_UnknownState => k_is)
    (case in_UnknownState => k_exc)
    (case kc_InvalidText => k_is)
    (case e1_InvalidText => k_is)
    (case e2_InvalidText => k_is)
    (case e3_InvalidText => k_is)
    (case e4_InvalidText => k_is)
    (case e5_InvalidText => k_is)
    (case e8_InvalidText => k_is)
    (case ty_InvalidText => k_is)
    (case in_InvalidText => k_exc)
    (case kc_Stuck => k_is)
    (case e1_Stuck => k_is)
    (case e2_Stuck => k_is)
    (case e3_Stuck => k_is)
    (case e4_Stuck => k_is)
    (case e5_Stuck => k_is)
    (case e8_Stuck => k_is)
    (case ty_Stuck => k_is)
    (case in_Stuck => k_exc)
    (case kc_NotABook => k_is)
    (case e1_NotABook => k_is)
    (case e2_NotABook => k_is)
    (case e3_NotABook => k_is)
    (case e4_NotABook => k_is)
    (case e5_NotABook => k_is)
    (case e8_NotABook => k_is)
    (case ty_NotABook => k_is)
    (case in_NotABook => k_exc)
    (case kc_NotPlain => k_is)
    (case e1_NotPlain => k_is)
    (case e2_NotPlain => k_is)
    (case e3_NotPlain => k_is)
    (case e4_NotPlain => k_is)
    (case e5_NotPlain => k_is)
    (case e8_NotPlain => k_is)
    (case ty_NotPlain => k_is)
    (case in_NotPlain => k_exc)
    (case kc_NotFull => k_is)
    (case e1_NotFull => k_is)
    (case e2_NotFull => k_is)
    (case e3_NotFull => k_is)
    (case e4_NotFull => k_is)
    (case e5_NotFull => k_is)
    (case e8_NotFull => k_is)
    (case ty_NotFull => k_is)
    (case in_NotFull => k_exc)
    (case kc_NotOneWay => k_is)
    (case e1_NotOneWay => k_is)
    (case e2_NotOneWay => k_is)
    (case e3_NotOneWay => k_is)
    (case e4_NotOneWay => k_is)
    (case e5_NotOneWay => k_is)
    (case e8_NotOneWay => k_is)
    (case ty_NotOneWay => k_is)
    (case in_NotOneWay => k_exc)
    (case kc_NotAWire => k_is)
    (case e1_NotAWire => k_is)
    (case e2_NotAWire => k_is)
    (case e3_NotAWire => k_is)
    (case e4_NotAWire => k_is)
    (case e5_NotAWire => k_is)
    (case e8_NotAWire => k_is)
    (case ty_NotAWire => k_is)
    (case in_NotAWire => k_exc)
    (case kc_Unlike => k_is)
    (case e1_Unlike => k_is)
    (case e2_Unlike => k_is)
    (case e3_Unlike => k_is)
    (case e4_Unlike => k_is)
    (case e5_Unlike => k_is)
    (case e8_Unlike => k_is)
    (case ty_Unlike => k_is)
    (case in_Unlike => k_exc)
    (case kc_InvalidNumber => k_is)
    (case e1_InvalidNumber => k_is)
    (case e2_InvalidNumber => k_is)
    (case e3_InvalidNumber => k_is)
    (case e4_InvalidNumber => k_is)
    (case e5_InvalidNumber => k_is)
    (case e8_InvalidNumber => k_is)
    (case ty_InvalidNumber => k_is)
    (case in_InvalidNumber => k_exc)
    (case kc_UnknownWord => k_is)
    (case e1_UnknownWord => k_is)
    (case e2_UnknownWord => k_is)
    (case e3_UnknownWord => k_is)
    (case e4_UnknownWord => k_is)
    (case e5_UnknownWord => k_is)
    (case e8_UnknownWord => k_is)
    (case ty_UnknownWord => k_is)
    (case in_UnknownWord => k_exc)
    (case kc_InvalidWord => k_is)
    (case e1_InvalidWord => k_is)
    (case e2_InvalidWord => k_is)
    (case e3_InvalidWord => k_is)
    (case e4_InvalidWord => k_is)
    (case e5_InvalidWord => k_is)
    (case e8_InvalidWord => k_is)
    (case ty_InvalidWord => k_is)
    (case in_InvalidWord => k_exc)
    (case kc_InvalidRow => k_is)
    (case e1_InvalidRow => k_is)
    (case e2_InvalidRow => k_is)
    (case e3_InvalidRow => k_is)
    (case e4_InvalidRow => k_is)
    (case e5_InvalidRow => k_is)
    (case e8_InvalidRow => k_is)
    (case ty_InvalidRow => k_is)
    (case xi_InvalidRow => k_is)
    (case tf_InvalidRow => k_is)
    (case sa_InvalidRow => k_is)
    (case no_InvalidRow_at => k_is)
    (case kc_InvalidLengths => k_is)
    (case e1_InvalidLengths => k_is)
    (case e2_InvalidLengths => k_is)
    (case e3_InvalidLengths => k_is)
    (case e4_InvalidLengths => k_is)
    (case e5_InvalidLengths => k_is)
    (case e8_InvalidLengths => k_is)
    (case ty_InvalidLengths => k_is)
    (case xi_InvalidLengths => k_is)
    (case tf_InvalidLengths => k_is)
    (case sa_InvalidLengths => k_is)
    (case no_InvalidLengths_at => k_is)
    (case kc_InvalidWeights => k_is)
    (case e1_InvalidWeights => k_is)
    (case e2_InvalidWeights => k_is)
    (case e3_InvalidWeights => k_is)
    (case e4_InvalidWeights => k_is)
    (case e5_InvalidWeights => k_is)
    (case e8_InvalidWeights => k_is)
    (case ty_InvalidWeights => k_is)
    (case xi_InvalidWeights => k_is)
    (case tf_InvalidWeights => k_is)
    (case sa_InvalidWeights => k_is)
    (case no_InvalidWeights_at => k_is)
    (case kc_InvalidBars => k_is)
    (case e1_InvalidBars => k_is)
    (case e2_InvalidBars => k_is)
    (case e3_InvalidBars => k_is)
    (case e4_InvalidBars => k_is)
    (case e5_InvalidBars => k_is)
    (case e8_InvalidBars => k_is)
    (case ty_InvalidBars => k_is)
    (case xi_InvalidBars => k_is)
    (case tf_InvalidBars => k_is)
    (case sa_InvalidBars => k_is)
    (case no_InvalidBars_at => k_is)
    (case kc_InvalidChoice => k_is)
    (case e1_InvalidChoice => k_is)
    (case e2_InvalidChoice => k_is)
    (case e3_InvalidChoice => k_is)
    (case e4_InvalidChoice => k_is)
    (case e5_InvalidChoice => k_is)
    (case e8_InvalidChoice => k_is)
    (case ty_InvalidChoice => k_is)
    (case xi_InvalidChoice => k_is)
    (case tf_InvalidChoice => k_is)
    (case sa_InvalidChoice => k_is)
    (case no_InvalidChoice_at => k_is)
    (case kc_InvalidLoom => k_is)
    (case e1_InvalidLoom => k_is)
    (case e2_InvalidLoom => k_is)
    (case e3_InvalidLoom => k_is)
    (case e4_InvalidLoom => k_is)
    (case e5_InvalidLoom => k_is)
    (case e8_InvalidLoom => k_is)
    (case ty_InvalidLoom => k_is)
    (case xi_InvalidLoom => k_is)
    (case tf_InvalidLoom => k_is)
    (case sa_InvalidLoom => k_is)
    (case no_InvalidLoom_part => k_is)
    (case no_InvalidLoom_at => k_is)
    (case kc_InvalidPage => k_is)
    (case e1_InvalidPage => k_is)
    (case e2_InvalidPage => k_is)
    (case e3_InvalidPage => k_is)
    (case e4_InvalidPage => k_is)
    (case e5_InvalidPage => k_is)
    (case e8_InvalidPage => k_is)
    (case ty_InvalidPage => k_is)
    (case xi_InvalidPage => k_is)
    (case tf_InvalidPage => k_is)
    (case sa_InvalidPage => k_is)
    (case no_InvalidPage_line => k_is)
    (case kc_LimitExceeded => k_is)
    (case e1_LimitExceeded => k_is)
    (case e2_LimitExceeded => k_is)
    (case e3_LimitExceeded => k_is)
    (case e4_LimitExceeded => k_is)
    (case e5_LimitExceeded => k_is)
    (case e8_LimitExceeded => k_is)
    (case ty_LimitExceeded => k_is)
    (case xi_LimitExceeded => k_is)
    (case tf_LimitExceeded => k_is)
    (case sa_LimitExceeded => k_is)
    (case no_LimitExceeded_limit => k_is)
    (case kc_NothingLeft => k_is)
    (case e1_NothingLeft => k_is)
    (case e2_NothingLeft => k_is)
    (case e3_NothingLeft => k_is)
    (case e4_NothingLeft => k_is)
    (case e5_NothingLeft => k_is)
    (case e8_NothingLeft => k_is)
    (case ty_NothingLeft => k_is)
    (case xi_NothingLeft => k_is)
    (case tf_NothingLeft => k_is)
    (case sa_NothingLeft => k_is)
    (case no_NothingLeft_word => k_is)
    (case e6 => k_is)
    (case e7 => k_is)
    (case row_UnknownState => (repeat' (first | exact J.row_nil | refine J.row_cons ?_ ?_)) <;> k_is)
    (case cl_UnknownState => k_is)
    (case row_InvalidText => (repeat' (first | exact J.row_nil | refine J.row_cons ?_ ?_)) <;> k_is)
    (case cl_InvalidText => k_is)
    (case row_Stuck => (repeat' (first | exact J.row_nil | refine J.row_cons ?_ ?_)) <;> k_is)
    (case cl_Stuck => k_is)
    (case row_NotABook => (repeat' (first | exact J.row_nil | refine J.row_cons ?_ ?_)) <;> k_is)
    (case cl_NotABook => k_is)
    (case row_NotPlain => (repeat' (first | exact J.row_nil | refine J.row_cons ?_ ?_)) <;> k_is)
    (case cl_NotPlain => k_is)
    (case row_NotFull => (repeat' (first | exact J.row_nil | refine J.row_cons ?_ ?_)) <;> k_is)
    (case cl_NotFull => k_is)
    (case row_NotOneWay => (repeat' (first | exact J.row_nil | refine J.row_cons ?_ ?_)) <;> k_is)
    (case cl_NotOneWay => k_is)
    (case row_NotAWire => (repeat' (first | exact J.row_nil | refine J.row_cons ?_ ?_)) <;> k_is)
    (case cl_NotAWire => k_is)
    (case row_Unlike => (repeat' (first | exact J.row_nil | refine J.row_cons ?_ ?_)) <;> k_is)
    (case cl_Unlike => k_is)
    (case row_InvalidNumber => (repeat' (first | exact J.row_nil | refine J.row_cons ?_ ?_)) <;> k_is)
    (case cl_InvalidNumber => k_is)
    (case row_UnknownWord => (repeat' (first | exact J.row_nil | refine J.row_cons ?_ ?_)) <;> k_is)
    (case cl_UnknownWord => k_is)
    (case row_InvalidWord => (repeat' (first | exact J.row_nil | refine J.row_cons ?_ ?_)) <;> k_is)
    (case cl_InvalidWord => k_is)
    (case row_InvalidRow => (repeat' (first | exact J.row_nil | refine J.row_cons ?_ ?_)) <;> k_is)
    (case cl_InvalidRow => k_is)
    (case nx_InvalidRow_at => k_is)
    (case row_InvalidLengths => (repeat' (first | exact J.row_nil | refine J.row_cons ?_ ?_)) <;> k_is)
    (case cl_InvalidLengths => k_is)
    (case nx_InvalidLengths_at => k_is)
    (case row_InvalidWeights => (repeat' (first | exact J.row_nil | refine J.row_cons ?_ ?_)) <;> k_is)
    (case cl_InvalidWeights => k_is)
    (case nx_InvalidWeights_at => k_is)
    (case row_InvalidBars => (repeat' (first | exact J.row_nil | refine J.row_cons ?_ ?_)) <;> k_is)
    (case cl_InvalidBars => k_is)
    (case nx_InvalidBars_at => k_is)
    (case row_InvalidChoice => (repeat' (first | exact J.row_nil | refine J.row_cons ?_ ?_)) <;> k_is)
    (case cl_InvalidChoice => k_is)
    (case nx_InvalidChoice_at => k_is)
    (case row_InvalidLoom => (repeat' (first | exact J.row_nil | refine J.row_cons ?_ ?_)) <;> k_is)
    (case cl_InvalidLoom => k_is)
    (case nx_InvalidLoom_part => k_is)
    (case nx_InvalidLoom_at => k_is)
    (case row_InvalidPage => (repeat' (first | exact J.row_nil | refine J.row_cons ?_ ?_)) <;> k_is)
    (case cl_InvalidPage => k_is)
    (case nx_InvalidPage_line => k_is)
    (case row_LimitExceeded => (repeat' (first | exact J.row_nil | refine J.row_cons ?_ ?_)) <;> k_is)
    (case cl_LimitExceeded => k_is)
    (case nx_LimitExceeded_limit => k_is)
    (case row_NothingLeft => (repeat' (first | exact J.row_nil | refine J.row_cons ?_ ?_)) <;> k_is)
    (case cl_NothingLeft => k_is)
    (case nx_NothingLeft_word => k_is)
    (case cl_ReadError => k_is)
    (case eq_Stuck => k_is)
    (case z_Exception => k_is)
    (case z_LookupError => k_is)
    (case z_TypeError => k_is)
    (case z_ValueError => k_is)
    (case z_abs => k_is)
    (case z_bool => k_is)
    (case z_int => k_is)
    (case z_isinstance => k_is)
    (case z_len => k_is)
    (case z_range => k_is)
