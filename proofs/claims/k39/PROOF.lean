import PyProof.Rows.All
import Wide.All
import OpenK.AllK
import Wide.FinOn
import HandS.ForMost
import HandS.ForExc
import HandS.ExcValue
import HandS.ExcIs
import HandS.ExcInit
import HandS.IsInst
import HandS.OwnEq
import HandS.More
import KE.KExcInit
import HandS.Walk
import KE.GoesEnum
import KE.GoesMore
import HandS.Defaults
import KE.KxIndex
import HandS.List
import HandS.SortOrd
import HandS.SortRule
import KE.KSortTup
import PyProof.EqKinds
import KE.KSortKey
import HandS.SortKw
import HandS.SetBool
import HandS.SetFor
import HandS.Strs
import HandS.Codes
import HandS.DictComp
import HandS.FStr
import HandS.StrMore
import HandS.Conv
import HandS.Style
import HandS.Replace
import PyProof.P3Eq
import PySem.Challenge.RW_onewayread_k39_texts_read_by_plain_books
set_option Elab.async false
set_option linter.all false
set_option maxRecDepth 100000
/-! o.name(e, ..) with a letter for the frozen heap: for the word of a comprehension -/
namespace L2
open PySem PySem.Spec PyProof.Rows
theorem pe_bmK {X : Cx} {K : PySem.W.Frag} (hK : X.K = K) {o e : Expr} {es : List Expr} {to : TE} {t : TA} {name : Str} {apos cpos : Pos} {T id : String} {r : V → List V → Hp → VK → Prop}
    (pa : PlainAttrs T) (slot : Slot T name id) (hty : typeOf (.builtin id) = pure (.type "method_descriptor")) (hm : MtR X id r) (ho : PE X o to) (ha : PA X (e :: es) t)
    (h1 : attributeBase o name X.env (eval o X.env) = eval o X.env := by rfl)
    (h2 : (((backTo cpos (starEach (e :: es) X.env)).all (!·.1) && (backToKw cpos (keywordEach [] X.env)).all (·.1.isSome)) && decide ((e :: es).length + ([] : List Keyword).length + (if ([] : List Keyword).isEmpty then 0 else 1) < 30)) = true := by rfl)
    (h3 : (apos.endLine == cpos.line) = true := by rfl) (h4 : starEach (e :: es) X.env = (false, eval e X.env) :: starEach es X.env := by rfl) (h5 : (backTo cpos (starEach es X.env)).any (·.1) = false := by rfl) :
    PE X (.Call (.Attribute o name apos) (e :: es) [] cpos) (tBM K T r to t) := by
  subst hK
  exact pe_bm pa slot hty hm ho ha h1 h2 h3 h4 h5
end L2

set_option Elab.async false
set_option linter.all false
set_option maxRecDepth 100000
set_option maxHeartbeats 4000000
/-! own exceptions without arguments: raised, and as values -/
namespace L2
open PySem PySem.Spec PyProof.Rows
section
variable {X : Cx} {C : Addr} {bmB : List Value} {B newId initId : String}
theorem pmk_own0 {x : Str} {p pos : Pos} (F : ExcBaseFacts B newId initId bmB) (q : PySem.W.excIn X.K C bmB newId = true) (gC : X.mg x = some (.ref C)) (kC : PySem.W.keepIn X.K (.ref C) = true) (r : Raises X (.ref C)) (hg : Gl X x)
    (hdb : (x == ("__debug__" : Str)) = false := by decide) : PMk X (.Call (.Name x p) [] [] pos) (fun _ H Q => Q (.ref C) none H) := by
  intro pins s σ H Q I h
  refine wpAny_Call_Name_kw (ld_glob I hg gC ?_ hdb)
  refine PySem.W.callWith_K0 I.kIn kC ?_
  obtain ⟨bm, N, nm, qn, bs, hdct, sn, sub, ab, col, dd, k0, k1, k2, k3, k5, mN, hC, hN, hni, T⟩ := exc_obj I.kIn q
  refine wpAny_call_exc_subT F T hC hN hni (fun h' e hm => ?_) (by show 0 ≤ sizeLine; exact Nat.zero_le _)
  exact mk_of I hm r h (I.hok.gone hm.new)
/-- X(), as a value -/
theorem pe_exc0 {x : Str} {p pos : Pos} (F : ExcBaseFacts B newId initId bmB) (q : PySem.W.excIn X.K C bmB newId = true) (gC : X.mg x = some (.ref C)) (kC : PySem.W.keepIn X.K (.ref C) = true) (hg : Gl X x)
    (hdb : (x == ("__debug__" : Str)) = false := by decide) : PE X (.Call (.Name x p) [] [] pos) (fun σ H Q => ∀ a, H a = none → Q (.ref a) (upd H a (ExO (.ref C) a))) := by
  refine ⟨fun pins s σ H Q I h => ?_⟩
  refine wpAny_Call_Name_kw (ld_glob I hg gC ?_ hdb)
  refine PySem.W.callWith_K0 I.kIn kC ?_
  obtain ⟨bm, N, nm, qn, bs, hdct, sn, sub, ab, col, dd, k0, k1, k2, k3, k5, mN, hC, hN, hni, T⟩ := exc_obj I.kIn q
  refine wpAny_call_exc_subT F T hC hN hni (fun h' a hm => ?_) (by show 0 ≤ sizeLine; exact Nat.zero_le _)
  have hn : H a = none := I.hok.gone hm.new
  obtain ⟨t, ht, _, _⟩ := hm.there
  exact ⟨.ref a, upd H a (ExO (.ref C) a), I.laidN hm.keeps hm.new hn (exO_ok ht ⟨rfl, rfl⟩ rfl rfl rfl (show 4 < 6 by decide)), rfl, h a hn⟩
end
end L2

set_option Elab.async false
set_option linter.all false
set_option maxRecDepth 100000
set_option maxHeartbeats 4000000
/-! own exceptions with an __init__ of their own that stores its arguments, over Exception: the stores -/
namespace PySem
namespace ExX
open Builtin Builtin.ObjectAttr PySem.W PySem.Calls PyProof.Rows PySem.HandSPX
abbrev exTail : List Value := [.type "Exception", .type "BaseException", .type "object"]
/-- own classes, then Exception's mro -/
def refsEX : List Value → Bool
  | .ref _ :: r => refsEX r
  | l => l == exTail
theorem refsEX_cases : ∀ l : List Value, refsEX l = true → (∃ c r, l = .ref c :: r ∧ refsEX r = true) ∨ l = exTail := by
  intro l e
  unfold refsEX at e
  split at e
  · exact .inl ⟨_, _, rfl, e⟩
  · exact .inr (beq_iff_eq.mp e)
theorem refsEX_pass (self : Value) : ∀ l : List Value, refsEX l = true → refuseLoop self "__setattr__" l = pure () := by
  intro l
  induction l with
  | nil => intro e; exact absurd e (by decide)
  | cons a r ih =>
    intro e
    rcases refsEX_cases (a :: r) e with ⟨c, r', q, h⟩ | q
    · obtain ⟨rfl, rfl⟩ := List.cons.inj q
      rw [refuseLoop_ref]; exact ih h
    · rw [q]; exact F.store_Exception.passes self
theorem refsEX_contains (X : String) : ∀ l : List Value, refsEX l = true → l.contains (.type X) = exTail.contains (.type X) := by
  intro l
  induction l with
  | nil => intro e; exact absurd e (by decide)
  | cons a r ih =>
    intro e
    rcases refsEX_cases (a :: r) e with ⟨c, r', q, h⟩ | q
    · obtain ⟨rfl, rfl⟩ := List.cons.inj q
      rw [List.contains_cons, ih h]; rfl
    · rw [q]
theorem refsEX_ne {l : List Value} (e : refsEX l = true) : l.isEmpty = false := by
  cases l with
  | nil => exact absurd e (by decide)
  | cons _ _ => rfl
section
variable {prog : Program} {w : World} {A : Around} {E : Value → Shared → Prop} {R : Result → Shared → Prop} {hp : Heap} {g : Array GenState} {d : Drawn} {t : Nat} {os : OsState}
theorem osa_new {K : W.Frag} {name : Str} {tk : Tok} {v : Value} {x C : Addr} {fv : Array Value} {cd : ClassData}
    (X : K.In hp) (hx : hp.get? x = some { cls := .ref C, data := .fields fv }) (hcd : W.clsIn K C = some cd) (hm : refsEX cd.mro = true) (hh : cd.hasDict = true) (ha : W.findIn K (.ref C) name = some none)
    (hq : ∀ h' tk' dx, (∀ b o, b ≠ x → hp.get? b = some o → h'.get? b = some o) → hp.objs.size ≤ dx → dx ≠ x → h'.get? x = some { cls := .ref C, dict := some dx, data := .fields fv } →
      h'.Ns1 dx (fun y => if y = name then some v else none) → R (.ok (.ret .none)) ⟨h', g, d, tk', os⟩) :
    codeAny (model prog w) A (.call (.builtin "object.__setattr__") ⟨[.ref x, .str name tk, v], []⟩) R ⟨hp, g, d, t, os⟩ := by
  have I : W.InstAt hp x { cls := .ref C, data := .fields fv } C none := ⟨hx, rfl, rfl, trivial⟩
  have SF := F.store_object
  have ne := refsEX_ne hm
  have hob : cd.mro.contains (.type "object") = true := (refsEX_contains "object" _ hm).trans (by decide +kernel)
  have hxs : x ≠ hp.objs.size := Nat.ne_of_lt (Heap.lt_size hx)
  have sub : W.Looks (model prog w) hp (isInstance (.ref x) (.type "object")) true := I.type.andThen (W.looks_mroIn X (by unfold W.mroIn; rw [hcd, Option.bind_some, if_neg (by rw [ne]; decide), hob]))
  refine codeAny_call_builtin SF.slot.plain SF.entry (@W.check_slot (model prog w) _ _ ⟨hp, g, d, t, os⟩ "object.__setattr__" "object" "__setattr__" (.ref x) [.str name tk, v] [] _ SF.kind SF.split sub (SF.args (.ref x) (.str name tk) v) ?_)
  have hmr : W.Looks (model prog w) hp (mroOf (.ref C)) cd.mro := (W.looks_clsIn X hcd).andThen .now
  have L3 : W.Looks (model prog w) hp (storeTaker? none) none := .now
  have hcls : W.Looks (model prog w) hp (classData C) cd := W.looks_clsIn X hcd
  rw [W.osa_eq, refuse_eq]
  refine wpAny_bind (wpAny_bind (I.type.at (wpAny_bind (hmr.at ?_))))
  rw [refsEX_pass _ _ hm]
  refine wpAny_pure (wpAny_bind (I.type.at (wpAny_bind ((W.looks_findIn X ha).at (wpAny_bind (L3.at ?_))))))
  show wpAny _ _ (storeInOwnDict (.ref x) (.ref C) (.str name tk) name v false) _ _ _
  obtain ⟨nm, bs, mro, ns, qn, hd, sn, sb, ab, col, del⟩ := cd
  dsimp only at hh
  subst hh
  unfold storeInOwnDict ownDictForStores
  repeat (first | with_reducible refine store_in_new ?_ ?_ | with_reducible refine wpAny_loadPart_at hx ?_ | with_reducible refine hcls.at ?_ | wp_step)
  · exact ⟨_, #[], _, (Heap.get?_update_ne _ _ _ _ hxs.symm).trans (Heap.get?_push_at rfl rfl), rfl, fun e he => absurd he (by simp), fun _ => rfl⟩
  · intro h' tk' hn' hs
    have hx₁ : (hp.push { cls := .type "dict", data := .dict #[] }).get? x = some { cls := .ref C, data := .fields fv } := Heap.get?_push_of_some _ hx
    refine hq h' tk' hp.objs.size (fun b o hb ho => ?_) (Nat.le_refl _) hxs.symm ?_ hn'
    · exact (hs.2 b (Nat.ne_of_lt (Heap.lt_size ho))).trans ((Heap.get?_update_ne _ _ _ _ hb).trans (Heap.get?_push_of_some _ ho))
    · exact (hs.2 x hxs).trans (Heap.get?_update_self _ hx₁ rfl)
theorem osa_old {K : W.Frag} {name : Str} {tk : Tok} {v : Value} {x C dx : Addr} {fv : Array Value} {cd : ClassData} {m0 : Str → Option Value} {nl : List Str}
    (X : K.In hp) (hx : hp.get? x = some { cls := .ref C, dict := some dx, data := .fields fv }) (hns : hp.Ns1 dx m0) (hw : Within m0 nl) (hz : nl.length ≤ 1000) (hcd : W.clsIn K C = some cd) (hm : refsEX cd.mro = true) (hh : cd.hasDict = true)
    (ha : W.findIn K (.ref C) name = some none)
    (hq : ∀ h' tk', (∀ b o, b ≠ dx → hp.get? b = some o → h'.get? b = some o) → h'.Ns1 dx (fun y => if y = name then some v else m0 y) → R (.ok (.ret .none)) ⟨h', g, d, tk', os⟩) :
    codeAny (model prog w) A (.call (.builtin "object.__setattr__") ⟨[.ref x, .str name tk, v], []⟩) R ⟨hp, g, d, t, os⟩ := by
  obtain ⟨oD, esD, epD, hoD, hdD, _⟩ := hns.count hw
  have I : W.InstAt hp x { cls := .ref C, dict := some dx, data := .fields fv } C (some oD) := ⟨hx, rfl, rfl, hoD⟩
  have SF := F.store_object
  have ne := refsEX_ne hm
  have hob : cd.mro.contains (.type "object") = true := (refsEX_contains "object" _ hm).trans (by decide +kernel)
  have sub : W.Looks (model prog w) hp (isInstance (.ref x) (.type "object")) true := I.type.andThen (W.looks_mroIn X (by unfold W.mroIn; rw [hcd, Option.bind_some, if_neg (by rw [ne]; decide), hob]))
  refine codeAny_call_builtin SF.slot.plain SF.entry (@W.check_slot (model prog w) _ _ ⟨hp, g, d, t, os⟩ "object.__setattr__" "object" "__setattr__" (.ref x) [.str name tk, v] [] _ SF.kind SF.split sub (SF.args (.ref x) (.str name tk) v) ?_)
  have hmr : W.Looks (model prog w) hp (mroOf (.ref C)) cd.mro := (W.looks_clsIn X hcd).andThen .now
  have L3 : W.Looks (model prog w) hp (storeTaker? none) none := .now
  have hcls : W.Looks (model prog w) hp (classData C) cd := W.looks_clsIn X hcd
  rw [W.osa_eq, refuse_eq]
  refine wpAny_bind (wpAny_bind (I.type.at (wpAny_bind (hmr.at ?_))))
  rw [refsEX_pass _ _ hm]
  refine wpAny_pure (wpAny_bind (I.type.at (wpAny_bind ((W.looks_findIn X ha).at (wpAny_bind (L3.at ?_))))))
  show wpAny _ _ (storeInOwnDict (.ref x) (.ref C) (.str name tk) name v false) _ _ _
  obtain ⟨nm, bs, mro, ns, qn, hd, sn, sb, ab, col, del⟩ := cd
  dsimp only at hh
  subst hh
  unfold storeInOwnDict ownDictForStores
  repeat (first | with_reducible refine PySem.OEX.store_in_old hns hw hz ?_ | with_reducible refine wpAny_loadPart_at hx ?_ | with_reducible refine hcls.at ?_ | wp_step)
  intro h' tk' hn' hs
  exact hq h' tk' (fun b o hb ho => (hs.2 b hb).trans ho) hn'
end
end ExX
end PySem

set_option Elab.async false
set_option linter.all false
set_option maxRecDepth 100000
set_option maxHeartbeats 4000000
namespace PySem
namespace ExX
open PySem.W PySem.Calls PyProof.Rows PySem.HandSPX
/-- what the written part says of an own exception class, at C, over Exception, and of its __init__, at fI -/
structure ExcT (K : W.Frag) (mg : Str → Option Value) (C fI : Addr) (cn : Str) (fs : List Str) (qual : Str) (st : Stmt) : Prop where
  gC : mg cn = some (.ref C)
  cls : ∃ nm q N bs bm sn sub ab col dd k0 k1 k2 k3 k5, K.lookup C = some (excClassObj nm q C N bs bm true sn sub ab col dd k0 k1 k2 k3 k5 "Exception.__new__") ∧ refsEX bm = true
  sa : findIn K (.ref C) "__setattr__" = some (some (.builtin "object.__setattr__"))
  ga : findIn K (.ref C) "__getattribute__" = some (some (.builtin "BaseException.__getattribute__"))
  gg : findIn K (.ref C) "__getattr__" = some none
  no : ∀ f ∈ fs, findIn K (.ref C) f = some none
  iC : findIn K (.ref C) "__init__" = some (some (.ref fI))
  tC : typeIn K (.ref fI) = some (.type "function")
  kC : keepIn K (.ref C) = true
  exC : subIn K (.ref C) (.type "BaseException") = some true
  tyC : typeIn K (.ref C) = some (.type "type")
  hdC : hasDictIn K C = true
  fn : ∃ (oc : Value) (od : Option Addr) (kV doc pm : Value) (an : Option Addr) (cdv ct : Value) (osl : Array (Option Value)),
    K.lookup fI = some ⟨oc, od, .func (fnOf "__init__" qual (L2.defArgs st) (L2.defBody st) (L2.defScope st) .none kV doc pm an cdv ct), osl⟩ ∧ codeIn K cdv qual = true
theorem ldC {M : Model} {s : Shared} {name : Str} {scope : Scope} {L a : Addr} {cd : Value} {m : Str → Option Value} {x : Str} {pos : Pos} {v : Value} {Q : Value → Shared → Prop} {A : Around} {E : Value → Shared → Prop} (hn : s.heap.Ns L m) (hv : m x = some v) (h : Q v s)
    (hk : scope.kind = .function := by rfl) (hl : (envOfC name scope L a cd).kindOf x = some .local := by rfl) (hd : (x == ("__debug__" : Str)) = false := by decide) :
    wpAny M A (eval (.Name x pos) (envOfC name scope L a cd)) Q E s := wpAny_Name (wpAny_loadName_local hk hl hn hv h) hd
end ExX
end PySem
namespace PySem
namespace ExX
open PySem.W PySem.Calls PyProof.Rows PySem.HandSPX
/-- a made exception of the class at C: itself at e, its dict at d, the fields m -/
structure OwnMade (h h' : Heap) (e C d : Addr) (m : Str → Option Value) : Prop where
  keep : ∀ b o, h.get? b = some o → h'.get? b = some o
  new : h.objs.size ≤ e
  obj : ∃ oe vs, h'.get? e = some oe ∧ oe.cls = .ref C ∧ oe.dict = some d ∧ oe.data = .fields vs ∧ vs[1]? = some .none
  dbig : h.objs.size ≤ d
  dne : d ≠ e
  ns : h'.Ns1 d m
end ExX
end PySem
namespace L2
open PySem PySem.Spec PyProof.Rows PySem.ExX
/-- an exception object of the class at C, its own dict at d, not raised -/
def ExD (C d e : Addr) : HO := .ext fun h => ∃ (oe : Obj) (vs : Array Value), h.get? e = some oe ∧ Zc (.ref C) (some d) oe ∧ oe.data = .fields vs ∧ vs[1]? = some .none
theorem exD_ok {P : Program} {w : World} {H : Hp} {h : Heap} {C d e : Addr} {oe : Obj} {vs : Array Value} (he : h.get? e = some oe) (z : Zc (.ref C) (some d) oe) (hd : oe.data = .fields vs) (h1 : vs[1]? = some .none) : ObjOk P w H h e (ExD C d e) :=
  ⟨⟨oe, vs, he, z, hd, h1⟩, ⟨oe, he⟩, fun _ _ ⟨o, v, q, r⟩ k => ⟨o, v, k o q, r⟩⟩
section
variable {X : Cx} {pins : List (Addr × Obj)} {σ : St} {H : Hp} {hp h' : Heap} {g : Array GenState} {dr : Drawn} {tk tk' : Nat} {os : OsState} {e C d : Addr} {m : Str → Option Value} {fs : List (Str × V)}
/-- the heap without the exception itself: its dict laid -/
theorem own_split (I : Inv X pins σ H ⟨hp, g, dr, tk, os⟩) (M : OwnMade hp h' e C d m) (rel : ∀ f, RelO (fs.lookup f) (m f)) :
    ∃ G' : Heap, (∀ b o, G'.get? b = some o → h'.get? b = some o) ∧ G'.get? e = none ∧ Inv X pins σ (upd H d (.xd fs)) ⟨G', g, dr, tk', os⟩ := by
  have hns := M.ns
  obtain ⟨G', g1, g2⟩ := restrict h' fun b => decide (b ≠ e)
  have gk : ∀ b, b ≠ e → G'.get? b = h'.get? b := fun b hb => g1 b (decide_eq_true hb)
  have ge : G'.get? e = none := g2 e (by simp)
  have old : ∀ b o, hp.get? b = some o → G'.get? b = some o := fun b o q => (gk b (Nat.ne_of_lt (Nat.lt_of_lt_of_le (Heap.lt_size q) M.new))).trans (M.keep b o q)
  have ob : ObjOk X.prog X.w (upd H d (.xd fs)) G' d (.xd fs) := ⟨_, hns.at (fun o q => (gk d M.dne).trans q), fun f => rel f⟩
  have J : Inv X pins σ (upd H d (.xd fs)) ⟨G', g, dr, tk', os⟩ := I.laid (t' := tk') old M.dbig ob
  refine ⟨G', fun b o q => ?_, ge, J⟩
  by_cases hb : b = e
  · rw [hb, ge] at q; cases q
  · exact (gk b hb).symm.trans q
theorem own_value (I : Inv X pins σ H ⟨hp, g, dr, tk, os⟩) (M : OwnMade hp h' e C d m) (rel : ∀ f, RelO (fs.lookup f) (m f)) :
    Inv X pins σ (upd (upd H d (.xd fs)) e (ExD C d e)) ⟨h', g, dr, tk', os⟩ := by
  obtain ⟨G', k, ge, J⟩ := own_split (tk' := tk') I M rel
  obtain ⟨oe, vs, hoe, hc, hd, hdat, h1⟩ := M.obj
  have hn : upd H d (.xd fs) e = none := by
    rw [upd_ne (Ne.symm M.dne)]
    exact I.hok.fresh M.new
  exact J.laidN k ge hn (exD_ok hoe ⟨hc, hd⟩ hdat h1)
theorem own_raise {Q : XK} (I : Inv X pins σ H ⟨hp, g, dr, tk, os⟩) (M : OwnMade hp h' e C d m) (rel : ∀ f, RelO (fs.lookup f) (m f)) (r : Raises X (.ref C)) (q : ∀ d, H d = none → Q (.ref C) (some d) (upd H d (.xd fs))) :
    MkP X pins σ Q (.ref e) ⟨h', g, dr, tk', os⟩ := by
  obtain ⟨G', k, ge, J⟩ := own_split (tk' := tk') I M rel
  obtain ⟨oe, vs, hoe, hc, hd, hdat, h1⟩ := M.obj
  refine ⟨e, oe, vs, ⟨G', g, dr, tk', os⟩, _, .ref C, some d, rfl, J, k, ge, hoe, ⟨hc, hd⟩, hdat, h1, ?_, rfl, I.bare, r, q d (I.hok.fresh M.dbig)⟩
  rw [upd_ne (Ne.symm M.dne)]
  exact I.hok.fresh M.new
end
end L2

set_option Elab.async false
set_option linter.all false
set_option maxRecDepth 100000
set_option maxHeartbeats 4000000
/-! isinstance of exception objects that are values, whatever own dict they have -/
namespace PySem.W
open PySem PySem.Spec PySem.Calls PyProof.Rows
section
variable {prog : Program} {w : World} {A : Around} {E : Value → Shared → Prop} {s : Shared} {K : Frag} {x D : Addr} {ox : Obj} {od : Option Obj}
theorem findObj_dataZ {C : Addr} {name : Str} {a g : Value} (hc : (clsIn K C).isSome = true) (ha : findIn K (.ref C) name = some (some a)) (hg : specialIn K a "__get__" = some (some g)) (ht : takesIn K a = some true) : findObj K C od name = some (.bind g a) := by
  obtain ⟨cd, hc⟩ := Option.isSome_iff_exists.mp hc
  unfold findObj
  rw [hc, Option.bind_some, ha, Option.bind_some]
  simp [hg, ht]
theorem kin_classZ {Q : Option Value → Shared → Prop} (hga : findIn K (.ref D) "__getattribute__" = some (some (.builtin "BaseException.__getattribute__"))) (hgt : findIn K (.ref D) "__getattr__" = some none) (hsub : subIn K (.ref D) (.type "BaseException") = some true)
    (hdct : hasDictIn K D = true) (ha : findIn K (.ref D) "__class__" = some (some (.builtin "object.__class__")))
    (hn : specialIn K (.builtin "object.__class__") "__get__" = some (some (.builtin "getset_descriptor.__get__"))) (htk : takesIn K (.builtin "object.__class__") = some true) (hm : mroIn K D (.type "object") = some true)
    (X : K.In s.heap) (I : InstAt s.heap x ox D od) (h : Q (some (.ref D)) { s with toks := s.toks + 1 }) : wpAny (model prog w) A (getAttr? (.ref x) "__class__") Q E s := by
  have hf : findObj K D od "__class__" = some (.bind (.builtin "getset_descriptor.__get__") (.builtin "object.__class__")) := findObj_dataZ (by obtain ⟨cd, hc, _⟩ := any_some hdct; rw [hc]; rfl) ha hn htk
  obtain ⟨hp, g, d, t, os⟩ := s
  have L0 := I.type (M := model prog w)
  have L1 := looks_findIn (M := model prog w) X hga
  have L2 := looks_findIn (M := model prog w) X hgt
  have L3 := looks_find (M := model prog w) X I hf
  have sub : Looks (model prog w) hp (isInstance (.ref x) (.type "BaseException")) true := L0.andThen (looks_subIn X hsub)
  have hx0 : (false && onTheHeap (Value.builtin "BaseException.__getattribute__")) = false := rfl
  have hx2 : (Value.builtin "BaseException.__getattribute__" == Value.builtin "object.__getattribute__") = false := by decide +kernel
  have hx1 : (onTheHeap (Value.ref D) && Value.builtin "BaseException.__getattribute__" == Value.builtin "object.__getattribute__") = false := by rw [hx2]; rfl
  unfold getAttr? getAttrBy? getAttrBy
  refine wpAny_bind (wpAny_mkText (wpAny_bind (wpAny_attempt (wpAny_holding (wpAny_bind (L0.at (wpAny_bind (L1.at ?_))))))))
  show wpAny _ _ (if (onTheHeap (Value.ref D) && Value.builtin "BaseException.__getattribute__" == Value.builtin "object.__getattribute__") = true then _ else _) _ _ _
  rw [hx1, if_neg Bool.false_ne_true]
  unfold getAttrByItsOwn hookBefore
  refine wpAny_bind ?_
  rw [if_pos (show onTheHeap (Value.ref D) = true from rfl)]
  refine L2.at ?_
  refine wpAny_bind (wpAny_attempt (wpAny_holding ?_))
  unfold callGetattribute
  rw [hx0, if_neg Bool.false_ne_true]
  unfold boundAndCalled
  rw [PySem.F.excAttr_ValueError.ga.bind (.ref x)]
  refine wpAny_bind (wpAny_pure ?_)
  show wpAny _ _ (call (.builtin "BaseException.__getattribute__") [.ref x, .str "__class__" t]) _ _ _
  refine wpAny_call (codeAny_call_builtin PySem.F.excAttr_ValueError.ga.plain PySem.F.entry_bexc_ga ?_)
  refine @check_slot (model prog w) _ _ ⟨hp, g, d, t + 1, os⟩ "BaseException.__getattribute__" "BaseException" "__getattribute__" (.ref x) [.str "__class__" t] [] _ (by decide +kernel) (by decide +kernel) sub (PySem.F.args_bexc_ga (.ref x) (.str "__class__" t)) ?_
  unfold Builtin.«object.__getattribute__»
  refine wpAny_bind (wpAny_of_eq (a := ((Value.ref x : Value), [Value.str "__class__" t])) (by first | rfl | (simp only [slotArgs]; rfl)) ?_)
  refine wpAny_bind (wpAny_pure (wpAny_bind (L0.at (wpAny_bind (L3.at ?_)))))
  show wpAny _ _ (holding [Value.builtin "object.__class__"] (call (.builtin "getset_descriptor.__get__") [.builtin "object.__class__", .ref x, .ref D]) >>= ret) _ _ _
  refine wpAny_bind (wpAny_holding (wpAny_call (class_get (s := ⟨hp, g, d, t + 1, os⟩) (ox := ox) (od := od) X I hm ?_)))
  refine wpAny_pure ?_
  show wpAny _ _ (handedOut (.ref D)) _ _ _
  rw [handedOut_of (v := .ref D) rfl]
  first
    | exact wpAny_pure (wpAny_pure h)
    | exact wpAny_pure h
    | exact wpAny_pure (wpAny_bind (wpAny_pure (wpAny_pure h)))
theorem kitx_excZ (hga : findIn K (.ref D) "__getattribute__" = some (some (.builtin "BaseException.__getattribute__"))) (hgt : findIn K (.ref D) "__getattr__" = some none) (hsub : subIn K (.ref D) (.type "BaseException") = some true) (hdct : hasDictIn K D = true) (ha : findIn K (.ref D) "__class__" = some (some (.builtin "object.__class__")))
    (hn : specialIn K (.builtin "object.__class__") "__get__" = some (some (.builtin "getset_descriptor.__get__"))) (htk : takesIn K (.builtin "object.__class__") = some true) (hm : mroIn K D (.type "object") = some true) :
    KitX K (.ref x) (.ref D) (fun h => InstAt h x ox D od) where
  ty := fun _ _ _ I => I.type
  it := fun _ _ X _ => by
    obtain ⟨cdD, hcD, _⟩ := any_some hdct
    unfold clsIn at hcD
    split at hcD
    · rename_i c' d' cd' sl' ho
      intro A' Q' E' s' k q
      unfold isType loadHead
      exact wpAny_bind (wpAny_loadPart (k _ _ (X _ _ ho)) (wpAny_pure q))
    · cases hcD
  ne := (handS_kitx_exc (x := x) (ox := ox) hga hgt hsub hdct ha hn htk hm).ne
  ca := fun X I k => kin_classZ hga hgt hsub hdct ha hn htk hm X I k
end
end PySem.W
namespace L2
open PySem PySem.Spec PyProof.Rows PySem.ExX
/-- the type of a value: also of an exception object that is a value -/
inductive TyZ (K : PySem.W.Frag) (H : Hp) : V → Value → Prop where
  | x {v : V} {t : Value} (h : TyX K H v t) : TyZ K H v t
  | exo {a C : Addr} (e : H a = some (ExO (.ref C) a)) (c : ExcC K C) : TyZ K H (.ref a) (.ref C)
  | exd {a C d : Addr} {fs : List (Str × V)} (e : H a = some (ExD C d a)) (ed : H d = some (.xd fs)) (c : ExcC K C) : TyZ K H (.ref a) (.ref C)
section
variable {X : Cx} {pins : List (Addr × Obj)} {σ : St} {H : Hp} {s : Shared}
theorem kit_ofZ {x : V} {u t : Value} (I : Inv X pins σ H s) (rx : RelV x u) (ty : TyZ X.K H x t) : ∃ P : Heap → Prop, PySem.W.KitX X.K u t P ∧ P s.heap ∧ u ≠ .builtin "__main__.__loader__#opaque" := by
  cases ty with
  | x h => exact kit_of I rx h
  | @exo a C e c =>
    cases (show u = Value.ref a from rx)
    obtain ⟨⟨oe, vs, ho, hz, hd, _, _⟩, _, _⟩ := I.hok a _ e
    have J : PySem.W.InstAt s.heap a oe C none := by
      obtain ⟨oc, od, oda, osl⟩ := oe
      obtain ⟨h1, h2⟩ := hz
      dsimp only at h1 h2 hd
      subst h1 h2 hd
      exact ⟨ho, rfl, rfl, trivial⟩
    exact ⟨_, PySem.W.kitx_excZ c.hg c.hk c.hs c.hd c.ha c.hn c.ht c.hm, J, fun z => nomatch z⟩
  | @exd a C d fs e ed c =>
    cases (show u = Value.ref a from rx)
    obtain ⟨⟨oe, vs, ho, hz, hd, _⟩, _, _⟩ := I.hok a _ e
    obtain ⟨mA, hns, _⟩ := (show ObjOk X.prog X.w H s.heap d (.xd fs) from I.hok d _ ed)
    obtain ⟨od, hod, _⟩ := lookIn_ns hns
    have J : PySem.W.InstAt s.heap a oe C (some od) := by
      obtain ⟨oc, odd, oda, osl⟩ := oe
      obtain ⟨h1, h2⟩ := hz
      dsimp only at h1 h2 hd
      subst h1 h2 hd
      exact ⟨ho, rfl, rfl, hod⟩
    exact ⟨_, PySem.W.kitx_excZ c.hg c.hk c.hs c.hd c.ha c.hn c.ht c.hm, J, fun z => nomatch z⟩
end
def rIsiZ (K : PySem.W.Frag) : List V → Hp → VK → Prop := fun xs H Q => ∃ (x c : V) (t u : Value) (b : Bool), xs = [x, c] ∧ ClsV c u ∧ TyZ K H x t ∧ PySem.W.kitOne K t u = some b ∧ Q (.bl b) H
def rIsiTZ (K : PySem.W.Frag) : List V → Hp → VK → Prop := fun xs H Q => ∃ (x : V) (tp : Addr) (cs : List V) (t : Value) (us : List Value) (b : Bool), xs = [x, .ref tp] ∧ H tp = some (.tup cs) ∧ Paired ClsV cs us ∧ TyZ K H x t ∧ PySem.W.kitAny K t us = some b ∧ Q (.bl b) H
section
variable {X : Cx} {K : PySem.W.Frag}
theorem call_isiZ (hK : X.K = K) : CallR X (.builtin "isinstance") (rIsiZ K) := by
  subst hK
  intro pins s σ H xs us Q I r h
  obtain ⟨x, c, t, u, b, rfl, k, ty, e, q⟩ := h
  obtain ⟨u1, u2, rfl, r1, r2⟩ := vals2 r
  have e2 := k.eq r2
  subst e2
  obtain ⟨P, Z, p, hx⟩ := kit_ofZ I r1 ty
  exact PySem.W.kia_one Z I.kIn p e hx fun tk => ⟨.bl b, H, I.tok tk, rfl, q⟩
theorem call_isiTZ (hK : X.K = K) : CallR X (.builtin "isinstance") (rIsiTZ K) := by
  subst hK
  intro pins s σ H xs us Q I r h
  obtain ⟨x, tp, cs, t, ws, b, rfl, hT, k, ty, e, q⟩ := h
  obtain ⟨u1, u2, rfl, r1, r2⟩ := vals2 r
  cases (show u2 = Value.ref tp from r2)
  obtain ⟨P, Z, p, hx⟩ := kit_ofZ I r1 ty
  obtain ⟨_, its, rv, o, h1, h2, n, h3⟩ := (show ObjOk X.prog X.w H s.heap tp (.tup cs) from I.hok tp _ hT)
  have e3 := ClsV.all k rv
  subst e3
  obtain ⟨oc, od, dt, sl⟩ := o
  simp only at h2 h3
  subst h2 h3
  exact PySem.W.kia_tup Z I.kIn p h1 e hx fun tk => ⟨.bl b, H, I.tok tk, rfl, q⟩
end
end L2

set_option Elab.async false
set_option linter.all false
set_option maxRecDepth 100000
set_option maxHeartbeats 4000000
/-! x != y of two objects of a class with an own __eq__ and no __ne__ -/
namespace HN
open PySem PySem.Spec PyProof.Rows PySem.SeqAt
section
variable {M : Model} {prog : Program} {w : World} {A : Around} {E : Value → Shared → Prop} {s : Shared} {K : PySem.W.Frag} {x C f : Addr} {ox : Obj} {od : Option Obj} {b tb : Value}
theorem ifBound_objNe {args : List Value} {Q : Option Value → Shared → Prop} (X : K.In s.heap) (I : PySem.W.InstAt s.heap x ox C od) (hs : PySem.W.findIn K (.ref C) "__ne__" = some (some (.builtin "object.__ne__")))
    (h : wpAny M A (call (.builtin "object.__ne__") (.ref x :: args)) (fun v => Q (some v)) E s) : wpAny M A (callSpecialIfBound? (.ref x) "__ne__" args) Q E s := by
  simp only [callSpecialIfBound?, bindSpecialIfBound?]
  refine wpAny_holding (wpAny_bind (wpAny_bind (wpAny_bind (I.type.here ((PySem.W.looks_findIn X hs).here ?_)))))
  refine wpAny_bind (wpAny_askSetting (wpAny_ite ?_))
  have fin : wpAny M A (call (.builtin "object.__ne__") ([.ref x] ++ args) >>= fun v => pure (some v)) Q E s := wpAny_bind (wpAny_mono h (fun v s' h' => wpAny_pure h') fun _ _ h' => h')
  split
  · exact wpAny_bind (wpAny_of_eq (F.cmp_object.ne.bind _) (wpAny_pure (by exact fin)))
  · exact wpAny_tryCatch (wpAny_bind (wpAny_of_eq (F.cmp_object.ne.bind _) (wpAny_pure (by exact fin))))
/-- what object.__ne__ does, where the class's own __eq__ says True -/
theorem entry_ne {R : Fin → Shared → Prop} (hu : A.units < cLine) (X : K.In s.heap) (I : PySem.W.InstAt s.heap x ox C od) (hs : PySem.W.findIn K (.ref C) "__eq__" = some (some (.ref f))) (hf : PySem.W.isFn K (.ref f) = true)
    (h : wpAny M A (call (.ref f) [.ref x, b]) (fun v s' => v = .bool true ∧ R (.done (.ret (.bool false))) s') E s) : wpAny M A (Builtin.«object.__ne__» ⟨[.ref x, b], []⟩) R E s := by
  unfold Builtin.«object.__ne__»
  have q : wpAny M A (callSpecialIfBound? (.ref x) "__eq__" [b]) (fun r s' => r = some (.bool true) ∧ R (.done (.ret (.bool false))) s') E s :=
    PySem.W.ifBound_K X I hs hf (wpAny_mono h (fun v s' ⟨e, z⟩ => ⟨by rw [e], z⟩) fun _ _ z => z)
  repeat (first | with_reducible refine wpAny_cRoomFor hu ?_ | with_reducible refine wpAny_bind (wpAny_mono q (fun r s' ⟨e, z⟩ => ?_) fun _ _ z => z) | wp_step)
  subst e
  refine wpAny_bind (wpAny_truthy_bool ?_)
  exact wpAny_pure z
theorem call_objNe {Q : Value → Shared → Prop} (hu : A.in1.units < cLine) (X : K.In s.heap) (I : PySem.W.InstAt s.heap x ox C od) (hm : PySem.W.mroIn K C (.type "object") = some true) (hs : PySem.W.findIn K (.ref C) "__eq__" = some (some (.ref f))) (hf : PySem.W.isFn K (.ref f) = true)
    (h : wpAny (model prog w) A.in1 (call (.ref f) [.ref x, b]) (fun v s' => v = .bool true ∧ Q (.bool false) s') E s) :
    wpAny (model prog w) A (call (.builtin "object.__ne__") [.ref x, b]) Q E s :=
  wpAny_call (codeAny_call_builtin F.cmp_object.ne.plain F.cmpEntry_ne (PySem.W.check_slot F.cmpKind_ne F.cmpSplit_ne (I.type.andThen (PySem.W.looks_mroIn X hm)) (F.cmpArgs_ne _ _) (entry_ne hu X I hs hf h)))
theorem rc_ne {L : Addr} {h₀ : Heap} {m : Str → Option Value} {Q : Value → Shared → Prop} (hu : A.units < cLine) (hu1 : A.in1.units < cLine) (F : Fr h₀ L s.heap m) (X₀ : K.In h₀) (I : PySem.W.InstAt s.heap x ox C od) (hb : PySem.W.Looks (model prog w) s.heap (typeOf b) tb) (hn : PySem.W.notFirst K C tb = true)
    (hm : PySem.W.mroIn K C (.type "object") = some true) (hne : PySem.W.findIn K (.ref C) "__ne__" = some (some (.builtin "object.__ne__"))) (hs : PySem.W.findIn K (.ref C) "__eq__" = some (some (.ref f))) (hf : PySem.W.isFn K (.ref f) = true)
    (h : wpAny (model prog w) A.in1 (call (.ref f) [.ref x, b]) (fun v s' => v = .bool true ∧ Q (.bool false) s') E s) : wpAny (model prog w) A (richCompare .NotEq (.ref x) b) Q E s := by
  have X := X₀.keeps F.keep
  have one : wpAny (model prog w) A (tryCompare (.ref x) (cmpInfo .NotEq).2.1 b) (fun r s' => ∃ v, r = some v ∧ Q v s') E s := by
    unfold tryCompare
    refine wpAny_bind (ifBound_objNe X I hne (call_objNe hu1 X I hm hs hf (wpAny_mono h (fun v s' hv => ?_) fun _ _ e => e)))
    exact ⟨hv.1, wpAny_pure ⟨_, rfl, hv.2⟩⟩
  unfold richCompare
  simp only [oneThing_ref]
  refine wpAny_holding (wpAny_bind (wpAny_cRoomFor hu ?_))
  refine wpAny_bind (I.type.here (wpAny_bind (hb.here ?_)))
  split
  · rename_i q
    have e : PySem.W.subIn K tb (.ref C) = some false := by
      rcases Bool.or_eq_true_iff.mp hn with e | e
      · rw [beq_iff_eq.mp e] at q; simp at q
      · exact beq_iff_eq.mp e
    refine wpAny_bind ((PySem.W.looks_subIn X e).here ?_)
    simp only [Bool.false_eq_true, if_false]
    refine wpAny_bind (wpAny_mono one (fun r s' z => ?_) fun _ _ e => e)
    obtain ⟨v, rfl, hq⟩ := z
    exact wpAny_pure hq
  · refine wpAny_bind (wpAny_pure ?_)
    simp only [Bool.false_eq_true, if_false]
    refine wpAny_bind (wpAny_mono one (fun r s' z => ?_) fun _ _ e => e)
    obtain ⟨v, rfl, hq⟩ := z
    exact wpAny_pure hq
end
end HN
namespace L2
open PySem PySem.Spec PyProof.Rows
section
variable {X : Cx} {n : Nat}
def rNeG (D : Eqv) : R2 := fun x y H Q => D x y H ∧ ∀ H', Ext H H' → Q (.bl false) H'
/-- x != y, two objects of the class at C, equal by its own __eq__ -/
theorem op_neG {CX : CXT} {C f : Addr} {fd : FuncData} {ps : List Str} {R : Addr → Addr → Hp → Prop} {E : XK} (F : FnOk X.prog X.w X.K X.mg X.base CX n f fd ps (spEq R))
    (hs : PySem.W.findIn X.K (.ref C) "__eq__" = some (some (.ref f))) (hf : PySem.W.isFn X.K (.ref f) = true) (hne : PySem.W.findIn X.K (.ref C) "__ne__" = some (some (.builtin "object.__ne__"))) (hm : PySem.W.mroIn X.K C (.type "object") = some true)
    (hb : Binds X.K fd ps []) (hx : Passes CX X E) (hr : Room (n + 1) X.A) : OpR X (compareOp .NotEq) (rNeG (DIns C R)) := by
  intro pins s σ H x y u v Q I rx ry hq
  obtain ⟨⟨a, b, dx, dy, fs, gs, rfl, rfl, ha, hb', hr'⟩, q⟩ := hq
  cases rx
  cases ry
  have sb : Sub X n X.A.in1 := Sub.in1 ⟨hr, rfl⟩
  obtain ⟨mA, J, _⟩ := ins_get I.hok ha
  obtain ⟨mB, J', _⟩ := ins_get I.hok hb'
  obtain ⟨od, J, _⟩ := J.look
  obtain ⟨od', J', _⟩ := J'.look
  obtain ⟨m, hF⟩ := I.fr
  show wpAny (model X.prog X.w) X.A (richCompare .NotEq (.ref a) (.ref b)) (EP X pins σ Q) X.xe s
  refine HN.rc_ne (tb := .ref C) hr.units0 sb.room.units0 hF I.ok.mod.kin J J'.type (by simp [PySem.W.notFirst]) hm hne hs hf ?_
  have hsp : spEq R [.ref a, .ref b] H (fun v H' => v = .bl true ∧ Ext H H') E := ⟨a, b, rfl, hr', fun H' e => ⟨rfl, e⟩⟩
  have e0 : Env0 X.prog X.w X.K X.mg X.base X.A.in1 X.stack s H := by
    have e := I.env0
    exact ⟨by rw [sb.fr]; exact e.frames, e.mod, e.bs, e.bsz, e.funs, e.frf, e.hok, e.bare⟩
  have hl := F.len _ _ _ _ hsp
  have r2 : Vals [V.ref a, V.ref b] [Value.ref a, Value.ref b] := .cons rfl (.cons rfl .nil)
  refine wpAny_call (codeAny_mono (F.run X.A.in1 X.stack s H ⟨[.ref a, .ref b], []⟩ [.ref a, .ref b] [.ref a, .ref b] _ E sb.room e0 (by
    have := hb s [.ref a, .ref b] I.kIn (by simpa using hl)
    simpa using this) r2 hsp) fun r s' hq => ?_)
  cases r with
  | error e => exact hx pins σ H s e s' I hq
  | ok fl =>
    cases fl with
    | ret w =>
      obtain ⟨z, H', I', rz, ez, ex⟩ := I.after hq
      subst ez
      cases rz
      exact ⟨rfl, .bl false, H', I', rfl, q H' ex⟩
    | next => exact False.elim hq
    | brk => exact False.elim hq
    | cont => exact False.elim hq
end
end L2

set_option Elab.async false
set_option linter.all false
set_option maxRecDepth 100000
set_option maxHeartbeats 4000000
namespace PySem
namespace ExX
open PySem.W PySem.Calls PyProof.Rows
theorem refsEX_of : ∀ l : List Value, excTail exTail l = true → refsEX l = true := by
  intro l
  induction l with
  | nil => intro h; exact absurd h (by decide +kernel)
  | cons a r ih =>
    intro h
    rcases excTail_cases (bmB := exTail) (a :: r) h with ⟨c, r', e, q⟩ | e
    · cases e
      exact ih q
    · rw [e]; rfl
theorem excT_cls {K : Frag} {C : Addr} (q : excInitIn K C exTail "Exception.__new__" = true) (hd : hasDictIn K C = true) :
    ∃ nm q N bs bm sn sub ab col dd k0 k1 k2 k3 k5, K.lookup C = some (excClassObj nm q C N bs bm true sn sub ab col dd k0 k1 k2 k3 k5 "Exception.__new__") ∧ refsEX bm = true := by
  unfold excInitIn at q
  split at q
  · rename_i dd cd sl ho
    split at q
    · rename_i C' bm k0 k1 k2 k3 n k5 hm hs
      simp only [Bool.and_eq_true, beq_iff_eq, Bool.not_eq_true'] at q
      obtain ⟨⟨⟨rfl, rfl⟩, hdel⟩, ht⟩ := q
      obtain ⟨nm, bs, mro, ns, qn, hd', sn, sub, ab, col, del⟩ := cd
      dsimp only at hm hdel
      subst hm hdel
      have hsl : sl = #[k0, k1, k2, k3, some (.builtin "Exception.__new__"), k5] := by
        obtain ⟨l⟩ := sl
        simp only at hs
        rw [hs]
      subst hsl
      have e : hd' = true := by
        unfold hasDictIn at hd
        have hc : clsIn K C' = some ⟨nm, bs, .ref C' :: bm, ns, qn, hd', sn, sub, ab, col, false⟩ := by unfold clsIn; rw [ho]
        rw [hc] at hd
        simpa using hd
      subst e
      exact ⟨nm, qn, ns, bs, bm, sn, sub, ab, col, dd, k0, k1, k2, k3, k5, ho, refsEX_of _ ht⟩
    · cases q
  · cases q
end ExX
end PySem

set_option Elab.async false
set_option linter.all false
set_option maxRecDepth 100000
set_option maxHeartbeats 4000000
/-! enumerate of a tuple -/
namespace PySem
open Sem (wp)
open PySem.Spec PyProof.Rows
theorem meets_enumerate_newB1 {v : Value} {o : Obj} {H : Heap → Prop} (B : Begins v o H) :
    Meets (Builtin.«enumerate.__new__» ⟨[.type "enumerate", v], []⟩) (fun _ R s => H s.heap ∧
      R (.ok (.ret (.ref (s.heap.push o).objs.size))) { s with heap := (s.heap.push o).push { cls := .type "enumerate", data := .fields #[.none, .bool false, .ref s.heap.objs.size, rawInt 0, .none, .none] } }) :=
  .of_wp fun prog w A R s h => by
    obtain ⟨hp, g, d, tk, os⟩ := s; obtain ⟨h1, h⟩ := h
    have hsub := sub_enumerate
    have q1 : ∀ {A' : Around} {E : Value → Shared → Prop} {Q : Value → Shared → Prop}, Q (.ref hp.objs.size) ⟨hp.push o, g, d, tk, os⟩ → wpAny (model prog w) A' (pyIter v) Q E ⟨hp, g, d, tk, os⟩ :=
      fun q => B.iter prog w _ _ ⟨hp, g, d, tk, os⟩ _ h1 q
    wp_walk using q1
    refine wpAny_stack_any fun st => wpAny_pure ?_
    split
    · rename_i c _ _ _ _ _
      cases (c == Value.type "enumerate")
      · wp_walk using q1
        exact ⟨_, rfl, h⟩
      · wp_walk using q1
        exact ⟨_, rfl, h⟩
    · wp_walk using q1
      exact ⟨_, rfl, h⟩
section
variable {prog : Program} {w : World} {A : Around} {E : Value → Shared → Prop} {s : Shared}
theorem enum_begins1 {v : Value} {o : Obj} {H : Heap → Prop} {Q : Value → Shared → Prop} (B : Begins v o H) (h1 : H s.heap)
    (h : ∀ h', IsEnum h' (s.heap.objs.size + 1) s.heap.objs.size 0 .none → h'.get? s.heap.objs.size = some o → h'.objs.size = s.heap.objs.size + 2 →
      (∀ b o, s.heap.get? b = some o → h'.get? b = some o) → Q (.ref (s.heap.objs.size + 1)) { s with heap := h' }) :
    wpAny (model prog w) A (call (.type "enumerate") [v]) Q E s := by
  refine callType_new F.called_enumerate (by decide) (F.typeCall_enumerate_1 _) (F.newCall_enumerate_1 _) (fun obj => F.args_object_init_2 obj _) F.entry_enumerate_new
    (meets_enumerate_newB1 B) ⟨h1, ?_⟩
  have hz : (s.heap.push o).objs.size = s.heap.objs.size + 1 := Heap.size_push ..
  show _ ∧ _
  rw [hz]
  have he : IsEnum ((s.heap.push o).push { cls := .type "enumerate", data := .fields #[.none, .bool false, .ref s.heap.objs.size, rawInt 0, .none, .none] }) (s.heap.objs.size + 1) s.heap.objs.size 0 .none := by
    have := Heap.get?_push_size (s.heap.push o) (o := { cls := .type "enumerate", data := .fields #[.none, .bool false, .ref s.heap.objs.size, rawInt 0, .none, .none] }) rfl
    rw [hz] at this; exact this
  refine ⟨⟨_, he, rfl⟩, h _ he (Heap.get?_push_of_some _ (Heap.get?_push_size _ B.free)) (by rw [Heap.size_push, hz]) fun b o x => Heap.get?_push_of_some _ (Heap.get?_push_of_some _ x)⟩
end
end PySem
namespace L2
open PySem PySem.Spec PyProof.Rows
/-- the tuple at a, each item in a new pair -/
def IteT (K : PySem.W.Frag) (a : Addr) : It :=
  ⟨fun i H => ∃ (xs : List V) (x : V), SqT K H a xs ∧ xs[i]? = some x, fun i H v H' => ∃ T x, v = .ref T ∧ H T = none ∧ H' = upd H T (.tup [.int (i : Nat), x]) ∧ ∀ xs, SqT K H a xs → xs[i]? = some x, fun i H => ∃ xs : List V, SqT K H a xs ∧ xs.length = i⟩
theorem turn_enumT {P : Program} {w : World} {K : PySem.W.Frag} {elts : List Expr} {kk : Nat} {tpos : Pos} (a e it : Addr) (hn : e ≠ it) (hae : a ≠ e) (hai : a ≠ it) :
    Turn P w K (.Tuple elts kk tpos) (IteT K a) [e, it] e (fun i h => (∃ old, IsEnum h e it ((i : Nat) : Int) old) ∧ h.IsTupleIter it a i) where
  mem := by simp
  obj := fun i h st b hb => by
    obtain ⟨⟨old, he⟩, ⟨o, ho, hc, hd⟩⟩ := st
    have e' : b = e ∨ b = it := by simpa using hb
    rcases e' with z | z
    · rw [z]; exact ⟨_, he, fun v q => nomatch q⟩
    · rw [z]; exact ⟨o, ho, fun v q => by rw [hd] at q; cases q⟩
  keep := fun i h h' st k => by
    obtain ⟨⟨old, he⟩, ⟨o, ho, r⟩⟩ := st
    exact ⟨⟨old, k e (by simp) _ he⟩, ⟨o, k it (by simp) _ ho, r⟩⟩
  item := by
    intro X hP hw hK hc i pins s σ H E I hf st hg
    subst hP hw hK
    obtain ⟨⟨old, he⟩, hit⟩ := st
    obtain ⟨xs, x, hq, hx⟩ := hg
    obtain ⟨its, rv, p, hz⟩ := I.tuple hq
    obtain ⟨u, hu, ru⟩ := rv.get hx
    have hel : e < s.heap.objs.size := Heap.lt_size he
    have hil : it < s.heap.objs.size := by obtain ⟨_, q, _⟩ := hit; exact Heap.lt_size q
    have hlt : i < its.toArray.size := by
      have q := (List.getElem?_eq_some_iff.mp hu).1
      simpa using q
    refine wpAny_pyNext_enum_itemD (Draws.tuple (A := X.A.in1) (I.ok.hd hc) it a hai its.toArray) he ⟨hit, p⟩ hlt hn (by simp [hn]; exact fun z => hae z.symm) fun y h' tk hy ho hst hT hsz hk => ?_
    have hyu : y = u := by
      have q : its.toArray[i]? = some y := hy
      have q2 : its.toArray[i]? = some u := by simpa using hu
      rw [q] at q2
      exact Option.some.inj q2
    subst hyu
    refine ⟨_, rfl, wpAny_letOwnedTupleGo_enum (s := { s with heap := h', toks := tk + 1 }) ho fun h'' he' sb => ?_⟩
    have hT2 : h''.get? s.heap.objs.size = some { cls := .type "tuple", data := .seq #[.int i tk, y] } := (sb.2 _ (Nat.ne_of_gt hel)).trans hT
    have new : ObjOk X.prog X.w (upd H s.heap.objs.size (.tup [.int (i : Nat), x])) h'' s.heap.objs.size (.tup [.int (i : Nat), x]) :=
      ⟨by show 2 ≤ sizeLine; decide, [.int i tk, y], .cons ⟨_, rfl⟩ (.cons ru .nil), ⟨_, hT2, rfl, _, rfl⟩⟩
    have I1 : Inv X pins σ (upd H s.heap.objs.size (.tup [.int (i : Nat), x])) { s with heap := h'', toks := tk + 1 } :=
      I.turnedNew (ch := [e, it]) (fun b ob hb q => (sb.2 b (fun z => hb (by simp [z]))).trans (hk b ob (fun z => hb (by simp [z])) (fun z => hb (by simp [z])) q)) hf (Nat.le_refl _) new
    obtain ⟨oi, hoi, ri⟩ := hst.1
    refine ⟨.ref s.heap.objs.size, _, I1, rfl, ⟨_, x, rfl, I.hok.fresh (Nat.le_refl _), rfl, fun ys hy => by rw [I.tuple_inj hy hq]; exact hx⟩, ⟨⟨y, ?_⟩, ⟨oi, (sb.2 it (Ne.symm hn)).trans hoi, ri⟩⟩, fun b hb => ?_⟩
    · have e1 : ((i + 1 : Nat) : Int) = (i : Int) + 1 := by omega
      rw [e1]; exact he'
    · have hb' : b < s.heap.objs.size := by
        have e' : b = e ∨ b = it := by simpa using hb
        rcases e' with z | z
        · rw [z]; exact hel
        · rw [z]; exact hil
      rw [upd_ne (Nat.ne_of_lt hb')]
      exact (hf b hb).1
  done := by
    intro X hP hw hK hc i pins s σ H E I hf st hg
    subst hP hw hK
    obtain ⟨⟨old, he⟩, hit⟩ := st
    obtain ⟨xs, hq, hx⟩ := hg
    obtain ⟨its, rv, p, hz⟩ := I.tuple hq
    obtain ⟨f0, f1, f2, f3, f4, f5⟩ := hf it (by simp)
    have hl := rv.length
    have hn' : i = its.toArray.size := by simp; omega
    subst hn'
    exact wpAny_pyNext_enum_endD (Draws.tuple (A := X.A.in1) (I.ok.hd hc) it a hai its.toArray) he ⟨hit, p⟩ fun h' eb => ⟨rfl, I.turned (t' := s.toks) (fun b o hb q => eb b o hb q) f0 f1 f3 f4 f5⟩
  self := fun A i s Q E st h => let ⟨⟨_, he⟩, _⟩ := st; wpAny_pyIter_enum he h
def iEnumT (K : PySem.W.Frag) (ta : TA) : TI := fun σ H R => ta σ H fun vs H1 => ∃ a xs, vs = [.ref a] ∧ SqT K H1 a xs ∧ R (IteT K a) H1
theorem pi_enumT {X : Cx} {e : Expr} {ta : TA} {p pos tpos : Pos} {elts : List Expr} {kk : Nat} (hg : Gl X "enumerate") (hm : X.mg "enumerate" = none) (ha : PA X [e] ta) (hs : starEach [e] X.env = [(false, eval e X.env)] := by rfl) :
    PI X (.Tuple elts kk tpos) (.Call (.Name "enumerate" p) [e] [] pos) (iEnumT X.K ta) := by
  refine ⟨fun pins s σ H R I h => ?_⟩
  refine Call_ (ld_blt I hg hm boot_enumerate (PyProof.Rows.callWith_type1 (thn (ha.run pos pins s σ H _ I h) fun us s1 ⟨vs, H1, I1, r1, q1⟩ => ?_) hs rfl))
  obtain ⟨a, xs, ex, hq, q⟩ := q1
  subst ex
  cases r1 with
  | cons r rr =>
    cases rr
    cases r
    obtain ⟨its, rv, p', hz⟩ := I1.tuple hq
    have hal : a < s1.heap.objs.size := by obtain ⟨_, q, _⟩ := p'; exact Heap.lt_size q
    refine enum_begins1 (begins_tuple a its.toArray) (show s1.heap.IsTuple a its.toArray from p') fun h' he hit hsz hk => wpAny_pyIter_enum he ?_
    have I2 : Inv X pins σ H1 { s1 with heap := h' } := I1.kept (t' := s1.toks) hk
    refine ⟨s1.heap.objs.size + 1, [s1.heap.objs.size + 1, s1.heap.objs.size], _, _, H1, rfl, I2, turn_enumT a (s1.heap.objs.size + 1) s1.heap.objs.size (Nat.succ_ne_self _) (Nat.ne_of_lt (Nat.lt_succ_of_lt hal)) (Nat.ne_of_lt hal), ⟨⟨.none, he⟩, ⟨_, hit, rfl, rfl⟩⟩, fun b hb => ?_, q⟩
    have e' : b = s1.heap.objs.size + 1 ∨ b = s1.heap.objs.size := by simpa using hb
    have hle : s1.heap.objs.size ≤ b := by
      rcases e' with z | z
      · rw [z]; exact Nat.le_add_right _ _
      · rw [z]; exact Nat.le_refl _
    exact I1.fpOk hle (I1.hok.fresh hle)
theorem walk_enumT {K : PySem.W.Frag} {a : Addr} {xs : List V} : Walk (IteT K a) xs.length (fun H => SqT K H a xs) (YPair (fun i => some (.int (i : Nat))) (fun i => xs[i]?)) :=
by
  refine ⟨fun i _ hi q => ⟨xs, xs[i], q, by simp [hi]⟩, fun _ q => ⟨xs, q, rfl⟩, fun i H v H' _ q y => ?_⟩
  obtain ⟨T, x, h1, h2, h3, h4⟩ := y
  exact ⟨T, .int (i : Nat), x, h1, h2, h3, rfl, h4 xs q⟩
end L2

set_option Elab.async false
set_option linter.all false
set_option maxRecDepth 100000
set_option maxHeartbeats 4000000
/-! zip of two texts, in a for and in a comprehension -/
namespace L2
open PySem PySem.Spec PyProof.Rows
/-- two texts at once, the signs in new pairs -/
def ItzS (x y : Str) : It :=
  ⟨fun i _ => i < min x.cps.size y.cps.size,
    fun i H v H' => ∃ T c d, v = .ref T ∧ H T = none ∧ H' = upd H T (.tup [.str ⟨#[c]⟩, .str ⟨#[d]⟩]) ∧ x.cps[i]? = some c ∧ y.cps[i]? = some d,
    fun i _ => i = min x.cps.size y.cps.size⟩
theorem turn_zipS {P : Program} {w : World} {K : PySem.W.Frag} {elts : List Expr} {kk : Nat} {tpos : Pos} {x y : Str} {t1 t2 : Tok} {z TI TO i1 i2 : Addr} (D : ZipSep2 z TI TO i1 i2 [i1] [i2]) :
    Turn P w K (.Tuple elts kk tpos) (ItzS x y) [z, TI, TO, i1, i2] z (fun i h => IsZip h z TI TO .none ∧ IsTupOf2 h TI (.ref i1) (.ref i2) ∧ (∃ x y, IsTupOf2 h TO x y) ∧ h.IsStrIter i1 (strIterType x) x t1 i ∧ h.IsStrIter i2 (strIterType y) y t2 i) where
  mem := by simp
  obj := fun i h st c hc => by
    obtain ⟨hz, hTI, ⟨x, y, hTO⟩, ⟨o1, e1, _, d1⟩, ⟨o2, e2, _, d2⟩⟩ := st
    have e' : c = z ∨ c = TI ∨ c = TO ∨ c = i1 ∨ c = i2 := by simpa using hc
    rcases e' with q | q | q | q | q
    · rw [q]; exact ⟨_, hz, fun v q => nomatch q⟩
    · rw [q]; exact ⟨_, hTI, fun v q => nomatch q⟩
    · rw [q]; exact ⟨_, hTO, fun v q => nomatch q⟩
    · rw [q]; exact ⟨o1, e1, fun v q => by rw [d1] at q; cases q⟩
    · rw [q]; exact ⟨o2, e2, fun v q => by rw [d2] at q; cases q⟩
  keep := fun i h h' st k => by
    obtain ⟨hz, hTI, ⟨x, y, hTO⟩, ⟨o1, e1, r1⟩, ⟨o2, e2, r2⟩⟩ := st
    exact ⟨k z (by simp) _ hz, k TI (by simp) _ hTI, ⟨x, y, k TO (by simp) _ hTO⟩, ⟨o1, k i1 (by simp) _ e1, r1⟩, ⟨o2, k i2 (by simp) _ e2, r2⟩⟩
  item := by
    intro X hP hw hK hc i pins s σ H E I hf st hg
    subst hP hw hK
    obtain ⟨hz, hTI, ⟨x0, y0, hTO⟩, h1, h2⟩ := st
    have hg' : i < min x.cps.size y.cps.size := hg
    have hzl : z < s.heap.objs.size := Heap.lt_size hz
    have hd := I.ok.hd hc
    refine wpAny_pyNext_zipD2_item D (Draws.text (A := X.A.in1) hd i1 x t1) (Draws.text (A := X.A.in1) hd i2 y t2) hz hTI hTO h1 h2 (by omega) (by omega) fun u u2 h' tk p1 p2 z' TO' h1' h2' hT hsz hk => ?_
    obtain ⟨c, tc, hcx, rfl⟩ := p1
    obtain ⟨d, td, hdy, rfl⟩ := p2
    refine ⟨_, rfl, wpAny_letOwnedTupleGo_zip (s := { s with heap := h', toks := tk }) z' fun h'' z'' sb => ?_⟩
    have hT2 : h''.get? s.heap.objs.size = some { cls := .type "tuple", data := .seq #[.str ⟨#[c]⟩ tc, .str ⟨#[d]⟩ td] } := (sb.2 _ (Nat.ne_of_gt hzl)).trans hT
    have new : ObjOk X.prog X.w (upd H s.heap.objs.size (.tup [.str ⟨#[c]⟩, .str ⟨#[d]⟩])) h'' s.heap.objs.size (.tup [.str ⟨#[c]⟩, .str ⟨#[d]⟩]) :=
      ⟨by show 2 ≤ sizeLine; decide, [.str ⟨#[c]⟩ tc, .str ⟨#[d]⟩ td], .cons ⟨_, rfl⟩ (.cons ⟨_, rfl⟩ .nil), ⟨_, hT2, rfl, _, rfl⟩⟩
    have I1 : Inv X pins σ (upd H s.heap.objs.size (.tup [.str ⟨#[c]⟩, .str ⟨#[d]⟩])) { s with heap := h'', toks := tk } :=
      I.turnedNew (t' := tk) (ch := [z, TI, TO, i1, i2]) (fun c o hb q => (sb.2 c (fun q' => hb (by simp [q']))).trans (hk c o (fun q' => hb (by simp [q'])) (fun q' => hb (by simp [q'])) (fun q' => hb (by simp [q'])) (fun q' => hb (by simp [q'])) q)) hf (Nat.le_refl _) new
    have nz1 : i1 ≠ z := D.zi1.symm
    have nz2 : i2 ≠ z := D.zi2.symm
    refine ⟨.ref s.heap.objs.size, _, I1, rfl, ⟨_, c, d, rfl, I.hok.fresh (Nat.le_refl _), rfl, hcx, hdy⟩, ⟨z'', ?_, ⟨_, _, (sb.2 _ D.TOz).trans TO'⟩, ?_, ?_⟩, fun c hcm => ?_⟩
    · exact (sb.2 _ D.TIz).trans (hk _ _ D.TIz D.TITO D.TIi1 D.TIi2 hTI)
    · obtain ⟨o, e, r⟩ := h1'
      exact ⟨o, (sb.2 _ nz1).trans e, r⟩
    · obtain ⟨o, e, r⟩ := h2'
      exact ⟨o, (sb.2 _ nz2).trans e, r⟩
    · have hlt : c < s.heap.objs.size := by
        have e' : c = z ∨ c = TI ∨ c = TO ∨ c = i1 ∨ c = i2 := by simpa using hcm
        rcases e' with q | q | q | q | q
        · rw [q]; exact hzl
        · rw [q]; exact Heap.lt_size hTI
        · rw [q]; exact Heap.lt_size hTO
        · rw [q]; obtain ⟨_, e1, _⟩ := h1; exact Heap.lt_size e1
        · rw [q]; obtain ⟨_, e2, _⟩ := h2; exact Heap.lt_size e2
      rw [upd_ne (Nat.ne_of_lt hlt)]
      exact (hf c hcm).1
  done := by
    intro X hP hw hK hc i pins s σ H E I hf st hg
    subst hP hw hK
    obtain ⟨hz, hTI, ⟨x0, y0, hTO⟩, h1, h2⟩ := st
    have hg' : i = min x.cps.size y.cps.size := hg
    have hd := I.ok.hd hc
    exact wpAny_pyNext_zipD2_end D (Draws.text (A := X.A.in1) hd i1 x t1) (Draws.text (A := X.A.in1) hd i2 y t2) hz hTI hTO h1 h2 (by omega) (by omega) (by omega) fun h' tk hk => ⟨rfl, I.turnedL (t' := tk) (ch := [z, TI, TO, i1, i2]) (fun c o hb q =>
      hk c o (fun q' => hb (by simp [q'])) (fun q' => hb (by simp [q'])) (fun q' => hb (by simp [q'])) (fun q' => hb (by simp [q'])) q) hf⟩
  self := fun A i s Q E st h => wpAny_pyIter_zip st.1 h
def iZipS (ta : TA) : TI := fun σ H R => ta σ H fun vs H1 => ∃ x y, vs = [.str x, .str y] ∧ R (ItzS x y) H1
theorem pi_zipS {X : Cx} {e e2 : Expr} {ta : TA} {p pos tpos : Pos} {elts : List Expr} {kk : Nat} (hg : Gl X "zip") (hm : X.mg "zip" = none) (ha : PA X [e, e2] ta)
    (hs : starEach [e, e2] X.env = (false, eval e X.env) :: starEach [e2] X.env := by rfl) (hpl : (backTo pos (starEach [e2] X.env)).any (·.1) = false := by rfl) :
    PI X (.Tuple elts kk tpos) (.Call (.Name "zip" p) [e, e2] [] pos) (iZipS ta) := by
  refine ⟨fun pins s σ H R I h => ?_⟩
  refine Call_ (ld_blt I hg hm PyProof.Rows.boot_zip (PyProof.Rows.callWith_type1 (thn (ha.run pos pins s σ H _ I h) fun us s1 ⟨vs, H1, I1, r1, q1⟩ => ?_) hs hpl))
  obtain ⟨x, y, ex, q⟩ := q1
  subst ex
  cases r1 with
  | cons r rr =>
    cases rr with
    | cons r' rr =>
      cases rr
      obtain ⟨t1, rfl⟩ := r
      obtain ⟨t2, rfl⟩ := r'
      refine zip_begins2 (begins_text x t1) (begins_text y t2) trivial trivial fun h' hz hTI hTO h1 h2 hsz hk => wpAny_pyIter_zip hz ?_
      have I2 : Inv X pins σ H1 { s1 with heap := h' } := I1.kept (t' := s1.toks) hk
      generalize hn : s1.heap.objs.size = n at hz hTI hTO h1 h2 hsz ⊢
      have D : ZipSep2 (n + 4) (n + 2) (n + 3) n (n + 1) [n] [n + 1] := by constructor <;> simp <;> omega
      refine ⟨n + 4, [n + 4, n + 2, n + 3, n, n + 1], _, _, H1, rfl, I2, turn_zipS (t1 := t1) (t2 := t2) D, ⟨hz, hTI, ⟨_, _, hTO⟩, ⟨_, h1, rfl, rfl⟩, ⟨_, h2, rfl, rfl⟩⟩, fun c hcm => ?_, q⟩
      have e' : c = n + 4 ∨ c = n + 2 ∨ c = n + 3 ∨ c = n ∨ c = n + 1 := by simpa using hcm
      have hle : s1.heap.objs.size ≤ c := by
        rw [hn]
        rcases e' with q | q | q | q | q
        · rw [q]; exact Nat.le_add_right _ _
        · rw [q]; exact Nat.le_add_right _ _
        · rw [q]; exact Nat.le_add_right _ _
        · rw [q]; exact Nat.le_refl _
        · rw [q]; exact Nat.le_add_right _ _
      exact I1.fpOk hle (I1.hok.fresh hle)
end L2

set_option Elab.async false
set_option linter.all false
set_option maxRecDepth 100000
set_option maxHeartbeats 4000000
/-! a call by keywords alone; a text times a number -/
namespace L2
open PySem PySem.Spec PyProof.Rows
theorem Fun.kbinds {K : PySem.W.Frag} {x qual : Str} {st : Stmt} {f : Addr} {fd : FuncData} {ps ks : List Str} (F : Fun K x qual st f fd) (g : {α : Type} → List α → List α)
    (h : ∀ (kV doc pm : Value) (an : Option Addr) (cdv ct : Value) (ws : List Value), ws.length = ks.length → bindArgs (PySem.W.fnOf x qual (defArgs st) (defBody st) (defScope st) .none kV doc pm an cdv ct) ⟨[], ks.zip ws⟩ = pure (ps.zip (g ws)))
    (hrel : ∀ {zs : List V} {ws : List Value}, Vals zs ws → Vals (g zs) (g ws)) : KBn K fd ps 0 ks (fun _ ws => g ws) (fun _ zs => g zs) := by
  obtain ⟨oc, od, kV, doc, pm, an, cdv, ct, osl, rfl, lk, hcd⟩ := F.ex
  refine ⟨fun s us ws _ h0 hl => ?_, fun _ r => hrel r⟩
  cases us with
  | nil => exact BindsTo.of_eq (h kV doc pm an cdv ct ws hl)
  | cons a r => cases h0
section
variable {X : Cx} {CX : CXT} {k : Nat} {f : Addr} {fd : FuncData} {ps ks : List Str} {sp : Sp} {E : XK} {x : Str} {p pos : Pos} {kws : List Keyword} {tk : TA} {g : List Value → List Value → List Value} {gV : List V → List V → List V}
theorem pe_callN0 (F : FnOk X.prog X.w X.K X.mg X.base CX k f fd ps sp) (hr : Room k X.A) (hg : Gl X x) (hm : X.mg x = some (.ref f)) (hk : PySem.W.keepIn X.K (.ref f) = true) (hb : KBn X.K fd ps 0 ks g gV) (hx : Passes CX X E)
    (hkw : PK X kws tk) (hall : (backToKw pos (keywordEach kws X.env)).all (·.1.isSome) = true := by rfl) (hks : (backToKw pos (keywordEach kws X.env)).filterMap (·.1) = ks := by rfl)
    (hdb : (x == ("__debug__" : Str)) = false := by decide)
    (hpl : ((backTo pos (starEach [] X.env)).any (·.1) || (backToKw pos (keywordEach kws X.env)).any (·.1.isNone)) = false := by rfl) :
    PE X (.Call (.Name x p) [] kws pos) (tCallN 0 ks.length sp gV E tNil tk) := by
  refine ⟨fun pins s σ H Q I h => ?_⟩
  refine wpAny_Call_Name_kw (ld_glob I hg hm ?_ hdb)
  refine PySem.W.callWith_KW0 (h₀ := X.base) I.ok.mod.kin hk hall ?_ hpl
  refine thn (hkw.run pos pins s σ H _ I h) fun ws s2 ⟨zs, H2, I2, rz, l1, l2, q2⟩ => ⟨I2.kIn, ?_⟩
  rw [hks]
  exact run_fnN (us := []) (vs := []) F hr hb hx I2 .nil rz rfl l2 q2
theorem op_mul_str : OpR X (binaryOp .Mult) (fun x y H Q => ∃ z n, x = .str z ∧ y = .int n ∧ z.length ≤ 16 ∧ -(2 ^ 63 : Int) ≤ n ∧ n ≤ 1048576 ∧ Q (.str (Txt.mul z n)) H) := by
  intro pins s σ H x y v u Q I rx ry h
  obtain ⟨z, n, rfl, rfl, h1, h2, h3, q⟩ := h
  obtain ⟨t, rfl⟩ := rx
  obtain ⟨t', rfl⟩ := ry
  exact SB.mul (mulOk_of 16 1048576 h1 h3 h2 (by decide) (by decide)) fun t' tk => ⟨.str _, H, I.tok _, ⟨_, rfl⟩, q⟩
end
end L2

set_option Elab.async false
set_option linter.all false
set_option maxRecDepth 100000
/-! the rules whose reading names the written part, with that part a letter of its own (within a comprehension the place's own name of it can't be found by unification) -/
namespace L2
open PySem PySem.Spec PyProof.Rows
variable {X : Cx} {K : PySem.W.Frag}
theorem ix_listK (h : X.K = K) : IxR X (rIxL K) := by subst h; exact ix_list
theorem ix_tupK (h : X.K = K) : IxR X (rIxT K) := by subst h; exact ix_tup
theorem call_tuple_ofK (h : X.K = K) : CallR X (.type "tuple") (fun xs H Q => ∃ p ys, xs = [.ref p] ∧ ((SqL K H p ys ∧ ∀ l, H l = none → Q (.ref l) (upd H l (.tup ys))) ∨ (SqT K H p ys ∧ Q (.ref p) H))) := by subst h; exact call_tuple_of
theorem call_list_ofK (h : X.K = K) : CallR X (.type "list") (fun xs H Q => ∃ p ys, xs = [.ref p] ∧ (SqL K H p ys ∨ SqT K H p ys) ∧ ∀ l, H l = none → Q (.ref l) (upd H l (.lst ys))) := by subst h; exact call_list_of
theorem call_len_seqK (h : X.K = K) : CallR X (.builtin "len") (fun xs H Q => ∃ p ys, xs = [.ref p] ∧ (SqL K H p ys ∨ SqT K H p ys) ∧ Q (.int ys.length) H) := by subst h; exact call_len_seq
theorem call_isiK' (h : X.K = K) : CallR X (.builtin "isinstance") (rIsi K) := by subst h; exact call_isi
theorem call_isiTK (h : X.K = K) : CallR X (.builtin "isinstance") (rIsiT K) := by subst h; exact call_isiT
theorem sl_listK (h : X.K = K) : SlR X (rSlL K) := by subst h; exact sl_list
theorem cr_allK (h : X.K = K) (hc : X.calm = true) : CallR X (.builtin "all") (rAll K) := by subst h; exact cr_all hc
theorem cr_anyK (h : X.K = K) (hc : X.calm = true) : CallR X (.builtin "any") (rAny K) := by subst h; exact cr_any hc
theorem cr_sumK (h : X.K = K) (hc : X.calm = true) : CallR X (.builtin "sum") (rSum K) := by subst h; exact cr_sum hc
end L2


set_option Elab.async false
set_option linter.all false
set_option maxRecDepth 100000
set_option maxHeartbeats 4000000
/-! sorted of lists of tuples of ints and texts, and of texts, of any length: one total order -/
namespace SrtC
open PySem PySem.Spec PyProof.Rows Srt SrtO L2
/-! ### the order of texts and cells -/
def sLt (x y : Str) : Bool := decide (x.cps.toList < y.cps.toList)
theorem str_ext {x y : Str} (h : x.cps.toList = y.cps.toList) : x = y := by
  cases x; cases y
  exact congrArg _ (Array.toList_inj.mp h)
theorem sLt_irr (x : Str) : sLt x x = false := decide_eq_false (List.lt_irrefl _)
theorem sLt_trans {x y z : Str} (h1 : sLt x y = true) (h2 : sLt y z = true) : sLt x z = true :=
  decide_eq_true (List.lt_trans (of_decide_eq_true h1) (of_decide_eq_true h2))
theorem sLt_tri {x y : Str} (h1 : sLt x y = false) (h2 : sLt y x = false) : x = y := by
  have a := List.not_lt.mp (of_decide_eq_false h1)
  have b := List.not_lt.mp (of_decide_eq_false h2)
  exact str_ext (List.le_antisymm b a)
def cLt : Key → Key → Bool
  | .inl a, .inl b => decide (a < b)
  | .inl _, .inr _ => true
  | .inr _, .inl _ => false
  | .inr x, .inr y => sLt x y
theorem cLt_irr (x : Key) : cLt x x = false := by
  cases x with
  | inl a => exact decide_eq_false (Int.lt_irrefl a)
  | inr x => exact sLt_irr x
theorem cLt_trans {x y z : Key} (h1 : cLt x y = true) (h2 : cLt y z = true) : cLt x z = true := by
  cases x with
  | inl a =>
    cases z with
    | inr c => rfl
    | inl c =>
      cases y with
      | inl b => exact decide_eq_true (Int.lt_trans (of_decide_eq_true h1) (of_decide_eq_true h2))
      | inr b => cases h2
  | inr a =>
    cases y with
    | inl b => cases h1
    | inr b =>
      cases z with
      | inl c => cases h2
      | inr c => exact sLt_trans h1 h2
theorem cLt_tri {x y : Key} (h1 : cLt x y = false) (h2 : cLt y x = false) : x = y := by
  cases x with
  | inl a =>
    cases y with
    | inl b =>
      have p : ¬ a < b := of_decide_eq_false h1
      have q : ¬ b < a := of_decide_eq_false h2
      exact congrArg _ (by omega)
    | inr b => cases h1
  | inr a =>
    cases y with
    | inl b => cases h2
    | inr b => exact congrArg _ (sLt_tri h1 h2)
def lexC : List Key → List Key → Bool
  | [], [] => false
  | [], _ :: _ => true
  | _ :: _, [] => false
  | x :: xs, y :: ys => if x = y then lexC xs ys else cLt x y
theorem lexC_irr : ∀ x : List Key, lexC x x = false
  | [] => rfl
  | x :: xs => by
    show (if x = x then lexC xs xs else cLt x x) = false
    rw [if_pos rfl]
    exact lexC_irr xs
theorem lexC_trans : ∀ {x y z : List Key}, lexC x y = true → lexC y z = true → lexC x z = true
  | [], [], [], h1, _ => nomatch h1
  | [], _ :: _, [], _, h2 => nomatch h2
  | [], _, _ :: _, _, _ => rfl
  | _ :: _, [], _, h1, _ => by cases h1
  | _ :: _, _ :: _, [], _, h2 => by cases h2
  | x :: xs, y :: ys, z :: zs, h1, h2 => by
    have e1 : (if x = y then lexC xs ys else cLt x y) = true := h1
    have e2 : (if y = z then lexC ys zs else cLt y z) = true := h2
    show (if x = z then lexC xs zs else cLt x z) = true
    by_cases a : x = y
    · subst a
      rw [if_pos rfl] at e1
      by_cases b : x = z
      · rw [if_pos b] at e2 ⊢
        exact lexC_trans e1 e2
      · rw [if_neg b] at e2 ⊢
        exact e2
    · rw [if_neg a] at e1
      by_cases b : y = z
      · subst b
        rw [if_neg a]
        exact e1
      · rw [if_neg b] at e2
        have t := cLt_trans e1 e2
        have n : ¬ x = z := fun q => by
          subst q
          rw [cLt_irr] at t
          cases t
        rw [if_neg n]
        exact t
theorem lexC_tri : ∀ {x y : List Key}, lexC x y = false → lexC y x = false → x = y
  | [], [], _, _ => rfl
  | [], _ :: _, h1, _ => by cases h1
  | _ :: _, [], _, h2 => by cases h2
  | x :: xs, y :: ys, h1, h2 => by
    have e1 : (if x = y then lexC xs ys else cLt x y) = false := h1
    have e2 : (if y = x then lexC ys xs else cLt y x) = false := h2
    by_cases a : x = y
    · subst a
      rw [if_pos rfl] at e1 e2
      rw [lexC_tri e1 e2]
    · rw [if_neg a] at e1
      rw [if_neg (fun q => a q.symm)] at e2
      exact absurd (cLt_tri e1 e2) a
/-- an order with these three is a strict weak one -/
theorem swo_of {α : Type} {lt : α → α → Bool} (irr : ∀ x, lt x x = false) (tr : ∀ x y z, lt x y = true → lt y z = true → lt x z = true) (tri : ∀ x y, lt x y = false → lt y x = false → lt x = lt y) : Swo lt := by
  have asym : ∀ x y, lt x y = true → lt y x = false := fun x y h => by
    rcases bcase (lt y x) with q | q
    · have t := tr _ _ _ h q
      rw [irr] at t
      cases t
    · exact q
  refine ⟨asym, fun x y z h1 h2 => ?_⟩
  rcases bcase (lt z x) with q | q
  · rcases bcase (lt x y) with p | p
    · have t := tr _ _ _ q p
      rw [h2] at t
      cases t
    · have e := tri _ _ p h1
      rcases bcase (lt y z) with r | r
      · have t := tr _ _ _ r q
        rw [h1] at t
        cases t
      · have e2 := tri _ _ h2 r
        have e3 : lt z x = lt y x := congrFun e2 x
        rw [q, h1] at e3
        cases e3
  · exact q
theorem swo_lexC {α : Type} (k : α → List Key) : Swo fun u v : α => lexC (k u) (k v) :=
  swo_of (fun x => lexC_irr _) (fun x y z h1 h2 => lexC_trans h1 h2) (fun x y h1 h2 => by
    have e := lexC_tri h1 h2
    funext z
    show lexC (k x) (k z) = lexC (k y) (k z)
    rw [e])
/-- the same things in a row that ascends stand in one way -/
theorem srtd_uniq {α : Type} {lt : α → α → Bool} (tri : ∀ x y, lt x y = false → lt y x = false → x = y) {l m : List α} (h1 : Srtd lt l) (h2 : Srtd lt m) (p : l.Perm m) : l = m :=
  List.Perm.eq_of_pairwise (fun a b _ _ h h' => tri a b h' h) h1 h2 p

/-! ### tuples of cells compare as lexC says -/
section
variable {prog : Program} {w : World} {A : Around} {E : Value → Shared → Prop} {s : Shared}
theorem one_int {b : Bool} {x y : Int} {t u : Tok} {Q : Bool → Shared → Prop} (h : Q (decide (x < y)) s) : wpAny (model prog w) A (oneLt' b (.int x t) (.int y u)) Q E s := by
  cases b with
  | true => exact oneLt_int h
  | false => exact PySem.W.kat_one _ _ (PyProof.Rows.lt_int h)
theorem one_str {b : Bool} {x y : Str} {t u : Tok} {Q : Bool → Shared → Prop} (h : Q (sLt x y) s) : wpAny (model prog w) A (oneLt' b (.str x t) (.str y u)) Q E s := by
  cases b with
  | true => exact oneLt_str h
  | false => exact PySem.W.kat_one _ _ (PyProof.Rows.lt_str h)
theorem lex_same (x : Key) (xs ys : List Key) : lexC (x :: xs) (x :: ys) = lexC xs ys := if_pos rfl
theorem lex_diff {x y : Key} (h : ¬ x = y) (xs ys : List Key) : lexC (x :: xs) (y :: ys) = cLt x y := if_neg h
theorem lex_go : ∀ (cs ds : List Key) (xs ys : List Value) (i : Nat) (r0 : Bool), Vals (cs.map kV) xs → Vals (ds.map kV) ys → cs.map Sum.isLeft = ds.map Sum.isLeft → r0 = lexC cs ds →
    PySem.W.KatLex prog w A true false (fun r s' => s' = s ∧ r = r0) (xs.zip ys) i s
  | [], [], _, _, i, r0, .nil, .nil, _, hr => PySem.W.kat_nil ⟨rfl, hr.symm⟩
  | [], _ :: _, _, _, _, _, _, _, hs, _ => by cases hs
  | _ :: _, [], _, _, _, _, _, _, hs, _ => by cases hs
  | .inl a :: cs, .inl b :: ds, x :: xs, y :: ys, i, r0, .cons rx tx, .cons ry ty, hs, hr => by
    obtain ⟨t, rfl⟩ := rx
    obtain ⟨u, rfl⟩ := ry
    have hs' : cs.map Sum.isLeft = ds.map Sum.isLeft := by simpa using hs
    refine PySem.W.kat_cons (SeqAt.EqAt.int_int a t b u prog w _ _ (PySem.W.kat_go (fun e => PySem.W.kat_yes ?_) (fun e => PySem.W.kat_no (one_int ⟨rfl, ?_⟩))))
    · have e : a = b := by simpa using e
      subst e
      exact lex_go cs ds xs ys (i + 1) r0 tx ty hs' (by rw [hr, lex_same])
    · have e : ¬ a = b := by simpa using e
      rw [hr, lex_diff (fun q => e (Sum.inl.inj q))]
      rfl
  | .inr a :: cs, .inr b :: ds, x :: xs, y :: ys, i, r0, .cons rx tx, .cons ry ty, hs, hr => by
    obtain ⟨t, rfl⟩ := rx
    obtain ⟨u, rfl⟩ := ry
    have hs' : cs.map Sum.isLeft = ds.map Sum.isLeft := by simpa using hs
    refine PySem.W.kat_cons (SeqAt.EqAt.str_str a t b u prog w _ _ (PySem.W.kat_go (fun e => PySem.W.kat_yes ?_) (fun e => PySem.W.kat_no (one_str ⟨rfl, ?_⟩))))
    · have e : a = b := by simpa using e
      subst e
      exact lex_go cs ds xs ys (i + 1) r0 tx ty hs' (by rw [hr, lex_same])
    · have e : ¬ a = b := by simpa using e
      rw [hr, lex_diff (fun q => e (Sum.inr.inj q))]
      rfl
  | .inl a :: cs, .inr b :: ds, _, _, _, _, _, _, hs, _ => by simp at hs
  | .inr a :: cs, .inl b :: ds, _, _, _, _, _, _, hs, _ => by simp at hs
/-- v is a tuple of these cells -/
def IsC (h : Heap) (v : Value) (cs : List Key) : Prop := ∃ a its, v = .ref a ∧ Vals (cs.map kV) its ∧ IsTup h a its.toArray
theorem IsC.keeps {h h' : Heap} {v : Value} {cs : List Key} (x : IsC h v cs) (k : ∀ b o, h.get? b = some o → o.cls = .type "tuple" → h'.get? b = some o) : IsC h' v cs := by
  obtain ⟨a, its, e, r, o, ho, hc, hd⟩ := x
  exact ⟨a, its, e, r, o, k _ _ ho hc, hc, hd⟩
theorem cells_cmp {vs : List Value} {k : Value → List Key} {S : List Bool} (hp : ∀ v ∈ vs, IsC s.heap v (k v) ∧ (k v).map Sum.isLeft = S) : Cmp prog w A s (tuples' true) (fun p => p.1 ∈ vs) (lt2 fun v u => lexC (k v) (k u)) := by
  intro p q hm hm'
  obtain ⟨⟨a, its, e, r, o, ho, hc, n, hd⟩, h1⟩ := hp _ hm
  obtain ⟨⟨a', its', e', r', o', ho', hc', n', hd'⟩, h2⟩ := hp _ hm'
  show wpAny (model prog w) A (keyLt' (tuples' true) p.1 q.1) (fun r s' => s' = s ∧ r = lexC (k p.1) (k q.1)) (fun _ _ => False) s
  have el : its.length = its'.length := by
    have q1 := congrArg List.length (h1.trans h2.symm)
    rw [List.length_map, List.length_map] at q1
    have q2 := r.length
    have q3 := r'.length
    rw [List.length_map] at q2 q3
    omega
  generalize k p.1 = cs at *
  generalize k q.1 = ds at *
  rw [e, e']
  refine PySem.W.kat_lt ho hd ho' hd' ?_
  have ed : decide (its.toArray.size < its'.toArray.size) = false := decide_eq_false (by simp [el])
  rw [ed]
  exact lex_go cs ds its its' 0 _ r r' (h1.trans h2.symm) rfl
theorem firstsC {h : Heap} {k : Value → List Key} {b : Bool} {S : List Bool} : ∀ {vs : List Value}, (∀ v ∈ vs, IsC h v (k v) ∧ (k v).map Sum.isLeft = b :: S) → ∃ fs : List Value, PySem.W.KatTups h vs fs ∧ fs.length = vs.length ∧
    ∀ f ∈ fs, (b = true ∧ ∃ x t, f = Value.int x t) ∨ (b = false ∧ ∃ x t, f = Value.str x t)
  | [], _ => ⟨[], PySem.W.KatTups.nil, rfl, fun _ hm => by simp at hm⟩
  | v :: vs, hp => by
    obtain ⟨fs, h1, h2, h3⟩ := firstsC (vs := vs) fun v' hm => hp v' (List.mem_cons_of_mem _ hm)
    obtain ⟨⟨a, its, e, r, o, ho, hc, n, hd⟩, hs⟩ := hp v (List.mem_cons_self ..)
    subst e
    generalize k (.ref a) = cs at *
    cases cs with
    | nil => cases hs
    | cons c cs =>
      match its, r with
      | u :: us, .cons rx tx =>
        refine ⟨u :: fs, PySem.W.KatTups.cons ho hc hd rfl h1, by rw [List.length_cons, List.length_cons, h2], fun f hm => ?_⟩
        rcases List.mem_cons.mp hm with rfl | hm
        · have hb : Sum.isLeft c = b := by
            have := congrArg List.head? hs
            simpa using this
          cases c with
          | inl x =>
            obtain ⟨t, rfl⟩ := rx
            exact .inl ⟨hb.symm, x, t, rfl⟩
          | inr x =>
            obtain ⟨t, rfl⟩ := rx
            exact .inr ⟨hb.symm, x, t, rfl⟩
        · exact h3 f hm
theorem cells_sortable {a : Addr} {vs : List Value} {k : Value → List Key} {b : Bool} {S : List Bool} (h0 : 0 < vs.length) (hp : ∀ v ∈ vs, IsC s.heap v (k v) ∧ (k v).map Sum.isLeft = b :: S) (ha : ∀ o, s.heap.get? a = some o → o.cls ≠ .type "tuple") :
    SortableO prog w A s a vs fun v u => lexC (k v) (k u) := by
  intro h' keep
  have hp' : ∀ v ∈ vs, IsC h' v (k v) ∧ (k v).map Sum.isLeft = b :: S := fun v hm => ⟨(hp v hm).1.keeps fun b o e c => keep b o (fun z => by subst z; exact ha o e c) e, (hp v hm).2⟩
  obtain ⟨fs, h1, h2, h3⟩ := firstsC hp'
  refine ⟨tuples' true, fun Q E hq => ?_, cells_cmp hp'⟩
  cases b with
  | true =>
    refine PySem.W.kat_kind (T := .type "int") h1 (by omega) (fun f hm => ?_) (by rfl) ?_
    · rcases h3 f hm with ⟨_, x, t, rfl⟩ | ⟨z, _⟩
      · exact PySem.W.Looks.now
      · cases z
    · have e : (Value.type "int" != Value.type "tuple") = true := by first | decide +kernel | rfl | decide
      rw [e]
      exact hq
  | false =>
    refine PySem.W.kat_kind (T := .type "str") h1 (by omega) (fun f hm => ?_) (by rfl) ?_
    · rcases h3 f hm with ⟨z, _⟩ | ⟨_, x, t, rfl⟩
      · cases z
      · exact PySem.W.Looks.now
    · have e : (Value.type "str" != Value.type "tuple") = true := by first | decide +kernel | rfl | decide
      rw [e]
      exact hq
theorem sorted_cells {l : Addr} {vs : List Value} {k : Value → List Key} {b : Bool} {S : List Bool} {Q : Value → Shared → Prop} (hl : s.heap.IsList l vs.toArray) (hz : vs.length ≤ sizeLine) (hp : ∀ v ∈ vs, IsC s.heap v (k v) ∧ (k v).map Sum.isLeft = b :: S)
    (h : ∀ (h' : Heap) (d : Addr) (out : List Value), Srtd (fun v u => lexC (k v) (k u)) out → Stb (fun v u => lexC (k v) (k u)) out vs → (∀ b o, s.heap.get? b = some o → h'.get? b = some o) → s.heap.objs.size ≤ d → (∃ n, h'.get? d = some (seqObj "list" out.toArray n)) → Q (.ref d) { s with heap := h' }) :
    wpAny (model prog w) A (call (.builtin "sorted") [.ref l]) Q E s := by
  refine sorted_ord (swo_lexC k) hl hz (fun h2 h₁ a ha kk => ?_) fun out hs hb => ?_
  · refine cells_sortable (s := { s with heap := h₁ }) (by omega) (fun v hm => ⟨(hp v hm).1.keeps fun b o e _ => (kk b o e).2, (hp v hm).2⟩) fun o e => ?_
    obtain rfl : o = seqObj "list" vs.toArray 0 := Option.some.inj (e.symm.trans ha)
    intro c
    exact absurd (Value.type.inj c) (by decide)
  · exact h _ _ out hs hb (fun b o e => sortedAll_old e) (Nat.le_succ _) (sortedAll_at s.heap vs out.toArray)
/-! ### texts -/
def tv : Value → Str
  | .str x _ => x
  | _ => Str.empty
def ltTv (v u : Value) : Bool := sLt (tv v) (tv u)
theorem swo_tv : Swo ltTv := swo_of (fun x => sLt_irr _) (fun x y z h1 h2 => sLt_trans h1 h2) (fun x y h1 h2 => by
    have e := sLt_tri h1 h2
    funext z
    show sLt (tv x) (tv z) = sLt (tv y) (tv z)
    rw [e])
theorem strs_mem : ∀ {vs : List Value} {ss : List Str}, StrsAre vs ss → ∀ v ∈ vs, ∃ x t, v = Value.str x t
  | _, _, .nil, v, h => absurd h (by simp)
  | _, _, .cons x t r, v, h => by
    rcases List.mem_cons.mp h with e | h
    · exact ⟨x, t, e⟩
    · exact strs_mem r v h
theorem strs_tv : ∀ {vs : List Value}, (∀ v ∈ vs, ∃ x t, v = Value.str x t) → StrsAre vs (vs.map tv)
  | [], _ => .nil
  | v :: vs, h => by
    obtain ⟨x, t, e⟩ := h v List.mem_cons_self
    subst e
    exact .cons x t (strs_tv fun u hu => h u (List.mem_cons_of_mem _ hu))
theorem tv_strs : ∀ {vs : List Value} {ss : List Str}, StrsAre vs ss → vs.map tv = ss
  | _, _, .nil => rfl
  | _, _, .cons x t r => congrArg (x :: ·) (tv_strs r)
theorem str_cmp {vs : List Value} {ss : List Str} (hI : StrsAre vs ss) : Cmp prog w A s oneType' (fun p => p.1 ∈ vs) (lt2 ltTv) := by
  intro p q hm hm'
  obtain ⟨a, t, e⟩ := strs_mem hI _ hm
  obtain ⟨b, u, e'⟩ := strs_mem hI _ hm'
  show wpAny (model prog w) A (keyLt' oneType' p.1 q.1) (fun r s' => s' = s ∧ r = ltTv p.1 q.1) (fun _ _ => False) s
  rw [e, e', keyLt'_oneType]
  exact oneLt_str ⟨rfl, rfl⟩
theorem strs_sortable {a : Addr} {vs : List Value} {ss : List Str} (hI : StrsAre vs ss) (h2 : 2 ≤ vs.length) : SortableO prog w A s a vs ltTv := by
  intro h' _
  refine ⟨oneType', fun Q E hq => ?_, str_cmp hI⟩
  match vs, hI, h2 with
  | v1 :: v2 :: rest, hI, _ =>
    rw [keyKind_strs hI]
    exact wpAny_pure hq
  | [], _, h => exact absurd h (by decide)
  | [v], _, h => exact absurd h (by simp)
/-- ascending texts -/
def Asc (ss : List Str) : Prop := ss.Pairwise fun x y => sLt y x = false
theorem strs_out {vs out : List Value} {ss : List Str} (hI : StrsAre vs ss) (hs : Srtd ltTv out) (hb : Stb ltTv out vs) : StrsAre out (out.map tv) ∧ (out.map tv).Perm ss ∧ Asc (out.map tv) := by
  refine ⟨strs_tv fun v hv => strs_mem hI v (hb.perm.mem_iff.mp hv), ?_, ?_⟩
  · have q := hb.perm.map tv
    rw [tv_strs hI] at q
    exact q
  · exact List.pairwise_map.mpr hs
end
end SrtC
namespace L2
open PySem PySem.Spec PyProof.Rows
section
variable {X : Cx}
/-- sorted(xs), xs a list of tuples of ints and texts that stand in the same columns (k says which): a new list, ascending -/
def rSortedC (K : PySem.W.Frag) : List V → Hp → VK → Prop := fun vs H Q => ∃ (a : Addr) (xs : List V) (k : V → List Key) (b : Bool) (S : List Bool), vs = [V.ref a] ∧ SqL K H a xs ∧ (∀ x ∈ xs, ∃ t, x = V.ref t ∧ SqT K H t ((k x).map kV) ∧ (k x).map Sum.isLeft = b :: S) ∧
  ∀ ys p, SrtO.Srtd (fun x y => SrtC.lexC (k x) (k y)) ys → ys.Perm xs → H p = none → Q (.ref p) (upd H p (.lst ys))
theorem cr_sortedC : CallR X (.builtin "sorted") (rSortedC X.K) := by
  intro pins s σ H vs us Q I r h
  obtain ⟨a, xs, k, b, S, rfl, hs, hx, q⟩ := h
  obtain ⟨its, rv, hl, hz⟩ := I.list hs
  obtain ⟨u, rfl, ru⟩ := vals1 r
  obtain rfl : u = Value.ref a := ru
  obtain ⟨e1, e2⟩ := refs_back rv fun x m => by
    obtain ⟨t, e, _⟩ := hx x m
    exact ⟨t, e⟩
  refine SrtC.sorted_cells (k := fun u => k (backV u)) (b := b) (S := S) hl.isList (by rw [← rv.length]; exact hz) (fun v hv => ?_) fun h' d out h1 h2 kp hd hn => ?_
  · obtain ⟨t, rfl⟩ := e2 v hv
    have hm : V.ref t ∈ xs := by rw [e1]; exact List.mem_map.mpr ⟨_, hv, rfl⟩
    obtain ⟨t', e, ht, hS⟩ := hx _ hm
    cases e
    obtain ⟨its2, r2, hT, _⟩ := I.tuple ht
    exact ⟨⟨t, its2, rfl, r2, hT⟩, hS⟩
  · have h3 : ∀ u ∈ out, ∃ a, u = Value.ref a := fun u hu => e2 u (h2.perm.mem_iff.mp hu)
    obtain ⟨n, hn⟩ := hn
    have hb : (out.map backV).Perm xs := by
      rw [e1]
      exact h2.perm.map backV
    refine ⟨.ref d, upd H d (.lst (out.map backV)), I.laid (t' := s.toks) kp hd ⟨?_, out, n, vals_back h3, hn⟩, rfl, q _ d (List.pairwise_map.mpr h1) hb (I.hok.fresh hd)⟩
    rw [hb.length_eq]
    exact hz
/-- sorted(xs), xs a list of texts of any length -/
def rSortedTx (K : PySem.W.Frag) : List V → Hp → VK → Prop := fun vs H Q => ∃ (a : Addr) (ss : List Str), vs = [V.ref a] ∧ SqL K H a (ss.map V.str) ∧
  ∀ (ys : List Str) (p : Addr), SrtC.Asc ys → ys.Perm ss → H p = none → Q (.ref p) (upd H p (.lst (ys.map V.str)))
theorem strs_of_vals' : ∀ {ss : List Str} {us : List Value}, Vals (ss.map V.str) us → StrsAre us ss
  | [], _, .nil => .nil
  | x :: ss, _, .cons ⟨t, e⟩ r => by
    subst e
    exact .cons x t (strs_of_vals' r)
theorem cr_sortedTx : CallR X (.builtin "sorted") (rSortedTx X.K) := by
  intro pins s σ H vs us Q I r h
  obtain ⟨a, ss, rfl, hs, q⟩ := h
  obtain ⟨its, rv, hl, hz⟩ := I.list hs
  obtain ⟨u, rfl, ru⟩ := vals1 r
  obtain rfl : u = Value.ref a := ru
  have hI := strs_of_vals' rv
  have hz' : its.length ≤ sizeLine := by rw [← rv.length]; exact hz
  refine SrtO.sorted_ord SrtC.swo_tv hl.isList hz' (fun h2 h₁ a ha kk => SrtC.strs_sortable hI h2) fun out h1 h2 => ?_
  obtain ⟨a1, a2, a3⟩ := SrtC.strs_out hI h1 h2
  obtain ⟨ep, he'⟩ := sortedAll_at s.heap its out.toArray
  have hlen : ((out.map SrtC.tv).map V.str).length ≤ sizeLine := by
    rw [List.length_map, a2.length_eq, ← List.length_map (f := V.str)]
    exact hz
  exact ⟨.ref _, upd H (s.heap.objs.size + 1) (.lst ((out.map SrtC.tv).map V.str)), I.laid (t' := s.toks) (fun _ _ => sortedAll_old) (Nat.le_succ _) ⟨hlen, out, ep, vals_of_strs a1, he'⟩, rfl, q _ _ a3 a2 (I.hok.fresh (Nat.le_succ _))⟩
end
end L2

set_option Elab.async false
set_option linter.all false
set_option maxRecDepth 100000
set_option maxHeartbeats 4000000
/-! sorted(texts, key=len): shorter ones first, equal ones in their order -/
namespace SrtK
open PySem PySem.Spec PyProof.Rows Srt SrtO L2 SrtC
def tl (v : Value) : Int := ((tv v).length : Int)
def ltLen (v u : Value) : Bool := decide (tl v < tl u)
theorem swo_len : Swo ltLen := by
  refine ⟨fun x y h => ?_, fun x y z h1 h2 => ?_⟩
  · have a : tl x < tl y := of_decide_eq_true h
    exact decide_eq_false (by omega)
  · have a : ¬ tl y < tl x := of_decide_eq_false h1
    have b : ¬ tl z < tl y := of_decide_eq_false h2
    exact decide_eq_false (by omega)
def ltK (p q : Keyed) : Bool := ltIv p.1 q.1
theorem swo_key : Swo ltK := ⟨fun x y h => swo_int.asym _ _ h, fun x y z h1 h2 => swo_int.tr _ _ _ h1 h2⟩
section
variable {prog : Program} {w : World} {A : Around} {E : Value → Shared → Prop} {s : Shared} {a kS : Addr} {vs : List Value} {ss : List Str} {R : PySem.Fin → Shared → Prop}
/-- the keys that stand with the items -/
def Keys (ks : List Value) (vs : List Value) : Prop := IntsAre ks (vs.map tl)
theorem keys_at : ∀ {ks vs : List Value}, Keys ks vs → ∀ p ∈ ks.zip vs, ∃ t, p.1 = Value.int (tl p.2) t
  | [], _, _, p, h => by simp at h
  | _ :: _, [], k, p, h => by simp at h
  | k :: ks, v :: vs, hk, p, h => by
    unfold Keys at hk
    rw [List.map_cons] at hk
    cases hk with
    | cons n t r =>
      rcases List.mem_cons.mp (by simpa using h) with e | h
      · rw [e]; exact ⟨t, rfl⟩
      · exact keys_at r p h
theorem keys_len {ks vs : List Value} (h : Keys ks vs) : ks.length = vs.length := by
  have := h.length
  rw [List.length_map] at this
  exact this
theorem out_len {ks vs : List Value} {out : List Keyed} (hk : Keys ks vs) (h1 : Srtd ltK out) (h2 : Stb ltK out (ks.zip vs)) : Srtd ltLen (out.map (·.2)) ∧ Stb ltLen (out.map (·.2)) vs := by
  have ez : (ks.zip vs).map (fun p : Keyed => p.2) = vs := List.map_snd_zip (Nat.le_of_eq (keys_len hk).symm)
  have key : ∀ p ∈ out, ∃ t, p.1 = Value.int (tl p.2) t := fun p hp => keys_at hk p (h2.perm.mem_iff.mp hp)
  have lt_eq : ∀ {p q : Keyed}, (∃ t, p.1 = Value.int (tl p.2) t) → (∃ t, q.1 = Value.int (tl q.2) t) → ltK p q = ltLen p.2 q.2 := by
    rintro p q ⟨t, e⟩ ⟨u, e'⟩
    unfold ltK ltIv ltLen
    rw [e, e']
    rfl
  refine ⟨?_, ?_⟩
  · refine List.pairwise_map.mpr (List.Pairwise.imp_of_mem (fun {p q} hp hq h => ?_) h1)
    rw [← lt_eq (key q hq) (key p hp)]
    exact h
  · refine ⟨?_, fun x => ?_⟩
    · have := h2.perm.map (fun p : Keyed => p.2)
      rw [ez] at this
      exact this
    · have f : ∀ l : List Keyed, (∀ p ∈ l, ∃ t, p.1 = Value.int (tl p.2) t) → (l.map (fun p : Keyed => p.2)).filter (eqv ltLen x) = (l.filter (eqv ltK (Value.int (tl x) 0, x))).map (fun p : Keyed => p.2) := fun l hl => by
        rw [List.filter_map]
        refine congrArg _ (List.filter_congr fun p hp => ?_)
        show (!ltLen x p.2 && !ltLen p.2 x) = (!ltK (Value.int (tl x) 0, x) p && !ltK p (Value.int (tl x) 0, x))
        rw [lt_eq (p := (Value.int (tl x) 0, x)) ⟨0, rfl⟩ (hl p hp), lt_eq (q := (Value.int (tl x) 0, x)) (hl p hp) ⟨0, rfl⟩]
      have e1 := f out key
      have e2 := f (ks.zip vs) (keys_at hk)
      rw [ez] at e2
      show (out.map (fun p : Keyed => p.2)).filter (eqv ltLen x) = vs.filter (eqv ltLen x)
      rw [e1, e2, h2.cls]
/-- what stands while the keys are made -/
structure Mid (h0 h : Heap) (a kS : Addr) (kA : Array Value) (e1 : Nat) : Prop where
  old : ∀ b o, b ≠ a → h0.get? b = some o → h.get? b = some o
  ks : ∃ e, h.get? kS = some (seqObj "list" kA e)
  li : h.get? a = some (seqObj "list" #[] e1)
theorem end_len {h0 : Heap} {keys : Array Value} {e1 : Nat} (M : Mid h0 s.heap a kS keys e1) (hka : kS ≠ a) (hk0 : h0.get? kS = none) (hk : Keys keys.toList vs) (hz : vs.length ≤ sizeLine)
    (h : ∀ h' tk out c, (∀ b o, b ≠ a → h0.get? b = some o → h'.get? b = some o) → h'.get? a = some (seqObj "list" out c) → Srtd ltLen out.toList → Stb ltLen out.toList vs → R (.done (.ret .none)) { s with heap := h', toks := tk }) :
    wpAny (model prog w) A (ksk_end a false vs.toArray e1 (.ref kS) keys) R E s := by
  have hsz : keys.size = vs.length := by
    have := keys_len hk
    rw [Array.length_toList] at this
    exact this
  have ezl : (keys.zip vs.toArray).toList = keys.toList.zip vs := ksk_zip keys vs
  have hzs : (keys.zip vs.toArray).size = vs.length := by rw [Array.size_zip, hsz, List.size_toArray, Nat.min_self]
  have sL := sizeLine_eq
  have tail : ∀ st' : SortSt, Srtd ltK (arrOf st').toList → Stb ltK (arrOf st').toList (keys.zip vs.toArray).toList → failedOf st' = none → wpAny (model prog w) A (ksk_tail a false e1 (.ref kS) st') R E s := by
    intro st' h1 h2 hf
    rw [ezl] at h2
    obtain ⟨o1, o2⟩ := out_len hk h1 h2
    obtain ⟨e, he⟩ := M.ks
    have hl : (arrOf st').size = vs.length := by
      have := h2.len
      rw [Array.length_toList, ← ezl, Array.length_toList, hzs] at this
      exact this
    have s1 := Heap.SameBut.update s.heap kS (Obj.mapSeq fun _ => (#[] : Array Value))
    have na1 : (s.heap.update kS (Obj.mapSeq fun _ => (#[] : Array Value))).get? a = some (seqObj "list" #[] e1) := (s1.2 a hka.symm).trans M.li
    have s2 := Heap.SameBut.update (s.heap.update kS (Obj.mapSeq fun _ => (#[] : Array Value))) a (Obj.mapSeq fun _ => (arrOf st').map (·.2))
    obtain ⟨c2, hc2⟩ : ∃ c2, ((s.heap.update kS (Obj.mapSeq fun _ => (#[] : Array Value))).update a (Obj.mapSeq fun _ => (arrOf st').map (·.2))).get? a = some (seqObj "list" ((arrOf st').map (·.2)) c2) := ⟨_, get?_update_seq na1 fun _ => (arrOf st').map (·.2)⟩
    unfold ksk_tail
    try dsimp only
    refine wpAny_bind (listUpdate_at he rfl ?_ (by rw [hsz]; omega) (Nat.zero_le _))
    refine wpAny_bind (wpAny_letGo (wpAny_bind (seqEpoch_at na1 rfl ?_)))
    simp only [Bool.false_eq_true, if_false]
    refine wpAny_bind (listUpdate_at na1 rfl ?_ (Nat.zero_le _) (by rw [Array.size_map, hl]; omega))
    rw [hf]
    simp only [bne_self_eq_false, Bool.false_eq_true, if_false]
    refine wpAny_pure (h _ _ ((arrOf st').map (·.2)) c2 (fun b o hb e => ?_) hc2 ?_ ?_)
    · have hbk : b ≠ kS := fun z => by rw [z, hk0] at e; cases e
      rw [s2.2 b hb, s1.2 b hbk]
      exact M.old b o hb e
    · rw [Array.toList_map]; exact o1
    · rw [Array.toList_map]; exact o2
  unfold ksk_end
  try dsimp only
  simp only [Bool.false_eq_true, if_false]
  by_cases h2 : vs.toArray.size < 2
  · rw [if_pos h2, if_pos h2]
    rw [List.size_toArray] at h2
    refine wpAny_bind (wpAny_pure ?_)
    rw [StateT.run_pure]
    refine wpAny_bind (wpAny_pure ?_)
    try dsimp only
    refine tail _ ?_ (Stb.refl _) rfl
    show Srtd ltK (keys.zip vs.toArray).toList
    have hlen : (keys.zip vs.toArray).toList.length < 2 := by rw [Array.length_toList, hzs]; exact h2
    match (keys.zip vs.toArray).toList, hlen with
    | [], _ => exact List.Pairwise.nil
    | [v], _ => exact List.pairwise_singleton _ _
    | _ :: _ :: l, q => exact absurd q (by simp)
  · rw [if_neg h2, if_neg h2]
    rw [List.size_toArray] at h2
    rw [ksk_kind hk (by rw [hsz]; omega)]
    refine wpAny_bind (wpAny_pure ?_)
    have hT : Cmp prog w A s oneType' (fun p => ∃ n t, p.1 = Value.int n t) ltK := by
      rintro p q ⟨n, t, e⟩ ⟨m, u, e'⟩
      show wpAny (model prog w) A (keyLt' oneType' p.1 q.1) (fun r s' => s' = s ∧ r = ltIv p.1 q.1) (fun _ _ => False) s
      rw [e, e', keyLt'_oneType]
      exact oneLt_int ⟨rfl, rfl⟩
    refine wpAny_bind (wpAny_mono (wpS_sortO (st0 := SortSt.mk' oneType' (keys.zip vs.toArray) #[] 7 none)
      (Q := fun _ st' => Srtd ltK (arrOf st').toList ∧ Stb ltK (arrOf st').toList (keys.zip vs.toArray).toList ∧ failedOf st' = none) swo_key hT rfl ?_ rfl rfl fun st' a1 a2 a3 => ⟨a1, a2, a3⟩) ?_ fun _ _ e => e)
    · intro p hp
      have hp' : p ∈ keys.toList.zip vs := by rw [← ezl]; exact hp
      obtain ⟨t, e⟩ := keys_at hk p hp'
      exact ⟨_, t, e⟩
    · rintro ⟨⟨⟩, st'⟩ s' ⟨rfl, hp1, hp2, hf⟩
      exact tail st' hp1 hp2 hf
theorem sort_len {n : Nat} (hI : StrsAre vs ss) (hss : ∀ x ∈ ss, x.length ≤ sizeLine) (ho : s.heap.get? a = some (seqObj "list" vs.toArray n)) (hz : vs.length ≤ sizeLine)
    (h : ∀ h' tk out c, (∀ b o, b ≠ a → s.heap.get? b = some o → h'.get? b = some o) → h'.get? a = some (seqObj "list" out c) → Srtd ltLen out.toList → Stb ltLen out.toList vs → R (.done (.ret .none)) { s with heap := h', toks := tk }) :
    wpAny (model prog w) A (ksk_tree a (.builtin "len") false) R E s := by
  have sL := sizeLine_eq
  have h63 := line63
  have ha : a < s.heap.objs.size := Heap.lt_size ho
  have s1 := Heap.SameBut.update s.heap a (Obj.mapSeq fun _ => (#[] : Array Value))
  obtain ⟨e1, ho1⟩ : ∃ e1, (s.heap.update a (Obj.mapSeq fun _ => (#[] : Array Value))).get? a = some (seqObj "list" #[] e1) := ⟨_, get?_update_seq ho fun _ => #[]⟩
  have hkS : ((s.heap.update a (Obj.mapSeq fun _ => (#[] : Array Value))).push (seqObj "tuple" vs.toArray 0)).objs.size = s.heap.objs.size + 1 := by rw [size_push', Heap.size_update]
  unfold ksk_tree
  refine wpAny_bind (listItems_at ho rfl ?_)
  refine wpAny_bind (listUpdate_at ho rfl ?_ (by rw [List.size_toArray]; exact hz) (Nat.zero_le _))
  refine wpAny_bind (seqEpoch_at ho1 rfl ?_)
  refine wpAny_bind (wpAny_newTuple ?_ (by show vs.length ≤ _; exact hz))
  refine wpAny_bind (wpAny_newList ?_ (Nat.zero_le _))
  refine wpAny_holding ?_
  have hka : ((s.heap.update a (Obj.mapSeq fun _ => (#[] : Array Value))).push (seqObj "tuple" vs.toArray 0)).objs.size ≠ a := by
    rw [hkS]
    exact Nat.ne_of_gt (Nat.lt_succ_of_lt ha)
  have hk0 : s.heap.get? ((s.heap.update a (Obj.mapSeq fun _ => (#[] : Array Value))).push (seqObj "tuple" vs.toArray 0)).objs.size = none := Heap.get?_none_of_le (by
    rw [hkS]
    exact Nat.le_succ _)
  generalize hkN : ((s.heap.update a (Obj.mapSeq fun _ => (#[] : Array Value))).push (seqObj "tuple" vs.toArray 0)).objs.size = kS at *
  have m0 : Mid s.heap (((s.heap.update a (Obj.mapSeq fun _ => (#[] : Array Value))).push (seqObj "tuple" vs.toArray 0)).push (seqObj "list" #[] 0)) a kS #[] e1 := by
    refine ⟨fun b o hb e => Heap.get?_push_of_some _ (Heap.get?_push_of_some _ ((s1.2 b hb).trans e)), ⟨0, ?_⟩, Heap.get?_push_of_some _ (Heap.get?_push_of_some _ ho1)⟩
    rw [← hkN]
    exact Heap.get?_push_size _ rfl
  unfold ksk_rest
  refine wpAny_bind (wpAny_rule ?_)
  first
    | rw [List.forIn_toArray]
    | (rw [← Array.forIn_toList]; simp only [List.toList_toArray])
    | rw [← Array.forIn_toList]
  refine wpAny_bind (ksk_fold (fun i s' => ∃ h' tk kA, s' = { s with heap := h', toks := tk } ∧ Mid s.heap h' a kS kA e1 ∧ Keys kA.toList (vs.take i)) vs 0 _ ⟨_, s.toks, #[], rfl, m0, by unfold Keys; simpa using IntsAre.nil⟩ ?step ?done)
  case step =>
    rintro j x s' hx ⟨h', tk, kA, rfl, M, hk⟩
    simp only [Nat.zero_add] at hk ⊢
    have hj : j < vs.length := (List.getElem?_eq_some_iff.mp hx).1
    obtain ⟨y, t, rfl⟩ := strs_mem hI x (List.mem_of_getElem? hx)
    have hy : y.length ≤ sizeLine := hss y (by rw [← tv_strs hI]; exact List.mem_map.mpr ⟨_, List.mem_of_getElem? hx, rfl⟩)
    obtain ⟨e, he⟩ := M.ks
    have hz2 : kA.size ≤ vs.length := by
      have h1 := keys_len hk
      rw [Array.length_toList, List.length_take] at h1
      omega
    refine wpAny_bind (wpAny_attempt (len_str (by omega) ?_))
    try dsimp only
    have s2 := Heap.SameBut.update h' kS (Obj.mapSeq (·.push (.int y.length (tk + 1))))
    obtain ⟨c2, hc2⟩ : ∃ c2, (h'.update kS (Obj.mapSeq (·.push (.int y.length (tk + 1))))).get? kS = some (seqObj "list" (kA.push (.int y.length (tk + 1))) c2) := ⟨_, get?_update_seq he (·.push (.int y.length (tk + 1)))⟩
    refine wpAny_bind (listUpdate_at he rfl ?_ (by omega) (Nat.le_trans (Nat.le_of_eq (Array.size_push ..)) (by omega)))
    refine wpAny_pure ⟨rfl, _, _, kA.push (.int y.length (tk + 1)), rfl, ⟨fun b o hb q => ?_, ⟨c2, hc2⟩, (s2.2 a hka.symm).trans M.li⟩, ?_⟩
    · have hbk : b ≠ kS := fun z => by rw [z, hk0] at q; cases q
      rw [s2.2 b hbk]
      exact M.old b o hb q
    · unfold Keys at hk ⊢
      have ek : (vs.take (j + 1)).map tl = (vs.take j).map tl ++ [(y.length : Int)] := by rw [List.take_add_one, hx, List.map_append]; rfl
      rw [ek, Array.toList_push]
      exact ksk_snoc hk
  case done =>
    rintro s' ⟨h', tk, kA, rfl, M, hk⟩
    rw [List.take_of_length_le (by omega)] at hk
    obtain ⟨e, he⟩ := M.ks
    try dsimp only
    refine wpAny_bind (listItems_at he rfl ?_)
    exact end_len (s := { s with heap := h', toks := tk }) (h0 := s.heap) M hka hk0 hk hz h
theorem sorted_len {l : Addr} {Q : Value → Shared → Prop} (hI : StrsAre vs ss) (hss : ∀ x ∈ ss, x.length ≤ sizeLine) (hl : s.heap.IsList l vs.toArray) (hz : vs.length ≤ sizeLine)
    (h : ∀ (h' : Heap) (tk : Nat) (D : Addr) (out : Array Value) (c : Nat), (∀ b o, s.heap.get? b = some o → h'.get? b = some o) → s.heap.objs.size ≤ D → h'.get? D = some (seqObj "list" out c) → Srtd ltLen out.toList → Stb ltLen out.toList vs → Q (.ref D) { s with heap := h', toks := tk }) :
    wpAny (model prog w) A (call (.builtin "sorted") [.ref l] [(Str.ofString "key", .builtin "len")]) Q E s := by
  have ha1 := ksk_s1 (.ref l) (.builtin "len")
  have ha2 := fun x : Addr => ksk_l1 (.ref x) (.builtin "len")
  refine call_function_entry_kw kind_sorted plain_sorted entry_sorted ha1 ?_
  unfold Builtin.«sorted»
  refine wpAny_bind (m := checkCount "sorted" 1 1 _) (wpAny_pure ?_)
  refine wpAny_bind (collect_list hl ?_ hz)
  refine wpAny_bind (wpAny_newList ?_ hz)
  have hsz : ((s.heap.push (seqObj "list" #[] 0)).update s.heap.objs.size (Obj.mapSeq (· ++ vs.toArray))).objs.size = s.heap.objs.size + 1 := by
    rw [Heap.size_update, size_push']
  have hoL : (((s.heap.push (seqObj "list" #[] 0)).update s.heap.objs.size (Obj.mapSeq (· ++ vs.toArray))).push (seqObj "list" vs.toArray 0)).get? (s.heap.objs.size + 1) = some (seqObj "list" vs.toArray 0) := by
    rw [← hsz]; exact Heap.get?_push_size _ rfl
  have keep : ∀ b o, s.heap.get? b = some o → b ≠ s.heap.objs.size + 1 ∧ (((s.heap.push (seqObj "list" #[] 0)).update s.heap.objs.size (Obj.mapSeq (· ++ vs.toArray))).push (seqObj "list" vs.toArray 0)).get? b = some o := fun b o q => by
    have hlt : b < s.heap.objs.size := Heap.lt_size q
    refine ⟨Nat.ne_of_lt (Nat.lt_succ_of_lt hlt), Heap.get?_push_of_some _ ?_⟩
    rw [Heap.get?_update_ne _ _ _ _ (Nat.ne_of_lt hlt)]
    exact Heap.get?_push_of_some _ q
  show wpAny _ _ _ _ _ { s with heap := ((s.heap.push (seqObj "list" #[] 0)).update s.heap.objs.size (Obj.mapSeq (· ++ vs.toArray))).push (seqObj "list" vs.toArray 0) }
  rw [hsz]
  refine wpAny_bind (wpAny_holding (wpAny_call_entry_kw slot_list_sort ⟨_, hoL, rfl⟩ entry_list_sort ?body (ha2 _)))
  case body =>
    show wpAny (model prog w) A.in1.in1 (Builtin.«list.sort» ⟨[.ref (s.heap.objs.size + 1)], [(Str.ofString "key", .builtin "len")]⟩) _ _ _
    rw [ksk_t4]
    refine sort_len hI hss hoL hz fun h' tk out c old ho' o1 o2 => ⟨_, rfl, ?_⟩
    exact wpAny_pure ⟨_, rfl, h h' tk _ out c (fun b o e => old b o (keep b o e).1 (keep b o e).2) (Nat.le_succ _) ho' o1 o2⟩
end
end SrtK
namespace L2
open PySem PySem.Spec PyProof.Rows
/-- shorter ones first -/
def ltL (x y : Str) : Bool := decide ((x.length : Int) < y.length)
/-- sorted(e, key=len), e a list of texts -/
def tSortLen (K : PySem.W.Frag) (t : TA) : TE := fun σ H Q => t σ H fun vs H1 => ∃ (a : Addr) (ss : List Str), vs = [.ref a] ∧ SqL K H1 a (ss.map V.str) ∧ (∀ x ∈ ss, x.length ≤ sizeLine) ∧
  ∀ (ys : List Str) (p : Addr), SrtO.Srtd ltL ys → SrtO.Stb ltL ys ss → H1 p = none → Q (.ref p) (upd H1 p (.lst (ys.map V.str)))
theorem swo_ltL : SrtO.Swo ltL := by
  refine ⟨fun x y h => ?_, fun x y z h1 h2 => ?_⟩
  · have a : (x.length : Int) < y.length := of_decide_eq_true h
    exact decide_eq_false (by omega)
  · have a : ¬ (y.length : Int) < x.length := of_decide_eq_false h1
    have b : ¬ (z.length : Int) < y.length := of_decide_eq_false h2
    exact decide_eq_false (by omega)
section
variable {X : Cx} {p p2 pos kpos : Pos} {e : Expr} {t : TA}
theorem pe_sortLen (hA : PA X [e] t) (hg : Gl X "sorted") (hm : X.mg "sorted" = none) (hg2 : Gl X "len") (hm2 : X.mg "len" = none)
    (hs : backTo pos (starEach [e] X.env) = (false, eval e X.env) :: backTo pos (starEach [] X.env) := by rfl) (hpl : (backTo pos (starEach [e] X.env)).any (·.1) = false := by rfl)
    (hall : (backToKw pos (keywordEach [⟨some "key", .Name "len" p2, kpos⟩] X.env)).all (·.1.isSome) = true := by rfl) (hnone : (backToKw pos (keywordEach [⟨some "key", .Name "len" p2, kpos⟩] X.env)).any (·.1.isNone) = false := by rfl)
    (hks : (backToKw pos (keywordEach [⟨some "key", .Name "len" p2, kpos⟩] X.env)).filterMap (·.1) = [Str.ofString "key"] := by rfl) :
    PE X (.Call (.Name "sorted" p) [e] [⟨some "key", .Name "len" p2, kpos⟩] pos) (tSortLen X.K t) := by
  refine ⟨fun pins s σ H Q I h => ?_⟩
  refine wpAny_Call_Name_kw (ld_blt I hg hm (show bootBuiltins "sorted" = some (.builtin "sorted") by decide +kernel) ?_ (by decide) (by decide))
  refine PyProof.Rows.callWith_kw (thn (hA.run pos pins s σ H _ I h) fun us s1 ⟨vs, H1, I1, r1, a, ss, ev, hsq, hss, q⟩ => ?_) hs hpl hall hnone
  · subst ev
    show wpAny _ _ (evalAll [(do let v ← eval (.Name "len" p2) X.env; standAt pos; pure v)]) _ _ s1
    refine wpAny_evalAll_cons (wpAny_bind (ld_blt I1 hg2 hm2 PySem.boot_len (wpAny_bind (wpAny_standAt (wpAny_pure ?_)))))
    refine wpAny_evalAll_nil ?_
    rw [hks]
    obtain rfl := Vals.ref1 r1
    obtain ⟨its, rv, hl, hz⟩ := I1.list hsq
    have hI := strs_of_vals' rv
    refine SrtK.sorted_len hI hss hl.isList (by rw [← rv.length]; exact hz) fun h' tk D out c old hD ho o1 o2 => ?_
    have hIo : StrsAre out.toList (out.toList.map SrtC.tv) := SrtC.strs_tv fun v hv => SrtC.strs_mem hI v (o2.perm.mem_iff.mp hv)
    have hb : SrtO.Stb ltL (out.toList.map SrtC.tv) ss := by
      have := SrtO.Stb.map (lt := ltL) swo_ltL SrtC.tv o2
      rw [SrtC.tv_strs hI] at this
      exact this
    refine ⟨.ref D, upd H1 D (.lst ((out.toList.map SrtC.tv).map V.str)), I1.laid (t' := tk) old hD ⟨?_, out.toList, c, vals_of_strs hIo, ho⟩, rfl, q _ D (List.pairwise_map.mpr o1) hb (I1.hok.fresh hD)⟩
    rw [List.length_map, hb.len]
    rw [List.length_map] at hz
    exact hz
end
end L2

set_option Elab.async false
set_option linter.all false
set_option maxRecDepth 100000
set_option maxHeartbeats 4000000
/-! sets of texts: made of a list, made by a comprehension, in, len, sorted -/
namespace SetX
open PySem PySem.Spec PyProof.Rows L2 PpSet
/-- an entry's text -/
def txt (e : Int × Value) : Str := SrtC.tv e.2
def Ent (w : World) (e : Int × Value) : Prop := ∃ k tk, e.2 = Value.str k tk ∧ e.1 = hashStr w k
/-- the set of texts at a: S its members, n their number -/
structure At (w : World) (h : Heap) (a : Addr) (S : Str → Bool) (n : Nat) (o : Obj) (es : Array (Int × Value)) (ep : Nat) (t : SetTable) : Prop where
  get : h.get? a = some o
  ex : o.ExactSet
  dat : o.data = .set es ep t
  ent : ∀ e ∈ es.toList, Ent w e
  nd : (es.toList.map txt).Nodup
  mem : ∀ k, S k = true ↔ k ∈ es.toList.map txt
  room : es.size < scanBound
  fit : t.fits es.size = true
  num : es.size = n
  ris : Ris t.place.toList
  led : w.params.followText "set-order" = true ∨ t.led = true
def SetS (w : World) (h : Heap) (a : Addr) (S : Str → Bool) (n : Nat) : Prop := ∃ o es ep t, At w h a S n o es ep t
section
variable {P : Program} {w : World} {h h' : Heap} {a : Addr} {S S' : Str → Bool} {n : Nat}
theorem SetS.keep (R : SetS w h a S n) (k : ∀ o, h.get? a = some o → h'.get? a = some o) : SetS w h' a S n := by
  obtain ⟨o, es, ep, t, r⟩ := R
  exact ⟨o, es, ep, t, { r with get := k o r.get }⟩
theorem SetS.congr (R : SetS w h a S n) (e : ∀ k, S' k = S k) : SetS w h a S' n := by
  have q : S' = S := funext e
  rw [q]; exact R
theorem str_is (k : Str) (u : Tok) : (strKind P w).is k (.str k u) = true := by
  show Value.isStrOf k (.str k u) = true
  simp [Value.isStrOf]
theorem elems {l : List (Int × Value)} (g : ∀ e ∈ l, Ent w e) : ElemsOf (strKind P w) l := fun e he => by
  obtain ⟨k, tk, h1, h2⟩ := g e he
  exact ⟨⟨k, by rw [h1]; exact str_is k tk, h2⟩, by rw [h1] <;> rfl⟩
theorem ent_is {e : Int × Value} (g : Ent w e) (k : Str) : (strKind P w).is k e.2 = true ↔ txt e = k := by
  obtain ⟨k0, tk, h1, _⟩ := g
  unfold txt
  rw [h1]
  constructor
  · intro q
    exact (strKind P w).inj (.str k0 tk) k0 k (str_is k0 tk) q
  · intro q
    have q : k0 = k := q
    rw [← q]
    exact str_is k0 tk
theorem ent_mem {l : List (Int × Value)} (g : ∀ e ∈ l, Ent w e) (k : Str) : k ∈ l.map txt ↔ ∃ e ∈ l, (strKind P w).is k e.2 = true := by
  rw [List.mem_map]
  exact ⟨fun ⟨e, he, q⟩ => ⟨e, he, (ent_is (g e he) k).2 q⟩, fun ⟨e, he, q⟩ => ⟨e, he, (ent_is (g e he) k).1 q⟩⟩
theorem SetS.of (R : SetS w h a S n) : h.SetOf (strKind P w) a S n := by
  obtain ⟨o, es, ep, t, r⟩ := R
  exact ⟨o, es, ep, t, r.get, r.ex, r.dat, elems r.ent, fun k => (r.mem k).trans (ent_mem r.ent k), r.room, r.fit, r.num⟩
end
section
variable {P : Program} {w : World} {A : Around} {E : Value → Shared → Prop} {s : Shared} {a : Addr} {S : Str → Bool} {n : Nat}
theorem add_tail {g : Bool → Sem Unit} (hg : ∀ (b : Bool) (s₁ : Shared) (Q' : Unit → Shared → Prop), Q' () s₁ → wpAny (model P w) A (g b) Q' E s₁)
    {o : Obj} {es : Array (Int × Value)} {ep : Nat} {t : SetTable} (ho : s.heap.get? a = some o) (hex : o.ExactSet) (hd : o.data = .set es ep t)
    {es1 : Array (Int × Value)} {t2 : SetTable} {S' : Str → Bool} (g1 : ∀ e ∈ es1.toList, Ent w e) (nd1 : (es1.toList.map txt).Nodup) (m1 : ∀ k, S' k = true ↔ k ∈ es1.toList.map txt)
    (hb1 : es1.size < scanBound) (hf2 : t2.fits es1.size = true) (hr : Ris t2.place.toList) (hl : w.params.followText "set-order" = true ∨ t2.led = true) {wasDummy : Bool} {R : Option Bool → Shared → Prop}
    (hR : ∀ h', Heap.SameBut a s.heap h' → SetS w h' a S' es1.size → R (some true) { s with heap := h' }) :
    wpAny (model P w) A (do
        storeSet a es1 t2
        if (!wasDummy && t2.tooFull) = true then do
            g (relayAll t2 es1 (SetTable.grown es1.size)).2.2
            storeSet a (relayAll t2 es1 (SetTable.grown es1.size)).1 (relayAll t2 es1 (SetTable.grown es1.size)).2.1
            pure (some true)
          else pure (some true)) R E s := by
  have ho1 := storeB_at (es' := es1) (t' := t2) ho hd
  have sb1 := Heap.SameBut.update s.heap a (Obj.putSet es1 t2)
  refine wpAny_bind (wpAny_storeSet_of ho hd ?_ (fits_of_scanBound hb1))
  by_cases full : (!wasDummy && t2.tooFull) = true
  · rw [if_pos full]
    have pm := relayAll_perm t2 es1 (SetTable.grown es1.size)
    have hf3 := relayAll_fits t2 es1 (SetTable.grown es1.size)
    have hr3 := relayAll_ris t2 es1 (SetTable.grown es1.size)
    have hl3 := relayAll_led t2 es1 (SetTable.grown es1.size)
    generalize relayAll t2 es1 (SetTable.grown es1.size) = Z at pm hf3 hr3 hl3 ⊢
    obtain ⟨es2, t3, gave⟩ := Z
    dsimp only at pm hf3 hr3 hl3 ⊢
    have hsz : es2.size = es1.size := by simpa using pm.length_eq
    have hb2 : es2.size < scanBound := hsz ▸ hb1
    refine wpAny_bind (hg _ _ _ (wpAny_bind (wpAny_storeSet_of ho1 rfl ?_ (fits_of_scanBound hb2))))
    have ho2 := storeB_at (es' := es2) (t' := t3) ho1 rfl
    refine wpAny_pure (hR _ (sb1.trans (Heap.SameBut.update _ a _)) ?_)
    refine ⟨_, es2, _, t3, ho2, hex, rfl, ?_, ?_, ?_, ?_, ?_, ?_, ?_, ?_⟩
    · exact fun e he => g1 e (pm.mem_iff.mp he)
    · exact (pm.map txt).nodup_iff.mpr nd1
    · exact fun k => (m1 k).trans (pm.map txt).mem_iff.symm
    · exact hb2
    · exact hf3
    · exact hsz
    · exact hr3
    · exact hl.imp id fun z => by rw [hl3]; exact z
  · rw [if_neg full]
    exact wpAny_pure (hR _ sb1 ⟨_, es1, _, t2, ho1, hex, rfl, g1, nd1, m1, hb1, hf2, rfl, hr, hl⟩)
theorem add_hashed {k : Str} {tk : Tok} {Q : Bool → Shared → Prop} (R : SetS w s.heap a S n) (room : n + 1 < scanBound)
    (hQ : ∀ h', Heap.SameBut a s.heap h' → SetS w h' a (fun j => S j || decide (j = k)) (if S k = true then n else n + 1) → Q (!S k) { s with heap := h' }) :
    wpAny (model P w) A (setAddHashed a (.str k tk) (hashStr w k)) Q E s := by
  obtain ⟨o, es, ep, t, r⟩ := R
  have hel : ElemsOf (strKind P w) es.toList := elems r.ent
  have hsc : (Value.str k tk).scannable = true := rfl
  have hkey : (strKind P w).is k (.str k tk) = true := str_is k tk
  unfold setAddHashed setAddHashedIn
  refine wpAny_holding (wpAny_bind (wpAny_setState_of r.get r.dat r.fit ?_))
  dsimp only
  rw [byScan_of hsc r.room hel]
  simp only [↓reduceIte]
  unfold setAddByScan
  refine wpAny_bind (wpAny_bind (wpAny_rule (wpAny_bind (wpAny_setScan_of hkey r.get r.dat r.fit hel ?_))))
  cases hfi : List.findIdx? (fun e => (strKind P w).is k e.2) es.toList with
  | some j =>
    dsimp only
    obtain ⟨hj, pj, _⟩ := List.findIdx?_eq_some_iff_getElem.mp hfi
    have hSk : S k = true := (r.mem k).2 ((ent_mem (P := P) r.ent k).2 ⟨es.toList[j], List.getElem_mem hj, pj⟩)
    refine wpAny_pure (wpAny_pure ?_)
    have hm : ∀ i, (S i || decide (i = k)) = true ↔ i ∈ es.toList.map txt := fun i => by
      rw [Bool.or_eq_true, decide_eq_true_eq, ← r.mem i]
      exact ⟨fun z => z.elim id (fun e => e ▸ hSk), .inl⟩
    have hn : es.size = if S k = true then n else n + 1 := by
      rw [if_pos hSk]
      exact r.num
    have q := hQ s.heap (Heap.SameBut.refl a s.heap) ⟨o, es, ep, t, r.get, r.ex, r.dat, r.ent, r.nd, hm, r.room, r.fit, hn, r.ris, r.led⟩
    rw [hSk] at q
    exact q
  | none =>
    dsimp only
    have hnk : k ∉ es.toList.map txt := fun z => by
      obtain ⟨e, he, q⟩ := (ent_mem (P := P) r.ent k).1 z
      have c := List.findIdx?_eq_none_iff.mp hfi e he
      rw [q] at c
      cases c
    have hSk : S k = false := by
      cases q : S k with
      | false => rfl
      | true => exact absurd ((r.mem k).1 q) hnk
    have hgw : ∀ (b : Bool) {s₁ : Shared} {Q' : Unit → Shared → Prop}, Q' () s₁ → wpAny (model P w) A (match b with | true => rule "set.scan.the-table-gave-way" | false => pure ()) Q' E s₁ :=
      fun b s₁ Q' q => by cases b <;> first | exact wpAny_pure q | exact wpAny_rule q
    have pm := layNew_perm t es (hashStr w k) (.str k tk)
    have hf1 := layNew_fits t es (hashStr w k) (.str k tk)
    have hr1 := layNew_ris t es (hashStr w k) (.str k tk) r.ris
    have hl1 := layNew_led t es (hashStr w k) (.str k tk)
    show wpAny _ _ _ _ _ _
    have eh : (strKind P w).hash k = hashStr w k := rfl
    generalize layNew t es (hashStr w k) (.str k tk) = Z at pm hf1 hr1 hl1 ⊢
    obtain ⟨es1, t1, wasDummy, gave⟩ := Z
    dsimp only at pm hf1 hr1 hl1 ⊢
    rw [Array.toList_push] at pm
    have pc : es1.toList.Perm ((hashStr w k, Value.str k tk) :: es.toList) := pm.trans (List.perm_append_singleton _ _)
    have pk : (es1.toList.map txt).Perm (k :: es.toList.map txt) := pc.map txt
    have hsz : es1.size = n + 1 := by
      have := pc.length_eq
      rw [List.length_cons, Array.length_toList, Array.length_toList, r.num] at this
      exact this
    have hb1 : es1.size < scanBound := hsz ▸ room
    have g1 : ∀ e ∈ es1.toList, Ent w e := fun e he => by
      rcases List.mem_cons.mp (pc.mem_iff.mp he) with z | z
      · rw [z]; exact ⟨k, tk, rfl, rfl⟩
      · exact r.ent e z
    have nd1 : (es1.toList.map txt).Nodup := pk.nodup_iff.mpr (List.nodup_cons.mpr ⟨hnk, r.nd⟩)
    have m1 : ∀ i, (S i || decide (i = k)) = true ↔ i ∈ es1.toList.map txt := fun i => by
      rw [Bool.or_eq_true, decide_eq_true_eq, r.mem i, pk.mem_iff, List.mem_cons]
      exact Or.comm
    have hled : w.params.followText "set-order" = true ∨ t1.led = true := r.led.imp id fun z => by rw [hl1]; exact z
    have fin : ∀ h', Heap.SameBut a s.heap h' → SetS w h' a (fun j => S j || decide (j = k)) es1.size → Q true { s with heap := h' } := fun h' sb r => by
      have q := hQ h' sb
      rw [hSk] at q
      rw [hsz] at r
      exact q r
    refine wpAny_bind (hgw _ ?_)
    split
    · refine wpAny_bind ?_
      rw [hashByValue_scannable 8 hsc]
      refine wpAny_pure (add_tail ?_ r.get r.ex r.dat g1 nd1 m1 hb1 ?_ ?_ ?_ ?_)
      · intro b s₁ Q' q; cases b <;> first | exact wpAny_pure q | exact wpAny_rule q
      · first | (split <;> first | exact hf1 | exact SetTable.fits_plain_off hf1) | exact hf1
      · first | (split <;> exact hr1) | exact hr1
      · first | (split <;> exact hled) | exact hled
      · intro h' sb r; dsimp only; exact wpAny_pure (fin h' sb r)
    · refine wpAny_bind (wpAny_pure ?_)
      simp only [↓reduceIte]
      refine add_tail ?_ r.get r.ex r.dat g1 nd1 m1 hb1 hf1 hr1 hled ?_
      · intro b s₁ Q' q; cases b <;> first | exact wpAny_pure q | exact wpAny_rule q
      · intro h' sb r; dsimp only; exact wpAny_pure (fin h' sb r)
theorem add_call {k : Str} {tk : Tok} {Q : Value → Shared → Prop} (R : SetS w s.heap a S n) (room : n + 1 < scanBound)
    (hQ : ∀ h', Heap.SameBut a s.heap h' → SetS w h' a (fun j => S j || decide (j = k)) (if S k = true then n else n + 1) → Q .none { s with heap := h', toks := s.toks + 1 }) :
    wpAny (model P w) A (call (.builtin "set.add") [.ref a, .str k tk]) Q E s := by
  have hS : s.heap.SetOf (strKind P w) a S n := R.of
  refine wpAny_call_entry F.slot_set_add hS.typeIs F.entry_set_add ?_ (F.args_set_add_2 _ _)
  unfold Builtin.«set.add» Builtin.Frozenset.oneOther
  simp only [List.isEmpty_nil, bind_assoc]
  unfold Builtin.Frozenset.addrOf setAdd
  refine wpAny_bind (wpAny_pure ?_)
  try dsimp only
  refine wpAny_bind (wpAny_pure ?_)
  try dsimp only
  refine wpAny_bind (wpAny_holding (wpAny_bind ((strKind P w).pyHash (str_is k tk) ?_)))
  refine add_hashed (s := { s with toks := s.toks + 1 }) R room fun h' sb r => ?_
  show wpAny _ _ (ret Value.none) _ _ _
  exact wpAny_pure ⟨_, rfl, hQ h' sb r⟩
theorem led0 (w : World) : w.params.followText "set-order" = true ∨ (SetTable.fresh 0 0 (!w.params.followText "set-order")).led = true := by
  show _ ∨ (!w.params.followText "set-order") = true
  cases w.params.followText "set-order"
  · exact .inr rfl
  · exact .inl rfl
theorem fresh {h : Heap} {a : Addr} (w : World) (ho : h.get? a = some { cls := .type "set", dict := none, data := .set #[] 0 (.fresh 0 0 (!w.params.followText "set-order")) }) : SetS w h a (fun _ => false) 0 :=
  ⟨_, #[], 0, _, ho, ⟨rfl, rfl, rfl⟩, rfl, (fun e he => by simp at he), (by simp), (fun k => by simp), (by decide), (by rfl), rfl, List.Pairwise.nil, led0 w⟩
/-! ### set(a list of texts) -/
theorem upd_loop {I : Addr} {fp wr : List Addr} {G : Array GenState → Array GenState → Prop} {m : Nat} {Pv : Nat → Value → Prop} {St : Nat → Shared → Prop} {R : Result → Shared → Prop}
    (W : WalksS P w A.in1 I fp wr G m Pv St) (D : Addr) (hDf : D ∉ fp) (ss : List Str) (hn : m = ss.length) (hb : ss.length + 1 < scanBound) (hval : ∀ i v, Pv i v → ∃ k t, ss[i]? = some k ∧ v = .str k t) :
    ∀ (k i : Nat) (s : Shared), m - i = k → i ≤ m → St i s → (∃ c, c ≤ i ∧ SetS w s.heap D (fun j => decide (j ∈ ss.take i)) c) →
      (∀ s' c, Moved (D :: wr) G s s' → c ≤ m → SetS w s'.heap D (fun j => decide (j ∈ ss)) c → R (.ok (.ret .none)) s') →
      codeAny (model P w) A (.builtin "set.update.loop" ⟨[.ref D, .ref I], []⟩) R s := by
  have hDw : D ∉ wr := fun h => hDf (W.sub _ h)
  have more : ∀ b ∈ wr, b ∈ D :: wr := fun b hb => List.mem_cons_of_mem _ hb
  intro k
  induction k with
  | zero =>
    rintro i s hk' hi hst ⟨c, hc, hS⟩ hR
    obtain rfl : i = m := by omega
    refine codeAny_builtin F.entry_set_update_loop ?_
    rw [Around.under_plainId F.plain_set_update_loop _]
    show wpAny _ A.in1 (pyNext (.ref I) >>= _) _ _ s
    refine wpAny_bind (W.done s _ _ hst fun s' hm => ?_)
    show wpAny _ A.in1 (ret Value.none) _ _ s'
    rw [List.take_of_length_le (show ss.length ≤ i by omega)] at hS
    exact wpAny_pure (hR s' c (hm.mono more) hc (hS.keep fun o e => hm.heap D o hDw e))
  | succ k ih =>
    rintro i s hk' hi hst ⟨c, hc, hS⟩ hR
    have hlt : i < m := by omega
    refine codeAny_builtin F.entry_set_update_loop ?_
    rw [Around.under_plainId F.plain_set_update_loop _]
    show wpAny _ A.in1 (pyNext (.ref I) >>= _) _ _ s
    refine wpAny_bind (W.item i s _ _ hlt hst fun v s' hP hst' hm => ?_)
    obtain ⟨z, t, hz, rfl⟩ := hval i v hP
    have hS' : SetS w s'.heap D (fun j => decide (j ∈ ss.take i)) c := hS.keep fun o e => hm.heap D o hDw e
    show wpAny _ A.in1 (holding [Value.str z t] (setAdd D (.str z t)) >>= _) _ _ s'
    refine wpAny_bind (wpAny_holding ?_)
    unfold setAdd
    refine wpAny_holding (wpAny_bind ((strKind P w).pyHash (k := z) (str_is _ _) ?_))
    refine add_hashed (s := { s' with toks := s'.toks + 1 }) hS' (by omega) fun h' hsb hS2 => ?_
    have hS3 : SetS w h' D (fun j => decide (j ∈ ss.take (i + 1))) (if decide (z ∈ ss.take i) = true then c else c + 1) := hS2.congr fun j => by
      rw [List.take_add_one, hz]
      simp [List.mem_append]
    have hc3 : (if decide (z ∈ ss.take i) = true then c else c + 1) ≤ i + 1 := by
      split <;> omega
    refine wpAny_pure ⟨plainId_quiet F.plain_set_update_loop _, ih (i + 1) _ (by omega) hlt (W.frame _ s' _ _ hst' (Nat.le_succ _) fun b hb o e => ?_) ⟨_, hc3, hS3⟩ fun s'' c2 hm'' hc'' hS'' => ?_⟩
    · rw [hsb.2 b (fun h : b = D => hDf (by rw [← h]; exact hb))]; exact e
    · refine hR s'' c2 (Moved.trans W.gtrans ((hm.mono more).then_heap (Nat.le_succ _) fun b o hb e => ?_) hm'') hc'' hS''
      rw [hsb.2 b (fun h : b = D => hb (by rw [h]; exact List.mem_cons_self))]; exact e
theorem strs_get : ∀ {us : List Value} {ss : List Str}, StrsAre us ss → ∀ {i : Nat} {v : Value}, us[i]? = some v → ∃ k t, ss[i]? = some k ∧ v = .str k t
  | _, _, .nil, i, v, h => by simp at h
  | _, _, .cons x t r, 0, v, h => by
    obtain rfl := Option.some.inj h
    exact ⟨x, t, rfl, rfl⟩
  | _, _, .cons x t r, i + 1, v, h => strs_get r (i := i) h
theorem slen : ∀ {vs : List Value} {ss : List Str}, StrsAre vs ss → vs.length = ss.length
  | _, _, .nil => rfl
  | _, _, .cons _ _ r => congrArg (· + 1) (slen r)
/-- a new empty set -/
abbrev newO (w : World) : Obj := { cls := .type "set", dict := none, data := .set #[] 0 (.fresh 0 0 (!w.params.followText "set-order")) }
set_option maxHeartbeats 6400000 in
theorem call_list {l : Addr} {items : Array Value} (ss : List Str) {Q : Value → Shared → Prop} (hh : A.handled = none) (hl : s.heap.IsList l items) (hit : StrsAre items.toList ss) (hb : ss.length + 1 < scanBound)
    (h : ∀ (h' : Heap) (tk c : Nat), SetS w h' s.heap.objs.size (fun j => decide (j ∈ ss)) c → c ≤ ss.length → (∀ b o, s.heap.get? b = some o → h'.get? b = some o) → Q (.ref s.heap.objs.size) { s with heap := h', toks := tk }) :
    wpAny (model P w) A (call (.type "set") [.ref l]) Q E s := by
  have hisz : items.size = ss.length := by rw [← slen hit, Array.length_toList]
  obtain ⟨c, tl, hmro⟩ := F.called_set.mro
  have hmade := F.called_set.made
  have hsub := F.called_set.sub
  have h1 := F.called_set.notType
  have h2 := F.called_set.canCreate
  have hct := F.typeCall_set_1 (.ref l)
  refine wpAny_call (codeAny_of_tree ?_)
  show wpAny _ _ (callAny (.type "set") _) _ _ _
  refine wpAny_pure ⟨Code.quiet_builtin _ (by decide +kernel), codeAny_builtin F.entry_type_call ?_⟩
  rw [Around.under_plain (weight_type_call_type "set" [.ref l] []) rfl]
  repeat (any_goals (first | assumption | wp_step))

  refine codeAny_mono (code_set_led1 (.ref l) (E := E) (Q₁ := fun obj s₁ => obj = .ref s.heap.objs.size ∧ s₁ = { s with heap := s.heap.push (newO w) }) ⟨rfl, rfl⟩) fun r s₁ hr => ?_
  cases r with
  | error e => exact hr
  | ok fl =>
    cases fl with
    | ret obj =>
      obtain ⟨rfl, rfl⟩ := hr
      have hS : (s.heap.push (newO w)).get? s.heap.objs.size = some (newO w) := Heap.get?_push_size _ rfl
      have hT : Shared.TypeIs { s with heap := s.heap.push (newO w) } (.ref s.heap.objs.size) "set" := ⟨_, hS, rfl⟩
      have hli := F.called_set.init.lookup
      have hbi := F.called_set.init.bind (.ref s.heap.objs.size)
      repeat (any_goals (first | assumption | wp_step))

      refine codeAny_mono (codeAny_call_builtin (R := wants (fun r s₂ => r = .none ∧ ∃ h' tk c, s₂ = { s with heap := h', toks := tk } ∧ SetS w h' s.heap.objs.size (fun j => decide (j ∈ ss)) c ∧ c ≤ ss.length ∧
          (∀ b o, s.heap.get? b = some o → h'.get? b = some o)) E) F.called_set.init.plain F.entry_set_init (check_set_init_1 hT ?_)) fun r₂ s₂ hr₂ => ?_
      · obtain ⟨ol, hol, hcl, nl, hdl⟩ := hl
        obtain ⟨ocls, odict, odata, oslots⟩ := ol
        simp only at hcl hdl
        subst hcl; subst hdl
        have hol' : (s.heap.push (newO w)).get? l = some { cls := .type "list", dict := odict, data := .seq items nl, slots := oslots } := Heap.get?_push_of_some _ hol
        have hsls := F.sub_list_set
        have hslf := F.sub_list_frozenset
        have hne : (Value.type "list" == Value.type "dict") = false := by decide
        have hl1 : (s.heap.push (newO w)).IsList l items := ⟨_, hol', rfl, nl, rfl⟩
        unfold Builtin.«set.__init__» noKeywords Builtin.Frozenset.updateFrom
        generalize hPI : pyIter = PI
        wp_walk
        subst hPI

        refine wpAny_pyIter_list hl1 ?_
        refine wpAny_bind (wpAny_runValue ?_)
        have hlS : l < s.heap.objs.size := Heap.lt_size hol
        have hh3 : A.in1.in1.in1.handled = none := by simp [hh]
        have hneI : l ≠ (s.heap.push (newO w)).objs.size := by
          rw [Heap.size_push]; exact Nat.ne_of_lt (Nat.lt_succ_of_lt hlS)
        have hSf : s.heap.objs.size ∉ [(s.heap.push (newO w)).objs.size, l] := by
          rw [Heap.size_push]; simp only [List.mem_cons, List.mem_singleton, List.not_mem_nil, or_false, not_or]
          exact ⟨Nat.ne_of_lt (Nat.lt_succ_self _), Nat.ne_of_gt hlS⟩
        have hval : ∀ (i : Nat) (v : Value), items[i]? = some v → ∃ k t, ss[i]? = some k ∧ v = .str k t := fun i v hv => strs_get hit (by rw [Array.getElem?_toList]; exact hv)
        refine upd_loop ((Walks.list hh3 _ l hneI items).toS) s.heap.objs.size
          hSf ss hisz hb hval (items.size - 0) 0 _ (by omega) (Nat.zero_le _)
          ⟨⟨_, Heap.get?_push_size _ rfl, rfl, rfl⟩, (hl1.push _)⟩ ?hS0 ?hR
        case hS0 =>
          have hget : ((s.heap.push (newO w)).push { cls := .type "list_iterator", data := .fields #[.ref l, .int 0 0] }).get? s.heap.objs.size = some (newO w) := Heap.get?_push_of_some _ hS
          exact ⟨0, Nat.le_refl 0, (fresh w hget).congr fun j => by simp⟩
        case hR =>
          intro s' c' hm hc' hS'
          obtain ⟨h', g2, d', tk', os'⟩ := s'
          obtain rfl : g2 = s.gens := hm.gens
          obtain rfl : d' = s.drawn := hm.drawn
          obtain rfl : os' = s.os := hm.os
          show wpAny _ _ _ _ _ _
          refine wpAny_pure ?_
          show wpAny _ _ (ret Value.none) _ _ _
          rw [hisz] at hc'
          refine wpAny_pure ⟨rfl, h', tk', c', rfl, hS', hc', fun b o e => ?_⟩
          have hb0 : b < s.heap.objs.size := Heap.lt_size e
          have hb1 : b ≠ s.heap.objs.size := Nat.ne_of_lt hb0
          have hb2 : b ≠ (s.heap.push (newO w)).objs.size := by
            rw [Heap.size_push]; exact Nat.ne_of_lt (Nat.lt_succ_of_lt hb0)
          exact hm.heap b o (by simp only [List.mem_cons, List.mem_singleton, List.not_mem_nil, or_false, not_or]; exact ⟨hb1, hb2⟩) (Heap.get?_push_of_some _ (Heap.get?_push_of_some _ e))

      · cases r₂ with
        | error e => exact hr₂
        | ok fl₂ =>
          cases fl₂ with
          | ret r =>
            obtain ⟨rfl, h', tk, c', rfl, hS', hc', hk'⟩ := hr₂
            repeat (any_goals (first | assumption | wp_step))
            exact h _ _ _ hS' hc' hk'
          | _ => exact hr₂.elim
    | _ => exact hr.elim
/-! ### sorted(a set of texts) -/
theorem sorted_set {Q : Value → Shared → Prop} (R : SetS w s.heap a S n) (hh : A.handled = none) (hn4 : n ≤ 100000)
    (hQ : ∀ s' p (out : Array Value) (c : Nat) (ss : List Str), (∀ b o, s.heap.get? b = some o → s'.heap.get? b = some o) → s'.gens = s.gens → s'.os = s.os → s.heap.objs.size ≤ p →
      s'.heap.get? p = some (seqObj "list" out c) → StrsAre out.toList ss → SrtC.Asc ss → ss.Nodup → (∀ k, k ∈ ss ↔ S k = true) → ss.length = n → Q (.ref p) s') :
    wpAny (model P w) A (call (.builtin "sorted") [.ref a]) Q E s := by
  obtain ⟨o, es, ep, t, r⟩ := R
  refine Calls.call_function_entry kind_sorted plain_sorted entry_sorted (args_sorted1 _) ?_
  unfold Builtin.«sorted»
  refine wpAny_bind (m := checkCount "sorted" 1 1 _) (wpAny_pure ?_)
  refine wpAny_bind (collect_set (A := A.in1) hh ⟨o, r.get, r.ex.1, r.dat⟩ r.fit r.room r.ris r.led fun s1 vs k1 hz g1 o1 pm => ?_)
  have hvl : vs.length = n := by rw [pm.length_eq, List.length_map, Array.length_toList]; exact r.num
  have hI : StrsAre vs (vs.map SrtC.tv) := SrtC.strs_tv fun v hv => by
    obtain ⟨e, he, q⟩ := List.mem_map.mp (pm.mem_iff.mp hv)
    obtain ⟨k, tk, h1, _⟩ := r.ent e he
    exact ⟨k, tk, by rw [← q]; exact h1⟩
  have pk : (vs.map SrtC.tv).Perm (es.toList.map txt) := by
    have q := pm.map SrtC.tv
    rw [List.map_map] at q
    exact q
  have hvz : vs.length ≤ sizeLine := by rw [hvl, sizeLine_eq]; omega
  refine wpAny_bind (wpAny_newList ?_ hvz)
  have hoL : (s1.heap.push (seqObj "list" vs.toArray 0)).get? s1.heap.objs.size = some (seqObj "list" vs.toArray 0) := Heap.get?_push_size _ rfl
  refine wpAny_bind (wpAny_holding (wpAny_call_entry slot_list_sort ⟨_, hoL, rfl⟩ entry_list_sort (SrtO.list_sort_ord SrtC.swo_tv hoL hvz (fun h2 => SrtC.strs_sortable hI h2) fun out h1 h2 => ⟨.none, rfl, ?_⟩) (args_list_sort _)))
  obtain ⟨a1, a2, a3⟩ := SrtC.strs_out hI h1 h2
  obtain ⟨c, hc⟩ := sortedHeap_at (vs := vs) (out := out.toArray) hoL
  have pn : (out.map SrtC.tv).Perm (es.toList.map txt) := a2.trans pk
  refine wpAny_pure ⟨_, rfl, hQ _ s1.heap.objs.size out.toArray c (out.map SrtC.tv) (fun b u e => ?_) g1 o1 hz hc a1 a3 (pn.nodup_iff.mpr r.nd) (fun k => by rw [pn.mem_iff, ← r.mem k]) ?_⟩
  · have q := k1 b u e
    have hlt := Heap.lt_size q
    show (sortedHeap (s1.heap.push (seqObj "list" vs.toArray 0)) s1.heap.objs.size vs out.toArray).get? b = some u
    rw [sortedHeap_old (Nat.ne_of_lt hlt) (by rw [size_push']; exact Nat.lt_succ_of_lt hlt)]
    exact Heap.get?_push_of_some _ q
  · rw [pn.length_eq, List.length_map, Array.length_toList]; exact r.num
end
end SetX
namespace L2
open PySem PySem.Spec PyProof.Rows SetX
/-- the set of texts at a -/
def SetSO (w : World) (a : Addr) (S : Str → Bool) (n : Nat) : HO := .ext fun h => SetS w h a S n
theorem setSO_new {w : World} {P : Program} {H : Hp} {h : Heap} {a : Addr} {S : Str → Bool} {n : Nat} (R : SetS w h a S n) : ObjOk P w H h a (SetSO w a S n) :=
  ⟨R, let ⟨o, _, _, _, r⟩ := R; ⟨o, r.get⟩, fun _ _ p k => SetS.keep p k⟩
section
variable {X : Cx}
theorem setSO_get {pins : List (Addr × Obj)} {σ : St} {H : Hp} {s : Shared} {a : Addr} {S : Str → Bool} {n : Nat} (I : Inv X pins σ H s) (ha : H a = some (SetSO X.w a S n)) : SetS X.w s.heap a S n := (I.hok a _ ha).1
/-- set(xs), xs a list of texts -/
def rSetTx (K : PySem.W.Frag) (w : World) : List V → Hp → VK → Prop := fun vs H Q => ∃ (l : Addr) (ss : List Str), vs = [V.ref l] ∧ SqL K H l (ss.map V.str) ∧ ss.length ≤ 4000 ∧
  ∀ (p : Addr) (c : Nat), H p = none → c ≤ ss.length → Q (.ref p) (upd H p (SetSO w p (fun j => decide (j ∈ ss)) c))
theorem cr_setTx (hc : X.calm = true) : CallR X (.type "set") (rSetTx X.K X.w) := by
  intro pins s σ H vs us Q I r h
  obtain ⟨l, ss, rfl, hs, hn, q⟩ := h
  obtain ⟨its, rv, hl, hz⟩ := I.list hs
  rw [Vals.ref1 r]
  have hI := strs_of_vals' rv
  refine call_list ss (I.ok.hd hc) hl.isList (by simpa using hI) (by unfold scanBound; omega) fun h' tk c R hc' k => ?_
  have hp := I.hok.fresh (Nat.le_refl s.heap.objs.size)
  exact ⟨.ref _, upd H s.heap.objs.size (SetSO X.w s.heap.objs.size (fun j => decide (j ∈ ss)) c), I.laid (t' := tk) k (Nat.le_refl _) (setSO_new R), rfl, q _ c hp hc'⟩
/-- sorted(a set of texts) -/
def rSortedSetS (w : World) : List V → Hp → VK → Prop := fun vs H Q => ∃ (a : Addr) (S : Str → Bool) (n : Nat), vs = [V.ref a] ∧ H a = some (SetSO w a S n) ∧ n ≤ 100000 ∧
  ∀ (ss : List Str) (p : Addr), SrtC.Asc ss → ss.Nodup → (∀ k : Str, k ∈ ss ↔ S k = true) → ss.length = n → H p = none → Q (.ref p) (upd H p (.lst (ss.map V.str)))
theorem cr_sortedSetS (hc : X.calm = true) : CallR X (.builtin "sorted") (rSortedSetS X.w) := by
  intro pins s σ H vs us Q I r h
  obtain ⟨a, S, n, rfl, ha, hn, q⟩ := h
  rw [Vals.ref1 r]
  refine SetX.sorted_set (setSO_get I ha) (I.ok.hd hc) hn fun s' p out c ss k g o hp hg hi hs hnd hm hl => ?_
  have hlen : (ss.map V.str).length ≤ sizeLine := by rw [List.length_map, hl, sizeLine_eq]; omega
  have hpn : H p = none := I.hok.fresh hp
  have J : Inv X pins σ (upd H p (.lst (ss.map V.str))) { s with heap := s'.heap, gens := s'.gens, drawn := s'.drawn, toks := s'.toks } :=
    I.call (ch := []) (Un.laid k hp hpn) (I.hok.laid k hp ⟨hlen, out.toList, c, vals_of_strs hi, hg⟩) (by rw [g]; exact I.bare) (fun _ z => nomatch z)
  have e : s' = { s with heap := s'.heap, gens := s'.gens, drawn := s'.drawn, toks := s'.toks } := by
    cases s'
    cases s
    cases o
    rfl
  rw [e]
  exact ⟨.ref p, _, J, rfl, q ss p hs hnd hm hl hpn⟩
/-- len(a set of texts) -/
def rLenSetS (w : World) : List V → Hp → VK → Prop := fun vs H Q => ∃ (a : Addr) (S : Str → Bool) (n : Nat), vs = [V.ref a] ∧ H a = some (SetSO w a S n) ∧ n ≤ 100000 ∧
  ∀ ss : List Str, ss.Nodup → (∀ k : Str, k ∈ ss ↔ S k = true) → ss.length = n → Q (.int n) H
theorem cr_lenSetS : CallR X (.builtin "len") (rLenSetS X.w) := by
  intro pins s σ H vs us Q I r h
  obtain ⟨a, S, n, rfl, ha, hn, q⟩ := h
  rw [Vals.ref1 r]
  obtain ⟨o, es, ep, t, R⟩ := setSO_get I ha
  refine call_len_set R.get R.ex R.dat R.fit (by rw [R.num] <;> omega) ⟨.int n, H, I.tok _, ⟨_, by rw [R.num]⟩, q (es.toList.map txt) R.nd (fun k => (R.mem k).symm) ?_⟩
  rw [List.length_map, Array.length_toList]
  exact R.num
/-- x in a set of texts -/
def rSInS (w : World) (neg : Bool) : V → V → Hp → VK → Prop := fun x y H Q => ∃ (k : Str) (a : Addr) (S : Str → Bool) (n : Nat), x = V.str k ∧ y = V.ref a ∧ H a = some (SetSO w a S n) ∧ Q (.bl (if neg then !S k else S k)) H
theorem or_sinS : OpR X (compareOp .In) (rSInS X.w false) := by
  intro pins s σ H x y v u Q I rx ry h
  obtain ⟨k, a, S, n, rfl, rfl, ha, q⟩ := h
  cases ry
  obtain ⟨t, rfl⟩ := rx
  exact wpAny_inSet_of (str_is (P := X.prog) (w := X.w) k t) rfl (setSO_get I ha).of ⟨.bl (S k), H, I.tok _, rfl, q⟩
end
end L2

set_option Elab.async false
set_option linter.all false
set_option maxRecDepth 100000
set_option maxHeartbeats 4000000
/-! sorted(set(texts)), len(set(texts)): the set itself is not told -/
namespace L2
open PySem PySem.Spec PyProof.Rows SetX
theorem same_new {H : Hp} {q : Addr} (o : HO) (h : H q = none) : Same H (upd H q o) := fun c u e => by
  rw [upd_ne (ne_of_none e h)]; exact e
/-- each of the texts once -/
def Once (ss ys : List Str) : Prop := ys.Nodup ∧ ∀ k, k ∈ ys ↔ k ∈ ss
def tSortedSet (K : PySem.W.Frag) (t : TA) : TE := fun σ H Q => t σ H fun vs H1 => ∃ (l : Addr) (ss : List Str), vs = [V.ref l] ∧ SqL K H1 l (ss.map V.str) ∧ ss.length ≤ 4000 ∧
  ∀ H2 L (ys : List Str), Same H1 H2 → H1 L = none → H2 L = some (.lst (ys.map V.str)) → SrtC.Asc ys → Once ss ys → ys.length ≤ ss.length → Q (.ref L) H2
def tLenSetT (K : PySem.W.Frag) (t : TA) : TE := fun σ H Q => t σ H fun vs H1 => ∃ (l : Addr) (ss : List Str), vs = [V.ref l] ∧ SqL K H1 l (ss.map V.str) ∧ ss.length ≤ 4000 ∧
  ∀ H2 (ys : List Str), Same H1 H2 → Once ss ys → ys.length ≤ ss.length → Q (.int ys.length) H2
section
variable {X : Cx} {e : Expr} {t : TA} {p p2 pos pos2 : Pos}
theorem pe_sortedSet (hc : X.calm = true) (hA : PA X [e] t) (hg : Gl X "sorted") (hm : X.mg "sorted" = none) (hg2 : Gl X "set") (hm2 : X.mg "set" = none)
    (he : starEach [e] X.env = (false, eval e X.env) :: starEach [] X.env := by rfl) :
    PE X (.Call (.Name "sorted" p) [.Call (.Name "set" p2) [e] [] pos2] [] pos) (tSortedSet X.K t) := by
  refine ⟨fun pins s σ H Q I h => ?_⟩
  refine Call_ (ld_blt I hg hm (show bootBuiltins "sorted" = some (.builtin "sorted") by decide +kernel) ?_)
  refine PyProof.Rows.callWith_builtin1 (PyProof.Rows.args_cons ?_ rfl) rfl rfl
  refine Call_ (ld_blt I hg2 hm2 PyProof.Rows.boot_set ?_)
  refine PyProof.Rows.callWith_type1 (thn (hA.run pos2 pins s σ H _ I h) fun us s1 ⟨vs, H1, I1, r1, l, ss, ev, hq, h1, q1⟩ => ?_) he rfl
  subst ev
  refine thn (cr_setTx hc pins s1 σ H1 _ _ (fun v H2 => ∃ Sa c, v = .ref Sa ∧ H1 Sa = none ∧ c ≤ ss.length ∧ H2 = upd H1 Sa (SetSO X.w Sa (fun j => decide (j ∈ ss)) c)) I1 r1 ⟨l, ss, rfl, hq, h1, fun Sa c hSa hcs => ⟨Sa, c, rfl, hSa, hcs, rfl⟩⟩) fun u s2 ⟨v, H2, I2, r2, Sa, c, ev, hSa, hcs, eH⟩ => ?_
  subst ev
  subst eH
  obtain rfl : u = Value.ref Sa := r2
  refine PyProof.Rows.args_nil ?_
  refine cr_sortedSetS hc pins s2 σ _ [V.ref Sa] [Value.ref Sa] Q I2 (.cons rfl .nil) ⟨Sa, _, c, rfl, upd_same, by omega, fun ys L hA hnd hm hl hL => q1 _ L ys ((same_new _ hSa).trans (same_new _ hL)) ?_ upd_same hA ⟨hnd, fun k => by rw [hm k, decide_eq_true_eq]⟩ (by omega)⟩
  exact (same_new _ hSa).free hL
theorem pe_lenSetT (hc : X.calm = true) (hA : PA X [e] t) (hg : Gl X "len") (hm : X.mg "len" = none) (hg2 : Gl X "set") (hm2 : X.mg "set" = none)
    (he : starEach [e] X.env = (false, eval e X.env) :: starEach [] X.env := by rfl) :
    PE X (.Call (.Name "len" p) [.Call (.Name "set" p2) [e] [] pos2] [] pos) (tLenSetT X.K t) := by
  refine ⟨fun pins s σ H Q I h => ?_⟩
  refine Call_ (ld_blt I hg hm PySem.boot_len ?_)
  refine PyProof.Rows.callWith_builtin1 (PyProof.Rows.args_cons ?_ rfl) rfl rfl
  refine Call_ (ld_blt I hg2 hm2 PyProof.Rows.boot_set ?_)
  refine PyProof.Rows.callWith_type1 (thn (hA.run pos2 pins s σ H _ I h) fun us s1 ⟨vs, H1, I1, r1, l, ss, ev, hq, h1, q1⟩ => ?_) he rfl
  subst ev
  refine thn (cr_setTx hc pins s1 σ H1 _ _ (fun v H2 => ∃ Sa c, v = .ref Sa ∧ H1 Sa = none ∧ c ≤ ss.length ∧ H2 = upd H1 Sa (SetSO X.w Sa (fun j => decide (j ∈ ss)) c)) I1 r1 ⟨l, ss, rfl, hq, h1, fun Sa c hSa hcs => ⟨Sa, c, rfl, hSa, hcs, rfl⟩⟩) fun u s2 ⟨v, H2, I2, r2, Sa, c, ev, hSa, hcs, eH⟩ => ?_
  subst ev
  subst eH
  obtain rfl : u = Value.ref Sa := r2
  refine PyProof.Rows.args_nil ?_
  exact cr_lenSetS pins s2 σ _ [V.ref Sa] [Value.ref Sa] Q I2 (.cons rfl .nil) ⟨Sa, _, c, rfl, upd_same, by omega, fun ys hnd hm hl => by
    rw [← hl]
    exact q1 _ ys (same_new _ hSa) ⟨hnd, fun k => by rw [hm k, decide_eq_true_eq]⟩ (by omega)⟩
end
end L2

set_option Elab.async false
set_option linter.all false
set_option maxRecDepth 100000
set_option maxHeartbeats 4000000
/-! texts as lists of signs: shorter first, then ascending; what can be written in words -/
namespace TxO
open PySem L2 SrtC
abbrev un (x : Str) : List Nat := x.cps.toList
theorem S_un (x : Str) : SX.S (un x) = x := by
  cases x
  simp [SX.S, un]
theorem un_S (u : List Nat) : un (SX.S u) = u := by simp [SX.S, un]
theorem map_un (ys : List Str) : (ys.map un).map SX.S = ys := by
  rw [List.map_map]
  conv => rhs; rw [← List.map_id ys]
  exact List.map_congr_left fun x _ => S_un x
theorem map_S (us : List (List Nat)) : (us.map SX.S).map un = us := by
  rw [List.map_map]
  conv => rhs; rw [← List.map_id us]
  exact List.map_congr_left fun x _ => un_S x
theorem S_inj' {u v : List Nat} (h : SX.S u = SX.S v) : u = v := by
  have := congrArg un h
  rwa [un_S, un_S] at this
theorem sLt_S (u v : List Nat) : sLt (SX.S u) (SX.S v) = decide (u < v) := by simp [sLt, SX.S]
theorem len_S (u : List Nat) : (SX.S u).length = u.length := SX.S_len u
/-! ### shorter first, then ascending -/
def bef (u v : List Nat) : Bool := decide (u.length < v.length) || (decide (u.length = v.length) && decide (u < v))
theorem bef_tri {u v : List Nat} (h1 : bef u v = false) (h2 : bef v u = false) : u = v := by
  unfold bef at h1 h2
  simp only [Bool.or_eq_false_iff, Bool.and_eq_false_iff, decide_eq_false_iff_not] at h1 h2
  have e : u.length = v.length := by omega
  have a : ¬ u < v := by rcases h1.2 with h | h; exact absurd e h; exact h
  have b : ¬ v < u := by rcases h2.2 with h | h; exact absurd e.symm h; exact h
  exact List.le_antisymm (List.not_lt.mp b) (List.not_lt.mp a)
abbrev SF (ys : List (List Nat)) : Prop := ys.Pairwise fun u v => bef v u = false
theorem sf_uniq {ys zs : List (List Nat)} (h1 : SF ys) (h2 : SF zs) (p : ys.Perm zs) : ys = zs :=
  List.Perm.eq_of_pairwise (fun a b _ _ h h' => bef_tri h' h) h1 h2 p
theorem sf_mem {ys zs : List (List Nat)} (h1 : SF ys) (h2 : SF zs) (n1 : ys.Nodup) (n2 : zs.Nodup) (m : ∀ u, u ∈ ys ↔ u ∈ zs) : ys = zs :=
  sf_uniq h1 h2 ((List.perm_ext_iff_of_nodup n1 n2).mpr m)
/-- ascending -/
abbrev As (ys : List (List Nat)) : Prop := ys.Pairwise fun u v => ¬ v < u
theorem as_of {ys : List Str} (h : Asc ys) : As (ys.map un) := by
  refine List.pairwise_map.mpr (h.imp fun {x y} q => ?_)
  have := of_decide_eq_false q
  exact this
theorem as_uniq {ys zs : List (List Nat)} (h1 : As ys) (h2 : As zs) (p : ys.Perm zs) : ys = zs :=
  List.Perm.eq_of_pairwise (fun a b _ _ h h' => List.le_antisymm (List.not_lt.mp h) (List.not_lt.mp h')) h1 h2 p
theorem sf_of {ys zs : List Str} (h1 : SrtO.Srtd ltL ys) (h2 : SrtO.Stb ltL ys zs) (h3 : Asc zs) : SF (ys.map un) := by
  rw [SF, List.pairwise_map, List.pairwise_iff_forall_sublist]
  intro x y hxy
  have a : ltL y x = false := (List.pairwise_iff_forall_sublist.mp h1) hxy
  have na : ¬ ((y.length : Int) < x.length) := of_decide_eq_false a
  show (decide ((un y).length < (un x).length) || (decide ((un y).length = (un x).length) && decide (un y < un x))) = false
  have ly : (un y).length = y.length := by simp [un, Str.length]
  have lx : (un x).length = x.length := by simp [un, Str.length]
  rw [ly, lx, decide_eq_false (show ¬ y.length < x.length by omega), Bool.false_or]
  by_cases e : y.length = x.length
  · have ex : SrtO.eqv ltL x x = true := by simp [SrtO.eqv, ltL]
    have ey : SrtO.eqv ltL x y = true := by simp [SrtO.eqv, ltL, e]
    have s : [x, y].Sublist (ys.filter (SrtO.eqv ltL x)) := by
      have := hxy.filter (SrtO.eqv ltL x)
      simpa [ex, ey] using this
    rw [h2.cls x] at s
    have q : sLt y x = false := (List.pairwise_iff_forall_sublist.mp h3) (s.trans List.filter_sublist)
    have := of_decide_eq_false q
    rw [decide_eq_false this, Bool.and_false]
  · rw [decide_eq_false e, Bool.false_and]
/-! ### written in words -/
def Wr (ws : List (List Nat)) (u : List Nat) : Prop := ∃ ps : List (List Nat), (∀ p ∈ ps, p ∈ ws) ∧ ps.flatten = u
theorem Wr.nil (ws : List (List Nat)) : Wr ws [] := ⟨[], by simp, rfl⟩
theorem Wr.snoc {ws : List (List Nat)} {u w : List Nat} (h : Wr ws u) (hw : w ∈ ws) : Wr ws (u ++ w) := by
  obtain ⟨ps, h1, h2⟩ := h
  refine ⟨ps ++ [w], fun p hp => ?_, by simp [h2]⟩
  rcases List.mem_append.mp hp with h | h
  · exact h1 p h
  · rw [List.mem_singleton.mp h]; exact hw
theorem Wr.last {ws : List (List Nat)} {u : List Nat} (h : Wr ws u) (hu : u ≠ []) (hne : ∀ w ∈ ws, w ≠ []) : ∃ v w, w ∈ ws ∧ w ≠ [] ∧ u = v ++ w ∧ Wr ws v := by
  obtain ⟨ps, h1, rfl⟩ := h
  cases hp : ps.reverse with
  | nil =>
    have : ps = [] := by simpa using hp
    subst this
    exact absurd rfl hu
  | cons w r =>
    have e : ps = r.reverse ++ [w] := by
      have := congrArg List.reverse hp
      simpa using this
    subst e
    have hw : w ∈ ws := h1 w (by simp)
    exact ⟨r.reverse.flatten, w, hw, hne w hw, by simp, r.reverse, fun p hp => h1 p (List.mem_append_left _ hp), rfl⟩
theorem Wr.mono {ws vs : List (List Nat)} {u : List Nat} (h : Wr ws u) (m : ∀ w ∈ ws, w ∈ vs) : Wr vs u := by
  obtain ⟨ps, h1, h2⟩ := h
  exact ⟨ps, fun p hp => m p (h1 p hp), h2⟩
theorem Wr.cons {ws : List (List Nat)} {u w : List Nat} (h : Wr ws u) (hw : w ∈ ws) : Wr ws (w ++ u) := by
  obtain ⟨ps, h1, h2⟩ := h
  refine ⟨w :: ps, fun p hp => ?_, by simp [h2]⟩
  rcases List.mem_cons.mp hp with h | h
  · rw [h]; exact hw
  · exact h1 p h
theorem Wr.first {ws : List (List Nat)} {u : List Nat} (h : Wr ws u) (hu : u ≠ []) (hne : ∀ w ∈ ws, w ≠ []) : ∃ v w, w ∈ ws ∧ w ≠ [] ∧ u = w ++ v ∧ Wr ws v := by
  obtain ⟨ps, h1, rfl⟩ := h
  cases ps with
  | nil => exact absurd rfl hu
  | cons w r => exact ⟨r.flatten, w, h1 w (by simp), hne w (h1 w (by simp)), by simp, r, fun p hp => h1 p (by simp [hp]), rfl⟩
/-- the shorter words -/
abbrev shorter (ws : List (List Nat)) (u : List Nat) : List (List Nat) := ws.filter fun p => decide (p.length < u.length)
/-- u is written in two or more words -/
abbrev Put (ws : List (List Nat)) (u : List Nat) : Prop := Wr (shorter ws u) u
theorem flat_part {ps : List (List Nat)} {p : List Nat} (hne : ∀ q ∈ ps, q ≠ []) (h : p ∈ ps) (hl : ps.flatten.length ≤ p.length) : ps = [p] := by
  obtain ⟨a, b, rfl⟩ := List.append_of_mem h
  rw [List.flatten_append, List.flatten_cons, List.length_append, List.length_append] at hl
  have z : ∀ l : List (List Nat), (∀ q ∈ l, q ≠ []) → l.flatten.length = 0 → l = [] := fun l hn h0 => by
    cases l with
    | nil => rfl
    | cons x r =>
      have : x ≠ [] := hn x (by simp)
      have : x.length ≠ 0 := fun e => this (List.eq_nil_of_length_eq_zero e)
      rw [List.flatten_cons, List.length_append] at h0
      omega
  have ea := z a (fun q hq => hne q (by simp [hq])) (by omega)
  have eb := z b (fun q hq => hne q (by simp [hq])) (by omega)
  rw [ea, eb]
  rfl
/-- to be written in other words, and in shorter ones, is the same -/
theorem wr_other {ws : List (List Nat)} (hne : ∀ w ∈ ws, w ≠ []) (u : List Nat) : Wr (ws.filter fun p => decide (p ≠ u)) u ↔ Put ws u := by
  constructor
  · rintro ⟨ps, h1, h2⟩
    refine ⟨ps, fun p hp => ?_, h2⟩
    obtain ⟨a, b⟩ := List.mem_filter.mp (h1 p hp)
    refine List.mem_filter.mpr ⟨a, decide_eq_true ?_⟩
    have hpn : ∀ q ∈ ps, q ≠ [] := fun q hq => hne q (List.mem_filter.mp (h1 q hq)).1
    by_cases c : p.length < u.length
    · exact c
    · exfalso
      have e := flat_part hpn hp (by rw [h2]; omega)
      rw [e] at h2
      have : p = u := by simpa using h2
      exact (of_decide_eq_true b) this
  · rintro ⟨ps, h1, h2⟩
    refine ⟨ps, fun p hp => ?_, h2⟩
    obtain ⟨a, b⟩ := List.mem_filter.mp (h1 p hp)
    refine List.mem_filter.mpr ⟨a, decide_eq_true fun e => ?_⟩
    have := of_decide_eq_true b
    rw [e] at this
    omega
theorem put_mono {ws vs : List (List Nat)} {u : List Nat} (m : ∀ w ∈ ws, w ∈ vs) (h : Put ws u) : Put vs u :=
  Wr.mono h fun w hw => List.mem_filter.mpr ⟨m w (List.mem_filter.mp hw).1, (List.mem_filter.mp hw).2⟩
/-- of the shortest words none is written in others -/
theorem base_some {ws : List (List Nat)} (hne : ∀ w ∈ ws, w ≠ []) (h0 : ws ≠ []) : ∃ u ∈ ws, ¬ Put ws u := by
  have key : ∀ (n : Nat), ∀ w ∈ ws, w.length ≤ n → ∃ u ∈ ws, ∀ p ∈ ws, u.length ≤ p.length := by
    intro n
    induction n with
    | zero =>
      intro w hw hl
      exact ⟨w, hw, fun p hp => by omega⟩
    | succ n ih =>
      intro w hw hl
      by_cases c : ∃ p ∈ ws, p.length < w.length
      · obtain ⟨p, hp, hpl⟩ := c
        exact ih p hp (by omega)
      · exact ⟨w, hw, fun p hp => Nat.le_of_not_lt fun q => c ⟨p, hp, q⟩⟩
  obtain ⟨w, hw⟩ := List.exists_mem_of_ne_nil ws h0
  obtain ⟨u, hu, hm⟩ := key w.length w hw (Nat.le_refl _)
  refine ⟨u, hu, fun h => ?_⟩
  obtain ⟨v, p, hp, hpn, e, _⟩ := Wr.first h (hne u hu) fun q hq => hne q (List.mem_filter.mp hq).1
  obtain ⟨a, b⟩ := List.mem_filter.mp hp
  have := of_decide_eq_true b
  have := hm p a
  omega
theorem nodup_un {ss : List Str} (h : ss.Nodup) : (ss.map un).Nodup :=
  List.pairwise_map.mpr (h.imp fun {x y} n e => n (by rw [← S_un x, ← S_un y, e]))
theorem mem_un {ss : List Str} {ws : List (List Nat)} (h : ∀ k, k ∈ ss ↔ k ∈ ws.map SX.S) (u : List Nat) : u ∈ ss.map un ↔ u ∈ ws := by
  constructor
  · intro q
    obtain ⟨x, hx, rfl⟩ := List.mem_map.mp q
    obtain ⟨v, hv, e⟩ := List.mem_map.mp ((h x).mp hx)
    rw [← e, un_S]
    exact hv
  · intro q
    exact List.mem_map.mpr ⟨SX.S u, (h _).mpr (List.mem_map.mpr ⟨u, q, rfl⟩), un_S u⟩
theorem once_un {ss : List Str} {ws : List (List Nat)} (h : Once (ws.map SX.S) ss) : (ss.map un).Nodup ∧ ∀ u, u ∈ ss.map un ↔ u ∈ ws := ⟨nodup_un h.1, mem_un h.2⟩
/-- what base tells -/
def IsBase (ws ys : List (List Nat)) : Prop := SF ys ∧ ys.Nodup ∧ ∀ u, u ∈ ys ↔ u ∈ ws ∧ ¬ Put ws u
/-! ### beginnings -/
theorem starts3 {x w : List Nat} {i : Nat} (hi : i ≤ x.length) : Txt.startswith3 (SX.S x) (SX.S w) (i : Int) = decide (w <+: x.drop i) := by
  have ef : fromIndex (SX.S x).length (i : Int) = i := by
    unfold fromIndex
    rw [if_neg (by omega)]
    omega
  unfold Txt.startswith3
  rw [ef, PySem.StrLaws.subAt_eq, SX.S_len, SX.S_len]
  show (decide (i + w.length ≤ x.length) && ((x.drop i).take w.length == w)) = _
  by_cases c : w <+: x.drop i
  · have l := c.length_le
    rw [List.length_drop] at l
    have e := (List.prefix_iff_eq_take.mp c).symm
    rw [decide_eq_true c, e]
    by_cases z : w.length = 0
    · simp; omega
    · simp; omega
  · rw [decide_eq_false c]
    have : ¬ ((x.drop i).take w.length = w) := fun e => c (List.prefix_iff_eq_take.mpr e.symm)
    simp [this]
theorem cut_mid (x : List Nat) {i k : Nat} (hi : i ≤ x.length) : cutS (SX.S x) (some (i : Int)) (some ((i + k : Nat) : Int)) = SX.S ((x.drop i).take k) := by
  unfold cutS
  rw [HT.sIx_nat, HT.sIx_nat, SX.S_len]
  show SX.S ((x.drop (min i x.length)).take (min (i + k) x.length - min i x.length)) = _
  congr 1
  rw [Nat.min_eq_left hi]
  by_cases c : i + k ≤ x.length
  · rw [Nat.min_eq_left c, show i + k - i = k by omega]
  · rw [Nat.min_eq_right (by omega), List.take_of_length_le (by rw [List.length_drop]; omega), List.take_of_length_le (by rw [List.length_drop]; omega)]
theorem cut_to (x : List Nat) (k : Nat) : cutS (SX.S x) none (some (k : Int)) = SX.S (x.take k) := by
  unfold cutS
  rw [HT.sIx_nat, HT.sIx_none, SX.S_len]
  show SX.S ((x.drop 0).take (min k x.length - 0)) = _
  rw [List.drop_zero, Nat.sub_zero, ← List.take_take, List.take_length]
theorem cut_from (x : List Nat) (k : Nat) : cutS (SX.S x) (some (k : Int)) none = SX.S (x.drop k) := by
  unfold cutS
  rw [HT.sIx_nat, HT.sIx_none, SX.S_len]
  show SX.S ((x.drop (min k x.length)).take (x.length - min k x.length)) = _
  by_cases c : k ≤ x.length
  · rw [Nat.min_eq_left c, List.take_of_length_le (by rw [List.length_drop]; omega)]
  · rw [Nat.min_eq_right (by omega), List.drop_eq_nil_of_le (by omega), List.drop_eq_nil_of_le (by omega), List.take_nil]
theorem pre_take {w x : List Nat} : x.take w.length = w ↔ w <+: x := by
  rw [List.prefix_iff_eq_take]
  exact eq_comm
end TxO

set_option Elab.async false
set_option linter.all false
set_option maxRecDepth 100000
set_option maxHeartbeats 4000000
/-! a set of texts, made by a comprehension over two sources without tests -/
namespace SetC2
open PySem PySem.Spec PyProof.Rows L2 SetX
abbrev two (elt t0 i0 t1 i1 : Expr) (scope : Scope) (pos : Pos) : Expr := .SetComp elt [⟨t0, i0, [], 0⟩, ⟨t1, i1, [], 0⟩] scope pos
abbrev No : Value → Shared → Prop := fun _ _ => False
theorem outer_turn (elt t0 i0 t1 i1 : Expr) (scope : Scope) (pos : Pos) (it acc : Value) (env : Env) :
    compTurn (two elt t0 i0 t1 i1 scope pos) 0 it acc env = (do
      standAt i0.pos
      match ← pyNext it with
      | none => pure (.done .next)
      | some v =>
        letOwnedTupleGo t0 it v
        assign t0 env v
        let x ← eval i1 env
        standAt i1.pos
        let x ← foldedSetIterable i1 env x
        let _ ← runOwn (.compStart (two elt t0 i0 t1 i1 scope pos) 1 (← holding [x] (pyIter x)) acc env) env
        again (.compLoop (two elt t0 i0 t1 i1 scope pos) 0 it acc env)) := by rfl
theorem inner_turn (elt t0 i0 t1 i1 : Expr) (scope : Scope) (pos : Pos) (it acc : Value) (env : Env) :
    compTurn (two elt t0 i0 t1 i1 scope pos) 1 it acc env = (do
      standAt i1.pos
      match ← pyNext it with
      | none => pure (.done .next)
      | some v =>
        letOwnedTupleGo t1 it v
        assign t1 env v
        (do let v ← eval elt env; standAt elt.pos; let _ ← call (.builtin "set.add") [acc, v])
        again (.compLoop (two elt t0 i0 t1 i1 scope pos) 1 it acc env)) := by rfl
/-- one step of a walk: the end, or a thing more -/
def Step (J : It) (i : Nat) (H : Hp) (fin nxt : Hp → Prop) (B : V → Hp → (Hp → Prop) → Prop) : Prop :=
  (J.stop i H ∧ fin H) ∨ (J.go i H ∧ ∃ nx : Hp → Prop, (∀ H', nx H' → nxt H') ∧ ∀ x H', J.yld i H x H' → B x H' nx)
/-- a walk to its end, by a measure -/
def Whole (J : It) (H : Hp) (fin : Hp → Prop) (B : V → Hp → (Hp → Prop) → Prop) : Prop :=
  ∃ W : Nat → Nat → Hp → Prop, (∃ m, W 0 m H) ∧ ∀ i m H, W i m H → Step J i H fin (fun H' => ∃ m', m' < m ∧ W (i + 1) m' H') B
theorem whole_list {K : PySem.W.Frag} {a : Addr} {xs : List V} {H : Hp} {fin : Hp → Prop} {B : V → Hp → (Hp → Prop) → Prop} (Pv : Nat → Hp → Prop) (h0 : Pv 0 H) (hl : ∀ i H, Pv i H → SqL K H a xs)
    (hs : ∀ i x H, xs[i]? = some x → Pv i H → B x H (Pv (i + 1))) (hd : ∀ H, Pv xs.length H → fin H) : Whole (Itl K a) H fin B := by
  refine ⟨fun i m H => i + m = xs.length ∧ Pv i H, ⟨xs.length, Nat.zero_add _, h0⟩, fun i m H ⟨e, p⟩ => ?_⟩
  have q := hl i H p
  cases m with
  | zero => exact .inl ⟨⟨xs, q, by omega⟩, hd H (by rw [← e]; exact p)⟩
  | succ m =>
    have hlt : i < xs.length := by omega
    refine .inr ⟨⟨xs, xs[i], q, List.getElem?_eq_getElem hlt⟩, Pv (i + 1), fun H' p' => ⟨m, Nat.lt_succ_self m, by omega, p'⟩, fun x H' y => ?_⟩
    obtain ⟨rfl, y⟩ := y
    exact hs i x _ (y xs q) p
theorem whole_range {lo : Int} {n : Nat} {H : Hp} {fin : Hp → Prop} {B : V → Hp → (Hp → Prop) → Prop} (Pv : Nat → Hp → Prop) (h0 : Pv 0 H)
    (hs : ∀ i H, i < n → Pv i H → B (.int (lo + (i : Int))) H (Pv (i + 1))) (hd : ∀ H, Pv n H → fin H) : Whole (Itr lo n) H fin B := by
  refine ⟨fun i m H => i + m = n ∧ Pv i H, ⟨n, Nat.zero_add _, h0⟩, fun i m H ⟨e, p⟩ => ?_⟩
  cases m with
  | zero => exact .inl ⟨show n ≤ i by omega, hd H (by rw [← e]; exact p)⟩
  | succ m =>
    have hlt : i < n := by omega
    refine .inr ⟨hlt, Pv (i + 1), fun H' p' => ⟨m, Nat.lt_succ_self m, by omega, p'⟩, fun x H' y => ?_⟩
    obtain ⟨rfl, rfl⟩ := y
    exact hs i _ hlt p
theorem thnX {α : Type} {Y : Cx} {t : Sem α} {Q Q' : α → Shared → Prop} {M : Model} {A : Around} {E : Value → Shared → Prop} {s : Shared} (hx : ∀ v s, ¬ Y.xe v s) (h : wpAny M A t Q Y.xe s) (hQ : ∀ a s, Q a s → Q' a s) : wpAny M A t Q' E s :=
  wpAny_mono h hQ fun v s z => (hx v s z).elim
/-- set.add of a text -/
theorem add_text {Y : Cx} {pins : List (Addr × Obj)} {σ : L2.St} {H : Hp} {s : Shared} {E : Value → Shared → Prop} {D : Addr} {S : Str → Bool} {n : Nat} {c : Str} {u : Value} {Q : Value → Shared → Prop} (I : Inv Y pins σ H s) (hD : H D = some (SetSO Y.w D S n)) (hu : RelV (.str c) u) (room : n + 1 < scanBound)
    (h : ∀ s', Inv Y pins σ (upd H D (SetSO Y.w D (fun j => S j || decide (j = c)) (if S c = true then n else n + 1))) s' → Q .none s') : wpAny (model Y.prog Y.w) Y.A (call (.builtin "set.add") [.ref D, u]) Q E s := by
  obtain ⟨tk, rfl⟩ := hu
  refine add_call (setSO_get I hD) room fun h' sb R => h _ ?_
  have he : ∃ u, h'.get? D = some u := let ⟨o, _, _, _, r⟩ := R; ⟨o, r.get⟩
  exact I.write (e := D) (t' := s.toks + 1) (by rw [hD]; trivial) (.inl rfl) (fun b u hb hu => (sb.2 b hb).trans hu) he (setSO_new R)
section
variable {Y : Cx}
/-- a source's next thing, put into its name; what is behind it may go on as it likes as long as it knows the slots -/
theorem hand {tg : Expr} {J : It} {fp : List Addr} {it : Addr} {tn : Nat → Heap → Prop} {g : TG} {pins : List (Addr × Obj)} {σ : L2.St} {H : Hp} {s : Shared} {i : Nat} {vs : List Nat} {B : L2.St → Hp → Prop} (hc : Y.calm = true) (hx : ∀ v s, ¬ Y.xe v s) (T : Turn Y.prog Y.w Y.K tg J fp it tn) (pg : PG Y tg g)
    (I : Inv Y pins σ H s) (hf : ∀ b ∈ fp, FpOk Y pins H b) (st : tn i s.heap) (go : J.go i H) (h : ∀ x H', J.yld i H x H' → g x σ H' fun σ2 H2 => wipe σ2 vs = σ ∧ B σ2 H2) :
    wpAny (model Y.prog Y.w) Y.A (pyNext (.ref it)) (fun r s1 => ∃ u, r = some u ∧ wpAny (model Y.prog Y.w) Y.A (letOwnedTupleGo tg (.ref it) u) (fun _ s2 => wpAny (model Y.prog Y.w) Y.A (assign tg Y.env u)
      (fun _ s3 => ∃ pl σ2 H2, wipe σ2 vs = σ ∧ Inv Y (pins ++ pl) σ2 H2 s3 ∧ B σ2 H2 ∧ ∀ σ9 H9 s9, Inv Y (pins ++ pl) σ9 H9 s9 → σ.length = σ9.length → (∀ (j : Nat) v, σ[j]? = some (some v) → σ9[j]? = some (some v)) → Inv Y pins σ H9 s9 ∧ tn (i + 1) s9.heap ∧ ∀ b ∈ fp, H9 b = none) No s2) No s1) No s := by
  refine thnF (T.item Y rfl rfl rfl hc i pins s σ H No I hf st go) fun r s1 ⟨u, hr, h1⟩ => ⟨u, hr, thnF h1 fun _ s2 ⟨x, H2, I2, rx, hy, st2, n2⟩ => ?_⟩
  have P2 := I2.pinned (fun b hb => ⟨n2 b hb, (hf b hb).2⟩) (T.obj _ _ st2)
  refine thnX hx (pg.run _ s2 σ H2 x u _ P2 rx (h x H2 hy)) fun _ s3 ⟨σ3, H3, I3, hw, b3⟩ => ⟨_, σ3, H3, hw, I3, b3, fun σ9 H9 s9 I9 hl hk => ?_⟩
  have stay : ∀ b ∈ fp, ∀ o, s2.heap.get? b = some o → s9.heap.get? b = some o ∧ H9 b = none := fun b hb o e =>
    let z := I9.pin (b, o) (List.mem_append_right _ (List.mem_append_right _ (mem_pinsAt hb e)))
    ⟨z.1, z.2.1⟩
  refine ⟨I9.unpinned.weak hl hk, T.keep _ _ _ st2 fun b hb o e => (stay b hb o e).1, fun b hb => ?_⟩
  obtain ⟨o, e, _⟩ := T.obj _ _ st2 b hb
  exact (stay b hb o e).2
/-- what the second source's things come to -/
abbrev In (w : World) (g : TG) (te : TE) (D : Addr) (σ : L2.St) (vs : List Nat) : V → Hp → (Hp → Prop) → Prop := fun x H nx => g x σ H fun σ3 H3 => wipe σ3 vs = σ ∧ te σ3 H3 fun y H4 => ∃ (c : Str) (S : Str → Bool) (n : Nat), y = .str c ∧ H4 D = some (SetSO w D S n) ∧ n + 1 < scanBound ∧ nx (upd H4 D (SetSO w D (fun j => S j || decide (j = c)) (if S c = true then n else n + 1)))
theorem wiped {σ τ : L2.St} {vs : List Nat} (h : wipe τ vs = σ) : σ.length = τ.length ∧ ∀ (j : Nat) (v : V), σ[j]? = some (some v) → τ[j]? = some (some v) :=
  ⟨by rw [← h, wipe_length], fun j v e => by rw [← h] at e; exact (wipe_some e).1⟩
theorem inner {elt t0 i0 t1 i1 : Expr} {scope : Scope} {pos : Pos} {J : It} {fp : List Addr} {it D : Addr} {tn : Nat → Heap → Prop} {g : TG} {te : TE} {pins : List (Addr × Obj)} {σ : L2.St} {H : Hp} {s : Shared} {vs : List Nat} {fin : Hp → Prop} {R : Result → Shared → Prop}
    (hc : Y.calm = true) (hx : ∀ v s, ¬ Y.xe v s) (T : Turn Y.prog Y.w Y.K t1 J fp it tn) (pg : PG Y t1 g) (pe : PE Y elt te) (I : Inv Y pins σ H s) (hf : ∀ b ∈ fp, FpOk Y pins H b) (st : tn 0 s.heap) (h : Whole J H fin (In Y.w g te D σ vs))
    (done : ∀ s' H', Inv Y pins σ H' s' → fin H' → R (.ok .next) s') : codeAny (model Y.prog Y.w) Y.A (.compLoop (two elt t0 i0 t1 i1 scope pos) 1 (.ref it) (.ref D) Y.env) R s := by
  obtain ⟨W, ⟨m, w0⟩, turn⟩ := h
  refine codeAny_loop rfl (fun k s' => ∃ j H', Inv Y pins σ H' s' ∧ tn j s'.heap ∧ (∀ b ∈ fp, H' b = none) ∧ W j k H') (fun k s1 ⟨j, H1, I1, st1, n1, w1⟩ => ?_) m ⟨0, H, I, st, fun b hb => (hf b hb).1, w0⟩
  have f1 : ∀ b ∈ fp, FpOk Y pins H1 b := fun b hb => ⟨n1 b hb, (hf b hb).2⟩
  show wpAny _ Y.A ((compTurn (two elt t0 i0 t1 i1 scope pos) 1 (.ref it) (.ref D) Y.env).onRaise (fun x => do noteFrame x Y.env; theTreesLotGoes x)) _ _ s1
  refine wpAny_noted ?_
  rw [inner_turn]
  refine wpAny_bind (wpAny_standAt (wpAny_bind ?_))
  rcases turn j k H1 w1 with ⟨stop, q⟩ | ⟨go, nx, hn, b⟩
  · refine thnF (T.done Y rfl rfl rfl hc j pins _ σ H1 No I1 f1 st1 stop) fun r s2 ⟨hr, I2⟩ => ?_
    subst hr
    exact wpAny_pure (done s2 H1 I2 q)
  · refine thnF (hand (vs := vs) hc hx T pg I1 f1 st1 go b) fun r s2 ⟨u, hr, h2⟩ => ?_
    subst hr
    refine wpAny_bind (thnF h2 fun _ s3 h3 => wpAny_bind (thnF h3 fun _ s4 ⟨pl, σ4, H4, hw, I4, b4, back⟩ => ?_))
    refine wpAny_bind (wpAny_bind (thnX hx (pe.run _ s4 σ4 H4 _ I4 b4) fun z s5 ⟨y, H5, I5, r5, c, S, n, ey, hD5, room, nx5⟩ => ?_))
    subst ey
    refine wpAny_bind (wpAny_standAt (wpAny_bind (add_text I5 hD5 r5 room fun s6 I6 => wpAny_pure (wpAny_pure ⟨rfl, ?_⟩))))
    obtain ⟨I7, st7, n7⟩ := back σ4 _ s6 I6 (wiped hw).1 (wiped hw).2
    obtain ⟨m', hm, w'⟩ := hn _ nx5
    exact ⟨m', hm, j + 1, _, I7, st7, n7, w'⟩
theorem start_inner {elt t0 i0 t1 i1 : Expr} {scope : Scope} {pos : Pos} {prog : Program} {w : World} {A : Around} {R : Result → Shared → Prop} {s : Shared} {it acc : Value} {env : Env}
    (h : codeAny (model prog w) A (.compLoop (two elt t0 i0 t1 i1 scope pos) 1 it acc env) R s)
    (hi : ∀ (Q E : Value → Shared → Prop), Q it s → wpAny (model prog w) A (pyIter it) Q E s) : codeAny (model prog w) A (.compStart (two elt t0 i0 t1 i1 scope pos) 1 it acc env) R s := by
  refine codeAny_of_tree ?_
  show wpAny _ _ ((compStart (two elt t0 i0 t1 i1 scope pos) 1 it acc env).onRaise (fun x => do noteFrame x env; standAt theWindowsPlace)) _ _ s
  refine wpAny_notedAt ?_
  unfold compStart
  show wpAny _ _ (ask >>= _) _ _ s
  refine wpAny_bind (wpAny_askSetting (wpAny_ite ?_))
  split
  · first
      | exact wpAny_pure ⟨rfl, h⟩
      | exact wpAny_bind (wpAny_pure (wpAny_pure ⟨rfl, h⟩))
  · refine wpAny_bind (wpAny_rule ?_)
    show wpAny _ _ (standAt i1.pos >>= _) _ _ s
    exact wpAny_bind (wpAny_standAt (wpAny_bind (hi _ _ (wpAny_pure ⟨rfl, h⟩))))
/-- what the first source's things come to -/
abbrev Out (w : World) (g : TG) (wi1 : TI) (g1 : TG) (te : TE) (D : Addr) (σ : L2.St) (vs vs1 : List Nat) : V → Hp → (Hp → Prop) → Prop := fun x H nx => g x σ H fun σ2 H2 => wipe σ2 vs = σ ∧ wi1 σ2 H2 fun J1 H3 => Whole J1 H3 nx (In w g1 te D (wipe σ2 vs1) vs1)
theorem outer {elt t0 i0 t1 i1 : Expr} {scope : Scope} {pos : Pos} {J : It} {fp : List Addr} {it D : Addr} {tn : Nat → Heap → Prop} {g g1 : TG} {wi1 : TI} {te : TE} {σ : L2.St} {H : Hp} {s : Shared} {vs vs1 : List Nat} {fin : Hp → Prop} {R : Result → Shared → Prop}
    (hc : Y.calm = true) (hx : ∀ v s, ¬ Y.xe v s) (hs1 : ∀ env x, foldedSetIterable i1 env x = pure x) (hv : ∀ i ∈ vs1, i ∈ vs) (T : Turn Y.prog Y.w Y.K t0 J fp it tn) (pg : PG Y t0 g) (pi1 : PI Y t1 i1 wi1) (pg1 : PG Y t1 g1) (pe : PE Y elt te)
    (I : Inv Y [] σ H s) (hf : ∀ b ∈ fp, FpOk Y [] H b) (st : tn 0 s.heap) (h : Whole J H fin (Out Y.w g wi1 g1 te D σ vs vs1))
    (done : ∀ s' H', Inv Y [] σ H' s' → fin H' → R (.ok .next) s') : codeAny (model Y.prog Y.w) Y.A (.compLoop (two elt t0 i0 t1 i1 scope pos) 0 (.ref it) (.ref D) Y.env) R s := by
  obtain ⟨W, ⟨m, w0⟩, turn⟩ := h
  refine codeAny_loop rfl (fun k s' => ∃ j H', Inv Y [] σ H' s' ∧ tn j s'.heap ∧ (∀ b ∈ fp, H' b = none) ∧ W j k H') (fun k s1 ⟨j, H1, I1, st1, n1, w1⟩ => ?_) m ⟨0, H, I, st, fun b hb => (hf b hb).1, w0⟩
  have f1 : ∀ b ∈ fp, FpOk Y [] H1 b := fun b hb => ⟨n1 b hb, (hf b hb).2⟩
  show wpAny _ Y.A ((compTurn (two elt t0 i0 t1 i1 scope pos) 0 (.ref it) (.ref D) Y.env).onRaise (fun x => do noteFrame x Y.env; theTreesLotGoes x)) _ _ s1
  refine wpAny_noted ?_
  rw [outer_turn]
  refine wpAny_bind (wpAny_standAt (wpAny_bind ?_))
  rcases turn j k H1 w1 with ⟨stop, q⟩ | ⟨go, nx, hn, b⟩
  · refine thnF (T.done Y rfl rfl rfl hc j [] _ σ H1 No I1 f1 st1 stop) fun r s2 ⟨hr, I2⟩ => ?_
    subst hr
    exact wpAny_pure (done s2 H1 I2 q)
  · refine thnF (hand (vs := vs) hc hx T pg I1 f1 st1 go b) fun r s2 ⟨u, hr, h2⟩ => ?_
    subst hr
    refine wpAny_bind (thnF h2 fun _ s3 h3 => wpAny_bind (thnF h3 fun _ s4 ⟨pl, σ4, H4, hw, I4, b4, back⟩ => ?_))
    refine wpAny_bind (thnX hx (pi1.run _ s4 σ4 H4 _ I4 b4) fun x s5 h5 => ?_)
    refine wpAny_bind (wpAny_standAt (wpAny_bind (wpAny_of_eq (hs1 _ x) (wpAny_bind (wpAny_holding (thnX hx h5 fun itv s6 h6 => ?_))))))
    obtain ⟨it1, fp1, tn1, J1, H6, e6, I6, T1, st6, f6, W6⟩ := h6
    subst e6
    have know : ∀ (j : Nat) v, σ[j]? = some (some v) → (wipe σ4 vs1)[j]? = some (some v) := fun j v e => by
      rw [← hw] at e
      obtain ⟨e1, e2⟩ := wipe_some e
      rw [wipe_out fun z => e2 (hv j z)]
      exact e1
    have L := inner (elt := elt) (t0 := t0) (i0 := i0) (i1 := i1) (scope := scope) (pos := pos) (R := fun r s' => match r with
        | .ok _ => ∃ m, m < k ∧ ∃ j H', Inv Y [] σ H' s' ∧ tn j s'.heap ∧ (∀ b ∈ fp, H' b = none) ∧ W j m H'
        | .error _ => False) hc hx T1 pg1 pe (I6.weak (wipe_length σ4 vs1) (fun j v e => (wipe_some e).1)) f6 st6 W6 (fun s7 H7 I7 q7 => by
      obtain ⟨I8, st8, n8⟩ := back _ _ s7 I7 (by rw [wipe_length]; exact (wiped hw).1) know
      obtain ⟨m', hm, w'⟩ := hn _ q7
      exact ⟨m', hm, j + 1, _, I8, st8, n8, w'⟩)
    refine wpAny_bind (wpAny_runOwn ?_)
    rw [Around.mark_none]
    refine codeAny_mono (start_inner L fun Q E q => T1.self Y.A 0 _ _ _ st6 q) fun r s' hr => ?_
    cases r with
    | ok f =>
      first
        | exact wpAny_pure ⟨rfl, hr⟩
        | exact wpAny_bind (wpAny_pure (wpAny_pure ⟨rfl, hr⟩))
    | error e => exact hr.elim
end
/-- {elt for t0 in i0 for t1 in i1}: D the new set; vs the block's names, vs1 those of the second target -/
def tSc2 (w : World) (wi : TI) (g : TG) (wi1 : TI) (g1 : TG) (te : TE) (vs vs1 : List Nat) : TE := fun σ H Q => wi σ H fun J H1 => ∀ D, H1 D = none → Whole J (upd H1 D (SetSO w D (fun _ => false) 0)) (Q (.ref D)) (Out w g wi1 g1 te D (wipe σ vs) vs vs1)
section
variable {X : Cx}
/-- a new empty set behind a source's start: what the source needs stays -/
theorem with_set {pins : List (Addr × Obj)} {σ : L2.St} {H : Hp} {s : Shared} {tg : Expr} {J : It} {fp : List Addr} {it : Addr} {tn : Nat → Heap → Prop} (I : Inv X pins σ H s) (T : Turn X.prog X.w X.K tg J fp it tn) (st : tn 0 s.heap) (f : ∀ b ∈ fp, FpOk X pins H b) :
    H s.heap.objs.size = none ∧ Inv X pins σ (upd H s.heap.objs.size (SetSO X.w s.heap.objs.size (fun _ => false) 0)) { s with heap := s.heap.push (newO X.w) } ∧ tn 0 (s.heap.push (newO X.w)) ∧
      ∀ b ∈ fp, FpOk X pins (upd H s.heap.objs.size (SetSO X.w s.heap.objs.size (fun _ => false) 0)) b ∧ b < (s.heap.push (newO X.w)).objs.size := by
  have fr : H s.heap.objs.size = none := I.hok.fresh (Nat.le_refl _)
  have kp : ∀ b o, s.heap.get? b = some o → (s.heap.push (newO X.w)).get? b = some o := fun b o e => Heap.get?_push_of_some _ e
  refine ⟨fr, I.laid (t' := s.toks) kp (Nat.le_refl _) (setSO_new (fresh X.w (Heap.get?_push_size _ rfl))), T.keep _ _ _ st fun b _ o e => kp b o e, fun b hb => ?_⟩
  obtain ⟨o, e, _⟩ := T.obj _ _ st b hb
  have lt := Heap.lt_size e
  exact ⟨⟨by rw [upd_ne (Nat.ne_of_lt lt)]; exact (f b hb).1, (f b hb).2⟩, by rw [Heap.size_push]; exact Nat.lt_succ_of_lt lt⟩
theorem pe_sc2 {elt t0 i0 t1 i1 : Expr} {scope : Scope} {own : List (PySem.Str × Nat)} {vs1 : List Nat} {pos : Pos} {wi wi1 : TI} {g g1 : TG} {te : TE} (hc : X.calm = true) (hN : X.N.Nodup) (hi : PI X t0 i0 wi) (ok : BlkOk X.N X.env.scope scope own) (hv : ∀ i ∈ vs1, i ∈ own.map (·.2))
    (hg : ∀ (s : Shared) (H : Hp) (C : Addr) (cl : List (PySem.Str × Addr)) (fp : List Addr), PG (X.blk s H scope (compEnvC scope cl C X.env) fp) t0 g)
    (hi1 : ∀ (s : Shared) (H : Hp) (C : Addr) (cl : List (PySem.Str × Addr)) (fp : List Addr), PI (X.blk s H scope (compEnvC scope cl C X.env) fp) t1 i1 wi1)
    (hg1 : ∀ (s : Shared) (H : Hp) (C : Addr) (cl : List (PySem.Str × Addr)) (fp : List Addr), PG (X.blk s H scope (compEnvC scope cl C X.env) fp) t1 g1)
    (he : ∀ (s : Shared) (H : Hp) (C : Addr) (cl : List (PySem.Str × Addr)) (fp : List Addr), PE (X.blk s H scope (compEnvC scope cl C X.env) fp) elt te)
    (hs : ∀ x, foldedSetIterable i0 X.env x = pure x := by intro _; rfl) (hs1 : ∀ env x, foldedSetIterable i1 env x = pure x := by intro _ _; rfl) :
    PE X (two elt t0 i0 t1 i1 scope pos) (tSc2 X.w wi g wi1 g1 te (own.map (·.2)) vs1) := by
  refine ⟨fun pins s σ H Q I h => ?_⟩
  rw [PpSet.eval_SetComp]
  have hfree : ∀ y ∈ scope.names, y.2 = .free → ∃ c, X.env.cells.lookup y.1 = some c := fun y hy e => (ok.free y hy e).elim (fun k => I.ok.has _ (.inl k)) fun k => I.ok.has _ (.inr k)
  refine wpAny_comprehension_free (use := none) rfl hs (closure_ok hfree) ok.kind (fun y hy e => by rw [ok.uniq y hy, e]) (thn (hi.run pins s σ H _ I h) fun xv s1 h1 => thn h1 fun itv s2 h2 => ?_)
  obtain ⟨it, fp, tn, J, H2, e, I2, T, st2, f2, q⟩ := h2
  subst e
  refine PpSet.newSet_ok (newEnv_comp ?_)
  obtain ⟨fr, I3, st3, f3⟩ := with_set I2 T st2 f2
  have q := q s2.heap.objs.size fr
  have I4 := block_start I3 ok hN f3
  have st4 : tn 0 (pushCells ((s2.heap.push (newO X.w)).push { cls := Value.type "dict", data := Data.dict #[] }) scope.names) := T.keep _ _ _ st3 fun b _ o e => pushCells_keeps _ _ _ _ (Heap.get?_push_of_some _ e)
  have L := outer (Y := X.blk { s2 with heap := s2.heap.push (newO X.w) } (upd H2 s2.heap.objs.size (SetSO X.w s2.heap.objs.size (fun _ => false) 0)) scope (compEnvC scope (cellsFrom ((s2.heap.push (newO X.w)).objs.size + 1) scope.names (cloFrom X.env.cells scope.names [])) (s2.heap.push (newO X.w)).objs.size X.env) fp) (elt := elt) (i0 := i0) (scope := scope) (pos := pos) (R := compPost (model X.prog X.w) X.A X.xe none (fun u s' => EP X pins σ Q u s') (.ref s2.heap.objs.size) (s2.heap.push (newO X.w)).objs.size) hc (fun _ _ z => z) hs1 hv T (hg _ _ _ _ _) (hi1 _ _ _ _ _) (hg1 _ _ _ _ _) (he _ _ _ _ _) I4
    (fun b hb => ⟨(f3 b hb).1.1, (I4.ok.exf b hb).1, I4.ok.exfs b hb, .inl hb, fun x c e => (I4.ok.exf b hb).2 x c e, fun p hp => absurd (show p ∈ ([] : List (Addr × Obj)) ++ [] from hp) (by simp)⟩) st4 q (fun s5 H5 I5 q5 => ?_)
  · exact PpSet.codeAny_compStart_set L (T.self X.A 0 _ _ _ st4 L)
  · have I6 : Inv X pins σ H5 s5 := I3.call' (ch := fp) I5.os I5.base I5.hok I5.bare fun b hb => ⟨(f3 b hb).1.2.2.2.1, (f3 b hb).1.2.1, (f3 b hb).1.2.2.2.2.1, (f3 b hb).1.2.2.2.2.2⟩
    obtain ⟨m, hn, _⟩ := I5.loc
    obtain ⟨f0, f1, f2', f3', f4, f5⟩ := I3.fpOk (Nat.le_refl _) (show H5 (s2.heap.push (newO X.w)).objs.size = none from I5.free)
    exact ⟨m, hn, fun h'' sb => ⟨.ref _, H5, I6.turned (t' := s5.toks) (fun b o hb e => (sb.2 b hb).trans e) f0 f1 f3' f4 f5, rfl, q5⟩⟩
end
end SetC2

set_option Elab.async false
set_option linter.all false
set_option maxRecDepth 100000
/-! a dict comprehension over whatever a Walk tells of; an expression whose rule is either of two -/
namespace L2
open PySem PySem.Spec PyProof.Rows
theorem pe_either {X : Cx} {e : Expr} {ta tb : TE} (ha : PE X e ta) (hb : PE X e tb) : PE X e (fun σ H Q => ta σ H Q ∨ tb σ H Q) :=
  ⟨fun pins s σ H Q I h => h.elim (ha.run pins s σ H Q I) (hb.run pins s σ H Q I)⟩
/-- an f-string, as a name of its own -/
def tJ (ts : List TE) : TE := fun σ H Q => tJs ts Str.empty σ H fun out H1 => Q (.str out) H1
theorem pe_joinT {X : Cx} {v1 v2 : Expr} {rest : List Expr} {ts : List TE} {pos : Pos} (h : PJ X (v1 :: v2 :: rest) ts) : PE X (.JoinedStr (v1 :: v2 :: rest) pos) (tJ ts) := pe_joined h
theorem dc_it {J : It} {n : Nat} {G : Hp → Prop} {Y : Nat → Hp → V → Hp → Prop} (w : Walk J n G Y) {g : TG} {tt : TT} {tk tv : TE} {vs : List Nat} {σ : St} {H1 : Hp} {D : Addr} {Qd : Hp → Prop} (Pv : Nat → Hp → Prop)
    (h0 : Pv 0 (upd H1 D (.dK []))) (hG : ∀ i H, i ≤ n → Pv i H → G H) (hs : ∀ i x H H', i < n → Pv i H → Y i H x H' → (g x (wipe σ vs) H' fun σ2 H2 => wipe σ2 vs = wipe σ vs ∧ tt σ2 H2 fun b H3 => if b = true then (tk σ2 H3 fun y H4 => tv σ2 H4 fun z H5 => ∃ kvs k, y = kV k ∧ H5 D = some (.dK kvs) ∧ kvs.length < sizeLine ∧ Pv (i + 1) (upd H5 D (.dK (putK kvs k z)))) else Pv (i + 1) H3)) (hd : ∀ H, Pv n H → Qd H) :
    ∃ W : Nat → Nat → Hp → Prop, (∃ m, W 0 m (upd H1 D (.dK []))) ∧ ∀ i m H, W i m H → (J.stop i H ∧ Qd H) ∨
      (J.go i H ∧ ∃ Nx : Hp → Prop, (∀ H', Nx H' → ∃ m', m' < m ∧ W (i + 1) m' H') ∧ ∀ x H', J.yld i H x H' → (g x (wipe σ vs) H' fun σ2 H2 => wipe σ2 vs = wipe σ vs ∧ tt σ2 H2 fun b H3 => if b = true then (tk σ2 H3 fun y H4 => tv σ2 H4 fun z H5 => ∃ kvs k, y = kV k ∧ H5 D = some (.dK kvs) ∧ kvs.length < sizeLine ∧ Nx (upd H5 D (.dK (putK kvs k z)))) else Nx H3)) := by
  refine ⟨fun i m H => (m = n - i ∧ i ≤ n) ∧ Pv i H, ⟨n, ⟨rfl, Nat.zero_le _⟩, h0⟩, ?_⟩
  rintro i m H ⟨⟨rfl, hi⟩, p⟩
  rcases Nat.lt_or_ge i n with hlt | hge
  · exact .inr ⟨w.goes i H hlt (hG i H hi p), Pv (i + 1), fun H' p' => ⟨n - (i + 1), by omega, ⟨rfl, hlt⟩, p'⟩, fun x H' y => hs i x H H' hlt p (w.yields i H x H' hlt (hG i H hi p) y)⟩
  · have e : n = i := Nat.le_antisymm hge hi
    subst e
    exact .inl ⟨w.stops H (hG _ H hi p), hd H p⟩
end L2

set_option Elab.async false
set_option linter.all false
set_option maxRecDepth 100000
set_option maxHeartbeats 4000000
namespace J
open PySem L2
def topS (i : Nat) : Stmt := PySem.Challenge.pw_onewayread_k39_texts_read_by_plain_books.main.body.getD i (.Pass ⟨0, 0, 0, 0⟩)
abbrev s_InvalidLoom_init : Stmt := inClass (topS 2) 0
abbrev N_InvalidLoom_init : List Str := ["self", "part", "at"]
abbrev P_InvalidLoom_init : List Str := ["self", "part", "at"]
theorem sc_InvalidLoom_init : FnScope N_InvalidLoom_init P_InvalidLoom_init (defScope s_InvalidLoom_init) := ⟨rfl, rfl, rfl, by decide +kernel, rfl, by decide +kernel, by decide +kernel⟩
abbrev s_is_number : Stmt := topS 12
abbrev N_is_number : List Str := ["thing", "low", "high"]
abbrev P_is_number : List Str := ["thing", "low", "high"]
theorem sc_is_number : FnScope N_is_number P_is_number (defScope s_is_number) := ⟨rfl, rfl, rfl, by decide +kernel, rfl, by decide +kernel, by decide +kernel⟩
abbrev s_is_sequence : Stmt := topS 13
abbrev N_is_sequence : List Str := ["thing", "fewest", "most"]
abbrev P_is_sequence : List Str := ["thing", "fewest", "most"]
theorem sc_is_sequence : FnScope N_is_sequence P_is_sequence (defScope s_is_sequence) := ⟨rfl, rfl, rfl, by decide +kernel, rfl, by decide +kernel, by decide +kernel⟩
abbrev s_is_signs : Stmt := topS 14
abbrev N_is_signs : List Str := ["thing", "letters", "sign", "one", "other"]
abbrev P_is_signs : List Str := ["thing"]
theorem sc_is_signs : FnScope N_is_signs P_is_signs (defScope s_is_signs) := ⟨rfl, rfl, rfl, by decide +kernel, rfl, by decide +kernel, by decide +kernel⟩
abbrev s_is_string_over : Stmt := topS 15
abbrev N_is_string_over : List Str := ["signs", "thing", "fewest", "most", "sign"]
abbrev P_is_string_over : List Str := ["signs", "thing", "fewest", "most"]
theorem sc_is_string_over : FnScope N_is_string_over P_is_string_over (defScope s_is_string_over) := ⟨rfl, rfl, rfl, by decide +kernel, rfl, by decide +kernel, by decide +kernel⟩
abbrev s_is_word : Stmt := topS 16
abbrev N_is_word : List Str := ["signs", "thing"]
abbrev P_is_word : List Str := ["signs", "thing"]
theorem sc_is_word : FnScope N_is_word P_is_word (defScope s_is_word) := ⟨rfl, rfl, rfl, by decide +kernel, rfl, by decide +kernel, by decide +kernel⟩
abbrev s_check_signs : Stmt := topS 17
abbrev N_check_signs : List Str := ["signs"]
abbrev P_check_signs : List Str := ["signs"]
theorem sc_check_signs : FnScope N_check_signs P_check_signs (defScope s_check_signs) := ⟨rfl, rfl, rfl, by decide +kernel, rfl, by decide +kernel, by decide +kernel⟩
abbrev s_check_text : Stmt := topS 18
abbrev N_check_text : List Str := ["signs", "text"]
abbrev P_check_text : List Str := ["signs", "text"]
theorem sc_check_text : FnScope N_check_text P_check_text (defScope s_check_text) := ⟨rfl, rfl, rfl, by decide +kernel, rfl, by decide +kernel, by decide +kernel⟩
abbrev s_is_arc : Stmt := topS 21
abbrev N_is_arc : List Str := ["signs", "thing", "state", "word", "goal"]
abbrev P_is_arc : List Str := ["signs", "thing"]
theorem sc_is_arc : FnScope N_is_arc P_is_arc (defScope s_is_arc) := ⟨rfl, rfl, rfl, by decide +kernel, rfl, by decide +kernel, by decide +kernel⟩
abbrev s_Loom_init : Stmt := inClass (topS 22) 0
abbrev N_Loom_init : List Str := ["self", "signs", "arcs", "at", "arc"]
abbrev P_Loom_init : List Str := ["self", "signs", "arcs"]
theorem sc_Loom_init : FnScope N_Loom_init P_Loom_init (defScope s_Loom_init) := ⟨rfl, rfl, rfl, by decide +kernel, rfl, by decide +kernel, by decide +kernel⟩
abbrev s_Loom_eq : Stmt := inClass (topS 22) 1
abbrev N_Loom_eq : List Str := ["self", "other"]
abbrev P_Loom_eq : List Str := ["self", "other"]
theorem sc_Loom_eq : FnScope N_Loom_eq P_Loom_eq (defScope s_Loom_eq) := ⟨rfl, rfl, rfl, by decide +kernel, rfl, by decide +kernel, by decide +kernel⟩
abbrev s_shorter_first : Stmt := topS 24
abbrev N_shorter_first : List Str := ["texts"]
abbrev P_shorter_first : List Str := ["texts"]
theorem sc_shorter_first : FnScope N_shorter_first P_shorter_first (defScope s_shorter_first) := ⟨rfl, rfl, rfl, by decide +kernel, rfl, by decide +kernel, by decide +kernel⟩
abbrev s_book : Stmt := topS 26
abbrev N_book : List Str := ["signs", "words", "word"]
abbrev P_book : List Str := ["signs", "words"]
theorem sc_book : FnScope N_book P_book (defScope s_book) := ⟨rfl, rfl, rfl, by decide +kernel, rfl, by decide +kernel, by decide +kernel⟩
abbrev s_is_book : Stmt := topS 27
abbrev N_is_book : List Str := ["thing", "arc"]
abbrev P_is_book : List Str := ["thing"]
theorem sc_is_book : FnScope N_is_book P_is_book (defScope s_is_book) := ⟨rfl, rfl, rfl, by decide +kernel, rfl, by decide +kernel, by decide +kernel⟩
abbrev s_check_book : Stmt := topS 28
abbrev N_check_book : List Str := ["a_book"]
abbrev P_check_book : List Str := ["a_book"]
theorem sc_check_book : FnScope N_check_book P_check_book (defScope s_check_book) := ⟨rfl, rfl, rfl, by decide +kernel, rfl, by decide +kernel, by decide +kernel⟩
abbrev s_words : Stmt := topS 29
abbrev N_words : List Str := ["a_book", "arc"]
abbrev P_words : List Str := ["a_book"]
theorem sc_words : FnScope N_words P_words (defScope s_words) := ⟨rfl, rfl, rfl, by decide +kernel, rfl, by decide +kernel, by decide +kernel⟩
abbrev s_is_plain : Stmt := topS 31
abbrev N_is_plain : List Str := ["a_book", "told", "word", "longer"]
abbrev P_is_plain : List Str := ["a_book"]
theorem sc_is_plain : FnScope N_is_plain P_is_plain (defScope s_is_plain) := ⟨rfl, rfl, rfl, by decide +kernel, rfl, by decide +kernel, by decide +kernel⟩
abbrev s_check_plain : Stmt := topS 32
abbrev N_check_plain : List Str := ["a_book"]
abbrev P_check_plain : List Str := ["a_book"]
theorem sc_check_plain : FnScope N_check_plain P_check_plain (defScope s_check_plain) := ⟨rfl, rfl, rfl, by decide +kernel, rfl, by decide +kernel, by decide +kernel⟩
abbrev s_standings : Stmt := topS 33
abbrev N_standings : List Str := ["a_book", "word", "at"]
abbrev P_standings : List Str := ["a_book"]
theorem sc_standings : FnScope N_standings P_standings (defScope s_standings) := ⟨rfl, rfl, rfl, by decide +kernel, rfl, by decide +kernel, by decide +kernel⟩
abbrev s_go : Stmt := topS 34
abbrev N_go : List Str := ["a_book", "standing", "text", "known", "place", "told"]
abbrev P_go : List Str := ["a_book", "standing", "text"]
theorem sc_go : FnScope N_go P_go (defScope s_go) := ⟨rfl, rfl, rfl, by decide +kernel, rfl, by decide +kernel, by decide +kernel⟩
abbrev s_read_on : Stmt := topS 35
abbrev N_read_on : List Str := ["a_book", "standing", "text", "numbers", "known", "place", "told", "sign", "number", "word", "begun"]
abbrev P_read_on : List Str := ["a_book", "standing", "text"]
theorem sc_read_on : FnScope N_read_on P_read_on (defScope s_read_on) := ⟨rfl, rfl, rfl, by decide +kernel, rfl, by decide +kernel, by decide +kernel⟩
abbrev s_l_take : Stmt := topS 37
abbrev N_l_take : List Str := ["_law_script", "_law_pool", "_law_many", "_law_cell", "_law_digit", "_law_seed"]
abbrev P_l_take : List Str := ["_law_script", "_law_pool", "_law_many"]
theorem sc_l_take : FnScope N_l_take P_l_take (defScope s_l_take) := ⟨rfl, rfl, rfl, by decide +kernel, rfl, by decide +kernel, by decide +kernel⟩
abbrev s_l_like : Stmt := topS 38
abbrev N_l_like : List Str := ["_law_told", "_law_due", "_law_k", "_law_key"]
abbrev P_l_like : List Str := ["_law_told", "_law_due"]
theorem sc_l_like : FnScope N_l_like P_l_like (defScope s_l_like) := ⟨rfl, rfl, rfl, by decide +kernel, rfl, by decide +kernel, by decide +kernel⟩
abbrev s_l_signs : Stmt := topS 39
abbrev N_l_signs : List Str := ["_law_script", "_law_pool"]
abbrev P_l_signs : List Str := ["_law_script", "_law_pool"]
theorem sc_l_signs : FnScope N_l_signs P_l_signs (defScope s_l_signs) := ⟨rfl, rfl, rfl, by decide +kernel, rfl, by decide +kernel, by decide +kernel⟩
abbrev s_l_word : Stmt := topS 40
abbrev N_l_word : List Str := ["_law_script", "_law_pool", "_law_signs_here", "_law_most", "_law_k"]
abbrev P_l_word : List Str := ["_law_script", "_law_pool", "_law_signs_here", "_law_most"]
theorem sc_l_word : FnScope N_l_word P_l_word (defScope s_l_word) := ⟨rfl, rfl, rfl, by decide +kernel, rfl, by decide +kernel, by decide +kernel⟩
abbrev s_l_tree : Stmt := topS 41
abbrev N_l_tree : List Str := ["_law_script", "_law_pool", "_law_signs_here", "_law_times", "_law_longest", "_law_found", "_law_k", "_law_at", "_law_word_here", "_law_sign"]
abbrev P_l_tree : List Str := ["_law_script", "_law_pool", "_law_signs_here", "_law_times", "_law_longest"]
theorem sc_l_tree : FnScope N_l_tree P_l_tree (defScope s_l_tree) := ⟨rfl, rfl, rfl, by decide +kernel, rfl, by decide +kernel, by decide +kernel⟩
abbrev s_l_shuffled : Stmt := topS 42
abbrev N_l_shuffled : List Str := ["_law_script", "_law_pool", "_law_items", "_law_rest", "_law_found", "_law_k"]
abbrev P_l_shuffled : List Str := ["_law_script", "_law_pool", "_law_items"]
theorem sc_l_shuffled : FnScope N_l_shuffled P_l_shuffled (defScope s_l_shuffled) := ⟨rfl, rfl, rfl, by decide +kernel, rfl, by decide +kernel, by decide +kernel⟩
abbrev s_l_gone : Stmt := topS 43
abbrev N_l_gone : List Str := ["_law_words", "_law_standing", "_law_text_here", "_law_numbers", "_law_sign", "_law_word_here"]
abbrev P_l_gone : List Str := ["_law_words", "_law_standing", "_law_text_here"]
theorem sc_l_gone : FnScope N_l_gone P_l_gone (defScope s_l_gone) := ⟨rfl, rfl, rfl, by decide +kernel, rfl, by decide +kernel, by decide +kernel⟩
abbrev s_l_text : Stmt := topS 44
abbrev N_l_text : List Str := ["_law_script", "_law_pool", "_law_signs_here", "_law_words", "_law_found", "_law_k", "_law_cut"]
abbrev P_l_text : List Str := ["_law_script", "_law_pool", "_law_signs_here", "_law_words"]
theorem sc_l_text : FnScope N_l_text P_l_text (defScope s_l_text) := ⟨rfl, rfl, rfl, by decide +kernel, rfl, by decide +kernel, by decide +kernel⟩
abbrev s_law : Stmt := topS 45
abbrev N_law : List Str := ["_law_script", "_law_pool", "_law_turn", "_law_signs_here", "_law_words", "_law_made", "_law_text_here", "_law_standing", "_law_told", "_law_due", "_law_cut", "_law_first", "_law_second", "_law_at"]
abbrev P_law : List Str := ["_law_script"]
theorem sc_law : FnScope N_law P_law (defScope s_law) := ⟨rfl, rfl, rfl, by decide +kernel, rfl, by decide +kernel, by decide +kernel⟩
/-- what the top has written -/
structure Tx (K : PySem.W.Frag) (mg : Str → Option Value) : Type where
  f_InvalidLoom_init : Addr
  fd_InvalidLoom_init : FuncData
  F_InvalidLoom_init : Fun K "__init__" "InvalidLoom.__init__" s_InvalidLoom_init f_InvalidLoom_init fd_InvalidLoom_init
  b_InvalidLoom_init : Binds K fd_InvalidLoom_init P_InvalidLoom_init []
  f_is_number : Addr
  fd_is_number : FuncData
  F_is_number : Fun K "is_number" "is_number" s_is_number f_is_number fd_is_number
  b_is_number : Binds K fd_is_number P_is_number []
  m_is_number : mg "is_number" = some (.ref f_is_number)
  f_is_sequence : Addr
  fd_is_sequence : FuncData
  F_is_sequence : Fun K "is_sequence" "is_sequence" s_is_sequence f_is_sequence fd_is_sequence
  b_is_sequence : Binds K fd_is_sequence P_is_sequence []
  m_is_sequence : mg "is_sequence" = some (.ref f_is_sequence)
  f_is_signs : Addr
  fd_is_signs : FuncData
  F_is_signs : Fun K "is_signs" "is_signs" s_is_signs f_is_signs fd_is_signs
  b_is_signs : Binds K fd_is_signs P_is_signs []
  m_is_signs : mg "is_signs" = some (.ref f_is_signs)
  f_is_string_over : Addr
  fd_is_string_over : FuncData
  F_is_string_over : Fun K "is_string_over" "is_string_over" s_is_string_over f_is_string_over fd_is_string_over
  b_is_string_over : Binds K fd_is_string_over P_is_string_over []
  m_is_string_over : mg "is_string_over" = some (.ref f_is_string_over)
  f_is_word : Addr
  fd_is_word : FuncData
  F_is_word : Fun K "is_word" "is_word" s_is_word f_is_word fd_is_word
  b_is_word : Binds K fd_is_word P_is_word []
  m_is_word : mg "is_word" = some (.ref f_is_word)
  f_check_signs : Addr
  fd_check_signs : FuncData
  F_check_signs : Fun K "check_signs" "check_signs" s_check_signs f_check_signs fd_check_signs
  b_check_signs : Binds K fd_check_signs P_check_signs []
  m_check_signs : mg "check_signs" = some (.ref f_check_signs)
  f_check_text : Addr
  fd_check_text : FuncData
  F_check_text : Fun K "check_text" "check_text" s_check_text f_check_text fd_check_text
  b_check_text : Binds K fd_check_text P_check_text []
  m_check_text : mg "check_text" = some (.ref f_check_text)
  f_is_arc : Addr
  fd_is_arc : FuncData
  F_is_arc : Fun K "is_arc" "is_arc" s_is_arc f_is_arc fd_is_arc
  b_is_arc : Binds K fd_is_arc P_is_arc []
  m_is_arc : mg "is_arc" = some (.ref f_is_arc)
  f_Loom_init : Addr
  fd_Loom_init : FuncData
  F_Loom_init : Fun K "__init__" "Loom.__init__" s_Loom_init f_Loom_init fd_Loom_init
  b_Loom_init : Binds K fd_Loom_init P_Loom_init []
  f_Loom_eq : Addr
  fd_Loom_eq : FuncData
  F_Loom_eq : Fun K "__eq__" "Loom.__eq__" s_Loom_eq f_Loom_eq fd_Loom_eq
  b_Loom_eq : Binds K fd_Loom_eq P_Loom_eq []
  f_shorter_first : Addr
  fd_shorter_first : FuncData
  F_shorter_first : Fun K "shorter_first" "shorter_first" s_shorter_first f_shorter_first fd_shorter_first
  b_shorter_first : Binds K fd_shorter_first P_shorter_first []
  m_shorter_first : mg "shorter_first" = some (.ref f_shorter_first)
  f_book : Addr
  fd_book : FuncData
  F_book : Fun K "book" "book" s_book f_book fd_book
  b_book : Binds K fd_book P_book []
  m_book : mg "book" = some (.ref f_book)
  f_is_book : Addr
  fd_is_book : FuncData
  F_is_book : Fun K "is_book" "is_book" s_is_book f_is_book fd_is_book
  b_is_book : Binds K fd_is_book P_is_book []
  m_is_book : mg "is_book" = some (.ref f_is_book)
  f_check_book : Addr
  fd_check_book : FuncData
  F_check_book : Fun K "check_book" "check_book" s_check_book f_check_book fd_check_book
  b_check_book : Binds K fd_check_book P_check_book []
  m_check_book : mg "check_book" = some (.ref f_check_book)
  f_words : Addr
  fd_words : FuncData
  F_words : Fun K "words" "words" s_words f_words fd_words
  b_words : Binds K fd_words P_words []
  m_words : mg "words" = some (.ref f_words)
  f_is_plain : Addr
  fd_is_plain : FuncData
  F_is_plain : Fun K "is_plain" "is_plain" s_is_plain f_is_plain fd_is_plain
  b_is_plain : Binds K fd_is_plain P_is_plain []
  m_is_plain : mg "is_plain" = some (.ref f_is_plain)
  f_check_plain : Addr
  fd_check_plain : FuncData
  F_check_plain : Fun K "check_plain" "check_plain" s_check_plain f_check_plain fd_check_plain
  b_check_plain : Binds K fd_check_plain P_check_plain []
  m_check_plain : mg "check_plain" = some (.ref f_check_plain)
  f_standings : Addr
  fd_standings : FuncData
  F_standings : Fun K "standings" "standings" s_standings f_standings fd_standings
  b_standings : Binds K fd_standings P_standings []
  m_standings : mg "standings" = some (.ref f_standings)
  f_go : Addr
  fd_go : FuncData
  F_go : Fun K "go" "go" s_go f_go fd_go
  b_go : Binds K fd_go P_go []
  m_go : mg "go" = some (.ref f_go)
  f_read_on : Addr
  fd_read_on : FuncData
  F_read_on : Fun K "read_on" "read_on" s_read_on f_read_on fd_read_on
  b_read_on : Binds K fd_read_on P_read_on []
  m_read_on : mg "read_on" = some (.ref f_read_on)
  f_l_take : Addr
  fd_l_take : FuncData
  F_l_take : Fun K "_law_take" "_law_take" s_l_take f_l_take fd_l_take
  b_l_take : Binds K fd_l_take P_l_take []
  m_l_take : mg "_law_take" = some (.ref f_l_take)
  f_l_like : Addr
  fd_l_like : FuncData
  F_l_like : Fun K "_law_like" "_law_like" s_l_like f_l_like fd_l_like
  b_l_like : Binds K fd_l_like P_l_like []
  m_l_like : mg "_law_like" = some (.ref f_l_like)
  f_l_signs : Addr
  fd_l_signs : FuncData
  F_l_signs : Fun K "_law_signs" "_law_signs" s_l_signs f_l_signs fd_l_signs
  b_l_signs : Binds K fd_l_signs P_l_signs []
  m_l_signs : mg "_law_signs" = some (.ref f_l_signs)
  f_l_word : Addr
  fd_l_word : FuncData
  F_l_word : Fun K "_law_word" "_law_word" s_l_word f_l_word fd_l_word
  b_l_word : Binds K fd_l_word P_l_word []
  m_l_word : mg "_law_word" = some (.ref f_l_word)
  f_l_tree : Addr
  fd_l_tree : FuncData
  F_l_tree : Fun K "_law_tree" "_law_tree" s_l_tree f_l_tree fd_l_tree
  b_l_tree : Binds K fd_l_tree P_l_tree []
  m_l_tree : mg "_law_tree" = some (.ref f_l_tree)
  f_l_shuffled : Addr
  fd_l_shuffled : FuncData
  F_l_shuffled : Fun K "_law_shuffled" "_law_shuffled" s_l_shuffled f_l_shuffled fd_l_shuffled
  b_l_shuffled : Binds K fd_l_shuffled P_l_shuffled []
  m_l_shuffled : mg "_law_shuffled" = some (.ref f_l_shuffled)
  f_l_gone : Addr
  fd_l_gone : FuncData
  F_l_gone : Fun K "_law_gone" "_law_gone" s_l_gone f_l_gone fd_l_gone
  b_l_gone : Binds K fd_l_gone P_l_gone []
  m_l_gone : mg "_law_gone" = some (.ref f_l_gone)
  f_l_text : Addr
  fd_l_text : FuncData
  F_l_text : Fun K "_law_text" "_law_text" s_l_text f_l_text fd_l_text
  b_l_text : Binds K fd_l_text P_l_text []
  m_l_text : mg "_law_text" = some (.ref f_l_text)
  f_law : Addr
  fd_law : FuncData
  F_law : Fun K "law" "law" s_law f_law fd_law
  b_law : Binds K fd_law P_law []
  m_law : mg "law" = some (.ref f_law)
  n_all : mg "all" = none
  n_any : mg "any" = none
  n_bool : mg "bool" = none
  n_dict : mg "dict" = none
  n_enumerate : mg "enumerate" = none
  n_int : mg "int" = none
  n_isinstance : mg "isinstance" = none
  n_len : mg "len" = none
  n_list : mg "list" = none
  n_range : mg "range" = none
  n_sorted : mg "sorted" = none
  n_str : mg "str" = none
  n_tuple : mg "tuple" = none
  n_zip : mg "zip" = none
  t_MOST_SIGNS : Tok
  g_MOST_SIGNS : mg "MOST_SIGNS" = some (.int 4 t_MOST_SIGNS)
  t_LONGEST_WORD : Tok
  g_LONGEST_WORD : mg "LONGEST_WORD" = some (.int 12 t_LONGEST_WORD)
  t_LONGEST_TEXT : Tok
  g_LONGEST_TEXT : mg "LONGEST_TEXT" = some (.int 2000 t_LONGEST_TEXT)
  t_LAST_STATE : Tok
  g_LAST_STATE : mg "LAST_STATE" = some (.int 63 t_LAST_STATE)
  t_MOST_ARCS : Tok
  g_MOST_ARCS : mg "MOST_ARCS" = some (.int 200 t_MOST_ARCS)
  C_Loom : Addr
  M_Loom : Mk K C_Loom f_Loom_init
  cl_Loom : Cls K C_Loom
  g_Loom : mg "Loom" = some (.ref C_Loom)
  na_Loom_signs : NoAttr K C_Loom "signs"
  na_Loom_arcs : NoAttr K C_Loom "arcs"
  ic_Loom : PySem.W.findIn K (.ref C_Loom) "__class__" = some (some (.builtin "object.__class__"))
  ig : PySem.W.specialIn K (.builtin "object.__class__") "__get__" = some (some (.builtin "getset_descriptor.__get__"))
  it : PySem.W.takesIn K (.builtin "object.__class__") = some true
  im_Loom : PySem.W.mroIn K C_Loom (.type "object") = some true
  cc_Loom : PySem.W.isClsIn K C_Loom = true
  ty_Loom : PySem.W.typeIn K (.ref C_Loom) = some (.type "type")
end J

set_option Elab.async false
set_option linter.all false
set_option maxRecDepth 100000
set_option maxHeartbeats 4000000
namespace J
open PySem L2
/-! ### frames -/
def Ex (p : Addr) (H H' : Hp) : Prop := ∀ b o, b ≠ p → H b = some o → H' b = some o
theorem Ex.refl (p : Addr) (H : Hp) : Ex p H H := fun _ _ _ h => h
theorem Ex.trans {p : Addr} {H H1 H2 : Hp} (a : Ex p H H1) (b : Ex p H1 H2) : Ex p H H2 := fun c o n h => b c o n (a c o n h)
theorem Ex.upd {p : Addr} {H : Hp} (o : HO) : Ex p H (upd H p o) := fun c u n h => by rw [upd_ne n]; exact h
theorem Ex.new {p q : Addr} {H : Hp} (o : HO) (h : H q = none) : Ex p H (L2.upd H q o) := fun c u n e => by
  rw [upd_ne (ne_of_none e h)]; exact e
theorem Same.ex {p : Addr} {H H' : Hp} (s : Same H H') : Ex p H H' := fun c o _ h => s c o h
theorem Same.new {q : Addr} {H : Hp} (o : HO) (h : H q = none) : Same H (L2.upd H q o) := fun c u e => by
  rw [upd_ne (ne_of_none e h)]; exact e
theorem hp_ne {H : Hp} {p q : Addr} {o : HO} (h : H p = some o) (hq : H q = none) : q ≠ p := by
  intro z
  rw [z, h] at hq
  cases hq
theorem Ex.free {p q : Addr} {H H' : Hp} (x : Ex p H H') (hq : H' q = none) (n : q ≠ p) : H q = none := by
  cases e : H q with
  | none => rfl
  | some o => rw [x _ _ n e] at hq; cases hq
theorem Ex.updNew {p q : Addr} {H H' : Hp} {o : HO} (x : Ex p H H') (hq : H q = none) : Ex p H (L2.upd H' q o) := fun b u n e => by
  rw [upd_ne (ne_of_none e hq)]; exact x b u n e
theorem _root_.L2.Same.updNew {q : Addr} {H H' : Hp} {o : HO} (x : Same H H') (hq : H q = none) : Same H (L2.upd H' q o) := fun b u e => by
  rw [upd_ne (ne_of_none e hq)]; exact x b u e
/-! ### the pool of draws, and the script -/
def PoolAt (H : Hp) (p : Addr) : Prop := ∃ a b c d : Int, H p = some (.lst [.int a, .int b, .int c, .int d]) ∧ 0 ≤ a
/-- the script, as long as all but p stays -/
def Scr (K : PySem.W.Frag) (ns : List Int) (a : Addr) (H : Hp) (p : Addr) : Prop := ∀ H', Ex p H H' → SqL K H' a (ns.map V.int)
def St (K : PySem.W.Frag) (ns : List Int) (a : Addr) (H : Hp) (p : Addr) : Prop := PoolAt H p ∧ Scr K ns a H p
theorem Scr.ex {K : PySem.W.Frag} {ns : List Int} {a p : Addr} {H H' : Hp} (h : Scr K ns a H p) (x : Ex p H H') : Scr K ns a H' p := fun H2 y => h H2 (x.trans y)
theorem Scr.mk {K : PySem.W.Frag} {ns : List Int} {a p : Addr} {H : Hp} (h : SqL K H a (ns.map V.int)) (hp : H p = none) : Scr K ns a H p := fun H' x => by
  rcases h with h | h
  · refine .inl ?_
    rcases h with h | ⟨o, h⟩
    · exact .inl (x _ _ (fun z => hp_ne h hp z.symm) h)
    · exact .inr ⟨o, x _ _ (fun z => hp_ne h hp z.symm) h⟩
  · exact .inr h
theorem St.ex {K : PySem.W.Frag} {ns : List Int} {a p : Addr} {H H' : Hp} (h : St K ns a H p) (x : Ex p H H') (g : PoolAt H' p) : St K ns a H' p := ⟨g, h.2.ex x⟩
theorem PoolAt.same {H H' : Hp} {p : Addr} (h : PoolAt H p) (s : Same H H') : PoolAt H' p := by
  obtain ⟨a, b, c, d, h1, h2⟩ := h
  exact ⟨a, b, c, d, s _ _ h1, h2⟩
theorem St.same {K : PySem.W.Frag} {ns : List Int} {a p : Addr} {H H' : Hp} (h : St K ns a H p) (s : Same H H') : St K ns a H' p := ⟨h.1.same s, h.2.ex (Same.ex s)⟩
theorem St.ne {K : PySem.W.Frag} {ns : List Int} {a p q : Addr} {H : Hp} (h : St K ns a H p) (hq : H q = none) : q ≠ p := by
  obtain ⟨⟨a, b, c, d, h1, h2⟩, _⟩ := h
  exact hp_ne h1 hq
theorem St.upd {K : PySem.W.Frag} {ns : List Int} {a p q : Addr} {H0 H : Hp} {o : HO} (h0 : St K ns a H0 p) (h : St K ns a H p) (x : Ex p H0 (L2.upd H q o)) (n : q ≠ p) : St K ns a (L2.upd H q o) p := by
  obtain ⟨⟨a, b, c, d, h1, h2⟩, _⟩ := h
  exact ⟨⟨a, b, c, d, by rw [upd_ne n.symm]; exact h1, h2⟩, h0.2.ex x⟩
theorem fm_nonneg (a : Int) {b : Int} (h : 0 < b) : 0 ≤ a.fmod b := Int.fmod_nonneg_of_pos a h
theorem fm_lt (a : Int) {b : Int} (h : 0 < b) : a.fmod b < b := Int.fmod_lt_of_pos a h
theorem atI_ints {ns : List Int} {a : Int} (h0 : 0 ≤ a) (h1 : a < ns.length) : ∃ n, atI (ns.map V.int) a = some (V.int n) := by
  obtain ⟨j, rfl⟩ := Int.eq_ofNat_of_zero_le h0
  have hj : j < ns.length := by exact_mod_cast h1
  exact ⟨ns[j], atI_nat (by rw [List.getElem?_map, List.getElem?_eq_getElem hj]; rfl)⟩
def spTake (K : PySem.W.Frag) (ns : List Int) : Sp := fun vs H Q _ => ∃ (a p : Addr) (m : Int), vs = [.ref a, .ref p, .int m] ∧ St K ns a H p ∧ 0 < m ∧ m < 1073741824 ∧
  ∀ H' (r : Int), Ex p H H' → St K ns a H' p → 0 ≤ r → r < m → Q (.int r) H'
section
variable {P : Program} {w : World} {K : PySem.W.Frag} {mg : Str → Option Value} {base : Heap}
theorem ok_l_take (T : Tx K mg) (ns : List Int) : FnOk P w K mg base CX0 1 T.f_l_take T.fd_l_take P_l_take (spTake K ns) := by
  refine T.F_l_take.ok sc_l_take (fun vs H Q E h => ?_) (fun cdv A outer s H vs Q E hr h => ?_)
  · obtain ⟨a, p, m, rfl, _⟩ := h
    rfl
  · obtain ⟨a, p, m, rfl, hst, hm, hm2, k0⟩ := h
    have k : ∀ H' (r : Int), Ex p H H' → PoolAt H' p → 0 ≤ r → r < m → Q (.int r) H' := fun H' r x g => k0 H' r x (hst.ex x g)
    refine ⟨_, (pss_cons (ps_asg (pe_op op_add (pe_ix (ix_listK (K := K) rfl) (pv 1) pe_int (fun _ _ => rfl)) pe_int) (pg_sub (pv 1) pe_int set_list))
        (C8.pss_cut (ps_if (PW.pt (pw_and (pt_cmpR op_eq (pe_ix (ix_listK (K := K) rfl) (pv 1) pe_int (fun _ _ => rfl)) pe_int (nomark _)) (pw_and1 (pt_cmpR op_lt (pe_ix (ix_listK (K := K) rfl) (pv 1) pe_int (fun _ _ => rfl)) (pe_callB (call_len_seqK (K := K) rfl) rfl T.n_len (by decide +kernel) (pa_cons (pv 0) pa_nil)) (nomark _))))) (pss_cons (ps_set (i := 3) sc_l_take.nd rfl (Or.inl rfl) (pe_ix (ix_listK (K := K) rfl) (pv 0) (pe_ix (ix_listK (K := K) rfl) (pv 1) pe_int (fun _ _ => rfl)) (fun _ _ => rfl)))
        (pss_cons (ps_asg (pe_op op_add (pe_ix (ix_listK (K := K) rfl) (pv 1) pe_int (fun _ _ => rfl)) pe_int) (pg_sub (pv 1) pe_int set_list))
        (C8.pss_cut (ps_if (pt_cmpR op_lt (pv 3) pe_int (nomark _)) (pss_one (ps_set (i := 3) sc_l_take.nd rfl (Or.inl rfl) (pe_un un_neg (pv 3)))) pss_nil)
        (pss_one (ps_if (pt_cmpR op_ge (pv 3) (pe_op op_pow pe_int pe_int) (nomark _)) (pss_one (ps_asg (pv 3) (pg_sub (pv 1) pe_int set_list))) (pss_one (ps_asg (pe_op op_modN (pe_callTy call_int1 rfl T.n_int (by decide +kernel) (pa_cons (pe_op op_add (pe_op op_add (pe_op op_mul (pe_ix (ix_listK (K := K) rfl) (pv 1) pe_int (fun _ _ => rfl)) pe_int) (pv 3)) pe_int) pa_nil)) pe_int) (pg_sub (pv 1) pe_int set_list)))))))) pss_nil)
        (pss_cons (ps_if (pt_cmpR op_gt (pe_ix (ix_listK (K := K) rfl) (pv 1) pe_int (fun _ _ => rfl)) pe_int (nomark _)) (pss_cons (ps_set (i := 4) sc_l_take.nd rfl (Or.inl rfl) (pe_op op_modN (pe_callTy call_int1 rfl T.n_int (by decide +kernel) (pa_cons (pe_ix (ix_listK (K := K) rfl) (pv 1) pe_int (fun _ _ => rfl)) pa_nil)) (pv 2)))
        (pss_cons (ps_asg (pe_op op_fdivN (pe_ix (ix_listK (K := K) rfl) (pv 1) pe_int (fun _ _ => rfl)) (pv 2)) (pg_sub (pv 1) pe_int set_list))
        (pss_one (ps_ret (pv 4))))) pss_nil)
        (pss_cons (ps_set (i := 5) sc_l_take.nd rfl (Or.inl rfl) (pe_op op_modN (pe_op op_mul (pe_callTy call_int1 rfl T.n_int (by decide +kernel) (pa_cons (pe_op op_add (pe_op op_add (pe_ix (ix_listK (K := K) rfl) (pv 1) pe_int (fun _ _ => rfl)) (pe_op op_mul pe_int (pe_ix (ix_listK (K := K) rfl) (pv 1) pe_int (fun _ _ => rfl)))) pe_int) pa_nil)) pe_int) pe_int))
        (pss_cons (ps_set (i := 5) sc_l_take.nd rfl (Or.inl rfl) (pe_op op_modN (pe_callTy call_int1 rfl T.n_int (by decide +kernel) (pa_cons (pe_op op_mul (pv 5) (pe_op op_add (pe_op op_fdivN (pv 5) pe_int) pe_int)) pa_nil)) pe_int))
        (pss_cons (ps_set (i := 5) sc_l_take.nd rfl (Or.inl rfl) (pe_op op_modN (pe_callTy call_int1 rfl T.n_int (by decide +kernel) (pa_cons (pe_op op_mul (pv 5) (pe_op op_add (pe_op op_fdivN (pv 5) pe_int) pe_int)) pa_nil)) pe_int))
        (pss_one (ps_ret (pe_op op_modN (pe_callTy call_int1 rfl T.n_int (by decide +kernel) (pa_cons (pe_op op_fdivN (pv 5) pe_int) pa_nil)) (pv 2)))))))))), ?_⟩
    obtain ⟨⟨b0, b1, b2, b3, hp, h0⟩, hS⟩ := hst
    refine ⟨_, rfl, _, _, _, _, rfl, rfl, SqL.of hp, rfl, _, _, rfl, rfl, _, rfl, p, _, _, _, rfl, rfl, hp, rfl, ?_⟩
    refine ⟨fun σ' H' => (∃ v, σ' = [some (.ref a), some (.ref p), some (.int m), v, none, none]) ∧ Ex p H H' ∧ PoolAt H' p, ?_, ?_⟩
    · refine ⟨_, rfl, _, _, _, _, rfl, rfl, SqL.of upd_same, rfl, rfl, _, rfl, ?_⟩
      refine ite2 (fun c1 => ?_) (fun c1 => ?_)
      · refine ⟨_, rfl, _, _, _, _, rfl, rfl, SqL.of upd_same, rfl, _, rfl, a, _, rfl, .inl (hS _ (Ex.upd _)), _, _, rfl, rfl, _, rfl, ?_⟩
        refine ite2 (fun c2 => ?_) (fun c2 => ?_)
        · rw [List.length_map] at c2
          obtain ⟨n, hn⟩ := atI_ints (ns := ns) h0 (by simpa using c2)
          refine ⟨_, rfl, _, rfl, _, _, _, _, rfl, rfl, SqL.of upd_same, rfl, a, _, _, _, rfl, rfl, hS _ (Ex.upd _), hn, ?_⟩
          refine ⟨_, rfl, _, _, _, _, rfl, rfl, SqL.of upd_same, rfl, _, _, rfl, rfl, _, rfl, p, _, _, _, rfl, rfl, upd_same, rfl, ?_⟩
          refine ⟨fun σ' H' => (∃ z : Int, σ' = [some (.ref a), some (.ref p), some (.int m), some (.int z), none, none]) ∧ Ex p H H' ∧ PoolAt H' p, ?_, ?_⟩
          · refine ⟨_, rfl, _, _, rfl, rfl, _, rfl, ?_⟩
            refine ite2 (fun c3 => ?_) (fun c3 => ?_)
            · exact ⟨_, rfl, _, rfl, ⟨_, rfl⟩, (Ex.upd _).trans (Ex.upd _), _, _, _, _, upd_same, by omega⟩
            · exact ⟨⟨_, rfl⟩, (Ex.upd _).trans (Ex.upd _), _, _, _, _, upd_same, by omega⟩
          · rintro σ' H' ⟨⟨z, rfl⟩, x1, c0, c1, c2, c3, hp1, h1⟩
            refine ⟨_, rfl, _, _, rfl, rfl, ⟨by decide, by decide, by decide⟩, _, _, rfl, rfl, _, rfl, ?_⟩
            refine ite2 (fun c3 => ?_) (fun c3 => ?_)
            · exact ⟨_, rfl, _, rfl, p, _, _, _, rfl, rfl, hp1, rfl, ⟨_, rfl⟩, x1.trans (Ex.upd _), _, _, _, _, upd_same, h1⟩
            · refine ⟨_, rfl, _, _, _, _, rfl, rfl, SqL.of hp1, rfl, _, _, rfl, rfl, .inr (by decide), _, rfl, _, _, rfl, rfl, _, _, rfl, rfl, .inl ⟨_, rfl, _, _, rfl, rfl, (by decide : (1000000007 : Int) ≠ 0), ?_⟩⟩
              exact ⟨_, rfl, p, _, _, _, rfl, rfl, hp1, rfl, ⟨_, rfl⟩, x1.trans (Ex.upd _), _, _, _, _, upd_same, h1⟩
        · exact ⟨⟨_, rfl⟩, Ex.upd _, _, _, _, _, upd_same, h0⟩
      · exact iteF ⟨⟨_, rfl⟩, Ex.upd _, _, _, _, _, upd_same, h0⟩
    · rintro σ' H1 ⟨⟨v, rfl⟩, x1, c0, c1, c2, c3, hp1, h1⟩
      refine ⟨_, rfl, _, _, _, _, rfl, rfl, SqL.of hp1, rfl, _, _, rfl, rfl, _, rfl, ?_⟩
      refine ite2 (fun d1 => ?_) (fun d1 => ?_)
      · refine ⟨_, rfl, _, _, _, _, rfl, rfl, SqL.of hp1, rfl, .inl ⟨_, rfl, _, rfl, _, _, rfl, rfl, by omega, ?_⟩⟩
        refine ⟨_, rfl, _, _, _, _, rfl, rfl, SqL.of hp1, rfl, _, rfl, _, _, rfl, rfl, ⟨by omega, by omega⟩, _, rfl, p, _, _, _, rfl, rfl, hp1, rfl, ?_⟩
        exact ⟨_, rfl, k _ _ (x1.trans (Ex.upd _)) ⟨_, _, _, _, upd_same, h1⟩ (fm_nonneg _ hm) (fm_lt _ hm)⟩
      · have hx0 := fm_nonneg ((c3 + 7919 * c2 + 1) * 48271) (b := 2147483647) (by decide)
        have hx1 := fm_lt ((c3 + 7919 * c2 + 1) * 48271) (b := 2147483647) (by decide)
        refine ⟨_, rfl, _, _, _, _, rfl, rfl, SqL.of hp1, rfl, _, rfl, _, _, _, _, rfl, rfl, SqL.of hp1, rfl, _, _, rfl, rfl, .inl (by decide), _, _, rfl, rfl, _, _, rfl, rfl, .inl ⟨_, rfl, _, _, rfl, rfl, .inr (by decide), _, _, rfl, rfl, (by decide : (2147483647 : Int) ≠ 0), ?_⟩⟩
        refine ⟨_, rfl, _, rfl, _, _, rfl, rfl, ⟨by decide, by decide⟩, _, _, rfl, rfl, _, _, rfl, rfl, .inl ⟨Int.lt_of_lt_of_le (by decide) hx0, Int.lt_trans hx1 (by decide)⟩, .inl ⟨_, rfl, _, _, rfl, rfl, (by decide : (2147483629 : Int) ≠ 0), ?_⟩⟩
        refine ⟨_, rfl, _, rfl, _, _, rfl, rfl, ⟨by decide, by decide⟩, _, _, rfl, rfl, _, _, rfl, rfl, .inl ⟨Int.lt_of_lt_of_le (by decide) (fm_nonneg _ (by decide)), Int.lt_trans (fm_lt _ (by decide)) (by decide)⟩, .inl ⟨_, rfl, _, _, rfl, rfl, (by decide : (2147483399 : Int) ≠ 0), ?_⟩⟩
        refine ⟨_, rfl, _, _, rfl, rfl, ⟨by decide, by decide⟩, .inl ⟨_, rfl, _, rfl, _, _, rfl, rfl, by omega, ?_⟩⟩
        exact k _ _ x1 ⟨_, _, _, _, hp1, h1⟩ (fm_nonneg _ hm) (fm_lt _ hm)
end
end J


set_option Elab.async false
set_option linter.all false
set_option maxRecDepth 100000
set_option maxHeartbeats 4000000
namespace J
open PySem L2
theorem joinL_nil : ∀ ys : List (List Nat), TL.joinL [] ys = ys.flatten
  | [] => rfl
  | [p] => by simp [TL.joinL]
  | p :: q :: r => by
    show p ++ ([] ++ TL.joinL [] (q :: r)) = _
    rw [joinL_nil (q :: r)]
    simp
theorem join_flat (ys : List (List Nat)) : Txt.join (SX.S []) (ys.map SX.S) = SX.S ys.flatten := by rw [SX.join_S, joinL_nil]
theorem emptyS : Str.ofString "" = SX.S [] := rfl
theorem sum_ones (us : List Nat) : ((us.map fun c => SX.S [c]).map (·.length)).sum = us.length := by
  induction us with
  | nil => rfl
  | cons a r ih => simp only [List.map_cons, List.sum_cons, ih, SX.S_len, List.length_cons, List.length_nil]; omega
theorem atI_mem {α : Type} {xs : List α} {i : Int} (h0 : 0 ≤ i) (h1 : i < xs.length) : ∃ v, v ∈ xs ∧ atI xs i = some v := by
  obtain ⟨j, rfl⟩ := Int.eq_ofNat_of_zero_le h0
  have hj : j < xs.length := by exact_mod_cast h1
  exact ⟨xs[j], List.getElem_mem hj, atI_nat (List.getElem?_eq_getElem hj)⟩
/-- signs: one to four small letters, ascending -/
def Signs (sg : List Nat) : Prop := 1 ≤ sg.length ∧ sg.length ≤ 4 ∧ (∀ c ∈ sg, 97 ≤ c ∧ c ≤ 122) ∧ sg.Pairwise (· < ·)
instance (sg : List Nat) : Decidable (Signs sg) := by unfold Signs; infer_instance
theorem Signs.len {sg : List Nat} (h : Signs sg) : 1 ≤ sg.length ∧ sg.length ≤ 4 := ⟨h.1, h.2.1⟩
/-- a word over the signs -/
def Word (sg u : List Nat) : Prop := 1 ≤ u.length ∧ u.length ≤ 12 ∧ ∀ c ∈ u, c ∈ sg
def txts (ws : List (List Nat)) : List V := ws.map fun u => V.str (SX.S u)
def spSignsOf (K : PySem.W.Frag) (ns : List Int) : Sp := fun vs H Q _ => ∃ (a p : Addr), vs = [.ref a, .ref p] ∧ St K ns a H p ∧ ∀ H' sg, Ex p H H' → St K ns a H' p → Signs sg → Q (.str (SX.S sg)) H'
def spWord (K : PySem.W.Frag) (ns : List Int) : Sp := fun vs H Q _ => ∃ (a p : Addr) (sg : List Nat) (m : Int), vs = [.ref a, .ref p, .str (SX.S sg), .int m] ∧ St K ns a H p ∧ Signs sg ∧ 0 < m ∧ m ≤ 12 ∧
  ∀ H' u, Ex p H H' → St K ns a H' p → Word sg u → (u.length : Int) ≤ m → Q (.str (SX.S u)) H'
def spWords (K : PySem.W.Frag) (ns : List Int) : Sp := fun vs H Q _ => ∃ (a p : Addr) (sg : List Nat) (n m : Int), vs = [.ref a, .ref p, .str (SX.S sg), .int n, .int m] ∧ St K ns a H p ∧ Signs sg ∧ 0 < n ∧ n ≤ 1000 ∧ 0 < m ∧ m ≤ 12 ∧
  ∀ H' (q : Addr) us, Ex p H H' → St K ns a H' p → H q = none → q ≠ p → H' q = some (.lst (txts us)) → (∀ u ∈ us, Word sg u ∧ (u.length : Int) ≤ m) → 1 ≤ us.length → (us.length : Int) ≤ n → Q (.ref q) H'
theorem le_size {n : Nat} (h : n ≤ 100000) : n ≤ sizeLine := Nat.le_trans h (by decide)
theorem lt_size {n : Nat} (h : n ≤ 100000) : n < sizeLine := Nat.lt_of_le_of_lt h (by decide)
theorem signs_menu {v : V} (h : v ∈ ([.str "ab", .str "ab", .str "abc", .str "xz", .str "a", .str "bdfh"] : List V)) : ∃ sg, v = .str (SX.S sg) ∧ Signs sg := by
  simp only [List.mem_cons, List.not_mem_nil, or_false] at h
  rcases h with rfl | rfl | rfl | rfl | rfl | rfl
  · exact ⟨[97, 98], rfl, by decide⟩
  · exact ⟨[97, 98], rfl, by decide⟩
  · exact ⟨[97, 98, 99], rfl, by decide⟩
  · exact ⟨[120, 122], rfl, by decide⟩
  · exact ⟨[97], rfl, by decide⟩
  · exact ⟨[98, 100, 102, 104], rfl, by decide⟩
section
variable {P : Program} {w : World} {K : PySem.W.Frag} {mg : Str → Option Value} {base : Heap}
theorem ok_l_signs (T : Tx K mg) (ns : List Int) : FnOk P w K mg base CX0 2 T.f_l_signs T.fd_l_signs P_l_signs (spSignsOf K ns) := by
  have G_l_take : FnOk P w K mg base CX0 1 T.f_l_take T.fd_l_take P_l_take (spTake K ns) := ok_l_take T ns
  refine T.F_l_signs.ok sc_l_signs (fun vs H Q E h => ?_) (fun cdv A outer s H vs Q E hr h => ?_)
  · obtain ⟨a, p, rfl, _⟩ := h
    rfl
  · obtain ⟨a, p, rfl, hst, k⟩ := h
    refine ⟨_, (pss_one (ps_ret (pe_ix (ix_listK (K := K) rfl) (pe_lst (pa_cons pe_str (pa_cons pe_str (pa_cons pe_str (pa_cons pe_str (pa_cons pe_str (pa_cons pe_str pa_nil))))))) (pe_call G_l_take (hr.mono (by decide)) rfl T.m_l_take T.F_l_take.kp T.b_l_take .nil pass0 (pa_cons (pv 0) (pa_cons (pv 1) (pa_cons pe_int pa_nil)))) (fun _ _ => rfl)))), ?_⟩
    refine ⟨le_size (by simp), fun l hl => ?_⟩
    have nl := hst.ne hl
    refine ⟨_, rfl, _, rfl, a, p, 6, rfl, hst.same (Same.new _ hl), by decide, by decide, fun H1 r x1 st1 r0 r1 => ?_⟩
    obtain ⟨v, hv, hat⟩ := atI_mem (xs := ([.str "ab", .str "ab", .str "abc", .str "xz", .str "a", .str "bdfh"] : List V)) r0 (by simpa using r1)
    obtain ⟨sg, rfl, hs⟩ := signs_menu hv
    exact ⟨l, _, _, _, rfl, rfl, SqL.of (x1 _ _ nl upd_same), hat, k _ _ ((Ex.new _ hl).trans x1) st1 hs⟩
theorem ok_l_word (T : Tx K mg) (ns : List Int) : FnOk P w K mg base CX0 2 T.f_l_word T.fd_l_word P_l_word (spWord K ns) := by
  have G_l_take : FnOk P w K mg base CX0 1 T.f_l_take T.fd_l_take P_l_take (spTake K ns) := ok_l_take T ns
  refine T.F_l_word.ok sc_l_word (fun vs H Q E h => ?_) (fun cdv A outer s H vs Q E hr h => ?_)
  · obtain ⟨a, p, sg, m, rfl, _⟩ := h
    rfl
  · obtain ⟨a, p, sg, m, rfl, hst, hsg, hm, hm2, k⟩ := h
    refine ⟨_, (pss_one (ps_ret (pe_join pe_str (pe_lc (own := [("_law_k", 4)]) (g := (gName 4)) rfl sc_l_word.nd (pi_range1 rfl T.n_range (pa_cons (pe_op op_add pe_int (pe_call G_l_take (hr.mono (by decide)) rfl T.m_l_take T.F_l_take.kp T.b_l_take .nil pass0 (pa_cons (pv 0) (pa_cons (pv 1) (pa_cons (pv 3) pa_nil))))) pa_nil)) (blkOk_by (N := N_l_word) (sc := defScope s_l_word) (by decide +kernel)) (fun _ _ _ _ _ => (pg_name (i := 4) sc_l_word.nd rfl (Or.inl rfl))) (fun _ _ _ _ _ => pts_nil) (fun _ _ _ _ _ => (pe_ix ix_str (pv 2) (pe_call G_l_take (hr.mono (by decide)) rfl T.m_l_take T.F_l_take.kp T.b_l_take .nil pass0 (pa_cons (pv 0) (pa_cons (pv 1) (pa_cons (pe_callB call_len_str rfl T.n_len (by decide +kernel) (pa_cons (pv 2) pa_nil)) pa_nil)))) (fun _ _ => rfl))))))), ?_⟩
    have hlen := hsg.len
    refine ⟨⟨_, rfl⟩, _, rfl, _, rfl, _, rfl, a, p, m, rfl, hst, hm, by omega, fun H1 r x1 st1 r0 r1 => ⟨_, _, rfl, rfl, ?_⟩⟩
    refine ⟨_, rfl, by omega, by omega, fun D hD => lc_range (lo := 0) (n := (1 + r).toNat) (fun i H' => ∃ us : List Nat, us.length = i ∧ (∀ c ∈ us, c ∈ sg) ∧ H' D = some (.lst ((us.map fun c => SX.S [c]).map V.str)) ∧ Ex p H H' ∧ St K ns a H' p) ?_ ?_ ?_⟩
    · exact ⟨[], rfl, fun _ h => (nomatch h), upd_same, x1.trans (Ex.new _ hD), st1.same (Same.new _ hD)⟩
    · rintro i H2 hi ⟨us, rfl, hu, hDs, x2, st2⟩
      refine ⟨rfl, ?_⟩
      refine ⟨_, rfl, _, rfl, _, rfl, _, rfl, _, rfl, le_size (by rw [SX.S_len]; omega), a, p, _, rfl, st2, by rw [SX.S_len]; omega, by rw [SX.S_len]; omega, fun H3 r3 x3 st3 r30 r31 => ?_⟩
      rw [SX.S_len] at r31
      obtain ⟨c, hc, hat⟩ := atI_mem (xs := sg) r30 r31
      have nD := st1.ne hD
      have hD0 := x1.free hD nD
      refine ⟨_, _, c, rfl, rfl, le_size (by rw [SX.S_len]; omega), hat, _, x3 _ _ nD hDs, lt_size (by simp; omega), us ++ [c], by simp, ?_, ?_, (x2.trans x3).updNew hD0, hst.upd st3 ((x2.trans x3).updNew hD0) nD⟩
      · intro d hd
        rcases List.mem_append.mp hd with h | h
        · exact hu d h
        · rw [List.mem_singleton.mp h]; exact hc
      · rw [upd_same]; simp
    · rintro H2 ⟨us, hl, hu, hDs, x2, st2⟩
      have hf : ∀ l : List Nat, (l.map fun c => [c]).flatten = l := fun l => by induction l with
        | nil => rfl
        | cons a l ih => simpa using ih
      refine ⟨_, _, us.map fun c => SX.S [c], rfl, rfl, .inl (SqL.of hDs), ?_, ?_⟩
      · rw [sum_ones, emptyS, SX.S_len]
        simp
        omega
      · have e : us.map (fun c => SX.S [c]) = (us.map fun c => [c]).map SX.S := by rw [List.map_map]; rfl
        rw [e, emptyS, join_flat, hf]
        exact k _ us x2 st2 ⟨by omega, by omega, hu⟩ (by omega)
end
end J


set_option Elab.async false
set_option linter.all false
set_option maxRecDepth 100000
set_option maxHeartbeats 4000000
namespace J
open PySem L2
abbrev Arc := Nat × List Nat × Nat
def arcHO (a : Arc) : HO := .tup [.int (a.1 : Int), .str (SX.S a.2.1), .int (a.2.2 : Int)]
def Arcs (H : Hp) (vs : List V) (as : List Arc) : Prop := vs.length = as.length ∧ ∀ (i : Nat) (a : Arc), as[i]? = some a → ∃ t, vs[i]? = some (V.ref t) ∧ H t = some (arcHO a)
theorem Arcs.same {H H' : Hp} {vs : List V} {as : List Arc} (h : Arcs H vs as) (s : Same H H') : Arcs H' vs as :=
  ⟨h.1, fun i a e => by obtain ⟨t, h1, h2⟩ := h.2 i a e; exact ⟨t, h1, s _ _ h2⟩⟩
theorem Arcs.ex {H H' : Hp} {p : Addr} {xs : List V} {vs : List V} {as : List Arc} (h : Arcs H vs as) (x : Ex p H H') (hp : H p = some (.lst xs)) : Arcs H' vs as :=
  ⟨h.1, fun i a e => by
    obtain ⟨t, h1, h2⟩ := h.2 i a e
    exact ⟨t, h1, x _ _ (fun z => by rw [z, hp] at h2; cases h2) h2⟩⟩
theorem Arcs.snoc {H : Hp} {vs : List V} {as : List Arc} {t : Addr} {a : Arc} (h : Arcs H vs as) (ht : H t = some (arcHO a)) : Arcs H (vs ++ [V.ref t]) (as ++ [a]) := by
  refine ⟨by simp [h.1], fun i b e => ?_⟩
  by_cases hi : i < as.length
  · rw [List.getElem?_append_left hi] at e
    rw [List.getElem?_append_left (by rw [h.1]; exact hi)]
    exact h.2 i b e
  · rw [List.getElem?_append_right (by omega)] at e
    have e0 : i - as.length = 0 := by
      have q := (List.getElem?_eq_some_iff.mp e).1
      simp at q
      omega
    rw [e0] at e
    cases e
    refine ⟨t, ?_, ht⟩
    rw [List.getElem?_append_right (by rw [h.1]; omega), h.1, e0]
    rfl
theorem Arcs.updL {H : Hp} {vs xs : List V} {as : List Arc} {p : Addr} {o : HO} (h : Arcs H vs as) (hp : H p = some (.lst xs)) : Arcs (upd H p o) vs as := h.ex (Ex.upd o) hp

theorem Arcs.nil (H : Hp) : Arcs H [] [] := ⟨rfl, fun i a e => by simp at e⟩
theorem ex_upd_lst {p : Addr} {H : Hp} {o : HO} : Ex p H (upd H p o) := Ex.upd o
def OkArc (sg : List Nat) (a : Arc) : Prop := a.1 ≤ 63 ∧ Word sg a.2.1 ∧ a.2.2 ≤ 63
def OkArcs (sg : List Nat) (as : List Arc) : Prop := 1 ≤ as.length ∧ as.length ≤ 13 ∧ (∀ a ∈ as, OkArc sg a) ∧ ∃ a : Arc, as[0]? = some a ∧ a.1 = 0
end J


set_option Elab.async false
set_option linter.all false
set_option maxRecDepth 100000
set_option maxHeartbeats 4000000
namespace J
open PySem L2

def spNumber : Sp := fun vs H Q _ => ∃ i lo hi : Int, vs = [.int i, .int lo, .int hi] ∧ ∀ b : Bool, (b = true ↔ lo ≤ i ∧ i ≤ hi) → Q (.bl b) H
def spSequence (K : PySem.W.Frag) : Sp := fun vs H Q _ => ∃ (a : Addr) (xs : List V) (lo hi : Int), vs = [.ref a, .int lo, .int hi] ∧ (H a = some (.lst xs) ∨ H a = some (.tup xs)) ∧ ∀ (H' : Hp) (b : Bool), Same H H' → (b = true ↔ lo ≤ xs.length ∧ xs.length ≤ hi) → Q (.bl b) H'
def spOver : Sp := fun vs H Q _ => ∃ (sg u : List Nat) (lo hi : Int), vs = [.str (SX.S sg), .str (SX.S u), .int lo, .int hi] ∧ lo ≤ u.length ∧ u.length ≤ hi ∧ hi ≤ 100000 ∧ (∀ c ∈ u, c ∈ sg) ∧ ∀ H' : Hp, Same H H' → Q (.bl true) H'
def spIsWord : Sp := fun vs H Q _ => ∃ (sg u : List Nat), vs = [.str (SX.S sg), .str (SX.S u)] ∧ Word sg u ∧ ∀ H' : Hp, Same H H' → Q (.bl true) H'
def spSigns : Sp := fun vs H Q _ => ∃ sg : List Nat, vs = [.str (SX.S sg)] ∧ Signs sg ∧ ∀ H' : Hp, Same H H' → Q (.bl true) H'
def spArc : Sp := fun vs H Q _ => ∃ (sg : List Nat) (t : Addr) (a : Arc), vs = [.str (SX.S sg), .ref t] ∧ H t = some (arcHO a) ∧ OkArc sg a ∧ ∀ H' : Hp, Same H H' → Q (.bl true) H'
def spState1 : Sp := fun vs H Q _ => ∃ i : Int, vs = [.int i] ∧ 0 ≤ i ∧ i ≤ 63 ∧ Q .non H
def spText1 : Sp := fun vs H Q _ => ∃ (sg u : List Nat), vs = [.str (SX.S sg), .str (SX.S u)] ∧ u.length ≤ 2000 ∧ (∀ c ∈ u, c ∈ sg) ∧ ∀ H' : Hp, Same H H' → Q .non H'
theorem rep_snoc (n : Nat) : (HO.lst ((List.replicate n true).map V.bl ++ [V.bl true])) = HO.lst ((List.replicate (n + 1) true).map V.bl) := by
  congr 1
  rw [List.replicate_succ']
  simp
theorem all_true {n : Nat} : (List.replicate n true).all id = true := by simp
section
variable {P : Program} {w : World} {K : PySem.W.Frag} {mg : Str → Option Value} {base : Heap}

theorem ok_is_number (T : Tx K mg) : FnOk P w K mg base CX0 1 T.f_is_number T.fd_is_number P_is_number spNumber := by
  refine T.F_is_number.ok sc_is_number (fun vs H Q E h => ?_) (fun cdv A outer s H vs Q E hr h => ?_)
  · obtain ⟨i, lo, hi, rfl, _⟩ := h
    rfl
  · obtain ⟨i, lo, hi, rfl, k⟩ := h
    refine ⟨_, (pss_one (ps_ret (pe_and (pe_callB (call_isiK' (K := K) rfl) rfl T.n_isinstance (by decide +kernel) (pa_cons (pv 0) (pa_cons (pe_bltn (v := V.ty "int") (u := .type "int") rfl T.n_int (by decide +kernel) rfl) pa_nil))) (pe_and (pe_not (pe_callB (call_isiK' (K := K) rfl) rfl T.n_isinstance (by decide +kernel) (pa_cons (pv 0) (pa_cons (pe_bltn (v := V.ty "bool") (u := .type "bool") rfl T.n_bool (by decide +kernel) rfl) pa_nil)))) (pe_one (pe_chain op_le op_le (pv 1) (pv 0) (pv 2))))))), ?_⟩
    refine ⟨_, rfl, _, _, _, _, true, rfl, .ty "int", .base (.int i), kit_ty (by decide +kernel), true, rfl, ?_⟩
    refine ⟨_, rfl, _, _, _, _, false, rfl, .ty "bool", .base (.int i), kit_ty (by decide +kernel), false, rfl, true, rfl, ?_⟩
    refine ⟨_, rfl, _, rfl, _, _, rfl, rfl, _, rfl, ?_⟩
    refine ite2 (fun c => ?_) (fun c => ?_)
    · refine ⟨_, rfl, _, _, rfl, rfl, k _ ?_⟩
      have c1 := of_decide_eq_true c
      constructor
      · intro h; exact ⟨c1, of_decide_eq_true h⟩
      · intro h; exact decide_eq_true h.2
    · refine k _ ?_
      constructor
      · intro h; cases h
      · intro h; exact absurd (decide_eq_true h.1) c

theorem ok_is_sequence (T : Tx K mg) : FnOk P w K mg base CX0 1 T.f_is_sequence T.fd_is_sequence P_is_sequence (spSequence K) := by
  refine T.F_is_sequence.ok sc_is_sequence (fun vs H Q E h => ?_) (fun cdv A outer s H vs Q E hr h => ?_)
  · obtain ⟨a, xs, lo, hi, rfl, _⟩ := h
    rfl
  · obtain ⟨a, xs, lo, hi, rfl, ha, k⟩ := h
    refine ⟨_, (pss_one (ps_ret (pe_and (pe_callB (call_isiTK (K := K) rfl) rfl T.n_isinstance (by decide +kernel) (pa_cons (pv 0) (pa_cons (pe_tup (pa_cons (pe_bltn (v := V.ty "list") (u := .type "list") rfl T.n_list (by decide +kernel) rfl) (pa_cons (pe_bltn (v := V.ty "tuple") (u := .type "tuple") rfl T.n_tuple (by decide +kernel) rfl) pa_nil))) pa_nil))) (pe_one (pe_chain op_le op_le (pv 1) (pe_callB (call_len_seqK (K := K) rfl) rfl T.n_len (by decide +kernel) (pa_cons (pv 0) pa_nil)) (pv 2)))))), ?_⟩
    refine ⟨_, rfl, le_size (by decide), fun t ht => ?_⟩
    have st := Same.new (.tup [V.ty "list", V.ty "tuple"]) ht
    have two : ∃ tv, TyX K (upd H t (.tup [V.ty "list", V.ty "tuple"])) (.ref a) tv ∧ PySem.W.kitAny K tv [.type "list", .type "tuple"] = some true := by
      rcases ha with ha | ha
      · exact ⟨_, .base (.lst (st _ _ ha)), kitAny_cons (b := true) (kit_ty (by decide +kernel)) (fun q => nomatch q) (fun _ => rfl)⟩
      · exact ⟨_, .base (.tup (st _ _ ha)), kitAny_cons (b := false) (kit_ty (by decide +kernel)) (fun _ => kitAny_cons (b := true) (kit_ty (by decide +kernel)) (fun q => nomatch q) (fun _ => rfl)) (fun q => nomatch q)⟩
    have one : SqL K (upd H t (.tup [V.ty "list", V.ty "tuple"])) a xs ∨ SqT K (upd H t (.tup [V.ty "list", V.ty "tuple"])) a xs := by
      rcases ha with ha | ha
      · exact .inl (SqL.of (st _ _ ha))
      · exact .inr (SqT.of (st _ _ ha))
    obtain ⟨tv, htv, hkt⟩ := two
    refine ⟨_, _, _, _, [.type "list", .type "tuple"], true, rfl, upd_same, .cons (.ty _) (.cons (.ty _) .nil), htv, hkt, true, rfl, ?_⟩
    refine ⟨_, rfl, _, rfl, a, xs, rfl, one, _, _, rfl, rfl, _, rfl, ?_⟩
    refine ite2 (fun c => ?_) (fun c => ?_)
    · refine ⟨_, rfl, _, _, rfl, rfl, k _ _ st ?_⟩
      have c1 := of_decide_eq_true c
      constructor
      · intro h; exact ⟨c1, of_decide_eq_true h⟩
      · intro h; exact decide_eq_true h.2
    · refine k _ _ st ?_
      constructor
      · intro h; cases h
      · intro h; exact absurd (decide_eq_true h.1) c

theorem ok_is_string_over (T : Tx K mg) : FnOk P w K mg base CX0 1 T.f_is_string_over T.fd_is_string_over P_is_string_over spOver := by
  refine T.F_is_string_over.ok sc_is_string_over (fun vs H Q E h => ?_) (fun cdv A outer s H vs Q E hr h => ?_)
  · obtain ⟨sg, u, lo, hi, rfl, _⟩ := h
    rfl
  · obtain ⟨sg, u, lo, hi, rfl, h1, h2, h3, hu, k⟩ := h
    refine ⟨_, (pss_cons (ps_if (PW.pt (pw_or (pt_not (pt_val (pe_callB (call_isiK' (K := K) rfl) rfl T.n_isinstance (by decide +kernel) (pa_cons (pv 1) (pa_cons (pe_bltn (v := V.ty "str") (u := .type "str") rfl T.n_str (by decide +kernel) rfl) pa_nil))))) (pw_or1 (pt_not (pt_chain op_le op_le (pv 2) (pe_callB call_len_str rfl T.n_len (by decide +kernel) (pa_cons (pv 1) pa_nil)) (pv 3)))))) (pss_one (ps_ret pe_bl)) pss_nil)
        (pss_one (ps_ret (pe_callB (cr_allK (K := K) rfl rfl) rfl T.n_all (by decide +kernel) (pa_cons (pe_lc (own := [("sign", 4)]) (g := (gName 4)) rfl sc_is_string_over.nd (pi_str (pv 1)) (blkOk_by (N := N_is_string_over) (sc := defScope s_is_string_over) (by decide +kernel)) (fun _ _ _ _ _ => (pg_name (i := 4) sc_is_string_over.nd rfl (Or.inl rfl))) (fun _ _ _ _ _ => pts_nil) (fun _ _ _ _ _ => (pe_cmpR op_in_sign (pv 4) (pv 0) rfl))) pa_nil))))), ?_⟩
    have hl : (SX.S u).length ≤ sizeLine := le_size (by rw [SX.S_len]; omega)
    refine ⟨_, rfl, _, _, _, _, true, rfl, .ty "str", .base (.str _), kit_ty (by decide +kernel), true, rfl, ?_⟩
    have e : ((SX.S u).length : Int) = u.length := by rw [SX.S_len]
    refine ⟨_, rfl, _, rfl, _, rfl, hl, _, _, rfl, rfl, true, congrArg V.bl (decide_eq_true (by rw [e]; exact h1)), ?_⟩
    refine ⟨_, rfl, _, _, rfl, rfl, true, congrArg V.bl (decide_eq_true (by rw [e]; exact h2)), ?_⟩
    refine ⟨_, rfl, _, rfl, fun D hD => lc_it (walk_str (z := SX.S u)) (fun i H' => H' D = some (.lst ((List.replicate i true).map V.bl)) ∧ Same H H') ⟨upd_same, Same.new _ hD⟩ (fun _ _ _ _ => trivial) ?_ ?_⟩
    · rintro i x H1 H2 hi ⟨hDl, sm⟩ ⟨rfl, c, hc, rfl⟩
      have hcu : c ∈ u := by
        have q : u[i]? = some c := by simpa using hc
        exact List.mem_of_getElem? q
      have hi2 : i ≤ 100000 := by
        have q : i < (SX.S u).length := hi
        rw [SX.S_len] at q
        omega
      refine ⟨rfl, _, rfl, _, rfl, c, _, rfl, rfl, _, hDl, lt_size (by simp; exact hi2), ?_, sm.updNew hD⟩
      rw [upd_same, decide_eq_true (by simpa using hu c hcu), rep_snoc]
    · rintro H1 ⟨hDl, sm⟩
      refine ⟨D, _, rfl, SqL.of hDl, ?_⟩
      rw [all_true]
      exact k _ sm

theorem ok_is_word (T : Tx K mg) : FnOk P w K mg base CX0 2 T.f_is_word T.fd_is_word P_is_word spIsWord := by
  have G_is_string_over : FnOk P w K mg base CX0 1 T.f_is_string_over T.fd_is_string_over P_is_string_over spOver := ok_is_string_over T
  refine T.F_is_word.ok sc_is_word (fun vs H Q E h => ?_) (fun cdv A outer s H vs Q E hr h => ?_)
  · obtain ⟨sg, u, rfl, _⟩ := h
    rfl
  · obtain ⟨sg, u, rfl, ⟨h1, h2, h3⟩, k⟩ := h
    refine ⟨_, (pss_one (ps_ret (pe_call G_is_string_over (hr.mono (by decide)) rfl T.m_is_string_over T.F_is_string_over.kp T.b_is_string_over .nil pass0 (pa_cons (pv 0) (pa_cons (pv 1) (pa_cons pe_int (pa_cons (pe_glob (v := V.int 12) rfl T.g_LONGEST_WORD ⟨_, rfl⟩) pa_nil))))))), ?_⟩
    exact ⟨_, rfl, _, rfl, sg, u, 1, 12, rfl, by omega, by omega, by omega, h3, k⟩
theorem ok_is_arc (T : Tx K mg) : FnOk P w K mg base CX0 3 T.f_is_arc T.fd_is_arc P_is_arc spArc := by
  have G_is_number : FnOk P w K mg base CX0 1 T.f_is_number T.fd_is_number P_is_number spNumber := ok_is_number T
  have G_is_word : FnOk P w K mg base CX0 2 T.f_is_word T.fd_is_word P_is_word spIsWord := ok_is_word T
  refine T.F_is_arc.ok sc_is_arc (fun vs H Q E h => ?_) (fun cdv A outer s H vs Q E hr h => ?_)
  · obtain ⟨sg, t, a, rfl, _⟩ := h
    rfl
  · obtain ⟨sg, t, ⟨s1, u, g1⟩, rfl, ht, ⟨hs, hw, hg⟩, k⟩ := h
    refine ⟨_, (pss_cons (ps_if (PW.pt (pw_or (pt_not (pt_val (pe_callB (call_isiK' (K := K) rfl) rfl T.n_isinstance (by decide +kernel) (pa_cons (pv 1) (pa_cons (pe_bltn (v := V.ty "tuple") (u := .type "tuple") rfl T.n_tuple (by decide +kernel) rfl) pa_nil))))) (pw_or1 (pt_cmpR op_ne (pe_callB (call_len_seqK (K := K) rfl) rfl T.n_len (by decide +kernel) (pa_cons (pv 1) pa_nil)) pe_int (nomark _))))) (pss_one (ps_ret pe_bl)) pss_nil)
        (pss_cons (ps_asg (pv 1) (pg_tup rfl (pgs_cons (pg_name (i := 2) sc_is_arc.nd rfl (Or.inl rfl)) (pgs_cons (pg_name (i := 3) sc_is_arc.nd rfl (Or.inl rfl)) (pgs_cons (pg_name (i := 4) sc_is_arc.nd rfl (Or.inl rfl)) pgs_nil)))))
        (pss_one (ps_ret (pe_and (pe_call G_is_number (hr.mono (by decide)) rfl T.m_is_number T.F_is_number.kp T.b_is_number .nil pass0 (pa_cons (pv 2) (pa_cons pe_int (pa_cons (pe_glob (v := V.int 63) rfl T.g_LAST_STATE ⟨_, rfl⟩) pa_nil)))) (pe_and (pe_call G_is_word (hr.mono (by decide)) rfl T.m_is_word T.F_is_word.kp T.b_is_word .nil pass0 (pa_cons (pv 0) (pa_cons (pv 3) pa_nil))) (pe_one (pe_call G_is_number (hr.mono (by decide)) rfl T.m_is_number T.F_is_number.kp T.b_is_number .nil pass0 (pa_cons (pv 4) (pa_cons pe_int (pa_cons (pe_glob (v := V.int 63) rfl T.g_LAST_STATE ⟨_, rfl⟩) pa_nil))))))))))), ?_⟩
    refine ⟨_, rfl, _, _, _, _, true, rfl, .ty "tuple", .base (.tup ht), kit_ty (by decide +kernel), true, rfl, ?_⟩
    refine ⟨_, rfl, t, _, rfl, .inr (SqT.of ht), rfl, false, rfl, ?_⟩
    refine ⟨_, rfl, t, _, rfl, SqT.of ht, rfl, ?_⟩
    have e1 : (0 : Int) ≤ ((s1 : Nat) : Int) ∧ ((s1 : Nat) : Int) ≤ 63 := by omega
    have e2 : (0 : Int) ≤ ((g1 : Nat) : Int) ∧ ((g1 : Nat) : Int) ≤ 63 := by have hg' : g1 ≤ 63 := hg; omega
    refine ⟨_, _, rfl, _, _, rfl, _, _, rfl, rfl, ?_⟩
    refine ⟨_, rfl, _, 0, 63, rfl, fun b hb => ⟨b, rfl, ?_⟩⟩
    rw [hb.mpr e1]
    refine ⟨_, rfl, _, rfl, sg, u, rfl, hw, fun H' sm => ⟨true, rfl, ?_⟩⟩
    refine ⟨_, rfl, _, 0, 63, rfl, fun b hb => ?_⟩
    rw [hb.mpr e2]
    exact k H' sm
end
end J


set_option Elab.async false
set_option linter.all false
set_option maxRecDepth 100000
set_option maxHeartbeats 4000000
namespace J
open PySem L2

theorem walk_zipS {x y : Str} : Walk (ItzS x y) (min x.cps.size y.cps.size) (fun _ => True) (fun i H v H' => ∃ T c d, v = .ref T ∧ H T = none ∧ H' = upd H T (.tup [.str ⟨#[c]⟩, .str ⟨#[d]⟩]) ∧ x.cps[i]? = some c ∧ y.cps[i]? = some d) :=
  ⟨fun _ _ h _ => h, fun _ _ => rfl, fun _ _ _ _ _ _ h => h⟩
theorem one_lt {c d : Nat} : ([c] < ([d] : List Nat)) ↔ c < d := by
  rw [List.cons_lt_cons_iff]
  constructor
  · rintro (h | ⟨_, h⟩)
    · exact h
    · exact absurd h (List.lt_irrefl _)
  · exact .inl
theorem signs_le {sg : List Nat} (h : Signs sg) : ∀ c ∈ sg, (!decide ([c] < ([97] : List Nat))) = true ∧ (!decide (([122] : List Nat) < [c])) = true := fun c hc => by
  obtain ⟨h1, h2⟩ := h.2.2.1 c hc
  rw [decide_eq_false (fun z => by rw [one_lt] at z; omega), decide_eq_false (fun z => by rw [one_lt] at z; omega)]
  exact ⟨rfl, rfl⟩
theorem signs_pair {sg : List Nat} (h : Signs sg) {i c d : Nat} (h1 : sg[i]? = some c) (h2 : (sg.drop 1)[i]? = some d) : decide ([c] < [d]) = true := by
  rw [List.getElem?_drop] at h2
  obtain ⟨l1, e1⟩ := List.getElem?_eq_some_iff.mp h1
  obtain ⟨l2, e2⟩ := List.getElem?_eq_some_iff.mp h2
  refine decide_eq_true (one_lt.mpr ?_)
  rw [← e1, ← e2]
  exact List.pairwise_iff_getElem.mp h.2.2.2 i (1 + i) l1 l2 (by omega)
section
variable {P : Program} {w : World} {K : PySem.W.Frag} {mg : Str → Option Value} {base : Heap}

theorem ok_is_signs (T : Tx K mg) : FnOk P w K mg base CX0 1 T.f_is_signs T.fd_is_signs P_is_signs spSigns := by
  refine T.F_is_signs.ok sc_is_signs (fun vs H Q E h => ?_) (fun cdv A outer s H vs Q E hr h => ?_)
  · obtain ⟨sg, rfl, _⟩ := h
    rfl
  · obtain ⟨sg, rfl, hsg, k⟩ := h
    refine ⟨_, (pss_cons (ps_if (PW.pt (pw_or (pt_not (pt_val (pe_callB (call_isiK' (K := K) rfl) rfl T.n_isinstance (by decide +kernel) (pa_cons (pv 0) (pa_cons (pe_bltn (v := V.ty "str") (u := .type "str") rfl T.n_str (by decide +kernel) rfl) pa_nil))))) (pw_or1 (pt_not (pt_chain op_le op_le pe_int (pe_callB call_len_str rfl T.n_len (by decide +kernel) (pa_cons (pv 0) pa_nil)) (pe_glob (v := V.int 4) rfl T.g_MOST_SIGNS ⟨_, rfl⟩)))))) (pss_one (ps_ret pe_bl)) pss_nil)
        (pss_cons (ps_set (i := 1) sc_is_signs.nd rfl (Or.inl rfl) (pe_callB (cr_allK (K := K) rfl rfl) rfl T.n_all (by decide +kernel) (pa_cons (pe_lc (own := [("sign", 2)]) (g := (gName 2)) rfl sc_is_signs.nd (pi_str (pv 0)) (blkOk_by (N := N_is_signs) (sc := defScope s_is_signs) (by decide +kernel)) (fun _ _ _ _ _ => (pg_name (i := 2) sc_is_signs.nd rfl (Or.inl rfl))) (fun _ _ _ _ _ => pts_nil) (fun _ _ _ _ _ => (pe_chain op_le_str op_le_str pe_str (pv 2) pe_str))) pa_nil)))
        (pss_one (ps_ret (pe_and (pv 1) (pe_one (pe_callB (cr_allK (K := K) rfl rfl) rfl T.n_all (by decide +kernel) (pa_cons (pe_lc (own := [("one", 3), ("other", 4)]) (g := (gTup K 2 (gCons (gName 3) (gCons (gName 4) gNil)))) rfl sc_is_signs.nd (pi_zipS rfl T.n_zip (pa_cons (pv 0) (pa_cons (pe_slice sl_str (pv 0) (po_some pe_int) po_none) pa_nil))) (blkOk_by (N := N_is_signs) (sc := defScope s_is_signs) (by decide +kernel)) (fun _ _ _ _ _ => (pg_tup rfl (pgs_cons (pg_name (i := 3) sc_is_signs.nd rfl (Or.inl rfl)) (pgs_cons (pg_name (i := 4) sc_is_signs.nd rfl (Or.inl rfl)) pgs_nil)))) (fun _ _ _ _ _ => pts_nil) (fun _ _ _ _ _ => (pe_cmpR op_lt_str (pv 3) (pv 4) (nomark _)))) pa_nil)))))))), ?_⟩
    have hlen := hsg.len
    have hl : (SX.S sg).length ≤ sizeLine := le_size (by rw [SX.S_len]; omega)
    have e : ((SX.S sg).length : Int) = sg.length := by rw [SX.S_len]
    refine ⟨_, rfl, _, _, _, _, true, rfl, .ty "str", .base (.str _), kit_ty (by decide +kernel), true, rfl, ?_⟩
    refine ⟨_, rfl, _, rfl, hl, _, _, rfl, rfl, true, congrArg V.bl (decide_eq_true (by rw [e]; omega)), ?_⟩
    refine ⟨_, _, rfl, rfl, true, congrArg V.bl (decide_eq_true (by rw [e]; omega)), ?_⟩
    refine ⟨_, rfl, _, rfl, fun D hD => lc_it (walk_str (z := SX.S sg)) (fun i H' => H' D = some (.lst ((List.replicate i true).map V.bl)) ∧ Same H H') ⟨upd_same, Same.new _ hD⟩ (fun _ _ _ _ => trivial) ?_ ?_⟩
    · rintro i x H1 H2 hi ⟨hDl, sm⟩ ⟨rfl, c, hc, rfl⟩
      have hcu : c ∈ sg := by
        have q : sg[i]? = some c := by simpa using hc
        exact List.mem_of_getElem? q
      have hi2 : i ≤ 100000 := by
        have q : i < (SX.S sg).length := hi
        rw [SX.S_len] at q
        omega
      obtain ⟨l1, l2⟩ := signs_le hsg c hcu
      refine ⟨rfl, _, rfl, _, _, rfl, rfl, true, congrArg V.bl l1, _, _, rfl, rfl, _, hDl, lt_size (by simp; exact hi2), ?_, sm.updNew hD⟩
      rw [upd_same]
      show some (HO.lst (_ ++ [V.bl (!decide (([122] : List Nat) < [c]))])) = _
      rw [l2, rep_snoc]
    · rintro H1 ⟨hDl, sm⟩
      refine ⟨D, _, rfl, SqL.of hDl, ?_⟩
      rw [all_true]
      refine ⟨_, rfl, true, rfl, ?_⟩
      refine ⟨_, rfl, _, rfl, _, rfl, _, rfl, hl, ?_⟩
      rw [C8.cutS_slice, SX.slice_from (by decide)]
      refine ⟨_, _, rfl, fun D2 hD2 => lc_it (walk_zipS (x := SX.S sg) (y := SX.S (sg.drop 1))) (fun i H' => H' D2 = some (.lst ((List.replicate i true).map V.bl)) ∧ Same H H') ⟨upd_same, sm.trans (Same.new _ hD2)⟩ (fun _ _ _ _ => trivial) ?_ ?_⟩
      · rintro i x H2 H3 hi ⟨hDl2, sm2⟩ ⟨t, c, d, rfl, ht, rfl, hc, hd⟩
        have hcu : sg[i]? = some c := by simpa using hc
        have hdu : (sg.drop 1)[i]? = some d := by simpa using hd
        have hi2 : i ≤ 100000 := by
          have q := (List.getElem?_eq_some_iff.mp hcu).1
          omega
        have nt : D2 ≠ t := fun z => hp_ne hDl2 ht z.symm
        refine ⟨t, _, rfl, SqT.of upd_same, rfl, _, _, rfl, _, _, rfl, rfl, rfl, _, rfl, _, rfl, _, _, rfl, rfl, _, by rw [upd_ne nt]; exact hDl2, lt_size (by simp; exact hi2), ?_, (sm2.trans (Same.new _ ht)).updNew (sm.free hD2)⟩
        rw [upd_same]
        show some (HO.lst (_ ++ [V.bl (decide ([c] < [d]))])) = _
        rw [signs_pair hsg hcu hdu, rep_snoc]
      · rintro H2 ⟨hDl2, sm2⟩
        refine ⟨D2, _, rfl, SqL.of hDl2, ?_⟩
        rw [all_true]
        exact k _ sm2
end
end J


set_option Elab.async false
set_option linter.all false
set_option maxRecDepth 100000
set_option maxHeartbeats 4000000
namespace J
open PySem L2
/-- arcs that a loom may have -/
def OkW (sg : List Nat) (as : List Arc) : Prop := 1 ≤ as.length ∧ as.length ≤ 200 ∧ ∀ a ∈ as, OkArc sg a
theorem OkArcs.w {sg : List Nat} {as : List Arc} (h : OkArcs sg as) : OkW sg as := ⟨h.1, by have := h.2.1; omega, h.2.2.1⟩
/-- a loom's fields -/
def lf (sg : List Nat) (T : Addr) : List (Str × V) := putF "arcs" (.ref T) (putF "signs" (.str (SX.S sg)) [])
theorem ne_sa : ¬ (("signs" : Str) = "arcs") := by decide +kernel
theorem lf_signs (sg : List Nat) (T : Addr) : (lf sg T).lookup ("signs" : Str) = some (.str (SX.S sg)) := by
  unfold lf
  rw [lookup_putF, if_neg ne_sa, lookup_putF, if_pos rfl]
theorem lf_arcs (sg : List Nat) (T : Addr) : (lf sg T).lookup ("arcs" : Str) = some (.ref T) := by
  unfold lf
  rw [lookup_putF, if_pos rfl]
/-- a loom stands at p -/
def LoomAt (C : Addr) (H : Hp) (p : Addr) (sg : List Nat) (us : List V) (as : List Arc) : Prop := ∃ dx T, H p = some (.ins C dx (lf sg T)) ∧ H T = some (.tup us) ∧ Arcs H us as ∧ OkW sg as ∧ Signs sg
def spInit (C : Addr) : Sp := fun vs H Q _ => ∃ (p dx a : Addr) (sg : List Nat) (us : List V) (as : List Arc), vs = [.ref p, .str (SX.S sg), .ref a] ∧ H p = some (.ins C dx []) ∧ H a = some (.lst us) ∧ Arcs H us as ∧ OkW sg as ∧ Signs sg ∧
  ∀ (H' : Hp) (T : Addr), Ex p H H' → H T = none → H' T = some (.tup us) → H' p = some (.ins C dx (lf sg T)) → Q .non H'
theorem take_snoc {α : Type} {l : List α} {i : Nat} {x : α} (h : l[i]? = some x) : l.take i ++ [x] = l.take (i + 1) := by
  rw [List.take_add_one, h]
  rfl
def spChkSigns : Sp := fun vs H Q _ => ∃ sg : List Nat, vs = [.str (SX.S sg)] ∧ Signs sg ∧ ∀ H', Same H H' → Q .non H'
section
variable {P : Program} {w : World} {K : PySem.W.Frag} {mg : Str → Option Value} {base : Heap}
theorem ok_check_signs (T : Tx K mg) : FnOk P w K mg base CX0 2 T.f_check_signs T.fd_check_signs P_check_signs spChkSigns := by
  have G_is_signs : FnOk P w K mg base CX0 1 T.f_is_signs T.fd_is_signs P_is_signs spSigns := ok_is_signs T
  refine T.F_check_signs.ok sc_check_signs (fun vs H Q E h => ?_) (fun cdv A outer s H vs Q E hr h => ?_)
  · obtain ⟨sg, rfl, _⟩ := h
    rfl
  · obtain ⟨sg, rfl, hsg, k⟩ := h
    refine ⟨_, (pss_one (ps_if (pt_not (pt_val (pe_call G_is_signs (hr.mono (by decide)) rfl T.m_is_signs T.F_is_signs.kp T.b_is_signs .nil pass0 (pa_cons (pv 0) pa_nil)))) (pss_one ps_never) pss_nil)), ?_⟩
    refine ⟨_, rfl, sg, rfl, hsg, fun H1 s1 => ⟨true, rfl, ?_⟩⟩
    exact k _ s1
theorem ok_Loom_init (T : Tx K mg) : FnOk P w K mg base CX0 4 T.f_Loom_init T.fd_Loom_init P_Loom_init (spInit T.C_Loom) := by
  have G_check_signs : FnOk P w K mg base CX0 2 T.f_check_signs T.fd_check_signs P_check_signs spChkSigns := ok_check_signs T
  have G_is_sequence : FnOk P w K mg base CX0 1 T.f_is_sequence T.fd_is_sequence P_is_sequence (spSequence K) := ok_is_sequence T
  have G_is_arc : FnOk P w K mg base CX0 3 T.f_is_arc T.fd_is_arc P_is_arc spArc := ok_is_arc T
  refine T.F_Loom_init.ok sc_Loom_init (fun vs H Q E h => ?_) (fun cdv A outer s H vs Q E hr h => ?_)
  · obtain ⟨p, dx, a, sg, us, as, rfl, _⟩ := h
    rfl
  · obtain ⟨p, dx, a, sg, us, as, rfl, hp, ha, harc, hok, hsg, k⟩ := h
    refine ⟨_, (pss_cons (ps_expr (pe_call G_check_signs (hr.mono (by decide)) rfl T.m_check_signs T.F_check_signs.kp T.b_check_signs .nil pass0 (pa_cons (pv 1) pa_nil)))
        (pss_cons (ps_if (pt_not (pt_val (pe_call G_is_sequence (hr.mono (by decide)) rfl T.m_is_sequence T.F_is_sequence.kp T.b_is_sequence .nil pass0 (pa_cons (pv 2) (pa_cons pe_int (pa_cons (pe_glob (v := V.int 200) rfl T.g_MOST_ARCS ⟨_, rfl⟩) pa_nil)))))) (pss_one ps_never) pss_nil)
        (pss_cons (ps_for PassesOwn.never rfl (pi_enum rfl T.n_enumerate (pa_cons (pv 2) pa_nil)) (pg_tup rfl (pgs_cons (pg_name (i := 3) sc_Loom_init.nd rfl (Or.inl rfl)) (pgs_cons (pg_name (i := 4) sc_Loom_init.nd rfl (Or.inl rfl)) pgs_nil))) (pss_one (ps_if (pt_not (pt_val (pe_call G_is_arc (hr.mono (by decide)) rfl T.m_is_arc T.F_is_arc.kp T.b_is_arc .nil pass0 (pa_cons (pv 1) (pa_cons (pv 4) pa_nil))))) (pss_one ps_never) pss_nil)))
        (pss_cons (ps_fld (pv 0) (pv 1) rfl)
        (pss_one (ps_fld (pv 0) (pe_callTy (call_tuple_ofK (K := K) rfl) rfl T.n_tuple (by decide +kernel) (pa_cons (pe_lc (own := [("arc", 4)]) (g := (gName 4)) rfl sc_Loom_init.nd (pi_list (pv 2)) (blkOk_by (N := N_Loom_init) (sc := defScope s_Loom_init) (by decide +kernel)) (fun _ _ _ _ _ => (pg_name (i := 4) sc_Loom_init.nd rfl (Or.inl rfl))) (fun _ _ _ _ _ => pts_nil) (fun _ _ _ _ _ => (pe_callTy (call_tuple_ofK (K := K) rfl) rfl T.n_tuple (by decide +kernel) (pa_cons (pv 4) pa_nil)))) pa_nil)) rfl)))))), ?_⟩
    refine ⟨_, rfl, sg, rfl, hsg, fun H1 s1 => ?_⟩
    refine ⟨_, rfl, a, us, 1, 200, rfl, .inl (s1 _ _ ha), fun H2 b s2 hb => ⟨b, rfl, ?_⟩⟩
    have hl := hok.2.1
    have hl0 := hok.1
    have hl2 := harc.1
    rw [hb.mpr ⟨by omega, by omega⟩]
    have s12 := s1.trans s2
    refine ⟨_, rfl, a, us, rfl, SqL.of (s12 _ _ ha), for_it walk_enum (fun i σ H' => ∃ v3 v4, σ = [some (.ref p), some (.str (SX.S sg)), some (.ref a), v3, v4] ∧ Same H H') ⟨_, _, rfl, s12⟩ (fun i σ H' _ ⟨_, _, _, sm⟩ => SqL.of (sm _ _ ha)) ?_ ?_⟩
    · rintro i x σ H3 H4 hi ⟨v3, v4, rfl, s3⟩ ⟨tp, x1, y1, rfl, ht, rfl, hx1, hy1⟩
      cases hx1
      have hia : i < as.length := by omega
      obtain ⟨t, hut, htt⟩ := harc.2 i as[i] (List.getElem?_eq_getElem hia)
      replace hy1 : us[i]? = some y1 := hy1
      rw [hut] at hy1
      cases hy1
      have sn := Same.new (.tup [V.int (i : Int), .ref t]) ht
      refine ⟨tp, _, rfl, SqT.of upd_same, rfl, _, _, rfl, _, _, rfl, rfl, ?_⟩
      refine ⟨_, rfl, _, rfl, sg, t, as[i], rfl, sn _ _ (s3 _ _ htt), hok.2.2 _ (List.getElem_mem hia), fun H5 s5 => ⟨true, rfl, ?_⟩⟩
      exact ⟨_, _, rfl, s3.trans (sn.trans s5)⟩
    · rintro σ H3 ⟨v3, v4, rfl, s3⟩
      have hp3 := s3 _ _ hp
      refine ⟨_, rfl, _, rfl, p, _, dx, _, rfl, hp3, T.cl_Loom, T.na_Loom_signs, (by show 0 < 1000; decide), ?_⟩
      have x3 : Ex p H (upd H3 p (.ins T.C_Loom dx (putF "signs" (.str (SX.S sg)) []))) := (Same.ex s3).trans (Ex.upd _)
      have nap : a ≠ p := fun z => by rw [z, hp] at ha; cases ha
      refine ⟨_, rfl, a, rfl, ⟨_, SqL.of (x3 _ _ nap ha)⟩, fun D hD => lc_list (K := K) (a := a) (xs := us) (fun i H' => H' D = some (.lst (us.take i)) ∧ Ex p H H' ∧ H' p = some (.ins T.C_Loom dx (putF "signs" (.str (SX.S sg)) []))) ?_ ?_ ?_ ?_⟩
      · have nDp : D ≠ p := hp_ne upd_same hD
        exact ⟨upd_same, x3.trans (Ex.new _ hD), by rw [upd_ne nDp.symm]; exact upd_same⟩
      · rintro i H4 hi ⟨_, x4, _⟩
        exact SqL.of (x4 _ _ nap ha)
      · rintro i y H4 hy ⟨hDl, x4, hp4⟩
        have hia : i < us.length := (List.getElem?_eq_some_iff.mp hy).1
        obtain ⟨t, hut, htt⟩ := harc.2 i as[i] (List.getElem?_eq_getElem (by omega))
        rw [hut] at hy
        cases hy
        have ntp : t ≠ p := fun z => by rw [z, hp] at htt; cases htt
        have nDp : D ≠ p := hp_ne upd_same hD
        refine ⟨rfl, _, rfl, t, _, rfl, .inr ⟨SqT.of (x4 _ _ ntp htt), _, hDl, lt_size (by simp; omega), ?_, x4.updNew (x3.free hD nDp), by rw [upd_ne nDp.symm]; exact hp4⟩⟩
        rw [upd_same, take_snoc hut]
      · rintro H4 ⟨hDl, x4, hp4⟩
        rw [List.take_length] at hDl
        refine ⟨D, us, rfl, .inl ⟨SqL.of hDl, fun T1 hT1 => ?_⟩⟩
        have nT : T1 ≠ p := hp_ne hp4 hT1
        refine ⟨_, rfl, p, _, dx, _, rfl, by rw [upd_ne nT.symm]; exact hp4, T.cl_Loom, T.na_Loom_arcs, (by show 1 < 1000; decide), ?_⟩
        exact k _ T1 ((x4.trans (Ex.new _ hT1)).trans (Ex.upd _)) (x4.free hT1 nT) (by rw [upd_ne nT]; exact upd_same) upd_same
end
end J


set_option Elab.async false
set_option linter.all false
set_option maxRecDepth 100000
set_option maxHeartbeats 4000000
/-! x != y of two objects of a class with an own __eq__ and no __ne__ -/
namespace HNB
open PySem PySem.Spec PyProof.Rows PySem.SeqAt
section
variable {M : Model} {prog : Program} {w : World} {A : Around} {E : Value → Shared → Prop} {s : Shared} {K : PySem.W.Frag} {x C f : Addr} {ox : Obj} {od : Option Obj} {b tb : Value} {rb : Bool}
theorem ifBound_objNe {args : List Value} {Q : Option Value → Shared → Prop} (X : K.In s.heap) (I : PySem.W.InstAt s.heap x ox C od) (hs : PySem.W.findIn K (.ref C) "__ne__" = some (some (.builtin "object.__ne__")))
    (h : wpAny M A (call (.builtin "object.__ne__") (.ref x :: args)) (fun v => Q (some v)) E s) : wpAny M A (callSpecialIfBound? (.ref x) "__ne__" args) Q E s := by
  simp only [callSpecialIfBound?, bindSpecialIfBound?]
  refine wpAny_holding (wpAny_bind (wpAny_bind (wpAny_bind (I.type.here ((PySem.W.looks_findIn X hs).here ?_)))))
  refine wpAny_bind (wpAny_askSetting (wpAny_ite ?_))
  have fin : wpAny M A (call (.builtin "object.__ne__") ([.ref x] ++ args) >>= fun v => pure (some v)) Q E s := wpAny_bind (wpAny_mono h (fun v s' h' => wpAny_pure h') fun _ _ h' => h')
  split
  · exact wpAny_bind (wpAny_of_eq (F.cmp_object.ne.bind _) (wpAny_pure (by exact fin)))
  · exact wpAny_tryCatch (wpAny_bind (wpAny_of_eq (F.cmp_object.ne.bind _) (wpAny_pure (by exact fin))))
/-- what object.__ne__ does, where the class's own __eq__ says True -/
theorem entry_ne {R : Fin → Shared → Prop} (hu : A.units < cLine) (X : K.In s.heap) (I : PySem.W.InstAt s.heap x ox C od) (hs : PySem.W.findIn K (.ref C) "__eq__" = some (some (.ref f))) (hf : PySem.W.isFn K (.ref f) = true)
    (h : wpAny M A (call (.ref f) [.ref x, b]) (fun v s' => v = .bool rb ∧ R (.done (.ret (.bool (!rb)))) s') E s) : wpAny M A (Builtin.«object.__ne__» ⟨[.ref x, b], []⟩) R E s := by
  unfold Builtin.«object.__ne__»
  have q : wpAny M A (callSpecialIfBound? (.ref x) "__eq__" [b]) (fun r s' => r = some (.bool rb) ∧ R (.done (.ret (.bool (!rb)))) s') E s :=
    PySem.W.ifBound_K X I hs hf (wpAny_mono h (fun v s' ⟨e, z⟩ => ⟨by rw [e], z⟩) fun _ _ z => z)
  repeat (first | with_reducible refine wpAny_cRoomFor hu ?_ | with_reducible refine wpAny_bind (wpAny_mono q (fun r s' ⟨e, z⟩ => ?_) fun _ _ z => z) | wp_step)
  subst e
  refine wpAny_bind (wpAny_truthy_bool ?_)
  exact wpAny_pure z
theorem call_objNe {Q : Value → Shared → Prop} (hu : A.in1.units < cLine) (X : K.In s.heap) (I : PySem.W.InstAt s.heap x ox C od) (hm : PySem.W.mroIn K C (.type "object") = some true) (hs : PySem.W.findIn K (.ref C) "__eq__" = some (some (.ref f))) (hf : PySem.W.isFn K (.ref f) = true)
    (h : wpAny (model prog w) A.in1 (call (.ref f) [.ref x, b]) (fun v s' => v = .bool rb ∧ Q (.bool (!rb)) s') E s) :
    wpAny (model prog w) A (call (.builtin "object.__ne__") [.ref x, b]) Q E s :=
  wpAny_call (codeAny_call_builtin F.cmp_object.ne.plain F.cmpEntry_ne (PySem.W.check_slot F.cmpKind_ne F.cmpSplit_ne (I.type.andThen (PySem.W.looks_mroIn X hm)) (F.cmpArgs_ne _ _) (entry_ne (rb := rb) hu X I hs hf h)))
theorem rc_ne {L : Addr} {h₀ : Heap} {m : Str → Option Value} {Q : Value → Shared → Prop} (hu : A.units < cLine) (hu1 : A.in1.units < cLine) (F : Fr h₀ L s.heap m) (X₀ : K.In h₀) (I : PySem.W.InstAt s.heap x ox C od) (hb : PySem.W.Looks (model prog w) s.heap (typeOf b) tb) (hn : PySem.W.notFirst K C tb = true)
    (hm : PySem.W.mroIn K C (.type "object") = some true) (hne : PySem.W.findIn K (.ref C) "__ne__" = some (some (.builtin "object.__ne__"))) (hs : PySem.W.findIn K (.ref C) "__eq__" = some (some (.ref f))) (hf : PySem.W.isFn K (.ref f) = true)
    (h : wpAny (model prog w) A.in1 (call (.ref f) [.ref x, b]) (fun v s' => v = .bool rb ∧ Q (.bool (!rb)) s') E s) : wpAny (model prog w) A (richCompare .NotEq (.ref x) b) Q E s := by
  have X := X₀.keeps F.keep
  have one : wpAny (model prog w) A (tryCompare (.ref x) (cmpInfo .NotEq).2.1 b) (fun r s' => ∃ v, r = some v ∧ Q v s') E s := by
    unfold tryCompare
    refine wpAny_bind (ifBound_objNe X I hne (call_objNe (rb := rb) hu1 X I hm hs hf (wpAny_mono h (fun v s' hv => ?_) fun _ _ e => e)))
    exact ⟨hv.1, wpAny_pure ⟨_, rfl, hv.2⟩⟩
  unfold richCompare
  simp only [oneThing_ref]
  refine wpAny_holding (wpAny_bind (wpAny_cRoomFor hu ?_))
  refine wpAny_bind (I.type.here (wpAny_bind (hb.here ?_)))
  split
  · rename_i q
    have e : PySem.W.subIn K tb (.ref C) = some false := by
      rcases Bool.or_eq_true_iff.mp hn with e | e
      · rw [beq_iff_eq.mp e] at q; simp at q
      · exact beq_iff_eq.mp e
    refine wpAny_bind ((PySem.W.looks_subIn X e).here ?_)
    simp only [Bool.false_eq_true, if_false]
    refine wpAny_bind (wpAny_mono one (fun r s' z => ?_) fun _ _ e => e)
    obtain ⟨v, rfl, hq⟩ := z
    exact wpAny_pure hq
  · refine wpAny_bind (wpAny_pure ?_)
    simp only [Bool.false_eq_true, if_false]
    refine wpAny_bind (wpAny_mono one (fun r s' z => ?_) fun _ _ e => e)
    obtain ⟨v, rfl, hq⟩ := z
    exact wpAny_pure hq
end
end HNB
namespace L2
open PySem PySem.Spec PyProof.Rows
section
variable {X : Cx} {n : Nat}
/-- what the own == says of two objects -/
def spEqB (R : Addr → Addr → Bool → Hp → Prop) : Sp := fun vs H Q _ => ∃ a b r, vs = [.ref a, .ref b] ∧ R a b r H ∧ ∀ H', Ext H H' → Q (.bl r) H'
def rEqB (C : Addr) (R : Addr → Addr → Bool → Hp → Prop) : R2 := fun x y H Q => ∃ a b dx dy fs gs r, x = .ref a ∧ y = .ref b ∧ H a = some (.ins C dx fs) ∧ H b = some (.ins C dy gs) ∧ R a b r H ∧ ∀ H', Ext H H' → Q (.bl r) H'
def rNeB (C : Addr) (R : Addr → Addr → Bool → Hp → Prop) : R2 := fun x y H Q => ∃ a b dx dy fs gs r, x = .ref a ∧ y = .ref b ∧ H a = some (.ins C dx fs) ∧ H b = some (.ins C dy gs) ∧ R a b r H ∧ ∀ H', Ext H H' → Q (.bl (!r)) H'
/-- the call of the own == -/
theorem call_eqB {CX : CXT} {f : Addr} {fd : FuncData} {ps : List Str} {R : Addr → Addr → Bool → Hp → Prop} {E : XK} {A : Around} {pins : List (Addr × Obj)} {σ : St} {H : Hp} {s : Shared} {a b : Addr} {r : Bool} (F : FnOk X.prog X.w X.K X.mg X.base CX n f fd ps (spEqB R))
    (hb : Binds X.K fd ps []) (hx : Passes CX X E) (sb : Sub X n A) (I : Inv X pins σ H s) (hr : R a b r H) :
    wpAny (model X.prog X.w) A (call (.ref f) [.ref a, .ref b]) (fun v s' => v = .bool r ∧ ∃ H', Inv X pins σ H' s' ∧ Ext H H') X.xe s := by
  have hsp : spEqB R [.ref a, .ref b] H (fun v H' => v = .bl r ∧ Ext H H') E := ⟨a, b, r, rfl, hr, fun H' e => ⟨rfl, e⟩⟩
  have e0 : Env0 X.prog X.w X.K X.mg X.base A X.stack s H := by
    obtain ⟨p1, p2, p3, p4, p5, p6, p7, p8⟩ := I.env0
    exact ⟨by rw [sb.fr]; exact p1, p2, p3, p4, p5, p6, p7, p8⟩
  have two : Vals [V.ref a, V.ref b] [Value.ref a, Value.ref b] := .cons rfl (.cons rfl .nil)
  have bd := hb s [.ref a, .ref b] I.kIn (by simpa using F.len _ _ _ _ hsp)
  have go := F.run A X.stack s H ⟨[.ref a, .ref b], []⟩ [.ref a, .ref b] [.ref a, .ref b] _ E sb.room e0 (by simpa using bd) two hsp
  refine wpAny_call (codeAny_mono go fun z t hz => ?_)
  match z, hz with
  | .error e, hz => exact hx pins σ H s e t I hz
  | .ok (.ret w'), hz =>
    obtain ⟨y, H', I', ry, rfl, ex⟩ := I.after hz
    cases ry
    exact ⟨rfl, H', I', ex⟩
  | .ok .next, hz => exact hz.elim
  | .ok .brk, hz => exact hz.elim
  | .ok .cont, hz => exact hz.elim
theorem op_eqB {CX : CXT} {C f : Addr} {fd : FuncData} {ps : List Str} {R : Addr → Addr → Bool → Hp → Prop} {E : XK} (F : FnOk X.prog X.w X.K X.mg X.base CX n f fd ps (spEqB R))
    (hs : PySem.W.findIn X.K (.ref C) "__eq__" = some (some (.ref f))) (hf : PySem.W.isFn X.K (.ref f) = true) (hb : Binds X.K fd ps []) (hx : Passes CX X E) (hr : Room n X.A) : OpR X (compareOp .Eq) (rEqB C R) := by
  intro pins s σ H x y u v Q I rx ry hq
  obtain ⟨a, b, dx, dy, fs, gs, r, rfl, rfl, ha, hb', hR, q⟩ := hq
  cases rx
  cases ry
  obtain ⟨mA, J, _⟩ := ins_get I.hok ha
  obtain ⟨mB, J', _⟩ := ins_get I.hok hb'
  obtain ⟨od, J, _⟩ := J.look
  obtain ⟨od', J', _⟩ := J'.look
  obtain ⟨m, hF⟩ := I.fr
  show wpAny (model X.prog X.w) X.A (richCompare .Eq (.ref a) (.ref b)) (EP X pins σ Q) X.xe s
  refine PySem.W.cmp_K (tb := .ref C) hr.units0 hF I.ok.mod.kin J J'.type (by simp [PySem.W.notFirst]) hs hf (wpAny_mono (call_eqB F hb hx ⟨hr, rfl⟩ I hR) (fun w' t z => ?_) fun _ _ e => e)
  obtain ⟨rfl, H', I', ex⟩ := z
  exact ⟨.bl r, H', I', rfl, q H' ex⟩
theorem op_neB {CX : CXT} {C f : Addr} {fd : FuncData} {ps : List Str} {R : Addr → Addr → Bool → Hp → Prop} {E : XK} (F : FnOk X.prog X.w X.K X.mg X.base CX n f fd ps (spEqB R))
    (hs : PySem.W.findIn X.K (.ref C) "__eq__" = some (some (.ref f))) (hf : PySem.W.isFn X.K (.ref f) = true) (hne : PySem.W.findIn X.K (.ref C) "__ne__" = some (some (.builtin "object.__ne__"))) (hm : PySem.W.mroIn X.K C (.type "object") = some true)
    (hb : Binds X.K fd ps []) (hx : Passes CX X E) (hr : Room (n + 1) X.A) : OpR X (compareOp .NotEq) (rNeB C R) := by
  intro pins s σ H x y u v Q I rx ry hq
  obtain ⟨a, b, dx, dy, fs, gs, r, rfl, rfl, ha, hb', hR, q⟩ := hq
  cases rx
  cases ry
  obtain ⟨mA, J, _⟩ := ins_get I.hok ha
  obtain ⟨mB, J', _⟩ := ins_get I.hok hb'
  obtain ⟨od, J, _⟩ := J.look
  obtain ⟨od', J', _⟩ := J'.look
  obtain ⟨m, hF⟩ := I.fr
  have sb : Sub X n X.A.in1 := Sub.in1 ⟨hr, rfl⟩
  show wpAny (model X.prog X.w) X.A (richCompare .NotEq (.ref a) (.ref b)) (EP X pins σ Q) X.xe s
  refine HNB.rc_ne (tb := .ref C) (rb := r) hr.units0 sb.room.units0 hF I.ok.mod.kin J J'.type (by simp [PySem.W.notFirst]) hm hne hs hf (wpAny_mono (call_eqB F hb hx sb I hR) (fun w' t z => ?_) fun _ _ e => e)
  obtain ⟨rfl, H', I', ex⟩ := z
  exact ⟨rfl, .bl (!r), H', I', rfl, q H' ex⟩
end
end L2

set_option Elab.async false
set_option linter.all false
set_option maxRecDepth 100000
set_option maxHeartbeats 4000000
namespace J
open PySem L2
theorem pi_or {X : Cx} {tg l : Expr} {ti tj : TI} (h1 : PI X tg l ti) (h2 : PI X tg l tj) : PI X tg l (fun σ H R => ti σ H R ∨ tj σ H R) := ⟨fun pins s σ H R I h => h.elim (h1.run pins s σ H R I) (h2.run pins s σ H R I)⟩
/-- the arcs of a book -/
def bka (ws : List (List Nat)) : List Arc := ws.map fun u => (0, u, 0)
theorem bka_len (ws : List (List Nat)) : (bka ws).length = ws.length := by simp [bka]
theorem bka_ok {sg : List Nat} {ws : List (List Nat)} (h1 : 1 ≤ ws.length) (h2 : ws.length ≤ 200) (h : ∀ u ∈ ws, Word sg u) : OkW sg (bka ws) := by
  refine ⟨by rw [bka_len]; exact h1, by rw [bka_len]; exact h2, fun a ha => ?_⟩
  obtain ⟨u, hu, rfl⟩ := List.mem_map.mp ha
  exact ⟨Nat.zero_le _, h u hu, Nat.zero_le _⟩
theorem LoomAt.same {C : Addr} {H H' : Hp} {p : Addr} {sg : List Nat} {us : List V} {as : List Arc} (h : LoomAt C H p sg us as) (s : Same H H') : LoomAt C H' p sg us as := by
  obtain ⟨dx, T, h1, h2, h3, h4, h5⟩ := h
  exact ⟨dx, T, s _ _ h1, s _ _ h2, h3.same s, h4, h5⟩
/-- a list or a tuple -/
def Seq (H : Hp) (a : Addr) (xs : List V) : Prop := H a = some (.lst xs) ∨ H a = some (.tup xs)
theorem Seq.same {H H' : Hp} {a : Addr} {xs : List V} (h : Seq H a xs) (s : Same H H') : Seq H' a xs := h.imp (s _ _) (s _ _)
def spBook (C : Addr) : Sp := fun vs H Q _ => ∃ (a : Addr) (sg : List Nat) (ws : List (List Nat)), vs = [.str (SX.S sg), .ref a] ∧ Seq H a (txts ws) ∧ Signs sg ∧ 1 ≤ ws.length ∧ ws.length ≤ 200 ∧ (∀ u ∈ ws, Word sg u) ∧
  ∀ H' (q : Addr) us, Same H H' → H q = none → LoomAt C H' q sg us (bka ws) → Q (.ref q) H'
def kdB (as : List Arc) : Bool := as.all fun a => a.1 == 0 && a.2.2 == 0
def spIsBook (K : PySem.W.Frag) (C : Addr) : Sp := fun vs H Q _ => ∃ v, vs = [v] ∧ ((∃ (q : Addr) (sg : List Nat) (us : List V) (as : List Arc), v = .ref q ∧ LoomAt C H q sg us as ∧ ∀ H', Same H H' → Q (.bl (kdB as)) H') ∨
  (∃ t, TyZ K H v t ∧ PySem.W.kitOne K t (.ref C) = some false ∧ Q (.bl false) H))
def spChkBook (C : Addr) : Sp := fun vs H Q _ => ∃ (q : Addr) (sg : List Nat) (us : List V) (as : List Arc), vs = [.ref q] ∧ LoomAt C H q sg us as ∧ kdB as = true ∧ ∀ H', Same H H' → Q .non H'
def spPWords (C : Addr) : Sp := fun vs H Q _ => ∃ (q : Addr) (sg : List Nat) (us : List V) (ws : List (List Nat)), vs = [.ref q] ∧ LoomAt C H q sg us (bka ws) ∧
  ∀ H' (r : Addr), Same H H' → H r = none → H' r = some (.lst (txts ws)) → Q (.ref r) H'
theorem kd_book (ws : List (List Nat)) : kdB (bka ws) = true := by simp [kdB, bka]
theorem kit_self {K : PySem.W.Frag} (t : Value) : PySem.W.kitOne K t t = some true := by unfold PySem.W.kitOne; simp
theorem all_map_bl (l : List Bool) : (l.map V.bl).length = l.length := List.length_map _
theorem txt_at {ws : List (List Nat)} {i : Nat} {y : V} (h : (txts ws)[i]? = some y) : ∃ u, ws[i]? = some u ∧ y = .str (SX.S u) := by
  rw [txts, List.getElem?_map] at h
  obtain ⟨u, hu, e⟩ := Option.map_eq_some_iff.mp h
  exact ⟨u, hu, e.symm⟩
theorem nat_zero (n : Nat) : decide (V.int (n : Int) = V.int 0) = (n == 0) := by
  by_cases h : n = 0
  · subst h; rfl
  · rw [decide_eq_false (fun z => h (by injection z with z; omega))]
    exact (beq_false_of_ne h).symm
section
variable {P : Program} {w : World} {K : PySem.W.Frag} {mg : Str → Option Value} {base : Heap}
theorem ok_book (T : Tx K mg) : FnOk P w K mg base CX0 6 T.f_book T.fd_book P_book (spBook T.C_Loom) := by
  have G_check_signs : FnOk P w K mg base CX0 2 T.f_check_signs T.fd_check_signs P_check_signs spChkSigns := ok_check_signs T
  have G_is_sequence : FnOk P w K mg base CX0 1 T.f_is_sequence T.fd_is_sequence P_is_sequence (spSequence K) := ok_is_sequence T
  have G_Loom_init : FnOk P w K mg base CX0 4 T.f_Loom_init T.fd_Loom_init P_Loom_init (spInit T.C_Loom) := ok_Loom_init T
  refine T.F_book.ok sc_book (fun vs H Q E h => ?_) (fun cdv A outer s H vs Q E hr h => ?_)
  · obtain ⟨a, sg, ws, rfl, _⟩ := h
    rfl
  · obtain ⟨a, sg, ws, rfl, ha, hsg, h1, h2, hw, k⟩ := h
    refine ⟨_, (pss_cons (ps_expr (pe_call G_check_signs (hr.mono (by decide)) rfl T.m_check_signs T.F_check_signs.kp T.b_check_signs .nil pass0 (pa_cons (pv 0) pa_nil)))
        (pss_cons (ps_if (pt_not (pt_val (pe_call G_is_sequence (hr.mono (by decide)) rfl T.m_is_sequence T.F_is_sequence.kp T.b_is_sequence .nil pass0 (pa_cons (pv 1) (pa_cons pe_int (pa_cons (pe_glob (v := V.int 200) rfl T.g_MOST_ARCS ⟨_, rfl⟩) pa_nil)))))) (pss_one ps_never) pss_nil)
        (pss_one (ps_ret (pe_make T.M_Loom G_Loom_init (hr.mono (by decide)) rfl T.g_Loom T.b_Loom_init .nil pass0 (pa_cons (pv 0) (pa_cons (pe_lc (own := [("word", 2)]) (g := (gName 2)) rfl sc_book.nd (pi_or (pi_list (pv 1)) (pi_tup (pv 1))) (blkOk_by (N := N_book) (sc := defScope s_book) (by decide +kernel)) (fun _ _ _ _ _ => (pg_name (i := 2) sc_book.nd rfl (Or.inl rfl))) (fun _ _ _ _ _ => pts_nil) (fun _ _ _ _ _ => (pe_tup (pa_cons pe_int (pa_cons (pv 2) (pa_cons pe_int pa_nil)))))) pa_nil))))))), ?_⟩
    refine ⟨_, rfl, sg, rfl, hsg, fun H1 s1 => ?_⟩
    refine ⟨_, rfl, a, txts ws, 1, 200, rfl, ha.same s1, fun H2 b s2 hb => ⟨b, rfl, ?_⟩⟩
    have wl : (txts ws).length = ws.length := by rw [txts, List.length_map]
    rw [hb.mpr ⟨by omega, by omega⟩]
    have s12 := s1.trans s2
    refine ⟨_, rfl, ?_⟩
    have step : ∀ {Q : VK} {D : Addr} {i : Nat} {H' : Hp} {u : List Nat}, H2 D = none → ws[i]? = some u → (∃ us, us.length = i ∧ H' D = some (.lst us) ∧ Arcs H' us ((bka ws).take i) ∧ Same H2 H') →
        ∀ t, H' t = none → ∃ acc, upd H' t (.tup [.int 0, .str (SX.S u), .int 0]) D = some (.lst acc) ∧ acc.length < sizeLine ∧ ∃ us, us.length = i + 1 ∧ upd (upd H' t (.tup [.int 0, .str (SX.S u), .int 0])) D (.lst (acc ++ [.ref t])) D = some (.lst us) ∧ Arcs (upd (upd H' t (.tup [.int 0, .str (SX.S u), .int 0])) D (.lst (acc ++ [.ref t]))) us ((bka ws).take (i + 1)) ∧ Same H2 (upd (upd H' t (.tup [.int 0, .str (SX.S u), .int 0])) D (.lst (acc ++ [.ref t]))) := by
      rintro Q D i H' u hD hu ⟨us, rfl, hDl, harc, sm⟩ t ht
      have nt : D ≠ t := fun z => hp_ne hDl ht z.symm
      have hi := (List.getElem?_eq_some_iff.mp hu).1
      have sn : Same H' (upd H' t (.tup [.int 0, .str (SX.S u), .int 0])) := Same.new _ ht
      have hD1 : upd H' t (.tup [.int 0, .str (SX.S u), .int 0]) D = some (.lst us) := by rw [upd_ne nt]; exact hDl
      refine ⟨us, hD1, lt_size (by omega), us ++ [.ref t], by simp, upd_same, ?_, (sm.trans sn).updNew hD⟩
      have e : (bka ws).take (us.length + 1) = (bka ws).take us.length ++ [(0, u, 0)] := by
        rw [take_snoc (by rw [bka, List.getElem?_map, hu]; rfl)]
      rw [e]
      exact ((harc.same sn).snoc (t := t) (a := (0, u, 0)) upd_same).updL hD1
    have fin : ∀ {H3 : Hp} {D : Addr}, H2 D = none → (∃ us, us.length = ws.length ∧ H3 D = some (.lst us) ∧ Arcs H3 us ((bka ws).take ws.length) ∧ Same H2 H3) → ∃ us, H3 D = some (.lst us) ∧ Arcs H3 us (bka ws) ∧ Same H H3 := by
      rintro H3 D hD ⟨us, hl, hDl, harc, sm⟩
      rw [List.take_of_length_le (by rw [bka_len]; exact Nat.le_refl _)] at harc
      exact ⟨us, hDl, harc, s12.trans sm⟩
    have mk : ∀ {H3 : Hp} {D : Addr} {us : List V}, H3 D = some (.lst us) → Arcs H3 us (bka ws) → Same H H3 → ∀ x dx, H3 x = none → H3 dx = none → x ≠ dx → ∃ p dx' a' sg' us' as', [V.ref x, .str (SX.S sg), .ref D] = [.ref p, .str (SX.S sg'), .ref a'] ∧ upd (upd H3 dx (.own x)) x (.ins T.C_Loom dx []) p = some (.ins T.C_Loom dx' []) ∧
        upd (upd H3 dx (.own x)) x (.ins T.C_Loom dx []) a' = some (.lst us') ∧ Arcs (upd (upd H3 dx (.own x)) x (.ins T.C_Loom dx [])) us' as' ∧ OkW sg' as' ∧ Signs sg' ∧
        ∀ (H' : Hp) (Tt : Addr), Ex p (upd (upd H3 dx (.own x)) x (.ins T.C_Loom dx [])) H' → upd (upd H3 dx (.own x)) x (.ins T.C_Loom dx []) Tt = none → H' Tt = some (.tup us') → H' p = some (.ins T.C_Loom dx' (lf sg' Tt)) → V.non = V.non ∧ Q (.ref x) H' := by
      intro H3 D us hDl harc sm x dx hx hd hne
      have S : Same H3 (upd (upd H3 dx (.own x)) x (.ins T.C_Loom dx [])) := (Same.new _ hd).trans (Same.new _ (by rw [upd_ne hne]; exact hx))
      refine ⟨x, dx, D, sg, us, bka ws, rfl, upd_same, S _ _ hDl, harc.same S, bka_ok h1 h2 hw, hsg, fun H' Tt x3 hT hTus g => ⟨rfl, ?_⟩⟩
      have s3 : Same H3 H' := fun b o e => x3 _ _ (ne_of_none e hx) (S _ _ e)
      exact k H' x us (sm.trans s3) (sm.free hx) ⟨dx, Tt, g, hTus, (harc.same s3), bka_ok h1 h2 hw, hsg⟩
    rcases ha with ha | ha
    · refine .inl ⟨_, rfl, a, rfl, ⟨_, SqL.of (s12 _ _ ha)⟩, fun D hD => lc_list (K := K) (a := a) (xs := txts ws) (fun i H' => ∃ us, us.length = i ∧ H' D = some (.lst us) ∧ Arcs H' us ((bka ws).take i) ∧ Same H2 H') ⟨[], rfl, upd_same, Arcs.nil _, Same.new _ hD⟩ (fun i H' _ ⟨_, _, _, _, sm⟩ => SqL.of (sm _ _ (s12 _ _ ha))) ?_ ?_⟩
      · rintro i y H' hy P
        obtain ⟨u, hu, rfl⟩ := txt_at hy
        exact ⟨rfl, _, rfl, le_size (by simp), fun t ht => step (Q := Q) hD hu P t ht⟩
      · intro H3 P
        rw [wl] at P
        obtain ⟨us, hDl, harc, sm⟩ := fin hD P
        exact fun x dx hx hd hne => mk hDl harc sm x dx hx hd hne.symm
    · refine .inr ⟨_, rfl, a, rfl, ⟨_, SqT.of (s12 _ _ ha)⟩, fun D hD => lc_tup (K := K) (a := a) (xs := txts ws) (fun i H' => ∃ us, us.length = i ∧ H' D = some (.lst us) ∧ Arcs H' us ((bka ws).take i) ∧ Same H2 H') ⟨[], rfl, upd_same, Arcs.nil _, Same.new _ hD⟩ (fun i H' _ ⟨_, _, _, _, sm⟩ => SqT.of (sm _ _ (s12 _ _ ha))) ?_ ?_⟩
      · rintro i y H' hy P
        obtain ⟨u, hu, rfl⟩ := txt_at hy
        exact ⟨rfl, _, rfl, le_size (by simp), fun t ht => step (Q := Q) hD hu P t ht⟩
      · intro H3 P
        rw [wl] at P
        obtain ⟨us, hDl, harc, sm⟩ := fin hD P
        exact fun x dx hx hd hne => mk hDl harc sm x dx hx hd hne.symm
theorem ok_is_book (T : Tx K mg) : FnOk P w K mg base CX0 1 T.f_is_book T.fd_is_book P_is_book (spIsBook K T.C_Loom) := by
  refine T.F_is_book.ok sc_is_book (fun vs H Q E h => ?_) (fun cdv A outer s H vs Q E hr h => ?_)
  · obtain ⟨v, rfl, _⟩ := h
    rfl
  · obtain ⟨v, rfl, h⟩ := h
    refine ⟨_, (pss_one (ps_ret (pe_and (pe_callB (call_isiZ (K := K) rfl) rfl T.n_isinstance (by decide +kernel) (pa_cons (pv 0) (pa_cons (pe_glob (v := V.ref T.C_Loom) rfl T.g_Loom rfl) pa_nil))) (pe_one (pe_callB (cr_allK (K := K) rfl rfl) rfl T.n_all (by decide +kernel) (pa_cons (pe_lc (own := [("arc", 1)]) (g := (gName 1)) rfl sc_is_book.nd (pi_tup (pe_fld (pv 0) rfl)) (blkOk_by (N := N_is_book) (sc := defScope s_is_book) (by decide +kernel)) (fun _ _ _ _ _ => (pg_name (i := 1) sc_is_book.nd rfl (Or.inl rfl))) (fun _ _ _ _ _ => pts_nil) (fun _ _ _ _ _ => (pe_and (pe_cmpR op_eq (pe_ix (ix_tupK (K := K) rfl) (pv 1) pe_int (fun _ _ => rfl)) pe_int (nomark _)) (pe_one (pe_cmpR op_eq (pe_ix (ix_tupK (K := K) rfl) (pv 1) pe_int (fun _ _ => rfl)) pe_int (nomark _)))))) pa_nil)))))), ?_⟩
    rcases h with ⟨q, sg, us, as, rfl, ⟨dx, TT, hq, hT, harc, hok, hsg⟩, k⟩ | ⟨t, ht, hk, k⟩
    · refine ⟨_, rfl, _, _, _, _, true, rfl, .own _, .x (.base (.ins hq T.cl_Loom T.ic_Loom T.ig T.it T.im_Loom)), kit_self _, true, rfl, ?_⟩
      refine ⟨_, rfl, q, _, dx, _, _, rfl, hq, T.cl_Loom, T.na_Loom_arcs, lf_arcs _ _, TT, rfl, ⟨_, SqT.of hT⟩, fun D hD => lc_tup (K := K) (a := TT) (xs := us) (fun i H' => H' D = some (.lst (((as.take i).map fun a => a.1 == 0 && a.2.2 == 0).map V.bl)) ∧ Same H H') ⟨upd_same, Same.new _ hD⟩ (fun i H' _ ⟨_, sm⟩ => SqT.of (sm _ _ hT)) ?_ ?_⟩
      · rintro i y H1 hy ⟨hDl, sm⟩
        have hi : i < as.length := by rw [← harc.1]; exact (List.getElem?_eq_some_iff.mp hy).1
        obtain ⟨t, hut, htt⟩ := harc.2 i as[i] (List.getElem?_eq_getElem hi)
        rw [hut] at hy
        cases hy
        have hl := hok.2.1
        have tk : as.take (i + 1) = as.take i ++ [as[i]] := (take_snoc (List.getElem?_eq_getElem hi)).symm
        refine ⟨rfl, _, rfl, t, _, _, _, rfl, rfl, SqT.of (sm _ _ htt), rfl, rfl, _, rfl, ?_⟩
        refine ite2 (fun c => ?_) (fun c => ?_)
        · refine ⟨_, rfl, t, _, _, _, rfl, rfl, SqT.of (sm _ _ htt), rfl, rfl, _, hDl, lt_size (by simp; omega), ?_, sm.updNew hD⟩
          rw [upd_same, tk, List.map_append, List.map_append, nat_zero] 
          rw [nat_zero] at c
          simp [of_decide_eq_true c]
        · refine ⟨_, hDl, lt_size (by simp; omega), ?_, sm.updNew hD⟩
          rw [upd_same, tk, List.map_append, List.map_append]
          rw [nat_zero] at c
          simp [c]
      · rintro H1 ⟨hDl, sm⟩
        refine ⟨D, _, rfl, SqL.of hDl, ?_⟩
        have e : as.take us.length = as := by rw [harc.1, List.take_length]
        rw [e, List.all_map]
        exact k H1 sm
    · exact ⟨_, rfl, _, _, _, _, false, rfl, .own _, ht, hk, false, rfl, k⟩
theorem ok_check_book (T : Tx K mg) : FnOk P w K mg base CX0 2 T.f_check_book T.fd_check_book P_check_book (spChkBook T.C_Loom) := by
  have G_is_book : FnOk P w K mg base CX0 1 T.f_is_book T.fd_is_book P_is_book (spIsBook K T.C_Loom) := ok_is_book T
  refine T.F_check_book.ok sc_check_book (fun vs H Q E h => ?_) (fun cdv A outer s H vs Q E hr h => ?_)
  · obtain ⟨q, sg, us, as, rfl, _⟩ := h
    rfl
  · obtain ⟨q, sg, us, as, rfl, hL, hkd, k⟩ := h
    refine ⟨_, (pss_one (ps_if (pt_not (pt_val (pe_call G_is_book (hr.mono (by decide)) rfl T.m_is_book T.F_is_book.kp T.b_is_book .nil pass0 (pa_cons (pv 0) pa_nil)))) (pss_one ps_never) pss_nil)), ?_⟩
    refine ⟨_, rfl, _, rfl, .inl ⟨q, sg, us, as, rfl, hL, fun H1 sm => ⟨_, rfl, ?_⟩⟩⟩
    rw [hkd]
    exact k H1 sm
theorem ok_words (T : Tx K mg) : FnOk P w K mg base CX0 3 T.f_words T.fd_words P_words (spPWords T.C_Loom) := by
  have G_check_book : FnOk P w K mg base CX0 2 T.f_check_book T.fd_check_book P_check_book (spChkBook T.C_Loom) := ok_check_book T
  refine T.F_words.ok sc_words (fun vs H Q E h => ?_) (fun cdv A outer s H vs Q E hr h => ?_)
  · obtain ⟨q, sg, us, ws, rfl, _⟩ := h
    rfl
  · obtain ⟨q, sg, us, ws, rfl, hL, k⟩ := h
    refine ⟨_, (pss_cons (ps_expr (pe_call G_check_book (hr.mono (by decide)) rfl T.m_check_book T.F_check_book.kp T.b_check_book .nil pass0 (pa_cons (pv 0) pa_nil)))
        (pss_one (ps_ret (pe_lc (own := [("arc", 1)]) (g := (gName 1)) rfl sc_words.nd (pi_tup (pe_fld (pv 0) rfl)) (blkOk_by (N := N_words) (sc := defScope s_words) (by decide +kernel)) (fun _ _ _ _ _ => (pg_name (i := 1) sc_words.nd rfl (Or.inl rfl))) (fun _ _ _ _ _ => pts_nil) (fun _ _ _ _ _ => (pe_ix (ix_tupK (K := K) rfl) (pv 1) pe_int (fun _ _ => rfl))))))), ?_⟩
    refine ⟨_, rfl, q, sg, us, bka ws, rfl, hL, kd_book ws, fun H1 s1 => ?_⟩
    obtain ⟨dx, TT, hq, hT, harc, hok, hsg⟩ := hL.same s1
    refine ⟨_, rfl, q, _, dx, _, _, rfl, hq, T.cl_Loom, T.na_Loom_arcs, lf_arcs _ _, TT, rfl, ⟨_, SqT.of hT⟩, fun D hD => lc_tup (K := K) (a := TT) (xs := us) (fun i H' => H' D = some (.lst (txts (ws.take i))) ∧ Same H1 H') ⟨upd_same, Same.new _ hD⟩ (fun i H' _ ⟨_, sm⟩ => SqT.of (sm _ _ hT)) ?_ ?_⟩
    · rintro i y H2 hy ⟨hDl, sm⟩
      have hl := hok.2.1
      rw [bka_len] at hl
      have hi : i < ws.length := by rw [← bka_len, ← harc.1]; exact (List.getElem?_eq_some_iff.mp hy).1
      have ei : ws[i]? = some ws[i] := List.getElem?_eq_getElem hi
      obtain ⟨t, hut, htt⟩ := harc.2 i (0, ws[i], 0) (by rw [bka, List.getElem?_map, ei]; rfl)
      rw [hut] at hy
      cases hy
      refine ⟨rfl, _, rfl, t, _, _, _, rfl, rfl, SqT.of (sm _ _ htt), rfl, _, hDl, lt_size (by simp [txts]; omega), ?_, sm.updNew hD⟩
      rw [upd_same, ← take_snoc ei, txts, txts, List.map_append]
      rfl
    · rintro H2 ⟨hDl, sm⟩
      have e : ws.take us.length = ws := by rw [harc.1, bka_len, List.take_length]
      rw [e] at hDl
      exact k H2 D (s1.trans sm) (s1.free hD) hDl
end
end J


set_option Elab.async false
set_option linter.all false
set_option maxRecDepth 100000
set_option maxHeartbeats 4000000
namespace J
open PySem L2
/-! ### what two looms are, held against each other -/
theorem S_inj {u v : List Nat} (h : SX.S u = SX.S v) : u = v := by
  unfold SX.S at h
  injection h with h
  simpa using h
def arcD (a : Arc) : PyData := .tuple [.int (a.1 : Int), .str (SX.S a.2.1), .int (a.2.2 : Int)]
theorem dp_arc {K : PySem.W.Frag} {H : Hp} {t : Addr} {a : Arc} (h : H t = some (arcHO a)) : Dp K H (.ref t) (arcD a) := .tup (SqT.of h) (.cons (.int _) (.cons (.str _) (.cons (.int _) .nil)))
theorem dp_arcs {K : PySem.W.Frag} {H : Hp} : ∀ {us : List V} {as : List Arc}, Arcs H us as → DpAll K H us (as.map arcD)
  | [], [], _ => .nil
  | [], _ :: _, h => by have := h.1; simp at this
  | _ :: _, [], h => by have := h.1; simp at this
  | u :: us, a :: as, h => by
    obtain ⟨t, e, ht⟩ := h.2 0 a rfl
    cases e
    refine .cons (dp_arc ht) (dp_arcs ⟨by have := h.1; simpa using this, fun i b hb => ?_⟩)
    obtain ⟨t', e', ht'⟩ := h.2 (i + 1) b (by simpa using hb)
    exact ⟨t', by simpa using e', ht'⟩
theorem str_beq (u v : List Nat) : (SX.S u == SX.S v) = decide (u = v) := by
  by_cases h : u = v
  · subst h; simp
  · have n : SX.S u ≠ SX.S v := fun z => h (S_inj z)
    rw [decide_eq_false h]
    exact beq_false_of_ne n
theorem nat_beq (m n : Nat) : ((m : Int) == (n : Int)) = decide (m = n) := by
  by_cases h : m = n
  · subst h; simp
  · rw [decide_eq_false h]
    exact beq_false_of_ne (fun z => h (by exact_mod_cast z))
theorem eqv_arc (a b : Arc) : PyData.eqv (arcD a) (arcD b) = decide (a = b) := by
  show (((a.1 : Int) == (b.1 : Int)) && ((SX.S a.2.1 == SX.S b.2.1) && (((a.2.2 : Int) == (b.2.2 : Int)) && true))) = _
  rw [nat_beq, nat_beq, str_beq]
  obtain ⟨a1, a2, a3⟩ := a
  obtain ⟨b1, b2, b3⟩ := b
  rw [Bool.eq_iff_iff]
  simp
theorem eqv_arcs : ∀ as bs : List Arc, PyData.eqvAll (as.map arcD) (bs.map arcD) = decide (as = bs)
  | [], [] => rfl
  | [], b :: bs => by rw [decide_eq_false (by simp)]; rfl
  | a :: as, [] => by rw [decide_eq_false (by simp)]; rfl
  | a :: as, b :: bs => by
    show (PyData.eqv (arcD a) (arcD b) && PyData.eqvAll (as.map arcD) (bs.map arcD)) = _
    rw [eqv_arc, eqv_arcs as bs, Bool.eq_iff_iff]
    simp
def txtD (ws : List (List Nat)) : List PyData := ws.map fun u => .str (SX.S u)
theorem dp_txts {K : PySem.W.Frag} {H : Hp} : ∀ ws : List (List Nat), DpAll K H (txts ws) (txtD ws)
  | [] => .nil
  | _ :: r => .cons (.str _) (dp_txts r)
theorem eqv_txts : ∀ as bs : List (List Nat), PyData.eqvAll (txtD as) (txtD bs) = decide (as = bs)
  | [], [] => rfl
  | [], b :: bs => by rw [decide_eq_false (by simp)]; rfl
  | a :: as, [] => by rw [decide_eq_false (by simp)]; rfl
  | a :: as, b :: bs => by
    show ((SX.S a == SX.S b) && PyData.eqvAll (txtD as) (txtD bs)) = _
    rw [str_beq, eqv_txts as bs, Bool.eq_iff_iff]
    simp
theorem str_ok {u : List Nat} (h : ∀ c ∈ u, c < 1114112) : PyData.strOk (SX.S u) = true := by
  unfold PyData.strOk SX.S
  simp only [List.all_toArray, List.all_eq_true, decide_eq_true_eq]
  exact h
theorem word_small {sg u : List Nat} (hs : Signs sg) (h : Word sg u) : ∀ c ∈ u, c < 1114112 := fun c hc => by
  have := (hs.2.2.1 c (h.2.2 c hc)).2
  omega
theorem lay_arcs {sg : List Nat} (hs : Signs sg) : ∀ as : List Arc, (∀ a ∈ as, OkArc sg a) → PyData.canLayAll0 (as.map arcD) = true
  | [], _ => rfl
  | a :: r, h => by
    have e : PyData.strOk (SX.S a.2.1) = true := str_ok (word_small hs (h a (by simp)).2.1)
    have ea : PyData.canLay0 (arcD a) = true := by
      show (true && (PyData.strOk (SX.S a.2.1) && (true && true))) = true
      rw [e]; rfl
    show (PyData.canLay0 (arcD a) && PyData.canLayAll0 (r.map arcD)) = true
    rw [ea, lay_arcs hs r fun b hb => h b (by simp [hb])]
    rfl
theorem deep_arcs : ∀ as : List Arc, PyData.depthAll (as.map arcD) ≤ 1
  | [] => by simp [PyData.depthAll]
  | a :: r => by
    show max (PyData.depth (arcD a)) (PyData.depthAll (r.map arcD)) ≤ 1
    have e : PyData.depth (arcD a) = 1 := by simp [arcD, PyData.depth, PyData.depthAll]
    have := deep_arcs r
    omega
theorem shaped_arcsL {sg : List Nat} {as : List Arc} (hs : Signs sg) (h : ∀ a ∈ as, OkArc sg a) : SeqAt.shaped (.tuple (as.map arcD)) = true ∧ SeqAt.shaped (.list (as.map arcD)) = true := by
  have e1 := lay_arcs hs as h
  have e2 : PyData.depthAll (as.map arcD) + 1 ≤ 64 := by
    have := deep_arcs as
    omega
  constructor
  · have q1 : PyData.canLay0 (.tuple (as.map arcD)) = true := e1
    have q2 : PyData.depth (.tuple (as.map arcD)) ≤ 64 := e2
    unfold SeqAt.shaped
    rw [q1, decide_eq_true q2]
    rfl
  · have q1 : PyData.canLay0 (.list (as.map arcD)) = true := e1
    have q2 : PyData.depth (.list (as.map arcD)) ≤ 64 := e2
    unfold SeqAt.shaped
    rw [q1, decide_eq_true q2]
    rfl
theorem lay_txts : ∀ ws : List (List Nat), (∀ u ∈ ws, ∀ c ∈ u, c < 1114112) → PyData.canLayAll0 (txtD ws) = true
  | [], _ => rfl
  | u :: r, h => by
    show (PyData.strOk (SX.S u) && PyData.canLayAll0 (txtD r)) = true
    rw [str_ok (h u (by simp)), lay_txts r fun v hv => h v (by simp [hv])]
    rfl
theorem deep_txts : ∀ ws : List (List Nat), PyData.depthAll (txtD ws) = 0
  | [] => by simp [txtD, PyData.depthAll]
  | u :: r => by
    show max (PyData.depth (.str (SX.S u))) (PyData.depthAll (txtD r)) = 0
    rw [deep_txts r]
    simp [PyData.depth]
theorem shaped_txts {ws : List (List Nat)} (h : ∀ u ∈ ws, ∀ c ∈ u, c < 1114112) : SeqAt.shaped (.list (txtD ws)) = true := by
  have q1 : PyData.canLay0 (.list (txtD ws)) = true := lay_txts ws h
  have q2 : PyData.depth (.list (txtD ws)) ≤ 64 := by
    show PyData.depthAll (txtD ws) + 1 ≤ 64
    rw [deep_txts]
    decide
  unfold SeqAt.shaped
  rw [q1, decide_eq_true q2]
  rfl
/-- two looms, and whether they are the same -/
def Eql (C : Addr) (a b : Addr) (r : Bool) (H : Hp) : Prop := ∃ sg us as sg' us' as', LoomAt C H a sg us as ∧ LoomAt C H b sg' us' as' ∧ r = decide (sg = sg' ∧ as = as')
/-- values that are told apart by what they are -/
def Flat (v : V) : Prop := (∃ b, v = .bl b) ∨ (∃ i, v = .int i) ∨ (∃ z, v = .str z)
def spLike : Sp := fun vs H Q _ => ∃ x y, vs = [x, y] ∧ (Flat x ∧ y = x ∧ Q (.bl true) H ∨
  ∃ (a b : Addr) (xs : List V), x = .ref a ∧ y = .ref b ∧ H a = some (.lst xs) ∧ H b = some (.lst xs) ∧ (∀ v ∈ xs, Flat v) ∧ xs.length ≤ 1000 ∧ ∀ H', Same H H' → Q (.bl true) H')
def spFlat : Sp := fun vs H Q _ => ∃ x, vs = [x, x] ∧ Flat x ∧ Q (.bl true) H
theorem flat_txts (ws : List (List Nat)) : ∀ v ∈ txts ws, Flat v := fun v hv => by
  obtain ⟨u, _, rfl⟩ := List.mem_map.mp hv
  exact .inr (.inr ⟨_, rfl⟩)
theorem third {r : Int} (h0 : 0 ≤ r) (h1 : r < 4) : ∃ m : Nat, r.fdiv 3 = (m : Int) ∧ m ≤ 63 := by
  have h : r = 0 ∨ r = 1 ∨ r = 2 ∨ r = 3 := by omega
  rcases h with rfl | rfl | rfl | rfl
  · exact ⟨0, rfl, by decide⟩
  · exact ⟨0, rfl, by decide⟩
  · exact ⟨0, rfl, by decide⟩
  · exact ⟨1, rfl, by decide⟩
def spNo : Sp := fun _ _ _ _ => False
def spOdd (K : PySem.W.Frag) (ns : List Int) (C : Addr) : Sp := fun vs H Q _ => ∃ (a p : Addr), vs = [.ref a, .ref p] ∧ St K ns a H p ∧ ∀ H' x t, Ex p H H' → St K ns a H' p → TyZ K H' x t → PySem.W.kitOne K t (.ref C) = some false → Q x H'
def spArcs (K : PySem.W.Frag) (ns : List Int) : Sp := fun vs H Q _ => ∃ (a p : Addr) (sg : List Nat), vs = [.ref a, .ref p, .str (SX.S sg)] ∧ St K ns a H p ∧ Signs sg ∧
  ∀ H' (q : Addr) us as, Ex p H H' → St K ns a H' p → H q = none → q ≠ p → H' q = some (.lst us) → Arcs H' us as → OkW sg as → Q (.ref q) H'
theorem kit_own {K : PySem.W.Frag} {t : Value} {C : Addr} {b : Bool} (h1 : PySem.W.isClsIn K C = true) (h2 : PySem.W.typeIn K (.ref C) = some (.type "type")) (h3 : PySem.W.subIn K t (.ref C) = some b) (hb : t = .ref C → b = true) : PySem.W.kitOne K t (.ref C) = some b := by
  unfold PySem.W.kitOne
  by_cases e : (t == Value.ref C) = true
  · rw [if_pos e, hb (eq_of_beq e)]
  · rw [if_neg e]
    have q : ((PySem.W.clsIn K C).isSome && PySem.W.typeIn K (.ref C) == some (.type "type")) = true := by
      have h1' : (PySem.W.clsIn K C).isSome = true := h1
      rw [h1', h2] <;> rfl
    show (if ((PySem.W.clsIn K C).isSome && PySem.W.typeIn K (.ref C) == some (.type "type")) = true then PySem.W.subIn K t (.ref C) else none) = some b
    rw [if_pos q]
    exact h3
theorem Arcs.st {K : PySem.W.Frag} {ns : List Int} {a p : Addr} {H H' : Hp} {vs : List V} {as : List Arc} (h : Arcs H vs as) (st : St K ns a H p) (x : Ex p H H') : Arcs H' vs as := by
  obtain ⟨⟨b0, b1, b2, b3, hp, _⟩, _⟩ := st
  exact h.ex x hp
section
variable {P : Program} {w : World} {K : PySem.W.Frag} {mg : Str → Option Value} {base : Heap}
theorem ok_Loom_eq (T : Tx K mg) : FnOk P w K mg base CX0 1 T.f_Loom_eq T.fd_Loom_eq P_Loom_eq (spEqB (Eql T.C_Loom)) := by
  refine T.F_Loom_eq.ok sc_Loom_eq (fun vs H Q E h => ?_) (fun cdv A outer s H vs Q E hr h => ?_)
  · obtain ⟨a, b, r, rfl, _⟩ := h
    rfl
  · obtain ⟨a, b, r, rfl, ⟨sg, us, as, sg', us', as', ⟨dx, TT, hq, hT, harc, hok, hsg⟩, ⟨dx', TT', hq', hT', harc', hok', hsg'⟩, rfl⟩, k⟩ := h
    refine ⟨_, (pss_one (ps_ret (pe_and (pe_callB (call_isiZ (K := K) rfl) rfl T.n_isinstance (by decide +kernel) (pa_cons (pv 1) (pa_cons (pe_glob (v := V.ref T.C_Loom) rfl T.g_Loom rfl) pa_nil))) (pe_and (pe_cmpR op_eq (pe_fld (pv 0) rfl) (pe_fld (pv 1) rfl) (nomark _)) (pe_one (pe_cmpR (op_eqD hr.units) (pe_fld (pv 0) rfl) (pe_fld (pv 1) rfl) (nomark _))))))), ?_⟩
    refine ⟨_, rfl, _, _, _, _, true, rfl, .own _, .x (.base (.ins hq' T.cl_Loom T.ic_Loom T.ig T.it T.im_Loom)), kit_self _, true, rfl, ?_⟩
    refine ⟨_, rfl, a, _, dx, _, _, rfl, hq, T.cl_Loom, T.na_Loom_signs, lf_signs _ _, ?_⟩
    refine ⟨_, rfl, b, _, dx', _, _, rfl, hq', T.cl_Loom, T.na_Loom_signs, lf_signs _ _, ?_⟩
    refine ⟨rfl, _, rfl, ?_⟩
    refine ite2 (fun c => ?_) (fun c => ?_)
    · have e0 := of_decide_eq_true c
      injection e0 with e0
      have e1 : sg = sg' := S_inj e0
      subst e1
      refine ⟨_, rfl, a, _, dx, _, _, rfl, hq, T.cl_Loom, T.na_Loom_arcs, lf_arcs _ _, ?_⟩
      refine ⟨_, rfl, b, _, dx', _, _, rfl, hq', T.cl_Loom, T.na_Loom_arcs, lf_arcs _ _, ?_⟩
      refine ⟨_, _, .tup (SqT.of hT) (dp_arcs harc), .tup (SqT.of hT') (dp_arcs harc'), (shaped_arcsL hsg hok.2.2).1, (shaped_arcsL hsg hok'.2.2).1, ?_⟩
      have e2 : PyData.eqv (.tuple (as.map arcD)) (.tuple (as'.map arcD)) = decide (sg = sg ∧ as = as') := by
        show PyData.eqvAll (as.map arcD) (as'.map arcD) = _
        rw [eqv_arcs]
        simp
      rw [e2]
      exact k H Ext.rfl'
    · have n : ¬ (sg = sg' ∧ as = as') := fun z => c (decide_eq_true (by rw [z.1]))
      rw [decide_eq_false n] at k
      exact k H Ext.rfl'
theorem ok_l_likeN (T : Tx K mg) : FnOk P w K mg base CX0 1 T.f_l_like T.fd_l_like P_l_like spNo :=
  T.F_l_like.ok sc_l_like (fun vs H Q E h => h.elim) (fun cdv A outer s H vs Q E hr h => h.elim)
theorem ok_l_likeF (T : Tx K mg) : FnOk P w K mg base CX0 2 T.f_l_like T.fd_l_like P_l_like spFlat := by
  have G_l_like : FnOk P w K mg base CX0 1 T.f_l_like T.fd_l_like P_l_like spNo := ok_l_likeN T
  refine T.F_l_like.ok sc_l_like (fun vs H Q E h => ?_) (fun cdv A outer s H vs Q E hr h => ?_)
  · obtain ⟨x, rfl, _⟩ := h
    rfl
  · obtain ⟨x, rfl, h, k⟩ := h
    refine ⟨_, (pss_cons (ps_if (pt_cmpR op_isN (pv 1) pe_non (nomark _)) (pss_one (ps_ret (pe_cmpR op_isN (pv 0) pe_non (nomark _)))) pss_nil)
        (pss_cons (ps_if (pt_val (pe_callB (call_isiK' (K := K) rfl) rfl T.n_isinstance (by decide +kernel) (pa_cons (pv 1) (pa_cons (pe_bltn (v := V.ty "bool") (u := .type "bool") rfl T.n_bool (by decide +kernel) rfl) pa_nil)))) (pss_one (ps_ret (pe_and (pe_callB (call_isiK' (K := K) rfl) rfl T.n_isinstance (by decide +kernel) (pa_cons (pv 0) (pa_cons (pe_bltn (v := V.ty "bool") (u := .type "bool") rfl T.n_bool (by decide +kernel) rfl) pa_nil))) (pe_one (pe_cmpR op_eq (pv 0) (pv 1) (nomark _)))))) pss_nil)
        (pss_cons (ps_if (pt_val (pe_callB (call_isiK' (K := K) rfl) rfl T.n_isinstance (by decide +kernel) (pa_cons (pv 1) (pa_cons (pe_bltn (v := V.ty "int") (u := .type "int") rfl T.n_int (by decide +kernel) rfl) pa_nil)))) (pss_one (ps_ret (pe_and (pe_callB (call_isiK' (K := K) rfl) rfl T.n_isinstance (by decide +kernel) (pa_cons (pv 0) (pa_cons (pe_bltn (v := V.ty "int") (u := .type "int") rfl T.n_int (by decide +kernel) rfl) pa_nil))) (pe_and (pe_not (pe_callB (call_isiK' (K := K) rfl) rfl T.n_isinstance (by decide +kernel) (pa_cons (pv 0) (pa_cons (pe_bltn (v := V.ty "bool") (u := .type "bool") rfl T.n_bool (by decide +kernel) rfl) pa_nil)))) (pe_one (pe_cmpR op_eq (pv 0) (pv 1) (nomark _))))))) pss_nil)
        (pss_cons (ps_if (pt_val (pe_callB (call_isiK' (K := K) rfl) rfl T.n_isinstance (by decide +kernel) (pa_cons (pv 1) (pa_cons (pe_bltn (v := V.ty "str") (u := .type "str") rfl T.n_str (by decide +kernel) rfl) pa_nil)))) (pss_one (ps_ret (pe_and (pe_callB (call_isiK' (K := K) rfl) rfl T.n_isinstance (by decide +kernel) (pa_cons (pv 0) (pa_cons (pe_bltn (v := V.ty "str") (u := .type "str") rfl T.n_str (by decide +kernel) rfl) pa_nil))) (pe_one (pe_cmpR op_eq (pv 0) (pv 1) (nomark _)))))) pss_nil)
        (pss_cons (ps_if (pt_val (pe_callB (call_isiK' (K := K) rfl) rfl T.n_isinstance (by decide +kernel) (pa_cons (pv 1) (pa_cons (pe_bltn (v := V.ty "dict") (u := .type "dict") rfl T.n_dict (by decide +kernel) rfl) pa_nil)))) (pss_cons (ps_if (PW.pt (pw_or (pt_not (pt_val (pe_callB (call_isiK' (K := K) rfl) rfl T.n_isinstance (by decide +kernel) (pa_cons (pv 0) (pa_cons (pe_bltn (v := V.ty "dict") (u := .type "dict") rfl T.n_dict (by decide +kernel) rfl) pa_nil))))) (pw_or1 (pt_cmpR op_ne (pe_callB (call_len_seqK (K := K) rfl) rfl T.n_len (by decide +kernel) (pa_cons (pv 0) pa_nil)) (pe_callB (call_len_seqK (K := K) rfl) rfl T.n_len (by decide +kernel) (pa_cons (pv 1) pa_nil)) (nomark _))))) (pss_one (ps_ret pe_bl)) pss_nil)
        (pss_one ps_never)) pss_nil)
        (pss_cons (ps_if (PW.pt (pw_and (pt_val (pe_callB (call_isiK' (K := K) rfl) rfl T.n_isinstance (by decide +kernel) (pa_cons (pv 1) (pa_cons (pe_bltn (v := V.ty "tuple") (u := .type "tuple") rfl T.n_tuple (by decide +kernel) rfl) pa_nil)))) (pw_and1 (pt_not (pt_val (pe_callB (call_isiK' (K := K) rfl) rfl T.n_isinstance (by decide +kernel) (pa_cons (pv 0) (pa_cons (pe_bltn (v := V.ty "tuple") (u := .type "tuple") rfl T.n_tuple (by decide +kernel) rfl) pa_nil)))))))) (pss_one (ps_ret pe_bl)) pss_nil)
        (pss_cons (ps_if (PW.pt (pw_or (PW.pt (pw_and (pt_val (pe_callB (call_isiK' (K := K) rfl) rfl T.n_isinstance (by decide +kernel) (pa_cons (pv 1) (pa_cons (pe_bltn (v := V.ty "list") (u := .type "list") rfl T.n_list (by decide +kernel) rfl) pa_nil)))) (pw_and1 (pt_not (pt_val (pe_callB (call_isiK' (K := K) rfl) rfl T.n_isinstance (by decide +kernel) (pa_cons (pv 0) (pa_cons (pe_bltn (v := V.ty "list") (u := .type "list") rfl T.n_list (by decide +kernel) rfl) pa_nil)))))))) (pw_or1 (pt_cmpR op_ne (pe_callB (call_len_seqK (K := K) rfl) rfl T.n_len (by decide +kernel) (pa_cons (pv 0) pa_nil)) (pe_callB (call_len_seqK (K := K) rfl) rfl T.n_len (by decide +kernel) (pa_cons (pv 1) pa_nil)) (nomark _))))) (pss_one (ps_ret pe_bl)) pss_nil)
        (pss_one (ps_ret (pe_callB (cr_allK (K := K) rfl rfl) rfl T.n_all (by decide +kernel) (pa_cons (pe_lc (own := [("_law_k", 2)]) (g := (gName 2)) rfl sc_l_like.nd (pi_range1 rfl T.n_range (pa_cons (pe_callB (call_len_seqK (K := K) rfl) rfl T.n_len (by decide +kernel) (pa_cons (pv 1) pa_nil)) pa_nil)) (blkOk_by (N := N_l_like) (sc := defScope s_l_like) (by decide +kernel)) (fun _ _ _ _ _ => (pg_name (i := 2) sc_l_like.nd rfl (Or.inl rfl))) (fun _ _ _ _ _ => pts_nil) (fun _ _ _ _ _ => (pe_call G_l_like (hr.mono (by decide)) rfl T.m_l_like T.F_l_like.kp T.b_l_like .nil pass0 (pa_cons (pe_ix (ix_listK (K := K) rfl) (pv 0) (pv 2) (fun _ _ => rfl)) (pa_cons (pe_ix (ix_listK (K := K) rfl) (pv 1) (pv 2) (fun _ _ => rfl)) pa_nil))))) pa_nil))))))))))), ?_⟩
    rcases h with ⟨b, rfl⟩ | ⟨i, rfl⟩ | ⟨z, rfl⟩
    · refine ⟨_, rfl, rfl, _, rfl, iteF ?_⟩
      refine ⟨_, rfl, _, _, _, _, true, rfl, .ty "bool", .base (.bl b), kit_ty (by decide +kernel), true, rfl, iteT ?_⟩
      refine ⟨_, rfl, _, _, _, _, true, rfl, .ty "bool", .base (.bl b), kit_ty (by decide +kernel), true, rfl, ?_⟩
      refine ⟨_, rfl, _, rfl, rfl, ?_⟩
      rw [decide_eq_true rfl]
      exact k
    · refine ⟨_, rfl, rfl, _, rfl, iteF ?_⟩
      refine ⟨_, rfl, _, _, _, _, false, rfl, .ty "bool", .base (.int i), kit_ty (by decide +kernel), false, rfl, iteF ?_⟩
      refine ⟨_, rfl, _, _, _, _, true, rfl, .ty "int", .base (.int i), kit_ty (by decide +kernel), true, rfl, iteT ?_⟩
      refine ⟨_, rfl, _, _, _, _, true, rfl, .ty "int", .base (.int i), kit_ty (by decide +kernel), true, rfl, ?_⟩
      refine ⟨_, rfl, _, _, _, _, false, rfl, .ty "bool", .base (.int i), kit_ty (by decide +kernel), false, rfl, true, rfl, ?_⟩
      refine ⟨_, rfl, _, rfl, rfl, ?_⟩
      rw [decide_eq_true rfl]
      exact k
    · refine ⟨_, rfl, rfl, _, rfl, iteF ?_⟩
      refine ⟨_, rfl, _, _, _, _, false, rfl, .ty "bool", .base (.str z), kit_ty (by decide +kernel), false, rfl, iteF ?_⟩
      refine ⟨_, rfl, _, _, _, _, false, rfl, .ty "int", .base (.str z), kit_ty (by decide +kernel), false, rfl, iteF ?_⟩
      refine ⟨_, rfl, _, _, _, _, true, rfl, .ty "str", .base (.str z), kit_ty (by decide +kernel), true, rfl, iteT ?_⟩
      refine ⟨_, rfl, _, _, _, _, true, rfl, .ty "str", .base (.str z), kit_ty (by decide +kernel), true, rfl, ?_⟩
      refine ⟨_, rfl, _, rfl, rfl, ?_⟩
      rw [decide_eq_true rfl]
      exact k
theorem ok_l_like (T : Tx K mg) : FnOk P w K mg base CX0 3 T.f_l_like T.fd_l_like P_l_like spLike := by
  have G_l_like : FnOk P w K mg base CX0 2 T.f_l_like T.fd_l_like P_l_like spFlat := ok_l_likeF T
  refine T.F_l_like.ok sc_l_like (fun vs H Q E h => ?_) (fun cdv A outer s H vs Q E hr h => ?_)
  · obtain ⟨x, y, rfl, _⟩ := h
    rfl
  · obtain ⟨x, y, rfl, h⟩ := h
    refine ⟨_, (pss_cons (ps_if (pt_cmpR op_isN (pv 1) pe_non (nomark _)) (pss_one (ps_ret (pe_cmpR op_isN (pv 0) pe_non (nomark _)))) pss_nil)
        (pss_cons (ps_if (pt_val (pe_callB (call_isiK' (K := K) rfl) rfl T.n_isinstance (by decide +kernel) (pa_cons (pv 1) (pa_cons (pe_bltn (v := V.ty "bool") (u := .type "bool") rfl T.n_bool (by decide +kernel) rfl) pa_nil)))) (pss_one (ps_ret (pe_and (pe_callB (call_isiK' (K := K) rfl) rfl T.n_isinstance (by decide +kernel) (pa_cons (pv 0) (pa_cons (pe_bltn (v := V.ty "bool") (u := .type "bool") rfl T.n_bool (by decide +kernel) rfl) pa_nil))) (pe_one (pe_cmpR op_eq (pv 0) (pv 1) (nomark _)))))) pss_nil)
        (pss_cons (ps_if (pt_val (pe_callB (call_isiK' (K := K) rfl) rfl T.n_isinstance (by decide +kernel) (pa_cons (pv 1) (pa_cons (pe_bltn (v := V.ty "int") (u := .type "int") rfl T.n_int (by decide +kernel) rfl) pa_nil)))) (pss_one (ps_ret (pe_and (pe_callB (call_isiK' (K := K) rfl) rfl T.n_isinstance (by decide +kernel) (pa_cons (pv 0) (pa_cons (pe_bltn (v := V.ty "int") (u := .type "int") rfl T.n_int (by decide +kernel) rfl) pa_nil))) (pe_and (pe_not (pe_callB (call_isiK' (K := K) rfl) rfl T.n_isinstance (by decide +kernel) (pa_cons (pv 0) (pa_cons (pe_bltn (v := V.ty "bool") (u := .type "bool") rfl T.n_bool (by decide +kernel) rfl) pa_nil)))) (pe_one (pe_cmpR op_eq (pv 0) (pv 1) (nomark _))))))) pss_nil)
        (pss_cons (ps_if (pt_val (pe_callB (call_isiK' (K := K) rfl) rfl T.n_isinstance (by decide +kernel) (pa_cons (pv 1) (pa_cons (pe_bltn (v := V.ty "str") (u := .type "str") rfl T.n_str (by decide +kernel) rfl) pa_nil)))) (pss_one (ps_ret (pe_and (pe_callB (call_isiK' (K := K) rfl) rfl T.n_isinstance (by decide +kernel) (pa_cons (pv 0) (pa_cons (pe_bltn (v := V.ty "str") (u := .type "str") rfl T.n_str (by decide +kernel) rfl) pa_nil))) (pe_one (pe_cmpR op_eq (pv 0) (pv 1) (nomark _)))))) pss_nil)
        (pss_cons (ps_if (pt_val (pe_callB (call_isiK' (K := K) rfl) rfl T.n_isinstance (by decide +kernel) (pa_cons (pv 1) (pa_cons (pe_bltn (v := V.ty "dict") (u := .type "dict") rfl T.n_dict (by decide +kernel) rfl) pa_nil)))) (pss_cons (ps_if (PW.pt (pw_or (pt_not (pt_val (pe_callB (call_isiK' (K := K) rfl) rfl T.n_isinstance (by decide +kernel) (pa_cons (pv 0) (pa_cons (pe_bltn (v := V.ty "dict") (u := .type "dict") rfl T.n_dict (by decide +kernel) rfl) pa_nil))))) (pw_or1 (pt_cmpR op_ne (pe_callB (call_len_seqK (K := K) rfl) rfl T.n_len (by decide +kernel) (pa_cons (pv 0) pa_nil)) (pe_callB (call_len_seqK (K := K) rfl) rfl T.n_len (by decide +kernel) (pa_cons (pv 1) pa_nil)) (nomark _))))) (pss_one (ps_ret pe_bl)) pss_nil)
        (pss_one ps_never)) pss_nil)
        (pss_cons (ps_if (PW.pt (pw_and (pt_val (pe_callB (call_isiK' (K := K) rfl) rfl T.n_isinstance (by decide +kernel) (pa_cons (pv 1) (pa_cons (pe_bltn (v := V.ty "tuple") (u := .type "tuple") rfl T.n_tuple (by decide +kernel) rfl) pa_nil)))) (pw_and1 (pt_not (pt_val (pe_callB (call_isiK' (K := K) rfl) rfl T.n_isinstance (by decide +kernel) (pa_cons (pv 0) (pa_cons (pe_bltn (v := V.ty "tuple") (u := .type "tuple") rfl T.n_tuple (by decide +kernel) rfl) pa_nil)))))))) (pss_one (ps_ret pe_bl)) pss_nil)
        (pss_cons (ps_if (PW.pt (pw_or (PW.pt (pw_and (pt_val (pe_callB (call_isiK' (K := K) rfl) rfl T.n_isinstance (by decide +kernel) (pa_cons (pv 1) (pa_cons (pe_bltn (v := V.ty "list") (u := .type "list") rfl T.n_list (by decide +kernel) rfl) pa_nil)))) (pw_and1 (pt_not (pt_val (pe_callB (call_isiK' (K := K) rfl) rfl T.n_isinstance (by decide +kernel) (pa_cons (pv 0) (pa_cons (pe_bltn (v := V.ty "list") (u := .type "list") rfl T.n_list (by decide +kernel) rfl) pa_nil)))))))) (pw_or1 (pt_cmpR op_ne (pe_callB (call_len_seqK (K := K) rfl) rfl T.n_len (by decide +kernel) (pa_cons (pv 0) pa_nil)) (pe_callB (call_len_seqK (K := K) rfl) rfl T.n_len (by decide +kernel) (pa_cons (pv 1) pa_nil)) (nomark _))))) (pss_one (ps_ret pe_bl)) pss_nil)
        (pss_one (ps_ret (pe_callB (cr_allK (K := K) rfl rfl) rfl T.n_all (by decide +kernel) (pa_cons (pe_lc (own := [("_law_k", 2)]) (g := (gName 2)) rfl sc_l_like.nd (pi_range1 rfl T.n_range (pa_cons (pe_callB (call_len_seqK (K := K) rfl) rfl T.n_len (by decide +kernel) (pa_cons (pv 1) pa_nil)) pa_nil)) (blkOk_by (N := N_l_like) (sc := defScope s_l_like) (by decide +kernel)) (fun _ _ _ _ _ => (pg_name (i := 2) sc_l_like.nd rfl (Or.inl rfl))) (fun _ _ _ _ _ => pts_nil) (fun _ _ _ _ _ => (pe_call G_l_like (hr.mono (by decide)) rfl T.m_l_like T.F_l_like.kp T.b_l_like .nil pass0 (pa_cons (pe_ix (ix_listK (K := K) rfl) (pv 0) (pv 2) (fun _ _ => rfl)) (pa_cons (pe_ix (ix_listK (K := K) rfl) (pv 1) (pv 2) (fun _ _ => rfl)) pa_nil))))) pa_nil))))))))))), ?_⟩
    rcases h with ⟨⟨b, rfl⟩ | ⟨i, rfl⟩ | ⟨z, rfl⟩, rfl, k⟩ | ⟨a, b, xs, rfl, rfl, ha, hb, hf, hl, k⟩
    · refine ⟨_, rfl, rfl, _, rfl, iteF ?_⟩
      refine ⟨_, rfl, _, _, _, _, true, rfl, .ty "bool", .base (.bl b), kit_ty (by decide +kernel), true, rfl, iteT ?_⟩
      refine ⟨_, rfl, _, _, _, _, true, rfl, .ty "bool", .base (.bl b), kit_ty (by decide +kernel), true, rfl, ?_⟩
      refine ⟨_, rfl, _, rfl, rfl, ?_⟩
      rw [decide_eq_true rfl]
      exact k
    · refine ⟨_, rfl, rfl, _, rfl, iteF ?_⟩
      refine ⟨_, rfl, _, _, _, _, false, rfl, .ty "bool", .base (.int i), kit_ty (by decide +kernel), false, rfl, iteF ?_⟩
      refine ⟨_, rfl, _, _, _, _, true, rfl, .ty "int", .base (.int i), kit_ty (by decide +kernel), true, rfl, iteT ?_⟩
      refine ⟨_, rfl, _, _, _, _, true, rfl, .ty "int", .base (.int i), kit_ty (by decide +kernel), true, rfl, ?_⟩
      refine ⟨_, rfl, _, _, _, _, false, rfl, .ty "bool", .base (.int i), kit_ty (by decide +kernel), false, rfl, true, rfl, ?_⟩
      refine ⟨_, rfl, _, rfl, rfl, ?_⟩
      rw [decide_eq_true rfl]
      exact k
    · refine ⟨_, rfl, rfl, _, rfl, iteF ?_⟩
      refine ⟨_, rfl, _, _, _, _, false, rfl, .ty "bool", .base (.str z), kit_ty (by decide +kernel), false, rfl, iteF ?_⟩
      refine ⟨_, rfl, _, _, _, _, false, rfl, .ty "int", .base (.str z), kit_ty (by decide +kernel), false, rfl, iteF ?_⟩
      refine ⟨_, rfl, _, _, _, _, true, rfl, .ty "str", .base (.str z), kit_ty (by decide +kernel), true, rfl, iteT ?_⟩
      refine ⟨_, rfl, _, _, _, _, true, rfl, .ty "str", .base (.str z), kit_ty (by decide +kernel), true, rfl, ?_⟩
      refine ⟨_, rfl, _, rfl, rfl, ?_⟩
      rw [decide_eq_true rfl]
      exact k
    · refine ⟨_, rfl, rfl, _, rfl, iteF ?_⟩
      refine ⟨_, rfl, _, _, _, _, false, rfl, .ty "bool", .base (.lst hb), kit_ty (by decide +kernel), false, rfl, iteF ?_⟩
      refine ⟨_, rfl, _, _, _, _, false, rfl, .ty "int", .base (.lst hb), kit_ty (by decide +kernel), false, rfl, iteF ?_⟩
      refine ⟨_, rfl, _, _, _, _, false, rfl, .ty "str", .base (.lst hb), kit_ty (by decide +kernel), false, rfl, iteF ?_⟩
      refine ⟨_, rfl, _, _, _, _, false, rfl, .ty "dict", .base (.lst hb), kit_ty (by decide +kernel), false, rfl, iteF ?_⟩
      refine ⟨_, rfl, _, _, _, _, false, rfl, .ty "tuple", .base (.lst hb), kit_ty (by decide +kernel), false, rfl, iteF (iteF ?_)⟩
      refine ⟨_, rfl, _, _, _, _, true, rfl, .ty "list", .base (.lst hb), kit_ty (by decide +kernel), true, rfl, iteT ?_⟩
      refine ⟨_, rfl, _, _, _, _, true, rfl, .ty "list", .base (.lst ha), kit_ty (by decide +kernel), true, rfl, iteF ?_⟩
      refine ⟨_, rfl, a, _, rfl, .inl (SqL.of ha), _, rfl, b, _, rfl, .inl (SqL.of hb), rfl, false, congrArg V.bl (by simp), iteF ?_⟩
      refine ⟨_, rfl, b, _, rfl, .inl (SqL.of hb), _, rfl, by omega, by omega, fun D hD => lc_range (lo := 0) (n := xs.length) (fun i H' => H' D = some (.lst ((List.replicate i true).map V.bl)) ∧ Same H H') ⟨upd_same, Same.new _ hD⟩ ?_ ?_⟩
      · rintro i H1 hi ⟨hDl, sm⟩
        have ei : xs[i]? = some xs[i] := List.getElem?_eq_getElem hi
        have e0 : (0 : Int) + (i : Int) = (i : Int) := by omega
        refine ⟨rfl, _, rfl, _, rfl, a, _, _, _, rfl, rfl, SqL.of (sm _ _ ha), by rw [e0]; exact atI_nat ei, _, rfl, _, rfl, b, _, _, _, rfl, rfl, SqL.of (sm _ _ hb), by rw [e0]; exact atI_nat ei, _, rfl, hf _ (List.getElem_mem hi), _, hDl, lt_size (by simp; omega), ?_, sm.updNew hD⟩
        rw [upd_same, rep_snoc]
      · rintro H1 ⟨hDl, sm⟩
        refine ⟨D, _, rfl, SqL.of hDl, ?_⟩
        rw [all_true]
        exact k H1 sm
end
end J


set_option Elab.async false
set_option linter.all false
set_option maxRecDepth 100000
set_option maxHeartbeats 4000000
namespace J
open PySem L2
theorem erase_perm {α : Type} : ∀ {l : List α} {j : Nat} {x : α}, l[j]? = some x → (x :: l.eraseIdx j).Perm l
  | [], _, _, h => by simp at h
  | y :: l, 0, x, h => by
    cases h
    exact .refl _
  | y :: l, j + 1, x, h => by
    have q := erase_perm (l := l) (j := j) (x := x) (by simpa using h)
    exact (List.Perm.swap y x _).trans (q.cons y)
theorem txts_erase : ∀ (ws : List (List Nat)) (j : Nat), (txts ws).eraseIdx j = txts (ws.eraseIdx j)
  | [], _ => rfl
  | _ :: _, 0 => rfl
  | u :: r, j + 1 => congrArg (V.str (SX.S u) :: ·) (txts_erase r j)
theorem seq_at {r : Int} {n : Nat} (h0 : 0 ≤ r) (h1 : r < n) : seqIndex? r n = some r.toNat := by
  have e : (if r < 0 then r + (n : Int) else r) = r := if_neg (by omega)
  unfold seqIndex?
  simp only [e]
  rw [decide_eq_true h0, decide_eq_true h1]
  rfl
theorem txts_cat (us vs : List (List Nat)) : txts us ++ txts vs = txts (us ++ vs) := by simp [txts]
def spShuf (K : PySem.W.Frag) (ns : List Int) : Sp := fun vs H Q _ => ∃ (a p q : Addr) (ws : List (List Nat)), vs = [.ref a, .ref p, .ref q] ∧ St K ns a H p ∧ q ≠ p ∧ H q = some (.lst (txts ws)) ∧ ws.length ≤ 1000 ∧
  ∀ H' (r : Addr) us, Ex p H H' → St K ns a H' p → H r = none → r ≠ p → H' r = some (.lst (txts us)) → us.Perm ws → Q (.ref r) H'
section
variable {P : Program} {w : World} {K : PySem.W.Frag} {mg : Str → Option Value} {base : Heap}
theorem ok_l_shuffled (T : Tx K mg) (ns : List Int) : FnOk P w K mg base CX0 2 T.f_l_shuffled T.fd_l_shuffled P_l_shuffled (spShuf K ns) := by
  have G_l_take : FnOk P w K mg base CX0 1 T.f_l_take T.fd_l_take P_l_take (spTake K ns) := ok_l_take T ns
  refine T.F_l_shuffled.ok sc_l_shuffled (fun vs H Q E h => ?_) (fun cdv A outer s H vs Q E hr h => ?_)
  · obtain ⟨a, p, q, ws, rfl, _⟩ := h
    rfl
  · obtain ⟨a, p, q, ws, rfl, hst, nq, hq, hl, k⟩ := h
    refine ⟨_, (pss_cons (ps_set (i := 3) sc_l_shuffled.nd rfl (Or.inl rfl) (pe_callTy (call_list_ofK (K := K) rfl) rfl T.n_list (by decide +kernel) (pa_cons (pv 2) pa_nil)))
        (pss_cons (ps_set (i := 4) sc_l_shuffled.nd rfl (Or.inl rfl) (pe_lst pa_nil))
        (pss_cons (ps_for PassesOwn.never rfl (pi_range1 rfl T.n_range (pa_cons (pe_callB (call_len_seqK (K := K) rfl) rfl T.n_len (by decide +kernel) (pa_cons (pv 2) pa_nil)) pa_nil)) (pg_name (i := 5) sc_l_shuffled.nd rfl (Or.inl rfl)) (pss_one (ps_expr (pe_bm PySem.F.plainAttrs_list PySem.F.slot_list_append PySem.F.type_list_append mt_append (pv 4) (pa_cons (pe_bm PySem.F.plainAttrs_list PySem.F.slot_list_pop PySem.F.type_list_pop mt_popAt (pv 3) (pa_cons (pe_call G_l_take (hr.mono (by decide)) rfl T.m_l_take T.F_l_take.kp T.b_l_take .nil pass0 (pa_cons (pv 0) (pa_cons (pv 1) (pa_cons (pe_callB (call_len_seqK (K := K) rfl) rfl T.n_len (by decide +kernel) (pa_cons (pv 3) pa_nil)) pa_nil)))) pa_nil)) pa_nil)))))
        (pss_one (ps_ret (pv 4)))))), ?_⟩
    refine ⟨_, rfl, q, _, rfl, .inl (SqL.of hq), fun R hR => ?_⟩
    have sR : Same H (upd H R (.lst (txts ws))) := Same.new _ hR
    have gR : upd H R (.lst (txts ws)) R = some (.lst (txts ws)) := upd_same
    have nR := hst.ne hR
    have nRq : R ≠ q := hp_ne hq hR
    have st1 := hst.same sR
    generalize upd H R (.lst (txts ws)) = H1 at *
    refine ⟨Nat.zero_le _, fun F hF => ?_⟩
    have sF : Same H1 (upd H1 F (.lst [])) := Same.new _ hF
    have gF : upd H1 F (.lst []) F = some (.lst []) := upd_same
    have nF := st1.ne hF
    have nFR : F ≠ R := hp_ne gR hF
    have hF0 : H F = none := sR.free hF
    have s2 := sR.trans sF
    have st2 := st1.same sF
    replace gR := sF _ _ gR
    generalize upd H1 F (.lst []) = H2 at *
    have wl : (txts ws).length = ws.length := by rw [txts, List.length_map]
    refine ⟨_, rfl, q, _, rfl, .inl (SqL.of (s2 _ _ hq)), _, rfl, by omega, by omega, for_range (lo := 0) (n := (txts ws).length) (fun i σ H' => ∃ (us rs : List (List Nat)) (v : Option V), σ = [some (.ref a), some (.ref p), some (.ref q), some (.ref R), some (.ref F), v] ∧ us.length = i ∧ (us ++ rs).Perm ws ∧ H' F = some (.lst (txts us)) ∧ H' R = some (.lst (txts rs)) ∧ Ex p H H' ∧ St K ns a H' p) ?_ ?_ ?_⟩
    · exact ⟨[], ws, none, rfl, rfl, .refl _, gF, gR, Same.ex s2, st2⟩
    · rintro i σ H3 hi ⟨us, rs, v, rfl, rfl, hp, hF3, hR3, X3, st3⟩
      have hln := hp.length_eq
      rw [List.length_append] at hln
      have rl : (txts rs).length = rs.length := by rw [txts, List.length_map]
      refine ⟨_, rfl, .inl ⟨rfl, _, SqL.of hF3⟩, _, rfl, .inl ⟨rfl, _, SqL.of hR3⟩, _, rfl, _, rfl, _, rfl, R, _, rfl, .inl (SqL.of hR3), a, p, _, rfl, st3, by omega, by omega, fun H4 r x4 st4 r0 r1 => ?_⟩
      rw [rl] at r1
      have hF4 := x4 _ _ nF hF3
      have hR4 := x4 _ _ nR hR3
      obtain ⟨j, rfl⟩ := Int.eq_ofNat_of_zero_le r0
      have hj : j < rs.length := by exact_mod_cast r1
      have ej : rs[j]? = some rs[j] := List.getElem?_eq_getElem hj
      refine ⟨R, txts rs, _, j, _, rfl, rfl, hR4, by omega, by omega, by rw [rl]; exact seq_at (by omega) (by omega), by rw [txts, List.getElem?_map, ej]; rfl, ?_⟩
      rw [txts_erase]
      have X5 : Ex p H (upd H4 R (.lst (txts (rs.eraseIdx j)))) := (X3.trans x4).updNew hR
      have st5 := hst.upd st4 X5 nR
      have hF5 : upd H4 R (.lst (txts (rs.eraseIdx j))) F = some (.lst (txts us)) := by rw [upd_ne nFR]; exact hF4
      have hR5 : upd H4 R (.lst (txts (rs.eraseIdx j))) R = some (.lst (txts (rs.eraseIdx j))) := upd_same
      generalize upd H4 R (.lst (txts (rs.eraseIdx j))) = H5 at *
      refine ⟨F, _, _, rfl, rfl, hF5, lt_size (by rw [txts, List.length_map]; omega), ?_⟩
      refine ⟨us ++ [rs[j]], rs.eraseIdx j, _, rfl, by simp, ?_, by rw [upd_same, ← txts_cat]; rfl, by rw [upd_ne nFR.symm]; exact hR5, X5.updNew hF0, hst.upd st5 (X5.updNew hF0) nF⟩
      rw [List.append_assoc]
      exact ((erase_perm ej).append_left us).trans hp
    · rintro σ H3 ⟨us, rs, v, rfl, hu, hp, hF3, hR3, X3, st3⟩
      have hln := hp.length_eq
      rw [List.length_append] at hln
      have e : rs = [] := List.eq_nil_of_length_eq_zero (by omega)
      subst e
      rw [List.append_nil] at hp
      exact ⟨_, rfl, k H3 F us X3 st3 hF0 nF hF3 hp⟩
end
end J


set_option Elab.async false
set_option linter.all false
set_option maxRecDepth 100000
set_option maxHeartbeats 4000000
namespace J
open PySem L2
theorem txts_S (ws : List (List Nat)) : (ws.map SX.S).map V.str = txts ws := by rw [List.map_map]; rfl
theorem txts_un (ys : List PySem.Str) : ys.map V.str = txts (ys.map TxO.un) := by rw [← txts_S, TxO.map_un]
theorem txts_len (ws : List (List Nat)) : (txts ws).length = ws.length := by rw [txts, List.length_map]
def spSF (K : PySem.W.Frag) : Sp := fun vs H Q _ => ∃ (a : Addr) (ws : List (List Nat)), vs = [.ref a] ∧ SqL K H a (txts ws) ∧ (∀ u ∈ ws, u.length ≤ 1000) ∧
  ∀ H' (q : Addr) ys, Same H H' → H q = none → H' q = some (.lst (txts ys)) → TxO.SF ys → ys.Perm ws → Q (.ref q) H'
def spWr : Sp := fun vs H Q _ => ∃ (a : Addr) (ws : List (List Nat)) (u : List Nat), vs = [.ref a, .str (SX.S u)] ∧ H a = some (.lst (txts ws)) ∧ (∀ w ∈ ws, w ≠ [] ∧ w.length ≤ 1000) ∧ ws.length ≤ 1000 ∧ u.length ≤ 1000 ∧
  ∀ H' b, Same H H' → (b = true ↔ TxO.Wr ws u) → Q (.bl b) H'
/-- what the dict of places holds -/
structure Pl (ws : List (List Nat)) (u : List Nat) (i : Nat) (kvs : List (Key × V)) : Prop where
  ok : ∀ k, (valV kvs k).isSome = true → ∃ m : Nat, k = .inl (m : Int) ∧ m ≤ u.length ∧ TxO.Wr ws (u.take m)
  zero : (valV kvs (.inl 0)).isSome = true
  step : ∀ j, j < i → (valV kvs (.inl (j : Int))).isSome = true → ∀ w ∈ ws, w <+: u.drop j → (valV kvs (.inl ((j + w.length : Nat) : Int))).isSome = true
section
variable {P : Program} {w : World} {K : PySem.W.Frag} {mg : Str → Option Value} {base : Heap}
theorem ok_shorter_first (T : Tx K mg) : FnOk P w K mg base CX0 1 T.f_shorter_first T.fd_shorter_first P_shorter_first (spSF K) := by
  refine T.F_shorter_first.ok sc_shorter_first (fun vs H Q E h => ?_) (fun cdv A outer s H vs Q E hr h => ?_)
  · obtain ⟨a, ws, rfl, _⟩ := h
    rfl
  · obtain ⟨a, ws, rfl, ha, hl, k⟩ := h
    refine ⟨_, (pss_one (ps_ret (pe_sortLen (pa_cons (pe_callB cr_sortedTx rfl T.n_sorted (by decide +kernel) (pa_cons (pv 0) pa_nil)) pa_nil) rfl T.n_sorted rfl T.n_len))), ?_⟩
    refine ⟨_, rfl, a, ws.map SX.S, rfl, by rw [txts_S]; exact ha, fun ys p hA hp hp0 => ?_⟩
    refine ⟨p, ys, rfl, SqL.of upd_same, fun x hx => ?_, fun zs q hs hb hq0 => ?_⟩
    · obtain ⟨u, hu, rfl⟩ := List.mem_map.mp (hp.mem_iff.mp hx)
      exact le_size (by rw [SX.S_len]; have := hl u hu; omega)
    · refine k _ q (zs.map TxO.un) ((Same.new _ hp0).trans (Same.new _ hq0)) ((Same.new _ hp0).free hq0) (by rw [upd_same, txts_un]) (TxO.sf_of hs hb hA) ?_
      have := (hb.perm.trans hp).map TxO.un
      rw [TxO.map_S] at this
      exact this
end
end J


set_option Elab.async false
set_option linter.all false
set_option maxRecDepth 100000
set_option maxHeartbeats 4000000
namespace J
open PySem L2
def spBase (C : Addr) : Sp := fun vs H Q _ => ∃ (q : Addr) (sg : List Nat) (us : List V) (ws : List (List Nat)), vs = [.ref q] ∧ LoomAt C H q sg us (bka ws) ∧
  ∀ H' (r : Addr) ys, Same H H' → H r = none → H' r = some (.lst (txts ys)) → TxO.IsBase ws ys → Q (.ref r) H'
theorem bka_words {sg : List Nat} {ws : List (List Nat)} (h : OkW sg (bka ws)) : 1 ≤ ws.length ∧ ws.length ≤ 200 ∧ ∀ u ∈ ws, Word sg u := by
  obtain ⟨h1, h2, h3⟩ := h
  rw [bka_len] at h1 h2
  exact ⟨h1, h2, fun u hu => (h3 (0, u, 0) (List.mem_map.mpr ⟨u, hu, rfl⟩)).2.1⟩
section
variable {P : Program} {w : World} {K : PySem.W.Frag} {mg : Str → Option Value} {base : Heap}
end
end J


set_option Elab.async false
set_option linter.all false
set_option maxRecDepth 100000
set_option maxHeartbeats 4000000
namespace J
open PySem L2
/-! ### plain books and their standings -/
def Plain (ws : List (List Nat)) : Prop := ws.Pairwise fun u v => ¬ u <+: v ∧ ¬ v <+: u
theorem Plain.perm {ws vs : List (List Nat)} (h : Plain ws) (p : vs.Perm ws) : Plain vs := (p.pairwise_iff (fun {x y} h => ⟨h.2, h.1⟩)).mpr h
theorem Plain.nodup {ws : List (List Nat)} (h : Plain ws) : ws.Nodup := h.imp fun {u v} q e => q.1 (by rw [e]; exact List.prefix_refl _)
theorem starts2 (x w : List Nat) : Txt.startswith (SX.S x) (SX.S w) = decide (w <+: x) := by
  unfold Txt.startswith
  rw [PySem.StrLaws.subAt_eq, SX.S_len, SX.S_len, Nat.zero_add]
  show (decide (w.length ≤ x.length) && ((x.drop 0).take w.length == w)) = _
  rw [List.drop_zero]
  by_cases c : w <+: x
  · rw [decide_eq_true c, decide_eq_true c.length_le, Bool.true_and, beq_iff_eq]
    exact (List.prefix_iff_eq_take.mp c).symm
  · have n : ((x.take w.length) == w) = false := beq_eq_false_iff_ne.mpr fun e => c (List.prefix_iff_eq_take.mpr e.symm)
    rw [decide_eq_false c, n, Bool.and_false]
theorem cut_drop (vs : List (List Nat)) (n : Nat) : cutV (txts vs) (some (n : Int)) none = txts (vs.drop n) := by
  unfold cutV
  rw [HT.sIx_nat, HT.sIx_none, txts_len]
  show ((txts vs).drop (min n vs.length)).take (vs.length - min n vs.length) = _
  by_cases c : n ≤ vs.length
  · rw [Nat.min_eq_left c, List.take_of_length_le (by rw [List.length_drop, txts_len]; omega)]
    simp [txts]
  · rw [Nat.min_eq_right (by omega), List.drop_eq_nil_of_le (by rw [txts_len]; omega), List.drop_eq_nil_of_le (by omega), List.take_nil]
    rfl
/-- a word without one sign or more at its end -/
def IsStand (ws ys : List (List Nat)) : Prop := TxO.SF ys ∧ ys.Nodup ∧ ∀ u, u ∈ ys ↔ ∃ w ∈ ws, u <+: w ∧ u ≠ w
/-- beginnings of the first i words -/
def Pre (ws : List (List Nat)) (i : Nat) (u : List Nat) : Prop := ∃ w ∈ ws.take i, ∃ m, m < w.length ∧ u = w.take m
theorem pre_iff (ws : List (List Nat)) (u : List Nat) : Pre ws ws.length u ↔ ∃ w ∈ ws, u <+: w ∧ u ≠ w := by
  unfold Pre
  rw [List.take_length]
  constructor
  · rintro ⟨w, hw, m, hm, rfl⟩
    refine ⟨w, hw, List.take_prefix _ _, fun e => ?_⟩
    have := congrArg List.length e
    rw [List.length_take] at this
    omega
  · rintro ⟨w, hw, p, n⟩
    have e := List.prefix_iff_eq_take.mp p
    refine ⟨w, hw, u.length, ?_, e⟩
    have l := p.length_le
    by_cases c : u.length < w.length
    · exact c
    · exfalso
      apply n
      rw [e, List.take_of_length_le (by omega)]
theorem pre_snoc {ws : List (List Nat)} {i : Nat} {w : List Nat} (h : ws[i]? = some w) (u : List Nat) : Pre ws (i + 1) u ↔ Pre ws i u ∨ ∃ m, m < w.length ∧ u = w.take m := by
  unfold Pre
  rw [List.take_add_one, h]
  constructor
  · rintro ⟨v, hv, q⟩
    rcases List.mem_append.mp hv with hv | hv
    · exact .inl ⟨v, hv, q⟩
    · rw [List.mem_singleton.mp hv] at q
      exact .inr q
  · rintro (⟨v, hv, q⟩ | q)
    · exact ⟨v, List.mem_append_left _ hv, q⟩
    · exact ⟨w, List.mem_append_right _ (by simp), q⟩
def spPlainT (C : Addr) : Sp := fun vs H Q _ => ∃ (p : Addr) (sg : List Nat) (us : List V) (ws : List (List Nat)), vs = [.ref p] ∧ LoomAt C H p sg us (bka ws) ∧ Plain ws ∧ ∀ H', Same H H' → Q (.bl true) H'
def spPlainC (C : Addr) : Sp := fun vs H Q _ => ∃ (p : Addr) (sg : List Nat) (us : List V) (ws : List (List Nat)), vs = [.ref p] ∧ LoomAt C H p sg us (bka ws) ∧ Plain ws ∧ ∀ H', Same H H' → Q .non H'
def spStand (C : Addr) : Sp := fun vs H Q _ => ∃ (p : Addr) (sg : List Nat) (us : List V) (ws : List (List Nat)), vs = [.ref p] ∧ LoomAt C H p sg us (bka ws) ∧ Plain ws ∧
  ∀ H' (r : Addr) ys, Same H H' → H r = none → H' r = some (.lst (txts ys)) → IsStand ws ys → ys.length ≤ 2400 → Q (.ref r) H'
section
variable {P : Program} {w : World} {K : PySem.W.Frag} {mg : Str → Option Value} {base : Heap}
theorem ok_is_plain (T : Tx K mg) : FnOk P w K mg base CX0 4 T.f_is_plain T.fd_is_plain P_is_plain (spPlainT T.C_Loom) := by
  have G_words : FnOk P w K mg base CX0 3 T.f_words T.fd_words P_words (spPWords T.C_Loom) := ok_words T
  refine T.F_is_plain.ok sc_is_plain (fun vs H Q E h => ?_) (fun cdv A outer s H vs Q E hr h => ?_)
  · obtain ⟨p, sg, us, ws, rfl, _⟩ := h
    rfl
  · obtain ⟨p, sg, us, ws, rfl, hL, hpl, k⟩ := h
    refine ⟨_, (pss_cons (ps_set (i := 1) sc_is_plain.nd rfl (Or.inl rfl) (pe_callB cr_sortedTx rfl T.n_sorted (by decide +kernel) (pa_cons (pe_call G_words (hr.mono (by decide)) rfl T.m_words T.F_words.kp T.b_words .nil pass0 (pa_cons (pv 0) pa_nil)) pa_nil)))
        (pss_one (ps_ret (pe_not (pe_callB (cr_anyK (K := K) rfl rfl) rfl T.n_any (by decide +kernel) (pa_cons (pe_lc (own := [("word", 2), ("longer", 3)]) (g := (gTup K 2 (gCons (gName 2) (gCons (gName 3) gNil)))) rfl sc_is_plain.nd (pi_zip rfl T.n_zip (pa_cons (pv 1) (pa_cons (pe_slice (sl_listK (K := K) rfl) (pv 1) (po_some pe_int) po_none) pa_nil))) (blkOk_by (N := N_is_plain) (sc := defScope s_is_plain) (by decide +kernel)) (fun _ _ _ _ _ => (pg_tup rfl (pgs_cons (pg_name (i := 2) sc_is_plain.nd rfl (Or.inl rfl)) (pgs_cons (pg_name (i := 3) sc_is_plain.nd rfl (Or.inl rfl)) pgs_nil)))) (fun _ _ _ _ _ => pts_nil) (fun _ _ _ _ _ => (pe_bmK (K := K) rfl PySem.F.plainAttrs_str PySem.F.slot_str_startswith PySem.F.type_str_startswith mt_startswith (pv 3) (pa_cons (pv 2) pa_nil)))) pa_nil)))))), ?_⟩
    obtain ⟨_, _, _, _, _, hok, _⟩ := id hL
    obtain ⟨w1, w2, w3⟩ := bka_words hok
    refine ⟨_, rfl, p, sg, us, ws, rfl, hL, fun H1 r s1 hr0 hr1 => ?_⟩
    refine ⟨r, ws.map SX.S, rfl, by rw [txts_S]; exact SqL.of hr1, fun as pa hA hpa hpa0 => ?_⟩
    have sa : Same H1 (upd H1 pa (.lst (as.map V.str))) := Same.new _ hpa0
    have ga : upd H1 pa (.lst (as.map V.str)) pa = some (.lst (txts (as.map TxO.un))) := by rw [upd_same, txts_un]
    have q1 : (as.map TxO.un).Perm ws := by
      have := hpa.map TxO.un
      rwa [TxO.map_S] at this
    generalize upd H1 pa (.lst (as.map V.str)) = H2 at *
    generalize as.map TxO.un = vs at *
    have hvp := hpl.perm q1
    have hvl := q1.length_eq
    refine ⟨_, rfl, _, rfl, _, rfl, pa, _, rfl, SqL.of ga, fun q hq => ?_⟩
    have e1 : cutV (txts vs) (some 1) none = txts (vs.drop 1) := cut_drop vs 1
    rw [e1]
    have sq : Same H2 (upd H2 q (.lst (txts (vs.drop 1)))) := Same.new _ hq
    have gq : upd H2 q (.lst (txts (vs.drop 1))) q = some (.lst (txts (vs.drop 1))) := upd_same
    have ga3 := sq _ _ ga
    generalize upd H2 q (.lst (txts (vs.drop 1))) = H3 at *
    refine ⟨pa, q, _, _, rfl, SqL.of ga3, SqL.of gq, fun D hD => lc_it (walk_zip (xs := txts vs) (ys := txts (vs.drop 1)) rfl) (fun i H' => H' D = some (.lst ((List.replicate i false).map V.bl)) ∧ Same H3 H') ⟨upd_same, Same.new _ hD⟩ (fun i H' _ ⟨_, sm⟩ => ⟨SqL.of (sm _ _ ga3), SqL.of (sm _ _ gq)⟩) ?_ ?_⟩
    · rintro i v H4 H5 hi ⟨hDl, sm⟩ ⟨t, x, y, rfl, ht, rfl, hx, hy⟩
      obtain ⟨u, hu, rfl⟩ := txt_at hx
      obtain ⟨z, hz, rfl⟩ := txt_at hy
      have st : Same H4 (upd H4 t (.tup [.str (SX.S u), .str (SX.S z)])) := Same.new _ ht
      have hi2 : i < vs.length := (List.getElem?_eq_some_iff.mp hu).1
      have hz2 : vs[i + 1]? = some z := by rw [List.getElem?_drop, Nat.add_comm] at hz; exact hz
      have np : ¬ u <+: z := by
        have hi3 := (List.getElem?_eq_some_iff.mp hz2).1
        have e1 := (List.getElem?_eq_some_iff.mp hu).2
        have e2 := (List.getElem?_eq_some_iff.mp hz2).2
        have := (List.pairwise_iff_getElem.mp hvp i (i + 1) hi2 hi3 (Nat.lt_succ_self i)).1
        rwa [e1, e2] at this
      refine ⟨t, _, rfl, SqT.of upd_same, rfl, _, _, rfl, _, _, rfl, rfl, rfl, ?_⟩
      refine ⟨_, rfl, rfl, _, rfl, _, _, rfl, rfl, _, st _ _ hDl, lt_size (by simp; omega), ?_, (sm.trans st).updNew hD⟩
      rw [upd_same, starts2, decide_eq_false np, List.replicate_succ', List.map_append]
      rfl
    · rintro H4 ⟨hDl, sm⟩
      refine ⟨D, _, rfl, SqL.of hDl, ?_⟩
      have e : ((List.replicate (min (txts vs).length (txts (vs.drop 1)).length) false).any id) = false := by
        rw [List.any_eq_false]
        intro x hx
        rw [List.eq_of_mem_replicate hx]
        decide
      rw [e]
      refine ⟨_, rfl, ?_⟩
      exact k H4 (((s1.trans sa).trans sq).trans sm)
theorem ok_check_plain (T : Tx K mg) : FnOk P w K mg base CX0 5 T.f_check_plain T.fd_check_plain P_check_plain (spPlainC T.C_Loom) := by
  have G_is_plain : FnOk P w K mg base CX0 4 T.f_is_plain T.fd_is_plain P_is_plain (spPlainT T.C_Loom) := ok_is_plain T
  refine T.F_check_plain.ok sc_check_plain (fun vs H Q E h => ?_) (fun cdv A outer s H vs Q E hr h => ?_)
  · obtain ⟨p, sg, us, ws, rfl, _⟩ := h
    rfl
  · obtain ⟨p, sg, us, ws, rfl, hL, hpl, k⟩ := h
    refine ⟨_, (pss_one (ps_if (pt_not (pt_val (pe_call G_is_plain (hr.mono (by decide)) rfl T.m_is_plain T.F_is_plain.kp T.b_is_plain .nil pass0 (pa_cons (pv 0) pa_nil)))) (pss_one ps_never) pss_nil)), ?_⟩
    refine ⟨_, rfl, p, sg, us, ws, rfl, hL, hpl, fun H1 s1 => ⟨true, rfl, iteF ?_⟩⟩
    exact k H1 s1
theorem ok_standings (T : Tx K mg) : FnOk P w K mg base CX0 6 T.f_standings T.fd_standings P_standings (spStand T.C_Loom) := by
  have G_words : FnOk P w K mg base CX0 3 T.f_words T.fd_words P_words (spPWords T.C_Loom) := ok_words T
  have G_check_plain : FnOk P w K mg base CX0 5 T.f_check_plain T.fd_check_plain P_check_plain (spPlainC T.C_Loom) := ok_check_plain T
  have G_shorter_first : FnOk P w K mg base CX0 1 T.f_shorter_first T.fd_shorter_first P_shorter_first (spSF K) := ok_shorter_first T
  refine T.F_standings.ok sc_standings (fun vs H Q E h => ?_) (fun cdv A outer s H vs Q E hr h => ?_)
  · obtain ⟨p, sg, us, ws, rfl, _⟩ := h
    rfl
  · obtain ⟨p, sg, us, ws, rfl, hL, hpl, k⟩ := h
    refine ⟨_, (pss_cons (ps_expr (pe_call G_check_plain (hr.mono (by decide)) rfl T.m_check_plain T.F_check_plain.kp T.b_check_plain .nil pass0 (pa_cons (pv 0) pa_nil)))
        (pss_one (ps_ret (pe_call G_shorter_first (hr.mono (by decide)) rfl T.m_shorter_first T.F_shorter_first.kp T.b_shorter_first .nil pass0 (pa_cons (pe_callB (cr_sortedSetS rfl) rfl T.n_sorted (by decide +kernel) (pa_cons (SetC2.pe_sc2 (own := [("word", 1), ("at", 2)]) (vs1 := [2]) (g := (gName 1)) (g1 := (gName 2)) rfl sc_standings.nd (pi_list (pe_call G_words (hr.mono (by decide)) rfl T.m_words T.F_words.kp T.b_words .nil pass0 (pa_cons (pv 0) pa_nil))) (blkOk_by (N := N_standings) (sc := defScope s_standings) (by decide +kernel)) (by decide) (fun _ _ _ _ _ => (pg_name (i := 1) sc_standings.nd rfl (Or.inl rfl))) (fun _ _ _ _ _ => (pi_range1 rfl T.n_range (pa_cons (pe_callB call_len_str rfl T.n_len (by decide +kernel) (pa_cons (pv 1) pa_nil)) pa_nil))) (fun _ _ _ _ _ => (pg_name (i := 2) sc_standings.nd rfl (Or.inl rfl))) (fun _ _ _ _ _ => (pe_slice sl_str (pv 1) po_none (po_some (pv 2))))) pa_nil)) pa_nil))))), ?_⟩
    obtain ⟨_, _, _, _, _, hok, _⟩ := id hL
    obtain ⟨w1, w2, w3⟩ := bka_words hok
    refine ⟨_, rfl, p, sg, us, ws, rfl, hL, hpl, fun H1 s1 => ?_⟩
    refine ⟨_, rfl, p, sg, us, ws, rfl, hL.same s1, fun H2 b s2 hb0 hb => ⟨b, rfl, ⟨_, SqL.of hb⟩, fun D hD => ?_⟩⟩
    refine SetC2.whole_list (K := K) (a := b) (xs := txts ws) (fun i H' => ∃ (S : PySem.Str → Bool) (n : Nat), H' D = some (SetSO w D S n) ∧ n ≤ 12 * i ∧ i ≤ ws.length ∧ (∀ u, S (SX.S u) = true ↔ Pre ws i u) ∧ (∀ z, S z = true → ∃ u, z = SX.S u) ∧ Same H2 H') ?_ (fun i H' ⟨_, _, _, _, _, _, _, sm⟩ => SqL.of (sm _ _ hb)) ?_ ?_
    · exact ⟨_, 0, upd_same, Nat.le_refl _, Nat.zero_le _, fun u => by simp [Pre], fun z h => (by cases h), Same.new _ hD⟩
    · rintro i x H3 hx ⟨S, n, hDl, hn, hi, hS, hz, sm⟩
      obtain ⟨u, hu, rfl⟩ := txt_at hx
      have hul := (w3 u (List.mem_of_getElem? hu)).2.1
      have hi2 := (List.getElem?_eq_some_iff.mp hu).1
      have len : ((SX.S u).length : Int).toNat = u.length := by rw [SX.S_len]; omega
      refine ⟨rfl, _, rfl, _, rfl, le_size (by rw [SX.S_len]; omega), _, rfl, by omega, by rw [SX.S_len]; omega, ?_⟩
      refine SetC2.whole_range (lo := 0) (fun j H' => ∃ (S : PySem.Str → Bool) (n : Nat), H' D = some (SetSO w D S n) ∧ n ≤ 12 * i + j ∧ (∀ v, S (SX.S v) = true ↔ Pre ws i v ∨ ∃ m, m < j ∧ v = u.take m) ∧ (∀ z, S z = true → ∃ u, z = SX.S u) ∧ Same H2 H') ?_ ?_ ?_
      · exact ⟨S, n, hDl, hn, fun v => by rw [hS v]; simp, hz, sm⟩
      · rintro j H4 hj ⟨S, n, hDl, hn, hS, hz, sm⟩
        rw [len] at hj
        refine ⟨rfl, _, rfl, _, rfl, _, rfl, _, rfl, le_size (by rw [SX.S_len]; omega), ?_⟩
        rw [show (0 + (j : Int)) = ((j : Nat) : Int) by omega, TxO.cut_to]
        refine ⟨_, S, n, rfl, hDl, by unfold PySem.scanBound; omega, _, _, upd_same, ?_, fun v => ?_, fun z h => ?_, sm.updNew hD⟩
        · split <;> omega
        · rw [Bool.or_eq_true, decide_eq_true_eq, hS v]
          constructor
          · rintro ((h | ⟨m, hm, e⟩) | e)
            · exact .inl h
            · exact .inr ⟨m, by omega, e⟩
            · exact .inr ⟨j, Nat.lt_succ_self j, SX.S_inj e⟩
          · rintro (h | ⟨m, hm, e⟩)
            · exact .inl (.inl h)
            · by_cases c : m = j
              · exact .inr (by rw [e, c])
              · exact .inl (.inr ⟨m, by omega, e⟩)
        · rw [Bool.or_eq_true, decide_eq_true_eq] at h
          exact h.elim (hz z) fun e => ⟨_, e⟩
      · rintro H4 ⟨S, n, hDl, hn, hS, hz, sm⟩
        rw [len] at hn hS
        exact ⟨S, n, hDl, by omega, hi2, fun v => by rw [hS v, pre_snoc hu], hz, sm⟩
    · rintro H3 ⟨S, n, hDl, hn, hi, hS, hz, sm⟩
      rw [txts_len] at hn hi hS
      refine ⟨D, S, n, rfl, hDl, by omega, fun ss L hA hnd hmem hl hL0 => ?_⟩
      have sL : Same H3 (upd H3 L (.lst (ss.map V.str))) := Same.new _ hL0
      have gL : upd H3 L (.lst (ss.map V.str)) L = some (.lst (txts (ss.map TxO.un))) := by rw [upd_same, txts_un]
      have mem : ∀ u, u ∈ ss.map TxO.un ↔ Pre ws ws.length u := fun u => by
        rw [← hS u, ← hmem]
        constructor
        · intro h
          obtain ⟨x, hx, e⟩ := List.mem_map.mp h
          rw [← e, TxO.S_un]
          exact hx
        · intro h
          exact List.mem_map.mpr ⟨_, h, TxO.un_S u⟩
      have nd := TxO.nodup_un hnd
      have ln : (ss.map TxO.un).length = n := by rw [List.length_map, hl]
      generalize upd H3 L (.lst (ss.map V.str)) = H4 at *
      generalize ss.map TxO.un = vs at *
      refine ⟨L, vs, rfl, SqL.of gL, fun u hu => ?_, fun H5 r ys s5 hr0 hr5 hsf hpm => ?_⟩
      · obtain ⟨x, hx, m, hm, rfl⟩ := (mem u).mp hu
        rw [List.take_length] at hx
        have := (w3 x hx).2.1
        rw [List.length_take]
        omega
      · have s04 := ((s1.trans s2).trans sm).trans sL
        refine k H5 r ys (s04.trans s5) (s04.free hr0) hr5 ⟨hsf, hpm.nodup_iff.mpr nd, fun u => ?_⟩ ?_
        · rw [hpm.mem_iff, mem u, pre_iff]
        · rw [hpm.length_eq, ln]
          omega
end
end J


set_option Elab.async false
set_option linter.all false
set_option maxRecDepth 100000
set_option maxHeartbeats 4000000
/-! a dict comprehension that is put into a name at once -/
namespace L2
open PySem PySem.Spec PyProof.Rows
theorem sw_dict {kx vx : Expr} {gs : List Comprehension} {scope : Scope} {pos py : Pos} {y : Str} {l : Nat} {env : Env} (hk : env.scope.kind = .function) (hy : env.scope.names.lookup y = some .local) (hl : (py.line == pos.line) = true)
    (ha : (scope.names.any fun e => e.1 == y && (e.2 == .local || e.2 == .cell)) = false) : swapsWith (.DictComp kx vx gs scope pos) (some (.Name y py)) l env = pure true := by
  have a : env.blockKind = .function := by rw [Env.blockKind, hk]; rfl
  have b : env.kindOf y = some .local := hy
  simp only [swapsWith, a, b, ha, Expr.pos, hl]
  rfl
section
variable {X : Cx}
theorem ps_setDc {i : Nat} {y : Str} {py : Pos} {kx vx tg iter : Expr} {ifs : List Expr} {scope : Scope} {own : List (Str × Nat)} {pos spos : Pos} {wi : TI} {g : TG} {tt : TT} {tk tv : TE} (hc : X.calm = true) (hN : X.N.Nodup) (hy : X.N[i]? = some y) (hyl : X.env.scope.names.lookup y = some .local)
    (hsw : swapsWith (.DictComp kx vx [⟨tg, iter, ifs, 0⟩] scope pos) (some (.Name y py)) spos.line X.env = pure true) (hi : PI X tg iter wi) (ok : BlkOk X.N X.env.scope scope own)
    (hg : ∀ (s : Shared) (H : Hp) (C : Addr) (cl : List (Str × Addr)) (fp : List Addr), PG (X.blk s H scope (compEnvC scope cl C X.env) fp) tg g) (ht : ∀ (s : Shared) (H : Hp) (C : Addr) (cl : List (Str × Addr)) (fp : List Addr), PTs (X.blk s H scope (compEnvC scope cl C X.env) fp) ifs tt)
    (hk : ∀ (s : Shared) (H : Hp) (C : Addr) (cl : List (Str × Addr)) (fp : List Addr), PE (X.blk s H scope (compEnvC scope cl C X.env) fp) kx tk)
    (he : ∀ (s : Shared) (H : Hp) (C : Addr) (cl : List (Str × Addr)) (fp : List Addr), PE (X.blk s H scope (compEnvC scope cl C X.env) fp) vx tv) (hs : ∀ x, foldedSetIterable iter X.env x = pure x := by intro _; rfl) :
    PS X (.Assign [.Name y py] (.DictComp kx vx [⟨tg, iter, ifs, 0⟩] scope pos) spos) (tAsg (tDc wi g tt tk tv (own.map (·.2))) (gName i)) := by
  constructor
  intro pins s σ H Z I h
  replace h : tDc wi g tt tk tv (own.map (·.2)) σ H (fun x H1 => gName i x σ H1 Z.nx) := h
  rw [exec_Assign_Name_used _ _ _ _ hsw]
  refine wpAny_bind (wpAny_standAt (wpAny_bind ?_))
  show wpAny _ X.A (do let _ ← comprehension (.DictComp kx vx [⟨tg, iter, ifs, 0⟩] scope pos) scope X.env (firstIterPos [⟨tg, iter, ifs, 0⟩] pos) newDict false (eval iter X.env) (some (assign (.Name y py) X.env))) _ _ s
  have core := dc_core (use := some (assign (.Name y py) X.env)) (pos := pos) (pos' := firstIterPos [⟨tg, iter, ifs, 0⟩] pos) (Qf := fun _ s' => SP X pins Z .next s') hc hN I hi ok hg ht hk he hs h fun D C s1 m H1 I1 q hn f => by
    show wpAny _ _ (assign (.Name y py) X.env (.ref D)) _ _ _
    refine wpAny_assign_Name (store_ok2 (v := V.ref D) I1 hN hy (.inl hyl) rfl (fun s2 I2 ⟨a, sb, ha⟩ => ?_) (.inr hyl))
    have ne : C ≠ a := ha.elim (fun z => by rw [z]; exact f.2.1) fun z => fun e => f.2.2.2.2.1 y a z e.symm
    exact ⟨m, hn.sameBut sb ne, fun h3 sb3 => ⟨_, H1, I2.turned (t' := s2.toks) (fun b o hb e => (sb3.2 b hb).trans e) f.1 f.2.1 f.2.2.2.1 f.2.2.2.2.1 f.2.2.2.2.2, q⟩⟩
  exact wpAny_bind (thn core fun _ s' hq => wpAny_pure (wpAny_pure hq))
end
end L2

set_option Elab.async false
set_option linter.all false
set_option maxRecDepth 100000
set_option maxHeartbeats 4000000
namespace J
open PySem L2
/-! ### reading on -/
theorem val_range (f : Nat → Key) (g : Nat → V) : ∀ (n i : Nat), i < n → (∀ a, a < n → f a = f i → a = i) → valV ((List.range n).map fun j => (f j, g j)) (f i) = some (g i)
  | 0, i, h, _ => absurd h (Nat.not_lt_zero _)
  | n + 1, i, h, inj => by
    rw [List.range_succ, List.map_append]
    unfold valV
    rw [List.find?_append]
    by_cases e : i < n
    · have q := val_range f g n i e (fun a ha => inj a (by omega))
      unfold valV at q
      obtain ⟨kv, h1, h2⟩ := Option.map_eq_some_iff.mp q
      rw [h1]
      exact congrArg some h2
    · have e2 : i = n := by omega
      subst e2
      have q : (List.find? (fun kv : Key × V => decide (kv.1 = f i)) ((List.range i).map fun j => (f j, g j))) = none := by
        rw [List.find?_eq_none]
        intro x hx
        obtain ⟨a, ha, rfl⟩ := List.mem_map.mp hx
        have hai := List.mem_range.mp ha
        simp only [decide_eq_true_eq]
        intro z
        have := inj a (by omega) z
        omega
      rw [q]
      simp
theorem val_none (f : Nat → Key) (g : Nat → V) (n : Nat) (k : Key) (h : ∀ a, a < n → f a ≠ k) : valV ((List.range n).map fun j => (f j, g j)) k = none := by
  unfold valV
  have q : (List.find? (fun kv : Key × V => decide (kv.1 = k)) ((List.range n).map fun j => (f j, g j))) = none := by
    rw [List.find?_eq_none]
    intro x hx
    obtain ⟨a, ha, rfl⟩ := List.mem_map.mp hx
    simp only [decide_eq_true_eq]
    exact h a (List.mem_range.mp ha)
  rw [q]
  rfl
/-- the first n texts as keys, each with what g says -/
def kyv (ws : List (List Nat)) (g : Nat → V) (n : Nat) : List (Key × V) := (List.range n).map fun j => ((.inr (SX.S (ws.getD j [])) : Key), g j)
theorem kyv_len (ws : List (List Nat)) (g : Nat → V) (n : Nat) : (kyv ws g n).length = n := by simp [kyv]
theorem key_inj {u v : List Nat} (h : (.inr (SX.S u) : Key) = .inr (SX.S v)) : u = v := by
  injection h with h
  exact SX.S_inj h
theorem getD_at {ws : List (List Nat)} {i : Nat} {u : List Nat} (h : ws[i]? = some u) : ws.getD i [] = u := by simp [h]
theorem getD_inj {ws : List (List Nat)} (nd : ws.Nodup) {a i : Nat} (ha : a < ws.length) (hi : i < ws.length) (e : ws.getD a [] = ws.getD i []) : a = i := by
  have e1 : ws.getD a [] = ws[a] := by simp [ha]
  have e2 : ws.getD i [] = ws[i] := by simp [hi]
  rw [e1, e2] at e
  exact (List.getElem_inj nd).mp e
theorem kyv_get {ws : List (List Nat)} (nd : ws.Nodup) (g : Nat → V) {n i : Nat} {u : List Nat} (hn : n ≤ ws.length) (hi : i < n) (h : ws[i]? = some u) : valV (kyv ws g n) (.inr (SX.S u)) = some (g i) := by
  have := val_range (fun j => (.inr (SX.S (ws.getD j [])) : Key)) g n i hi fun a ha e => getD_inj nd (by omega) (by omega) (key_inj e)
  rw [getD_at h] at this
  exact this
theorem kyv_none {ws : List (List Nat)} (g : Nat → V) {n : Nat} {u : List Nat} (hn : n ≤ ws.length) (h : ∀ i, i < n → ws[i]? ≠ some u) : valV (kyv ws g n) (.inr (SX.S u)) = none :=
  val_none _ _ n _ fun a ha e => h a ha (by
    have e1 : ws.getD a [] = ws[a] := by simp [show a < ws.length by omega]
    rw [← key_inj e, e1]
    exact List.getElem?_eq_getElem (by omega))
theorem kyv_put {ws : List (List Nat)} (nd : ws.Nodup) (g : Nat → V) {n : Nat} {u : List Nat} (h : ws[n]? = some u) : putK (kyv ws g n) (.inr (SX.S u)) (g n) = kyv ws g (n + 1) := by
  have hn := (List.getElem?_eq_some_iff.mp h).1
  unfold putK
  have q : ((kyv ws g n).any fun kv => decide (kv.1 = (.inr (SX.S u) : Key))) = false := by
    rw [List.any_eq_false]
    intro x hx
    obtain ⟨a, ha, rfl⟩ := List.mem_map.mp hx
    have hai := List.mem_range.mp ha
    simp only [decide_eq_true_eq]
    intro z
    have := getD_inj nd (a := a) (i := n) (by omega) hn (by rw [getD_at h]; exact key_inj z)
    omega
  rw [q, if_neg Bool.false_ne_true]
  unfold kyv
  rw [List.range_succ, List.map_append, List.map_singleton, getD_at h]
/-- by one sign on: the standing, and the numbers told -/
noncomputable def stp (ws : List (List Nat)) (o : Option (List Nat × List Nat)) (c : Nat) : Option (List Nat × List Nat) := o.bind fun e =>
  open Classical in if e.1 ++ [c] ∈ ws then some ([], e.2 ++ [ws.idxOf (e.1 ++ [c])]) else if ∃ w ∈ ws, e.1 ++ [c] <+: w then some (e.1 ++ [c], e.2) else none
noncomputable def gone (ws : List (List Nat)) (x s ns : List Nat) : Option (List Nat × List Nat) := x.foldl (stp ws) (some (s, ns))
theorem gone_nil (ws : List (List Nat)) (x : List Nat) : x.foldl (stp ws) none = none := by
  induction x with
  | nil => rfl
  | cons c r ih => exact ih
theorem gone_snoc {ws : List (List Nat)} {x s ns : List Nat} {i c : Nat} (h : x[i]? = some c) : gone ws (x.take (i + 1)) s ns = stp ws (gone ws (x.take i) s ns) c := by
  unfold gone
  rw [List.take_add_one, h, List.foldl_append]
  rfl
theorem gone_out {ws : List (List Nat)} {x s ns : List Nat} {i : Nat} (h : gone ws (x.take i) s ns = none) : gone ws x s ns = none := by
  have e : x = x.take i ++ x.drop i := (List.take_append_drop i x).symm
  rw [e]
  unfold gone at *
  rw [List.foldl_append, h, gone_nil]
abbrev nums (ns : List Nat) : List V := ns.map fun (n : Nat) => V.int (n : Int)
theorem nums_cat (ns ms : List Nat) : nums ns ++ nums ms = nums (ns ++ ms) := by simp [nums]
/-- a standing of a plain book -/
def Stnd (ws : List (List Nat)) (u : List Nat) : Prop := ∃ w ∈ ws, u <+: w ∧ u ≠ w
theorem S_cat (u v : List Nat) : SX.S u ++ SX.S v = SX.S (u ++ v) := by
  show PySem.Str.mk _ = PySem.Str.mk _
  simp [SX.S]
def spCText : Sp := fun vs H Q _ => ∃ (sg x : List Nat), vs = [.str (SX.S sg), .str (SX.S x)] ∧ x.length ≤ 2000 ∧ (∀ c ∈ x, c ∈ sg) ∧ ∀ H', Same H H' → Q .non H'
def spReadOn (C : Addr) : Sp := fun vs H Q _ => ∃ (p : Addr) (sg : List Nat) (us : List V) (ws : List (List Nat)) (st x : List Nat), vs = [.ref p, .str (SX.S st), .str (SX.S x)] ∧ LoomAt C H p sg us (bka ws) ∧ Plain ws ∧ st.length ≤ 12 ∧ x.length ≤ 2000 ∧
  ∀ H' (t l : Addr) (v : V) (ns : List Nat), Same H H' → H l = none → H' t = some (.tup [v, .ref l]) → H' l = some (.lst (nums ns)) → ((v = .non ∧ gone ws x st [] = none) ∨ ∃ st', v = .str (SX.S st') ∧ gone ws x st [] = some (st', ns)) → ns.length ≤ x.length → Q (.ref t) H'
section
variable {P : Program} {w : World} {K : PySem.W.Frag} {mg : Str → Option Value} {base : Heap}
theorem ok_check_text (T : Tx K mg) : FnOk P w K mg base CX0 2 T.f_check_text T.fd_check_text P_check_text spCText := by
  have G_is_string_over : FnOk P w K mg base CX0 1 T.f_is_string_over T.fd_is_string_over P_is_string_over spOver := ok_is_string_over T
  refine T.F_check_text.ok sc_check_text (fun vs H Q E h => ?_) (fun cdv A outer s H vs Q E hr h => ?_)
  · obtain ⟨sg, x, rfl, _⟩ := h
    rfl
  · obtain ⟨sg, x, rfl, hx, hm, k⟩ := h
    refine ⟨_, (pss_one (ps_if (pt_not (pt_val (pe_call G_is_string_over (hr.mono (by decide)) rfl T.m_is_string_over T.F_is_string_over.kp T.b_is_string_over .nil pass0 (pa_cons (pv 0) (pa_cons (pv 1) (pa_cons pe_int (pa_cons (pe_glob (v := V.int 2000) rfl T.g_LONGEST_TEXT ⟨_, rfl⟩) pa_nil))))))) (pss_one ps_never) pss_nil)), ?_⟩
    refine ⟨_, rfl, _, rfl, sg, x, 0, 2000, rfl, by omega, by omega, by decide, hm, fun H1 s1 => ⟨true, rfl, iteF ?_⟩⟩
    exact k H1 s1
theorem ok_read_on (T : Tx K mg) : FnOk P w K mg base CX0 7 T.f_read_on T.fd_read_on P_read_on (spReadOn T.C_Loom) := by
  have G_words : FnOk P w K mg base CX0 3 T.f_words T.fd_words P_words (spPWords T.C_Loom) := ok_words T
  have G_standings : FnOk P w K mg base CX0 6 T.f_standings T.fd_standings P_standings (spStand T.C_Loom) := ok_standings T
  refine T.F_read_on.ok sc_read_on (fun vs H Q E h => ?_) (fun cdv A outer s H vs Q E hr h => ?_)
  · obtain ⟨p, sg, us, ws, st, x, rfl, _⟩ := h
    rfl
  · obtain ⟨p, sg, us, ws, st, x, rfl, hL, hpl, hst, hx, k⟩ := h
    refine ⟨_, (pss_cons (ps_setDc (i := 3) (own := [("number", 8), ("word", 9)]) (g := (gTup K 2 (gCons (gName 8) (gCons (gName 9) gNil)))) rfl sc_read_on.nd rfl rfl (sw_dict rfl rfl rfl (by decide +kernel)) (pi_enum rfl T.n_enumerate (pa_cons (pe_call G_words (hr.mono (by decide)) rfl T.m_words T.F_words.kp T.b_words .nil pass0 (pa_cons (pv 0) pa_nil)) pa_nil)) (blkOk_by (N := N_read_on) (sc := defScope s_read_on) (by decide +kernel)) (fun _ _ _ _ _ => (pg_tup rfl (pgs_cons (pg_name (i := 8) sc_read_on.nd rfl (Or.inl rfl)) (pgs_cons (pg_name (i := 9) sc_read_on.nd rfl (Or.inl rfl)) pgs_nil)))) (fun _ _ _ _ _ => pts_nil) (fun _ _ _ _ _ => (pv 9)) (fun _ _ _ _ _ => (pv 8)))
        (pss_cons (ps_setDc (i := 4) (own := [("begun", 10)]) (g := (gName 10)) rfl sc_read_on.nd rfl rfl (sw_dict rfl rfl rfl (by decide +kernel)) (pi_list (pe_call G_standings (hr.mono (by decide)) rfl T.m_standings T.F_standings.kp T.b_standings .nil pass0 (pa_cons (pv 0) pa_nil))) (blkOk_by (N := N_read_on) (sc := defScope s_read_on) (by decide +kernel)) (fun _ _ _ _ _ => (pg_name (i := 10) sc_read_on.nd rfl (Or.inl rfl))) (fun _ _ _ _ _ => pts_nil) (fun _ _ _ _ _ => (pv 10)) (fun _ _ _ _ _ => pe_bl))
        (pss_cons (ps_set (i := 5) sc_read_on.nd rfl (Or.inl rfl) (pv 1))
        (pss_cons (ps_set (i := 6) sc_read_on.nd rfl (Or.inl rfl) (pe_lst pa_nil))
        (pss_cons (ps_for PassesOwn.never rfl (pi_str (pv 2)) (pg_name (i := 7) sc_read_on.nd rfl (Or.inl rfl)) (pss_cons (ps_set (i := 5) sc_read_on.nd rfl (Or.inl rfl) (pe_op op_add_str (pv 5) (pv 7)))
        (pss_one (ps_if (pt_cmp (pc_din (hu_of hr) (pv 5) (pv 3))) (pss_cons (ps_expr (pe_bm PySem.F.plainAttrs_list PySem.F.slot_list_append PySem.F.type_list_append mt_append (pv 6) (pa_cons (pe_dget (hu_of hr) (pv 3) (pv 5) (fun _ _ => rfl)) pa_nil)))
        (pss_one (ps_set (i := 5) sc_read_on.nd rfl (Or.inl rfl) pe_str))) (pss_one (ps_if (pt_cmp (pc_dnotin (hu_of hr) (pv 5) (pv 4))) (pss_one (ps_ret (pe_tup (pa_cons pe_non (pa_cons (pv 6) pa_nil))))) pss_nil))))))
        (pss_one (ps_ret (pe_tup (pa_cons (pv 5) (pa_cons (pv 6) pa_nil)))))))))), ?_⟩
    obtain ⟨_, _, _, _, _, hok, _⟩ := id hL
    obtain ⟨w1, w2, w3⟩ := bka_words hok
    have nd := hpl.nodup
    refine ⟨_, rfl, p, sg, us, ws, rfl, hL, fun H1 b s1 hb0 hb => ⟨b, txts ws, rfl, SqL.of hb, fun D hD => dc_it (walk_enum (xs := txts ws)) (fun i H' => H' D = some (.dK (kyv ws (fun j => V.int (j : Int)) i)) ∧ Same H1 H') ⟨upd_same, Same.new _ hD⟩ (fun i H' _ ⟨_, sm⟩ => SqL.of (sm _ _ hb)) ?_ ?_⟩⟩
    · rintro i v H2 H3 hi ⟨hDl, sm⟩ ⟨t, y, z, rfl, ht, rfl, hy, hz⟩
      obtain ⟨u, hu, rfl⟩ := txt_at hz
      obtain rfl := Option.some.inj hy
      have stt : Same H2 (upd H2 t (.tup [.int (i : Int), .str (SX.S u)])) := Same.new _ ht
      have hi2 : i < ws.length := (List.getElem?_eq_some_iff.mp hu).1
      refine ⟨t, _, rfl, SqT.of upd_same, rfl, _, _, rfl, _, _, rfl, rfl, rfl, ?_⟩
      show ∃ x, _
      refine ⟨_, rfl, _, rfl, _, .inr (SX.S u), rfl, stt _ _ hDl, lt_size (by rw [kyv_len]; omega), ?_, (sm.trans stt).updNew hD⟩
      rw [upd_same, kyv_put nd (fun j => V.int (j : Int)) hu]
    · rintro H2 ⟨hD2, s2⟩
      rw [txts_len] at hD2
      have s02 := s1.trans s2
      refine ⟨_, rfl, p, sg, us, ws, rfl, hL.same s02, hpl, fun H3 r ys s3 hr0 hr3 hys hyl => ⟨r, rfl, ⟨_, SqL.of hr3⟩, fun D2 hE => ?_⟩⟩
      have nd2 := hys.2.1
      refine dc_it (walk_list (K := K) (a := r) (xs := txts ys)) (fun i H' => H' D2 = some (.dK (kyv ys (fun _ => V.bl true) i)) ∧ Same H3 H') ⟨upd_same, Same.new _ hE⟩ (fun i H' _ ⟨_, sm⟩ => SqL.of (sm _ _ hr3)) ?_ ?_
      · rintro i v H4 H5 hi ⟨hDl, sm⟩ ⟨rfl, hz⟩
        obtain ⟨u, hu, rfl⟩ := txt_at hz
        have hi2 : i < ys.length := (List.getElem?_eq_some_iff.mp hu).1
        refine ⟨rfl, ?_⟩
        show ∃ x, _
        refine ⟨_, rfl, _, .inr (SX.S u), rfl, hDl, lt_size (by rw [kyv_len]; omega), ?_, sm.updNew hE⟩
        rw [upd_same, kyv_put nd2 (fun _ => V.bl true) hu]
      · rintro H4 ⟨hE4, s4⟩
        rw [txts_len] at hE4
        have hD4 := s4 _ _ (s3 _ _ hD2)
        have s04 := (s02.trans s3).trans s4
        have inN : ∀ u, u ∈ ws → valV (kyv ws (fun j => V.int (j : Int)) ws.length) (.inr (SX.S u)) = some (.int (ws.idxOf u : Int)) := fun u hu => kyv_get nd _ (Nat.le_refl _) (List.idxOf_lt_length_iff.mpr hu) (by rw [List.getElem?_eq_getElem (List.idxOf_lt_length_iff.mpr hu), List.getElem_idxOf])
        have outN : ∀ u, u ∉ ws → valV (kyv ws (fun j => V.int (j : Int)) ws.length) (.inr (SX.S u)) = none := fun u hu => kyv_none _ (Nat.le_refl _) fun i _ e => hu (List.mem_of_getElem? e)
        have inK : ∀ u, u ∈ ys → valV (kyv ys (fun _ => V.bl true) ys.length) (.inr (SX.S u)) = some (.bl true) := fun u hu => kyv_get nd2 (fun _ => V.bl true) (Nat.le_refl _) (List.idxOf_lt_length_iff.mpr hu) (by rw [List.getElem?_eq_getElem (List.idxOf_lt_length_iff.mpr hu), List.getElem_idxOf])
        have outK : ∀ u, u ∉ ys → valV (kyv ys (fun _ => V.bl true) ys.length) (.inr (SX.S u)) = none := fun u hu => kyv_none _ (Nat.le_refl _) fun i _ e => hu (List.mem_of_getElem? e)
        refine ⟨_, rfl, Nat.zero_le _, fun N hN => ?_⟩
        have sN : Same H4 (upd H4 N (.lst [])) := Same.new _ hN
        have gN : upd H4 N (.lst []) N = some (.lst []) := upd_same
        have hN0 : H N = none := s04.free hN
        have nND : D ≠ N := fun z => by rw [z, hN] at hD4; cases hD4
        have nNE : D2 ≠ N := fun z => by rw [z, hN] at hE4; cases hE4
        have hD5 := sN _ _ hD4
        have hE5 := sN _ _ hE4
        have s05 := s04.trans sN
        generalize upd H4 N (.lst []) = H5 at *
        refine ⟨_, rfl, _, rfl, for_it (walk_str (z := SX.S x)) (fun i σ H' => ∃ (pl ns : List Nat) (v7 v8 v9 v10 : Option V), σ = [some (.ref p), some (.str (SX.S st)), some (.str (SX.S x)), some (.ref D), some (.ref D2), some (.str (SX.S pl)), some (.ref N), v7, v8, v9, v10] ∧ H' N = some (.lst (nums ns)) ∧ Ex N H5 H' ∧ gone ws (x.take i) st [] = some (pl, ns) ∧ pl.length ≤ 12 ∧ ns.length ≤ i) ?_ ?_ ?_ ?_⟩
        · exact ⟨st, [], none, none, none, none, rfl, gN, Ex.refl _ _, rfl, hst, Nat.le_refl _⟩
        · exact fun _ _ _ _ _ => trivial
        · rintro i v σ H6 H7 hi ⟨pl, ns, v7, v8, v9, v10, rfl, hN6, x6, hg, hpl2, hnl⟩ ⟨rfl, c, hc, rfl⟩
          have q : x[i]? = some c := by simpa using hc
          have hi2 : i < x.length := (List.getElem?_eq_some_iff.mp q).1
          have gs := gone_snoc (ws := ws) (s := st) (ns := []) q
          rw [hg] at gs
          have hD6 := x6 _ _ nND hD5
          have hE6 := x6 _ _ nNE hE5
          have nl : (nums ns).length = ns.length := List.length_map _
          refine ⟨_, rfl, _, rfl, SX.S pl, SX.S [c], rfl, rfl, le_size (by rw [SX.S_len, SX.S_len, List.length_singleton]; omega), ?_⟩
          have ecat : SX.S pl ++ SX.S [c] = SX.S (pl ++ [c]) := S_cat pl [c]
          rw [ecat]
          by_cases m : pl ++ [c] ∈ ws
          · have hv := inN _ m
            refine ⟨_, rfl, _, rfl, D, _, rfl, .inl ⟨_, .inr (SX.S (pl ++ [c])), .inl hD6, rfl, hv.symm⟩, _, rfl, iteT ?_⟩
            refine ⟨_, rfl, .inl ⟨rfl, _, SqL.of hN6⟩, _, rfl, _, rfl, D, _, rfl, .inl ⟨_, .inr (SX.S (pl ++ [c])), .inl hD6, rfl, hv.symm⟩, N, _, _, rfl, rfl, hN6, lt_size (by rw [nl]; omega), ?_⟩
            refine ⟨[], ns ++ [ws.idxOf (pl ++ [c])], _, _, _, _, rfl, by rw [upd_same, ← nums_cat]; rfl, x6.trans (Ex.upd _), ?_, Nat.zero_le _, by simp; omega⟩
            rw [gs]
            show (if pl ++ [c] ∈ ws then _ else _) = _
            rw [if_pos m]
          · have hv := outN _ m
            refine ⟨_, rfl, _, rfl, D, _, rfl, .inl ⟨_, .inr (SX.S (pl ++ [c])), .inl hD6, rfl, hv.symm⟩, _, rfl, iteF ?_⟩
            by_cases e : ∃ w ∈ ws, pl ++ [c] <+: w
            · have hin : pl ++ [c] ∈ ys := (hys.2.2 _).mpr (let ⟨w, hw, hp⟩ := e; ⟨w, hw, hp, fun z => m (z ▸ hw)⟩)
              have hv2 := inK _ hin
              refine ⟨_, rfl, _, rfl, D2, _, rfl, .inl ⟨_, .inr (SX.S (pl ++ [c])), .inl hE6, rfl, hv2.symm⟩, _, rfl, iteF ?_⟩
              refine ⟨pl ++ [c], ns, _, _, _, _, rfl, hN6, x6, ?_, ?_, by omega⟩
              · rw [gs]
                show (if pl ++ [c] ∈ ws then _ else if ∃ w ∈ ws, pl ++ [c] <+: w then _ else _) = _
                rw [if_neg m, if_pos e]
              · obtain ⟨w, hw, hp⟩ := e
                have := hp.length_le
                have := (w3 w hw).2.1
                omega
            · have hout : pl ++ [c] ∉ ys := fun z => e (let ⟨w, hw, hp, _⟩ := (hys.2.2 _).mp z; ⟨w, hw, hp⟩)
              have hv2 := outK _ hout
              refine ⟨_, rfl, _, rfl, D2, _, rfl, .inl ⟨_, .inr (SX.S (pl ++ [c])), .inl hE6, rfl, hv2.symm⟩, _, rfl, iteT ?_⟩
              refine ⟨_, rfl, le_size (by simp), fun t ht => ?_⟩
              have stt : Same H7 (upd H7 t (.tup [.non, .ref N])) := Same.new _ ht
              have sAll : Same H (upd H7 t (.tup [.non, .ref N])) := fun a o h => stt _ _ (x6 _ _ (fun z => by rw [z, hN0] at h; cases h) (s05 _ _ h))
              refine k _ t N .non ns sAll hN0 upd_same (stt _ _ hN6) (.inl ⟨rfl, gone_out (i := i + 1) ?_⟩) (by omega)
              rw [gs]
              show (if pl ++ [c] ∈ ws then _ else if ∃ w ∈ ws, pl ++ [c] <+: w then _ else _) = _
              rw [if_neg m, if_neg e]
        · rintro σ H6 ⟨pl, ns, v7, v8, v9, v10, rfl, hN6, x6, hg, hpl2, hnl⟩
          have hlen : (SX.S x).cps.size = x.length := SX.S_len x
          rw [hlen, List.take_length] at hg
          rw [hlen] at hnl
          refine ⟨_, rfl, _, rfl, le_size (by simp), fun t ht => ?_⟩
          have stt : Same H6 (upd H6 t (.tup [.str (SX.S pl), .ref N])) := Same.new _ ht
          have sAll : Same H (upd H6 t (.tup [.str (SX.S pl), .ref N])) := fun a o h => stt _ _ (x6 _ _ (fun z => by rw [z, hN0] at h; cases h) (s05 _ _ h))
          exact k _ t N _ ns sAll hN0 upd_same (stt _ _ hN6) (.inr ⟨pl, rfl, hg⟩) hnl
end
end J


set_option Elab.async false
set_option linter.all false
set_option maxRecDepth 100000
set_option maxHeartbeats 4000000
namespace J
open PySem L2
/-! ### go, and the law's own reader -/
/-- what a reader tells: None, or a new tuple of where it stands and a new list of numbers -/
def Rt (H H' : Hp) (v : V) (o : Option (List Nat × List Nat)) : Prop := (o = none ∧ v = .non) ∨ ∃ (t l : Addr) (st ns : List Nat), o = some (st, ns) ∧ v = .ref t ∧ H l = none ∧ H' t = some (.tup [.str (SX.S st), .ref l]) ∧ H' l = some (.lst (nums ns))
def spGo (C : Addr) : Sp := fun vs H Q _ => ∃ (p : Addr) (sg : List Nat) (us : List V) (ws : List (List Nat)) (st x : List Nat), vs = [.ref p, .str (SX.S st), .str (SX.S x)] ∧ LoomAt C H p sg us (bka ws) ∧ Plain ws ∧ Stnd ws st ∧ x.length ≤ 2000 ∧ (∀ c ∈ x, c ∈ sg) ∧
  ∀ H' v, Same H H' → Rt H H' v (gone ws x st []) → Q v H'
def spGone : Sp := fun vs H Q _ => ∃ (q : Addr) (ws : List (List Nat)) (st x : List Nat), vs = [.ref q, .str (SX.S st), .str (SX.S x)] ∧ H q = some (.lst (txts ws)) ∧ ws.Nodup ∧ ws.length ≤ 200 ∧ (∀ w ∈ ws, w.length ≤ 12) ∧ st.length ≤ 12 ∧ x.length ≤ 2000 ∧
  ∀ H' v, Same H H' → Rt H H' v (gone ws x st []) → Q v H'
theorem inV_txts (u : List Nat) (l : List (List Nat)) : inV (V.str (SX.S u)) (txts l) = decide (u ∈ l) := by
  unfold inV txts
  rw [List.any_map]
  by_cases c : u ∈ l
  · rw [decide_eq_true c, List.any_eq_true]
    exact ⟨u, c, by show (SX.S u == SX.S u) = true; simp⟩
  · rw [decide_eq_false c, List.any_eq_false]
    intro v hv
    show ¬ (SX.S v == SX.S u) = true
    intro q
    exact c (S_inj (beq_iff_eq.mp q) ▸ hv)
theorem flats (l : List (List Nat)) : (txts l).all flatV = true := by simp [txts, flatV]
theorem str_dec' (u v : List Nat) : decide (V.str (SX.S u) = V.str (SX.S v)) = decide (u = v) := decide_eq_decide.mpr ⟨fun h => by injection h with h; exact S_inj h, fun h => by rw [h]⟩
section
variable {P : Program} {w : World} {K : PySem.W.Frag} {mg : Str → Option Value} {base : Heap}
theorem ok_go (T : Tx K mg) : FnOk P w K mg base CX0 8 T.f_go T.fd_go P_go (spGo T.C_Loom) := by
  have G_standings : FnOk P w K mg base CX0 6 T.f_standings T.fd_standings P_standings (spStand T.C_Loom) := ok_standings T
  have G_check_text : FnOk P w K mg base CX0 2 T.f_check_text T.fd_check_text P_check_text spCText := ok_check_text T
  have G_read_on : FnOk P w K mg base CX0 7 T.f_read_on T.fd_read_on P_read_on (spReadOn T.C_Loom) := ok_read_on T
  refine T.F_go.ok sc_go (fun vs H Q E h => ?_) (fun cdv A outer s H vs Q E hr h => ?_)
  · obtain ⟨p, sg, us, ws, st, x, rfl, _⟩ := h
    rfl
  · obtain ⟨p, sg, us, ws, st, x, rfl, hL, hpl, hst, hx, hxs, k⟩ := h
    refine ⟨_, (pss_cons (ps_set (i := 3) sc_go.nd rfl (Or.inl rfl) (pe_call G_standings (hr.mono (by decide)) rfl T.m_standings T.F_standings.kp T.b_standings .nil pass0 (pa_cons (pv 0) pa_nil)))
        (pss_cons (ps_if (PW.pt (pw_or (pt_not (pt_val (pe_callB (call_isiK' (K := K) rfl) rfl T.n_isinstance (by decide +kernel) (pa_cons (pv 1) (pa_cons (pe_bltn (v := V.ty "str") (u := .type "str") rfl T.n_str (by decide +kernel) rfl) pa_nil))))) (pw_or1 (pt_cmpR op_notIn_seq (pv 1) (pv 3) rfl)))) (pss_one ps_never) pss_nil)
        (pss_cons (ps_expr (pe_call G_check_text (hr.mono (by decide)) rfl T.m_check_text T.F_check_text.kp T.b_check_text .nil pass0 (pa_cons (pe_fld (pv 0) rfl) (pa_cons (pv 2) pa_nil))))
        (pss_cons (ps_asg (pe_call G_read_on (hr.mono (by decide)) rfl T.m_read_on T.F_read_on.kp T.b_read_on .nil pass0 (pa_cons (pv 0) (pa_cons (pv 1) (pa_cons (pv 2) pa_nil)))) (pg_tup rfl (pgs_cons (pg_name (i := 4) sc_go.nd rfl (Or.inl rfl)) (pgs_cons (pg_name (i := 5) sc_go.nd rfl (Or.inl rfl)) pgs_nil))))
        (pss_one (ps_ret (pe_ifExp (pt_cmpR op_isN (pv 4) pe_non (nomark _)) pe_non (pe_tup (pa_cons (pv 4) (pa_cons (pv 5) pa_nil)))))))))), ?_⟩
    obtain ⟨_, _, _, _, _, hok, _⟩ := id hL
    obtain ⟨w1, w2, w3⟩ := bka_words hok
    have hstl : st.length ≤ 12 := by
      obtain ⟨w, hw, hp, _⟩ := hst
      have := hp.length_le
      have := (w3 w hw).2.1
      omega
    refine ⟨_, rfl, p, sg, us, ws, rfl, hL, hpl, fun H1 r ys s1 hr0 hr1 hys hyl => ?_⟩
    have hin : st ∈ ys := (hys.2.2 st).mpr hst
    refine ⟨_, rfl, _, _, _, _, true, rfl, .ty "str", .base (.str _), kit_ty (by decide +kernel), true, rfl, iteF ?_⟩
    refine ⟨_, rfl, _, rfl, r, txts ys, rfl, .inl (SqL.of hr1), rfl, flats ys, ?_⟩
    rw [if_pos rfl, inV_txts, decide_eq_true hin]
    refine ⟨false, rfl, iteF ?_⟩
    have hL1 := hL.same s1
    obtain ⟨dx, TT, hq, hT, harc, hok', hsg⟩ := id hL1
    refine ⟨_, rfl, p, _, dx, _, _, rfl, hq, T.cl_Loom, T.na_Loom_signs, lf_signs _ _, ?_⟩
    refine ⟨_, rfl, sg, x, rfl, hx, hxs, fun H2 s2 => ?_⟩
    refine ⟨_, rfl, _, rfl, _, rfl, p, sg, us, ws, st, x, rfl, hL1.same s2, hpl, hstl, hx, fun H3 t l v ns s3 hl0 ht hl hres hnl => ?_⟩
    have s03 := (s1.trans s2).trans s3
    have hl00 : H l = none := (s1.trans s2).free hl0
    refine ⟨t, _, rfl, SqT.of ht, rfl, _, _, rfl, _, _, rfl, rfl, ?_⟩
    rcases hres with ⟨rfl, hg⟩ | ⟨st', rfl, hg⟩
    · refine ⟨_, rfl, rfl, _, rfl, iteT ?_⟩
      exact k H3 _ s03 (.inl ⟨hg, rfl⟩)
    · refine ⟨_, rfl, rfl, _, rfl, iteF ?_⟩
      refine ⟨_, rfl, _, rfl, le_size (by simp), fun t2 ht2 => ?_⟩
      have s4 : Same H3 (upd H3 t2 (.tup [.str (SX.S st'), .ref l])) := Same.new _ ht2
      exact k _ _ (s03.trans s4) (.inr ⟨t2, l, st', ns, hg, rfl, hl00, upd_same, s4 _ _ hl⟩)
theorem ok_l_gone (T : Tx K mg) : FnOk P w K mg base CX0 1 T.f_l_gone T.fd_l_gone P_l_gone spGone := by
  refine T.F_l_gone.ok sc_l_gone (fun vs H Q E h => ?_) (fun cdv A outer s H vs Q E hr h => ?_)
  · obtain ⟨q, ws, st, x, rfl, _⟩ := h
    rfl
  · obtain ⟨q, ws, st, x, rfl, hq, nd, hwl, hw, hst, hx, k⟩ := h
    refine ⟨_, (pss_cons (ps_set (i := 3) sc_l_gone.nd rfl (Or.inl rfl) (pe_lst pa_nil))
        (pss_cons (ps_for PassesOwn.never rfl (pi_str (pv 2)) (pg_name (i := 4) sc_l_gone.nd rfl (Or.inl rfl)) (pss_cons (ps_set (i := 1) sc_l_gone.nd rfl (Or.inr rfl) (pe_op op_add_str (pv 1) (pv 4)))
        (pss_one (ps_if (pt_cmpR op_in_seq (pv 1) (pv 0) rfl) (pss_cons (ps_expr (pe_bm PySem.F.plainAttrs_list PySem.F.slot_list_append PySem.F.type_list_append mt_append (pv 3) (pa_cons (pe_bm PySem.F.plainAttrs_list PySem.F.slot_list_index PySem.F.type_list_index mt_index (pv 0) (pa_cons (pv 1) pa_nil)) pa_nil)))
        (pss_one (ps_set (i := 1) sc_l_gone.nd rfl (Or.inr rfl) pe_str))) (pss_one (ps_if (pt_cmpR op_eq (pe_callB (call_len_seqK (K := K) rfl) rfl T.n_len (by decide +kernel) (pa_cons (pe_lc (own := [("_law_word_here", 5)]) (g := (gName 5)) rfl sc_l_gone.nd (pi_list (pv 0)) (blkOk_by (N := N_l_gone) (sc := defScope s_l_gone) (by decide +kernel)) (fun _ _ _ _ _ => (pg_name (i := 5) sc_l_gone.nd rfl (Or.inl rfl))) (fun _ _ _ _ _ => (pts_one (pt_cmpR op_eq (pe_slice sl_str (pv 5) po_none (po_some (pe_callB call_len_str rfl T.n_len (by decide +kernel) (pa_cons (pv 1) pa_nil)))) (pv 1) (nomark _)))) (fun _ _ _ _ _ => (pv 5))) pa_nil)) pe_int (nomark _)) (pss_one (ps_ret pe_non)) pss_nil))))))
        (pss_one (ps_ret (pe_tup (pa_cons (pv 1) (pa_cons (pv 3) pa_nil))))))), ?_⟩
    refine ⟨Nat.zero_le _, fun N hN => ?_⟩
    have sN : Same H (upd H N (.lst [])) := Same.new _ hN
    have gN : upd H N (.lst []) N = some (.lst []) := upd_same
    have nNq : q ≠ N := fun z => by rw [z, hN] at hq; cases hq
    have hq1 := sN _ _ hq
    generalize upd H N (.lst []) = H1 at *
    have back : ∀ {H'}, Ex N H1 H' → Same H H' := fun {H'} x6 a o h => x6 _ _ (fun z => by rw [z, hN] at h; cases h) (sN _ _ h)
    refine ⟨_, rfl, _, rfl, for_it (walk_str (z := SX.S x)) (fun i σ H' => ∃ (pl ns : List Nat) (v4 v5 : Option V), σ = [some (.ref q), some (.str (SX.S pl)), some (.str (SX.S x)), some (.ref N), v4, v5] ∧ H' N = some (.lst (nums ns)) ∧ Ex N H1 H' ∧ gone ws (x.take i) st [] = some (pl, ns) ∧ pl.length ≤ 12 ∧ ns.length ≤ i) ?_ ?_ ?_ ?_⟩
    · exact ⟨st, [], none, none, rfl, gN, Ex.refl _ _, rfl, hst, Nat.le_refl _⟩
    · exact fun _ _ _ _ _ => trivial
    · rintro i v σ H6 H7 hi ⟨pl, ns, v4, v5, rfl, hN6, x6, hg, hpl2, hnl⟩ ⟨rfl, c, hc, rfl⟩
      have hcx : x[i]? = some c := by simpa using hc
      have hi2 : i < x.length := (List.getElem?_eq_some_iff.mp hcx).1
      have gs := gone_snoc (ws := ws) (s := st) (ns := []) hcx
      rw [hg] at gs
      have hq6 := x6 _ _ nNq hq1
      have nl : (nums ns).length = ns.length := List.length_map _
      refine ⟨_, rfl, _, rfl, SX.S pl, SX.S [c], rfl, rfl, le_size (by rw [SX.S_len, SX.S_len, List.length_singleton]; omega), ?_⟩
      have ecat : SX.S pl ++ SX.S [c] = SX.S (pl ++ [c]) := S_cat pl [c]
      rw [ecat]
      have plen : (pl ++ [c]).length ≤ 13 := by rw [List.length_append, List.length_singleton]; omega
      refine ⟨_, rfl, _, rfl, q, txts ws, rfl, .inl (SqL.of hq6), rfl, flats ws, ?_⟩
      rw [if_neg Bool.false_ne_true, inV_txts]
      refine ⟨_, rfl, ?_⟩
      refine ite2 (fun m => ?_) (fun m => ?_)
      · have m := of_decide_eq_true m
        have hj := List.idxOf_lt_length_iff.mpr m
        have hat : ws[ws.idxOf (pl ++ [c])]? = some (pl ++ [c]) := by rw [List.getElem?_eq_getElem hj, List.getElem_idxOf]
        refine ⟨_, rfl, .inl ⟨rfl, _, SqL.of hN6⟩, _, rfl, .inl ⟨rfl, _, SqL.of hq6⟩, _, rfl, q, txts ws, _, ws.idxOf (pl ++ [c]), _, rfl, rfl, SqL.of hq6, rfl, flats ws, by rw [txts, List.getElem?_map, hat]; rfl, ?_, ?_, N, _, _, rfl, rfl, hN6, lt_size (by rw [nl]; omega), ?_⟩
        · show (SX.S (pl ++ [c]) == SX.S (pl ++ [c])) = true
          simp
        · intro j z hj2 hz
          obtain ⟨u, hu, rfl⟩ := txt_at hz
          show (SX.S u == SX.S (pl ++ [c])) = false
          rw [beq_eq_false_iff_ne]
          intro e
          have e := S_inj e
          subst e
          have := (List.getElem?_eq_some_iff.mp hu).2
          have hjl := (List.getElem?_eq_some_iff.mp hu).1
          have i1 := nd.idxOf_getElem j hjl
          rw [this] at i1
          omega
        · refine ⟨[], ns ++ [ws.idxOf (pl ++ [c])], _, _, rfl, by rw [upd_same, ← nums_cat]; rfl, x6.trans (Ex.upd _), ?_, Nat.zero_le _, by simp; omega⟩
          rw [gs]
          show (if pl ++ [c] ∈ ws then _ else _) = _
          rw [if_pos m]
      · have m : pl ++ [c] ∉ ws := fun z => m (decide_eq_true z)
        refine ⟨_, rfl, q, rfl, ⟨_, SqL.of hq6⟩, fun D hD => lc_list (K := K) (a := q) (xs := txts ws) (fun j H' => H' D = some (.lst (txts ((ws.take j).filter fun w => decide (pl ++ [c] <+: w)))) ∧ Same H7 H') ⟨upd_same, Same.new _ hD⟩ (fun j H' _ ⟨_, sm⟩ => SqL.of (sm _ _ hq6)) ?_ ?_⟩
        · rintro j y H8 hy ⟨hDl, sm⟩
          obtain ⟨u, hu, rfl⟩ := txt_at hy
          have hul := hw u (List.mem_of_getElem? hu)
          have et : ws.take (j + 1) = ws.take j ++ [u] := by rw [List.take_add_one, hu]; rfl
          refine ⟨rfl, _, rfl, _, rfl, _, rfl, le_size (by rw [SX.S_len]; omega), _, rfl, _, rfl, le_size (by rw [SX.S_len]; omega), ?_⟩
          rw [SX.S_len, TxO.cut_to]
          refine ⟨_, rfl, rfl, _, rfl, ?_⟩
          rw [str_dec']
          refine ite2 (fun d => ?_) (fun d => ?_)
          · have hp := TxO.pre_take.mp (of_decide_eq_true d)
            refine ⟨_, rfl, _, hDl, lt_size ?_, ?_, sm.updNew hD⟩
            · rw [txts_len]
              have := List.length_filter_le (fun w : List Nat => decide (pl ++ [c] <+: w)) (ws.take j)
              rw [List.length_take] at this
              omega
            · rw [upd_same, et, List.filter_append]
              have : List.filter (fun w : List Nat => decide (pl ++ [c] <+: w)) [u] = [u] := by simp [hp]
              rw [this, ← txts_cat]
              rfl
          · have hp : ¬ (pl ++ [c] <+: u) := fun z => d (decide_eq_true (TxO.pre_take.mpr z))
            refine ⟨?_, sm⟩
            rw [hDl, et, List.filter_append]
            have : List.filter (fun w : List Nat => decide (pl ++ [c] <+: w)) [u] = [] := by simp [hp]
            rw [this, List.append_nil]
        · rintro H8 ⟨hDl, sm⟩
          rw [txts_len, List.take_length] at hDl
          have hN8 := sm _ _ hN6
          have x8 : Ex N H1 H8 := x6.trans (Same.ex sm)
          refine ⟨D, _, rfl, .inl (SqL.of hDl), rfl, _, rfl, ?_⟩
          rw [txts_len]
          by_cases e : ∃ w ∈ ws, pl ++ [c] <+: w
          · have hne : (ws.filter fun w => decide (pl ++ [c] <+: w)).length ≠ 0 := fun z => by
              obtain ⟨w, hw, hp⟩ := e
              have := List.eq_nil_of_length_eq_zero z
              have hm : w ∈ ws.filter fun w => decide (pl ++ [c] <+: w) := List.mem_filter.mpr ⟨hw, decide_eq_true hp⟩
              rw [this] at hm
              cases hm
            refine ite2 (fun z => absurd (of_decide_eq_true z) (fun z => hne (by injection z with z; omega))) (fun _ => ?_)
            refine ⟨pl ++ [c], ns, _, _, rfl, hN8, x8, ?_, ?_, by omega⟩
            · rw [gs]
              show (if pl ++ [c] ∈ ws then _ else if ∃ w ∈ ws, pl ++ [c] <+: w then _ else _) = _
              rw [if_neg m, if_pos e]
            · obtain ⟨w, hww, hp⟩ := e
              have := hp.length_le
              have := hw w hww
              omega
          · have hz : (ws.filter fun w => decide (pl ++ [c] <+: w)).length = 0 := by
              rw [List.length_eq_zero_iff, List.filter_eq_nil_iff]
              intro w hww z
              exact e ⟨w, hww, of_decide_eq_true z⟩
            refine ite2 (fun _ => ?_) (fun z => absurd (decide_eq_true (congrArg V.int (by omega))) z)
            refine k H8 _ (back x8) (.inl ⟨gone_out (i := i + 1) ?_, rfl⟩)
            rw [gs]
            show (if pl ++ [c] ∈ ws then _ else if ∃ w ∈ ws, pl ++ [c] <+: w then _ else _) = _
            rw [if_neg m, if_neg e]
    · rintro σ H6 ⟨pl, ns, v4, v5, rfl, hN6, x6, hg, hpl2, hnl⟩
      have hlen : (SX.S x).cps.size = x.length := SX.S_len x
      rw [hlen, List.take_length] at hg
      refine ⟨_, rfl, _, rfl, le_size (by simp), fun t ht => ?_⟩
      have stt : Same H6 (upd H6 t (.tup [.str (SX.S pl), .ref N])) := Same.new _ ht
      exact k _ _ ((back x6).trans stt) (.inr ⟨t, N, pl, ns, hg, rfl, hN, upd_same, stt _ _ hN6⟩)
end
end J


set_option Elab.async false
set_option linter.all false
set_option maxRecDepth 100000
set_option maxHeartbeats 4000000
namespace J
open PySem L2
/-! ### the law's trees and texts -/
/-- a word of at most so many signs -/
def WordL (sg : List Nat) (m : Nat) (u : List Nat) : Prop := 1 ≤ u.length ∧ u.length ≤ m ∧ ∀ c ∈ u, c ∈ sg
theorem WordL.word {sg : List Nat} {m : Nat} {u : List Nat} (h : WordL sg m u) (hm : m ≤ 12) : Word sg u := ⟨h.1, Nat.le_trans h.2.1 hm, h.2.2⟩
theorem at_txt {ws : List (List Nat)} {r : Int} (h0 : 0 ≤ r) (h1 : r < ((txts ws).length : Int)) : ∃ u, u ∈ ws ∧ atI (txts ws) r = some (.str (SX.S u)) := by
  obtain ⟨v, hv, hat⟩ := atI_mem (xs := txts ws) h0 h1
  obtain ⟨u, huw, rfl⟩ := List.mem_map.mp hv
  exact ⟨u, huw, hat⟩
/-- the signs as words -/
def ones (sg : List Nat) : List (List Nat) := sg.map fun c => [c]
theorem one_pre {u : List Nat} {c d : Nat} (h : u ++ [c] <+: u ++ [d]) : c = d := by
  have := List.prefix_append_right_inj u |>.mp h
  have := List.prefix_iff_eq_take.mp this
  simpa using this
theorem plain_ext {sg : List Nat} (hs : sg.Pairwise (· < ·)) (u : List Nat) : Plain (sg.map fun c => u ++ [c]) := by
  refine List.pairwise_map.mpr (hs.imp fun {c d} h => ⟨fun p => ?_, fun p => ?_⟩)
  · have := one_pre p; omega
  · have := one_pre p; omega
theorem plain_ones {sg : List Nat} (hs : sg.Pairwise (· < ·)) : Plain (ones sg) := plain_ext hs []
/-- a word is parted by the next sign -/
theorem plain_grow {sg : List Nat} (hs : sg.Pairwise (· < ·)) {ws : List (List Nat)} (h : Plain ws) {j : Nat} {u : List Nat} (hj : ws[j]? = some u) : Plain (ws.eraseIdx j ++ sg.map fun c => u ++ [c]) := by
  obtain ⟨hl, e⟩ := List.getElem?_eq_some_iff.mp hj
  have pm : ws.Perm (u :: ws.eraseIdx j) := by
    have e2 : ws = ws.take j ++ u :: ws.drop (j + 1) := by
      rw [← e, ← List.drop_eq_getElem_cons hl, List.take_append_drop]
    rw [List.eraseIdx_eq_take_drop_succ]
    exact (List.Perm.of_eq e2).trans List.perm_middle
  have h2 := List.pairwise_cons.mp (h.perm pm.symm)
  refine List.pairwise_append.mpr ⟨h2.2, plain_ext hs u, fun v hv x hx => ?_⟩
  obtain ⟨c, _, rfl⟩ := List.mem_map.mp hx
  obtain ⟨a, b⟩ := h2.1 v hv
  refine ⟨fun p => ?_, fun p => a ((List.prefix_append u [c]).trans p)⟩
  by_cases l : v.length ≤ u.length
  · exact b (List.prefix_of_prefix_length_le p (List.prefix_append u [c]) l)
  · have hl := p.length_le
    rw [List.length_append, List.length_singleton] at hl
    have := p.eq_of_length (by rw [List.length_append, List.length_singleton]; omega)
    exact a (this ▸ List.prefix_append u [c])
def spTree (K : PySem.W.Frag) (ns : List Int) : Sp := fun vs H Q _ => ∃ (a p : Addr) (sg : List Nat), vs = [.ref a, .ref p, .str (SX.S sg), .int 4, .int 5] ∧ St K ns a H p ∧ Signs sg ∧
  ∀ H' (r : Addr) us, Ex p H H' → St K ns a H' p → H r = none → r ≠ p → H' r = some (.lst (txts us)) → Plain us → 1 ≤ us.length → us.length ≤ 40 → (∀ u ∈ us, WordL sg 5 u) → Q (.ref r) H'
def spText (K : PySem.W.Frag) (ns : List Int) : Sp := fun vs H Q _ => ∃ (a p q : Addr) (sg : List Nat) (ws : List (List Nat)), vs = [.ref a, .ref p, .str (SX.S sg), .ref q] ∧ St K ns a H p ∧ q ≠ p ∧ H q = some (.lst (txts ws)) ∧ Signs sg ∧ (∀ u ∈ ws, WordL sg 5 u) ∧ 1 ≤ ws.length ∧ ws.length ≤ 40 ∧
  ∀ H' x, Ex p H H' → St K ns a H' p → x.length ≤ 40 → (∀ c ∈ x, c ∈ sg) → Q (.str (SX.S x)) H'
section
variable {P : Program} {w : World} {K : PySem.W.Frag} {mg : Str → Option Value} {base : Heap}
theorem ok_l_tree (T : Tx K mg) (ns : List Int) : FnOk P w K mg base CX0 3 T.f_l_tree T.fd_l_tree P_l_tree (spTree K ns) := by
  have G_l_take : FnOk P w K mg base CX0 1 T.f_l_take T.fd_l_take P_l_take (spTake K ns) := ok_l_take T ns
  have G_l_shuffled : FnOk P w K mg base CX0 2 T.f_l_shuffled T.fd_l_shuffled P_l_shuffled (spShuf K ns) := ok_l_shuffled T ns
  refine T.F_l_tree.ok sc_l_tree (fun vs H Q E h => ?_) (fun cdv A outer s H vs Q E hr h => ?_)
  · obtain ⟨a, p, sg, rfl, _⟩ := h
    rfl
  · obtain ⟨a, p, sg, rfl, hst, hsg, k⟩ := h
    refine ⟨_, (pss_cons (ps_setLc (i := 5) (own := [("_law_sign", 9)]) (g := (gName 9)) rfl sc_l_tree.nd rfl rfl (sw_true rfl rfl rfl (by decide +kernel)) (pi_str (pv 2)) (blkOk_by (N := N_l_tree) (sc := defScope s_l_tree) (by decide +kernel)) (fun _ _ _ _ _ => (pg_name (i := 9) sc_l_tree.nd rfl (Or.inl rfl))) (fun _ _ _ _ _ => pts_nil) (fun _ _ _ _ _ => (pv 9)))
        (pss_cons (ps_for PassesOwn.never rfl (pi_range1 rfl T.n_range (pa_cons (pe_call G_l_take (hr.mono (by decide)) rfl T.m_l_take T.F_l_take.kp T.b_l_take .nil pass0 (pa_cons (pv 0) (pa_cons (pv 1) (pa_cons (pe_op op_add (pv 3) pe_int) pa_nil)))) pa_nil)) (pg_name (i := 6) sc_l_tree.nd rfl (Or.inl rfl)) (pss_cons (ps_set (i := 7) sc_l_tree.nd rfl (Or.inl rfl) (pe_call G_l_take (hr.mono (by decide)) rfl T.m_l_take T.F_l_take.kp T.b_l_take .nil pass0 (pa_cons (pv 0) (pa_cons (pv 1) (pa_cons (pe_callB (call_len_seqK (K := K) rfl) rfl T.n_len (by decide +kernel) (pa_cons (pv 5) pa_nil)) pa_nil)))))
        (pss_one (ps_if (pt_cmpR op_lt (pe_callB call_len_str rfl T.n_len (by decide +kernel) (pa_cons (pe_ix (ix_listK (K := K) rfl) (pv 5) (pv 7) (fun _ _ => rfl)) pa_nil)) (pv 4) (nomark _)) (pss_cons (ps_set (i := 8) sc_l_tree.nd rfl (Or.inr rfl) (pe_bm PySem.F.plainAttrs_list PySem.F.slot_list_pop PySem.F.type_list_pop mt_popAt (pv 5) (pa_cons (pv 7) pa_nil)))
        (pss_one (ps_set (i := 5) sc_l_tree.nd rfl (Or.inl rfl) (pe_op op_cat (pv 5) (pe_lc (own := [("_law_sign", 9)]) (g := (gName 9)) rfl sc_l_tree.nd (pi_str (pv 2)) (blkOk_by (N := N_l_tree) (sc := defScope s_l_tree) (by decide +kernel)) (fun _ _ _ _ _ => (pg_name (i := 9) sc_l_tree.nd rfl (Or.inl rfl))) (fun _ _ _ _ _ => pts_nil) (fun _ _ _ _ _ => (pe_op op_add_str (pv 8) (pv 9)))))))) pss_nil))))
        (pss_one (ps_ret (pe_call G_l_shuffled (hr.mono (by decide)) rfl T.m_l_shuffled T.F_l_shuffled.kp T.b_l_shuffled .nil pass0 (pa_cons (pv 0) (pa_cons (pv 1) (pa_cons (pv 5) pa_nil)))))))), ?_⟩
    have hs4 := hsg.2.1
    have hs1 := hsg.1
    have hlen : (SX.S sg).cps.size = sg.length := SX.S_len sg
    refine ⟨_, rfl, _, rfl, fun F hF => lc_it (walk_str (z := SX.S sg)) (fun m H' => H' F = some (.lst (txts (ones (sg.take m)))) ∧ Same H H') ⟨upd_same, Same.new _ hF⟩ (fun _ _ _ _ => trivial) ?_ ?_⟩
    · rintro m x H6 H7 hm ⟨hDl, s6⟩ ⟨rfl, c, hc, rfl⟩
      have q : sg[m]? = some c := by simpa using hc
      have hm2 : m < sg.length := (List.getElem?_eq_some_iff.mp q).1
      refine ⟨rfl, _, rfl, _, hDl, lt_size (by rw [txts_len, ones, List.length_map, List.length_take]; omega), ?_, s6.updNew hF⟩
      rw [upd_same, List.take_add_one, q, ones, ones, List.map_append, ← txts_cat]
      rfl
    · rintro H1 ⟨hF1, s1⟩
      rw [hlen, List.take_length] at hF1
      have st1 := hst.same s1
      have nF := hst.ne hF
      refine ⟨_, rfl, _, rfl, _, rfl, _, _, rfl, rfl, a, p, 5, rfl, st1, by decide, by decide, fun H2 r x2 st2 r0 r1 => ?_⟩
      have X2 : Ex p H H2 := (Same.ex s1).trans x2
      refine ⟨_, rfl, by omega, by omega, for_range (lo := 0) (n := r.toNat) (fun i σ H' => ∃ (F : Addr) (ws : List (List Nat)) (v6 v7 v8 : Option V), σ = [some (.ref a), some (.ref p), some (.str (SX.S sg)), some (.int 4), some (.int 5), some (.ref F), v6, v7, v8, none] ∧ Ex p H H' ∧ St K ns a H' p ∧ H F = none ∧ F ≠ p ∧ H' F = some (.lst (txts ws)) ∧ Plain ws ∧ (∀ u ∈ ws, WordL sg 5 u) ∧ 1 ≤ ws.length ∧ ws.length ≤ 4 + 4 * i) ?_ ?_ ?_⟩
      · refine ⟨F, ones sg, none, none, none, rfl, X2, st2, hF, nF, x2 _ _ nF hF1, plain_ones hsg.2.2.2, fun u hu => ?_, by rw [ones, List.length_map]; omega, by rw [ones, List.length_map]; omega⟩
        obtain ⟨c, hc, rfl⟩ := List.mem_map.mp hu
        exact ⟨Nat.le_refl 1, by show 1 ≤ 5; decide, fun d hd => by rw [List.mem_singleton.mp hd]; exact hc⟩
      · rintro i σ H3 hi ⟨F, ws, v6, v7, v8, rfl, x3, st3, hF0, nF, hF3, hpl, hw, l1, l2⟩
        refine ⟨_, rfl, _, rfl, _, rfl, F, _, rfl, .inl (SqL.of hF3), a, p, _, rfl, st3, by rw [txts_len]; omega, by rw [txts_len]; omega, fun H4 r4 x4 st4 r40 r41 => ?_⟩
        rw [txts_len] at r41
        obtain ⟨j, rfl⟩ := Int.eq_ofNat_of_zero_le r40
        have hj : j < ws.length := by exact_mod_cast r41
        have ej : ws[j]? = some ws[j] := List.getElem?_eq_getElem hj
        generalize ws[j] = u at ej
        have huw := hw u (List.mem_of_getElem? ej)
        have ht : (txts ws)[j]? = some (.str (SX.S u)) := by rw [txts, List.getElem?_map, ej]; rfl
        have hF4 := x4 _ _ nF hF3
        have X4 := x3.trans x4
        refine ⟨_, rfl, _, rfl, F, _, _, _, rfl, rfl, SqL.of hF4, atI_nat ht, _, rfl, le_size (by rw [SX.S_len]; have := huw.2.1; omega), _, rfl, _, _, rfl, rfl, _, rfl, ?_⟩
        refine ite2 (fun c => ?_) (fun c => ⟨F, ws, _, _, _, rfl, X4, st4, hF0, nF, hF4, hpl, hw, l1, by omega⟩)
        have c' := of_decide_eq_true c
        rw [SX.S_len] at c'
        refine ⟨_, rfl, .inl ⟨rfl, _, SqL.of hF4⟩, _, rfl, F, txts ws, _, j, _, rfl, rfl, hF4, by omega, by omega, by rw [txts_len]; exact seq_at (by omega) (by omega), ht, ?_⟩
        rw [txts_erase]
        have X5 : Ex p H (upd H4 F (.lst (txts (ws.eraseIdx j)))) := X4.updNew hF0
        have st5 := hst.upd st4 X5 nF
        have gF5 : upd H4 F (.lst (txts (ws.eraseIdx j))) F = some (.lst (txts (ws.eraseIdx j))) := upd_same
        have le := List.length_eraseIdx_of_lt hj
        generalize upd H4 F (.lst (txts (ws.eraseIdx j))) = H5 at *
        refine ⟨_, rfl, _, rfl, _, rfl, fun D hD => lc_it (walk_str (z := SX.S sg)) (fun m H' => H' D = some (.lst (txts ((sg.take m).map fun c => u ++ [c]))) ∧ Same H5 H') ⟨upd_same, Same.new _ hD⟩ (fun _ _ _ _ => trivial) ?_ ?_⟩
        · rintro m x H6 H7 hm ⟨hDl, s6⟩ ⟨rfl, c, hc, rfl⟩
          have q : sg[m]? = some c := by simpa using hc
          have hm2 : m < sg.length := (List.getElem?_eq_some_iff.mp q).1
          refine ⟨rfl, _, rfl, _, rfl, SX.S u, SX.S [c], rfl, rfl, le_size (by rw [SX.S_len, SX.S_len, List.length_singleton]; omega), _, hDl, lt_size (by rw [txts_len, List.length_map, List.length_take]; omega), ?_, s6.updNew hD⟩
          rw [upd_same, List.take_add_one, q, List.map_append, S_cat, ← txts_cat]
          rfl
        · rintro H6 ⟨hDl, s6⟩
          rw [hlen, List.take_length] at hDl
          refine ⟨F, D, _, _, rfl, rfl, s6 _ _ gF5, hDl, le_size (by rw [txts_len, txts_len, List.length_map]; omega), fun N hN => ?_⟩
          have s7 := s6.trans (Same.new (txts (ws.eraseIdx j) ++ txts (sg.map fun c => u ++ [c]) |> HO.lst) hN)
          have X7 := X5.trans (Same.ex (p := p) s7)
          have st7 := st5.same s7
          refine ⟨N, ws.eraseIdx j ++ sg.map (fun c => u ++ [c]), _, _, _, rfl, X7, st7, X5.free (s6.free hN) ((st5.same s6).ne hN), (st5.same s6).ne hN, by rw [upd_same, txts_cat], plain_grow hsg.2.2.2 hpl ej, fun v hv => ?_, by simp; omega, by simp [le]; omega⟩
          rcases List.mem_append.mp hv with h | h
          · exact hw v (List.mem_of_mem_eraseIdx h)
          · obtain ⟨c, hc, rfl⟩ := List.mem_map.mp h
            refine ⟨by simp, by rw [List.length_append, List.length_singleton]; omega, fun d hd => ?_⟩
            rcases List.mem_append.mp hd with h | h
            · exact huw.2.2 d h
            · rw [List.mem_singleton.mp h]; exact hc
      · rintro σ H3 ⟨F, ws, v6, v7, v8, rfl, x3, st3, hF0, nF, hF3, hpl, hw, l1, l2⟩
        refine ⟨_, rfl, _, rfl, _, rfl, a, p, F, ws, rfl, st3, nF, hF3, by omega, fun H5 r5 us x5 st5 hr0 nr hr hperm => ?_⟩
        have hl := hperm.length_eq
        exact k H5 r5 us (x3.trans x5) st5 (x3.free hr0 nr) nr hr (hpl.perm hperm) (by omega) (by omega) fun u hu => hw u (hperm.mem_iff.mp hu)
theorem ok_l_text (T : Tx K mg) (ns : List Int) : FnOk P w K mg base CX0 3 T.f_l_text T.fd_l_text P_l_text (spText K ns) := by
  have G_l_take : FnOk P w K mg base CX0 1 T.f_l_take T.fd_l_take P_l_take (spTake K ns) := ok_l_take T ns
  have G_l_word : FnOk P w K mg base CX0 2 T.f_l_word T.fd_l_word P_l_word (spWord K ns) := ok_l_word T ns
  refine T.F_l_text.ok sc_l_text (fun vs H Q E h => ?_) (fun cdv A outer s H vs Q E hr h => ?_)
  · obtain ⟨a, p, q, sg, ws, rfl, _⟩ := h
    rfl
  · obtain ⟨a, p, q, sg, ws, rfl, hst, nqp, hq, hsg, hw, l1, l2, k⟩ := h
    refine ⟨_, (pss_cons (ps_set (i := 4) sc_l_text.nd rfl (Or.inl rfl) pe_str)
        (pss_cons (ps_for PassesOwn.never rfl (pi_range1 rfl T.n_range (pa_cons (pe_call G_l_take (hr.mono (by decide)) rfl T.m_l_take T.F_l_take.kp T.b_l_take .nil pass0 (pa_cons (pv 0) (pa_cons (pv 1) (pa_cons pe_int pa_nil)))) pa_nil)) (pg_name (i := 5) sc_l_text.nd rfl (Or.inl rfl)) (pss_one (ps_set (i := 4) sc_l_text.nd rfl (Or.inl rfl) (pe_op op_add_str (pv 4) (pe_ix (ix_listK (K := K) rfl) (pv 3) (pe_call G_l_take (hr.mono (by decide)) rfl T.m_l_take T.F_l_take.kp T.b_l_take .nil pass0 (pa_cons (pv 0) (pa_cons (pv 1) (pa_cons (pe_callB (call_len_seqK (K := K) rfl) rfl T.n_len (by decide +kernel) (pa_cons (pv 3) pa_nil)) pa_nil)))) (fun _ _ => rfl))))))
        (C8.pss_cut (ps_if (pt_cmpR op_eq (pe_call G_l_take (hr.mono (by decide)) rfl T.m_l_take T.F_l_take.kp T.b_l_take .nil pass0 (pa_cons (pv 0) (pa_cons (pv 1) (pa_cons pe_int pa_nil)))) pe_int (nomark _)) (pss_one (ps_set (i := 4) sc_l_text.nd rfl (Or.inl rfl) (pe_op op_add_str (pv 4) (pe_call G_l_word (hr.mono (by decide)) rfl T.m_l_word T.F_l_word.kp T.b_l_word .nil pass0 (pa_cons (pv 0) (pa_cons (pv 1) (pa_cons (pv 2) (pa_cons pe_int pa_nil)))))))) pss_nil)
        (pss_cons (ps_set (i := 6) sc_l_text.nd rfl (Or.inl rfl) (pe_call G_l_take (hr.mono (by decide)) rfl T.m_l_take T.F_l_take.kp T.b_l_take .nil pass0 (pa_cons (pv 0) (pa_cons (pv 1) (pa_cons pe_int pa_nil)))))
        (pss_one (ps_ret (pe_slice sl_str (pe_slice sl_str (pv 4) (po_some (pv 6)) po_none) po_none (po_some pe_int)))))))), ?_⟩
    refine ⟨_, rfl, _, rfl, a, p, 9, rfl, hst, by decide, by decide, fun H1 r x1 st1 r0 r1 => ?_⟩
    refine ⟨_, rfl, by omega, by omega, for_range (lo := 0) (n := r.toNat) (fun i σ H' => ∃ (f : List Nat) (v5 : Option V), σ = [some (.ref a), some (.ref p), some (.str (SX.S sg)), some (.ref q), some (.str (SX.S f)), v5, none] ∧ Ex p H H' ∧ St K ns a H' p ∧ H' q = some (.lst (txts ws)) ∧ f.length ≤ 5 * i ∧ ∀ c ∈ f, c ∈ sg) ?_ ?_ ?_⟩
    · exact ⟨[], none, rfl, x1, st1, x1 _ _ nqp hq, Nat.zero_le _, fun c hc => (nomatch hc)⟩
    · rintro i σ H2 hi ⟨f, v5, rfl, x2, st2, hq2, hfl, hfs⟩
      refine ⟨_, rfl, _, rfl, _, rfl, _, rfl, _, rfl, q, _, rfl, .inl (SqL.of hq2), a, p, _, rfl, st2, by rw [txts_len]; omega, by rw [txts_len]; omega, fun H3 r3 x3 st3 r30 r31 => ?_⟩
      obtain ⟨u, huw, hat⟩ := at_txt r30 r31
      have hul := (hw u huw).2.1
      have hq3 := x3 _ _ nqp hq2
      refine ⟨q, _, _, _, rfl, rfl, SqL.of hq3, hat, SX.S f, SX.S u, rfl, rfl, le_size (by rw [SX.S_len, SX.S_len]; omega), ?_⟩
      rw [S_cat]
      exact ⟨f ++ u, _, rfl, x2.trans x3, st3, hq3, by rw [List.length_append]; omega, fun c hc => (List.mem_append.mp hc).elim (hfs c) ((hw u huw).2.2 c)⟩
    · rintro σ H2 ⟨f, v5, rfl, x2, st2, hq2, hfl, hfs⟩
      have hfl2 : f.length ≤ 40 := by omega
      refine ⟨fun σ' H' => ∃ f : List Nat, σ' = [some (.ref a), some (.ref p), some (.str (SX.S sg)), some (.ref q), some (.str (SX.S f)), v5, none] ∧ Ex p H H' ∧ St K ns a H' p ∧ f.length ≤ 45 ∧ ∀ c ∈ f, c ∈ sg, ?_, ?_⟩
      · refine ⟨_, rfl, _, rfl, a, p, 3, rfl, st2, by decide, by decide, fun H3 r3 x3 st3 r30 r31 => ⟨rfl, _, rfl, ?_⟩⟩
        refine ite2 (fun c => ?_) (fun c => ⟨f, rfl, x2.trans x3, st3, by omega, hfs⟩)
        refine ⟨_, rfl, _, rfl, _, rfl, _, rfl, a, p, sg, 5, rfl, st3, hsg, by decide, by decide, fun H4 u x4 st4 hu hul => ?_⟩
        refine ⟨SX.S f, SX.S u, rfl, rfl, le_size (by rw [SX.S_len, SX.S_len]; omega), ?_⟩
        rw [S_cat]
        exact ⟨f ++ u, rfl, (x2.trans x3).trans x4, st4, by rw [List.length_append]; omega, fun c hc => (List.mem_append.mp hc).elim (hfs c) (hu.2.2 c)⟩
      · rintro σ' H3 ⟨f, rfl, x3, st3, hfl, hfs⟩
        refine ⟨_, rfl, _, rfl, a, p, 3, rfl, st3, by decide, by decide, fun H4 r4 x4 st4 r40 r41 => ?_⟩
        obtain ⟨n, rfl⟩ := Int.eq_ofNat_of_zero_le r40
        refine ⟨_, rfl, _, rfl, _, rfl, _, rfl, le_size (by rw [SX.S_len]; omega), ?_⟩
        rw [TxO.cut_from]
        refine ⟨_, rfl, _, rfl, le_size (by rw [SX.S_len, List.length_drop]; omega), ?_⟩
        rw [show (40 : Int) = ((40 : Nat) : Int) from rfl, TxO.cut_to]
        exact k H4 _ (x3.trans x4) st4 (by rw [List.length_take]; omega) fun c hc => hfs c (List.mem_of_mem_drop (List.mem_of_mem_take hc))
end
end J


set_option Elab.async false
set_option linter.all false
set_option maxRecDepth 100000
set_option maxHeartbeats 4000000
namespace J
open PySem L2
/-! ### what a reader tells, as data; how it goes on -/
def numD (ns : List Nat) : List PyData := ns.map fun (n : Nat) => PyData.int (n : Int)
theorem dp_nums {K : PySem.W.Frag} {H : Hp} : ∀ ns : List Nat, DpAll K H (nums ns) (numD ns)
  | [] => .nil
  | _ :: r => .cons (.int _) (dp_nums r)
theorem lay_nums : ∀ ns : List Nat, PyData.canLayAll0 (numD ns) = true
  | [] => rfl
  | n :: r => by
    show (PyData.canLay0 (.int (n : Int)) && PyData.canLayAll0 (numD r)) = true
    rw [lay_nums r]
    rfl
theorem deep_nums : ∀ ns : List Nat, PyData.depthAll (numD ns) = 0
  | [] => by simp [numD, PyData.depthAll]
  | n :: r => by
    show max (PyData.depth (.int (n : Int))) (PyData.depthAll (numD r)) = 0
    rw [deep_nums r]
    simp [PyData.depth]
theorem eqv_nums : ∀ ns : List Nat, PyData.eqvAll (numD ns) (numD ns) = true
  | [] => rfl
  | n :: r => by
    show (PyData.eqv (.int (n : Int)) (.int (n : Int)) && PyData.eqvAll (numD r) (numD r)) = true
    rw [eqv_nums r]
    simp [PyData.eqv]
def resD (s ns : List Nat) : PyData := .tuple [.str (SX.S s), .list (numD ns)]
theorem shaped_res {s ns : List Nat} (h : ∀ c ∈ s, c < 1114112) : SeqAt.shaped (resD s ns) = true := by
  have q1 : PyData.canLay0 (resD s ns) = true := by
    show (PyData.strOk (SX.S s) && (PyData.canLayAll0 (numD ns) && true)) = true
    rw [str_ok h, lay_nums]
    rfl
  have q2 : PyData.depth (resD s ns) ≤ 64 := by
    show max (PyData.depth (.str (SX.S s))) (max (PyData.depthAll (numD ns) + 1) (PyData.depthAll [])) + 1 ≤ 64
    rw [deep_nums]
    simp [PyData.depth, PyData.depthAll]
  unfold SeqAt.shaped
  rw [q1, decide_eq_true q2]
  rfl
theorem eqv_res (s ns : List Nat) : PyData.eqv (resD s ns) (resD s ns) = true := by
  show ((SX.S s == SX.S s) && (PyData.eqvAll (numD ns) (numD ns) && true)) = true
  rw [eqv_nums]
  simp
theorem stp_some {ws : List (List Nat)} {s ns s1 n1 : List Nat} {c : Nat} (h : stp ws (some (s, ns)) c = some (s1, n1)) : (s ++ [c] ∈ ws ∧ s1 = [] ∧ n1 = ns ++ [ws.idxOf (s ++ [c])]) ∨ (s ++ [c] ∉ ws ∧ (∃ w ∈ ws, s ++ [c] <+: w) ∧ s1 = s ++ [c] ∧ n1 = ns) := by
  replace h : (if s ++ [c] ∈ ws then some ([], ns ++ [ws.idxOf (s ++ [c])]) else if ∃ w ∈ ws, s ++ [c] <+: w then some (s ++ [c], ns) else none) = some (s1, n1) := h
  split at h
  · rename_i m
    have h := Option.some.inj h
    injection h with a b
    exact .inl ⟨m, a.symm, b.symm⟩
  · rename_i m
    split at h
    · rename_i e
      have h := Option.some.inj h
      injection h with a b
      exact .inr ⟨m, e, a.symm, b.symm⟩
    · cases h
theorem gone_cons {ws : List (List Nat)} {x s ns : List Nat} {c : Nat} : gone ws (c :: x) s ns = (stp ws (some (s, ns)) c).bind fun e => gone ws x e.1 e.2 := by
  show x.foldl (stp ws) (stp ws (some (s, ns)) c) = _
  cases h : stp ws (some (s, ns)) c with
  | none => exact gone_nil ws x
  | some e => rfl
/-- all that a reading keeps -/
theorem gone_inv {ws : List (List Nat)} (h0 : Stnd ws []) : ∀ {x s ns s' ns' : List Nat}, gone ws x s ns = some (s', ns') → (ns'.map fun n => ws.getD n []).flatten ++ s' = (ns.map fun n => ws.getD n []).flatten ++ s ++ x ∧ (∀ n ∈ ns', n ∈ ns ∨ n < ws.length) ∧ (Stnd ws s → Stnd ws s') ∧ ns'.length ≤ ns.length + x.length
  | [], s, ns, s', ns', h => by
    have h := Option.some.inj (show some (s, ns) = some (s', ns') from h)
    injection h with a b
    subst a b
    exact ⟨by simp, fun n hn => .inl hn, id, by simp⟩
  | c :: x, s, ns, s', ns', h => by
    rw [gone_cons] at h
    cases e : stp ws (some (s, ns)) c with
    | none => rw [e] at h; cases h
    | some e1 =>
      obtain ⟨s1, n1⟩ := e1
      rw [e] at h
      obtain ⟨i1, i2, i3, i4⟩ := gone_inv h0 (show gone ws x s1 n1 = some (s', ns') from h)
      rcases stp_some e with ⟨m, rfl, rfl⟩ | ⟨m, ⟨w, hw, hp⟩, rfl, rfl⟩
      · have hj := List.idxOf_lt_length_iff.mpr m
        have hg : ws.getD (ws.idxOf (s ++ [c])) [] = s ++ [c] := by
          have : ws[ws.idxOf (s ++ [c])]? = some (s ++ [c]) := by rw [List.getElem?_eq_getElem hj, List.getElem_idxOf]
          exact getD_at this
        refine ⟨?_, fun n hn => ?_, fun _ => i3 h0, by simp at i4 ⊢; omega⟩
        · rw [i1, List.map_append, List.map_singleton, hg, List.flatten_append]
          simp
        · rcases i2 n hn with h | h
          · rcases List.mem_append.mp h with h | h
            · exact .inl h
            · exact .inr (by rw [List.mem_singleton.mp h]; exact hj)
          · exact .inr h
      · exact ⟨by rw [i1]; simp, i2, fun _ => i3 ⟨w, hw, hp, fun z => m (z ▸ hw)⟩, by simp at i4 ⊢; omega⟩
/-- numbers told before stay ahead -/
theorem gone_pre {ws : List (List Nat)} : ∀ (x s n m : List Nat), gone ws x s (n ++ m) = (gone ws x s m).map fun e => (e.1, n ++ e.2)
  | [], s, n, m => rfl
  | c :: x, s, n, m => by
    rw [gone_cons, gone_cons]
    by_cases a : s ++ [c] ∈ ws
    · have e1 : ∀ k, stp ws (some (s, k)) c = some ([], k ++ [ws.idxOf (s ++ [c])]) := fun k => by
        show (if s ++ [c] ∈ ws then _ else _) = _
        rw [if_pos a]
      rw [e1, e1]
      show gone ws x [] (n ++ m ++ [ws.idxOf (s ++ [c])]) = (gone ws x [] (m ++ [ws.idxOf (s ++ [c])])).map fun e => (e.1, n ++ e.2)
      rw [List.append_assoc]
      exact gone_pre x [] n _
    · by_cases b : ∃ w ∈ ws, s ++ [c] <+: w
      · have e1 : ∀ k, stp ws (some (s, k)) c = some (s ++ [c], k) := fun k => by
          show (if s ++ [c] ∈ ws then _ else if ∃ w ∈ ws, s ++ [c] <+: w then _ else _) = _
          rw [if_neg a, if_pos b]
        rw [e1, e1]
        exact gone_pre x (s ++ [c]) n m
      · have e1 : ∀ k, stp ws (some (s, k)) c = none := fun k => by
          show (if s ++ [c] ∈ ws then _ else if ∃ w ∈ ws, s ++ [c] <+: w then _ else _) = _
          rw [if_neg a, if_neg b]
        rw [e1, e1]
        rfl
/-- read in two parts -/
theorem gone_two {ws : List (List Nat)} {x s s' ns : List Nat} (k : Nat) (h : gone ws x s [] = some (s', ns)) : ∃ s1 n1 n2, gone ws (x.take k) s [] = some (s1, n1) ∧ gone ws (x.drop k) s1 [] = some (s', n2) ∧ ns = n1 ++ n2 := by
  have e : gone ws x s [] = (x.drop k).foldl (stp ws) (gone ws (x.take k) s []) := by
    unfold gone
    rw [← List.foldl_append, List.take_append_drop]
  rw [e] at h
  cases g : gone ws (x.take k) s [] with
  | none => rw [g, gone_nil] at h; cases h
  | some p =>
    obtain ⟨s1, n1⟩ := p
    rw [g] at h
    replace h : gone ws (x.drop k) s1 n1 = some (s', ns) := h
    have q := gone_pre (ws := ws) (x.drop k) s1 n1 []
    rw [List.append_nil, h] at q
    cases g2 : gone ws (x.drop k) s1 [] with
    | none => rw [g2] at q; cases q
    | some p2 =>
      obtain ⟨s2, n2⟩ := p2
      rw [g2] at q
      have q := Option.some.inj q
      injection q with q1 q2
      have q1 : s' = s2 := q1
      exact ⟨s1, n1, n2, rfl, by rw [g2, q1], q2⟩
/-- told, wherever it stands -/
def Ra (H : Hp) (v : V) (o : Option (List Nat × List Nat)) : Prop := (o = none ∧ v = .non) ∨ ∃ (t l : Addr) (st ns : List Nat), o = some (st, ns) ∧ v = .ref t ∧ H t = some (.tup [.str (SX.S st), .ref l]) ∧ H l = some (.lst (nums ns))
theorem Rt.ra {H0 H : Hp} {v : V} {o : Option (List Nat × List Nat)} (h : Rt H0 H v o) : Ra H v o := by
  rcases h with h | ⟨t, l, st, ns, a, b, _, c, d⟩
  · exact .inl h
  · exact .inr ⟨t, l, st, ns, a, b, c, d⟩
theorem Ra.same {H H' : Hp} {v : V} {o : Option (List Nat × List Nat)} (h : Ra H v o) (s : Same H H') : Ra H' v o := by
  rcases h with h | ⟨t, l, st, ns, a, b, c, d⟩
  · exact .inl h
  · exact .inr ⟨t, l, st, ns, a, b, s _ _ c, s _ _ d⟩
def spLikeR : Sp := fun vs H Q _ => ∃ (v v' : V) (o : Option (List Nat × List Nat)), vs = [v, v'] ∧ Ra H v o ∧ Ra H v' o ∧ (∀ e, o = some e → e.2.length ≤ 1000) ∧ ∀ H', Same H H' → Q (.bl true) H'
section
variable {P : Program} {w : World} {K : PySem.W.Frag} {mg : Str → Option Value} {base : Heap}
theorem ok_l_likeR (T : Tx K mg) : FnOk P w K mg base CX0 4 T.f_l_like T.fd_l_like P_l_like spLikeR := by
  have G_l_like : FnOk P w K mg base CX0 3 T.f_l_like T.fd_l_like P_l_like spLike := ok_l_like T
  refine T.F_l_like.ok sc_l_like (fun vs H Q E h => ?_) (fun cdv A outer s H vs Q E hr h => ?_)
  · obtain ⟨v, v', o, rfl, _⟩ := h
    rfl
  · obtain ⟨v, v', o, rfl, h1, h2, hb, k⟩ := h
    refine ⟨_, (pss_cons (ps_if (pt_cmpR op_isN (pv 1) pe_non (nomark _)) (pss_one (ps_ret (pe_cmpR op_isN (pv 0) pe_non (nomark _)))) pss_nil)
        (pss_cons (ps_if (pt_val (pe_callB (call_isiK' (K := K) rfl) rfl T.n_isinstance (by decide +kernel) (pa_cons (pv 1) (pa_cons (pe_bltn (v := V.ty "bool") (u := .type "bool") rfl T.n_bool (by decide +kernel) rfl) pa_nil)))) (pss_one (ps_ret (pe_and (pe_callB (call_isiK' (K := K) rfl) rfl T.n_isinstance (by decide +kernel) (pa_cons (pv 0) (pa_cons (pe_bltn (v := V.ty "bool") (u := .type "bool") rfl T.n_bool (by decide +kernel) rfl) pa_nil))) (pe_one (pe_cmpR op_eq (pv 0) (pv 1) (nomark _)))))) pss_nil)
        (pss_cons (ps_if (pt_val (pe_callB (call_isiK' (K := K) rfl) rfl T.n_isinstance (by decide +kernel) (pa_cons (pv 1) (pa_cons (pe_bltn (v := V.ty "int") (u := .type "int") rfl T.n_int (by decide +kernel) rfl) pa_nil)))) (pss_one (ps_ret (pe_and (pe_callB (call_isiK' (K := K) rfl) rfl T.n_isinstance (by decide +kernel) (pa_cons (pv 0) (pa_cons (pe_bltn (v := V.ty "int") (u := .type "int") rfl T.n_int (by decide +kernel) rfl) pa_nil))) (pe_and (pe_not (pe_callB (call_isiK' (K := K) rfl) rfl T.n_isinstance (by decide +kernel) (pa_cons (pv 0) (pa_cons (pe_bltn (v := V.ty "bool") (u := .type "bool") rfl T.n_bool (by decide +kernel) rfl) pa_nil)))) (pe_one (pe_cmpR op_eq (pv 0) (pv 1) (nomark _))))))) pss_nil)
        (pss_cons (ps_if (pt_val (pe_callB (call_isiK' (K := K) rfl) rfl T.n_isinstance (by decide +kernel) (pa_cons (pv 1) (pa_cons (pe_bltn (v := V.ty "str") (u := .type "str") rfl T.n_str (by decide +kernel) rfl) pa_nil)))) (pss_one (ps_ret (pe_and (pe_callB (call_isiK' (K := K) rfl) rfl T.n_isinstance (by decide +kernel) (pa_cons (pv 0) (pa_cons (pe_bltn (v := V.ty "str") (u := .type "str") rfl T.n_str (by decide +kernel) rfl) pa_nil))) (pe_one (pe_cmpR op_eq (pv 0) (pv 1) (nomark _)))))) pss_nil)
        (pss_cons (ps_if (pt_val (pe_callB (call_isiK' (K := K) rfl) rfl T.n_isinstance (by decide +kernel) (pa_cons (pv 1) (pa_cons (pe_bltn (v := V.ty "dict") (u := .type "dict") rfl T.n_dict (by decide +kernel) rfl) pa_nil)))) (pss_cons (ps_if (PW.pt (pw_or (pt_not (pt_val (pe_callB (call_isiK' (K := K) rfl) rfl T.n_isinstance (by decide +kernel) (pa_cons (pv 0) (pa_cons (pe_bltn (v := V.ty "dict") (u := .type "dict") rfl T.n_dict (by decide +kernel) rfl) pa_nil))))) (pw_or1 (pt_cmpR op_ne (pe_callB (call_len_seqK (K := K) rfl) rfl T.n_len (by decide +kernel) (pa_cons (pv 0) pa_nil)) (pe_callB (call_len_seqK (K := K) rfl) rfl T.n_len (by decide +kernel) (pa_cons (pv 1) pa_nil)) (nomark _))))) (pss_one (ps_ret pe_bl)) pss_nil)
        (pss_one ps_never)) pss_nil)
        (pss_cons (ps_if (PW.pt (pw_and (pt_val (pe_callB (call_isiK' (K := K) rfl) rfl T.n_isinstance (by decide +kernel) (pa_cons (pv 1) (pa_cons (pe_bltn (v := V.ty "tuple") (u := .type "tuple") rfl T.n_tuple (by decide +kernel) rfl) pa_nil)))) (pw_and1 (pt_not (pt_val (pe_callB (call_isiK' (K := K) rfl) rfl T.n_isinstance (by decide +kernel) (pa_cons (pv 0) (pa_cons (pe_bltn (v := V.ty "tuple") (u := .type "tuple") rfl T.n_tuple (by decide +kernel) rfl) pa_nil)))))))) (pss_one (ps_ret pe_bl)) pss_nil)
        (pss_cons (ps_if (PW.pt (pw_or (PW.pt (pw_and (pt_val (pe_callB (call_isiK' (K := K) rfl) rfl T.n_isinstance (by decide +kernel) (pa_cons (pv 1) (pa_cons (pe_bltn (v := V.ty "list") (u := .type "list") rfl T.n_list (by decide +kernel) rfl) pa_nil)))) (pw_and1 (pt_not (pt_val (pe_callB (call_isiK' (K := K) rfl) rfl T.n_isinstance (by decide +kernel) (pa_cons (pv 0) (pa_cons (pe_bltn (v := V.ty "list") (u := .type "list") rfl T.n_list (by decide +kernel) rfl) pa_nil)))))))) (pw_or1 (pt_cmpR op_ne (pe_callB (call_len_seqK (K := K) rfl) rfl T.n_len (by decide +kernel) (pa_cons (pv 0) pa_nil)) (pe_callB (call_len_seqK (K := K) rfl) rfl T.n_len (by decide +kernel) (pa_cons (pv 1) pa_nil)) (nomark _))))) (pss_one (ps_ret pe_bl)) pss_nil)
        (pss_one (ps_ret (pe_callB (cr_allK (K := K) rfl rfl) rfl T.n_all (by decide +kernel) (pa_cons (pe_lc (own := [("_law_k", 2)]) (g := (gName 2)) rfl sc_l_like.nd (pi_range1 rfl T.n_range (pa_cons (pe_callB (call_len_seqK (K := K) rfl) rfl T.n_len (by decide +kernel) (pa_cons (pv 1) pa_nil)) pa_nil)) (blkOk_by (N := N_l_like) (sc := defScope s_l_like) (by decide +kernel)) (fun _ _ _ _ _ => (pg_name (i := 2) sc_l_like.nd rfl (Or.inl rfl))) (fun _ _ _ _ _ => pts_nil) (fun _ _ _ _ _ => (pe_call G_l_like (hr.mono (by decide)) rfl T.m_l_like T.F_l_like.kp T.b_l_like .nil pass0 (pa_cons (pe_ix (ix_tupK (K := K) rfl) (pv 0) (pv 2) (fun _ _ => rfl)) (pa_cons (pe_ix (ix_tupK (K := K) rfl) (pv 1) (pv 2) (fun _ _ => rfl)) pa_nil))))) pa_nil))))))))))), ?_⟩
    rcases h1 with ⟨rfl, rfl⟩ | ⟨t, l, st, ns, rfl, rfl, ht, hl⟩
    · rcases h2 with ⟨_, rfl⟩ | ⟨_, _, _, _, z, _⟩
      · refine ⟨_, rfl, rfl, _, rfl, iteT ?_⟩
        refine ⟨_, rfl, rfl, ?_⟩
        exact k H (Same.refl _)
      · cases z
    · rcases h2 with ⟨z, _⟩ | ⟨t', l', st', ns', e, rfl, ht', hl'⟩
      · cases z
      have e := Option.some.inj e
      injection e with e1 e2
      subst e1 e2
      have hn : ns.length ≤ 1000 := hb _ rfl
      refine ⟨_, rfl, rfl, _, rfl, iteF ?_⟩
      refine ⟨_, rfl, _, _, _, _, false, rfl, .ty "bool", .base (.tup ht'), kit_ty (by decide +kernel), false, rfl, iteF ?_⟩
      refine ⟨_, rfl, _, _, _, _, false, rfl, .ty "int", .base (.tup ht'), kit_ty (by decide +kernel), false, rfl, iteF ?_⟩
      refine ⟨_, rfl, _, _, _, _, false, rfl, .ty "str", .base (.tup ht'), kit_ty (by decide +kernel), false, rfl, iteF ?_⟩
      refine ⟨_, rfl, _, _, _, _, false, rfl, .ty "dict", .base (.tup ht'), kit_ty (by decide +kernel), false, rfl, iteF ?_⟩
      refine ⟨_, rfl, _, _, _, _, true, rfl, .ty "tuple", .base (.tup ht'), kit_ty (by decide +kernel), true, rfl, iteT ?_⟩
      refine ⟨_, rfl, _, _, _, _, true, rfl, .ty "tuple", .base (.tup ht), kit_ty (by decide +kernel), true, rfl, iteF ?_⟩
      refine ⟨_, rfl, _, _, _, _, false, rfl, .ty "list", .base (.tup ht'), kit_ty (by decide +kernel), false, rfl, iteF (iteF ?_)⟩
      refine ⟨_, rfl, t, _, rfl, .inr (SqT.of ht), _, rfl, t', _, rfl, .inr (SqT.of ht'), rfl, false, rfl, iteF ?_⟩
      refine ⟨_, rfl, t', _, rfl, .inr (SqT.of ht'), _, rfl, by simp, by simp, fun D hD => lc_range (lo := 0) (n := 2) (fun i H' => H' D = some (.lst ((List.replicate i true).map V.bl)) ∧ Same H H') ⟨upd_same, Same.new _ hD⟩ ?_ ?_⟩
      · rintro i H1 hi ⟨hDl, sm⟩
        have hc : i = 0 ∨ i = 1 := by omega
        have ht1 := sm _ _ ht
        have ht1' := sm _ _ ht'
        rcases hc with rfl | rfl
        · refine ⟨rfl, _, rfl, _, rfl, t, _, _, _, rfl, rfl, SqT.of ht1, rfl, _, rfl, _, rfl, t', _, _, _, rfl, rfl, SqT.of ht1', rfl, _, _, rfl, .inl ⟨.inr (.inr ⟨_, rfl⟩), rfl, ?_⟩⟩
          refine ⟨_, hDl, lt_size (by simp), ?_, sm.updNew hD⟩
          rw [upd_same, rep_snoc]
        · refine ⟨rfl, _, rfl, _, rfl, t, _, _, _, rfl, rfl, SqT.of ht1, rfl, _, rfl, _, rfl, t', _, _, _, rfl, rfl, SqT.of ht1', rfl, _, _, rfl, .inr ⟨l, l', nums ns, rfl, rfl, sm _ _ hl, sm _ _ hl', fun v hv => ?_, by rw [List.length_map]; exact hn, fun H2 s2 => ?_⟩⟩
          · obtain ⟨n, _, rfl⟩ := List.mem_map.mp hv
            exact .inr (.inl ⟨_, rfl⟩)
          · refine ⟨_, s2 _ _ hDl, lt_size (by simp), ?_, (sm.trans s2).updNew hD⟩
            rw [upd_same, rep_snoc]
      · rintro H1 ⟨hDl, sm⟩
        refine ⟨D, _, rfl, SqL.of hDl, ?_⟩
        rw [all_true]
        exact k H1 sm
end
end J


set_option Elab.async false
set_option linter.all false
set_option maxRecDepth 100000
set_option maxHeartbeats 4000000
namespace J
open PySem L2
theorem LoomAt.exP {C : Addr} {H H' : Hp} {p p' : Addr} {sg : List Nat} {us : List V} {as : List Arc} (h : LoomAt C H p sg us as) (x : Ex p' H H') (g : PoolAt H p') : LoomAt C H' p sg us as := by
  obtain ⟨b0, b1, b2, b3, hp, _⟩ := g
  obtain ⟨dx, T, h1, h2, h3, h4, h5⟩ := h
  exact ⟨dx, T, x _ _ (fun z => by rw [z, hp] at h1; cases h1) h1, x _ _ (fun z => by rw [z, hp] at h2; cases h2) h2, h3.ex x hp, h4, h5⟩
theorem tup_ne {H : Hp} {p t : Addr} {xs : List V} (g : PoolAt H p) (h : H t = some (.tup xs)) : t ≠ p := fun z => by
  obtain ⟨b0, b1, b2, b3, hp, _⟩ := g
  rw [z, hp] at h
  cases h
theorem cut_take (vs : List (List Nat)) (n : Nat) : cutV (txts vs) none (some (n : Int)) = txts (vs.take n) := by
  unfold cutV
  rw [HT.sIx_nat, HT.sIx_none, txts_len]
  show ((txts vs).drop 0).take (min n vs.length - 0) = _
  rw [List.drop_zero, Nat.sub_zero, txts, txts, List.map_take, ← List.take_take, List.take_of_length_le (i := vs.length) (by rw [List.length_map]; exact Nat.le_refl _)]
theorem Plain.take {ws : List (List Nat)} (h : Plain ws) (n : Nat) : Plain (ws.take n) := h.sublist (List.take_sublist _ _)
def spLaw (K : PySem.W.Frag) : Sp := fun vs H Q _ => ∃ (a : Addr) (ns : List Int), vs = [.ref a] ∧ SqL K H a (ns.map V.int) ∧ ns.length ≤ 63 ∧ ∀ H', Q (.bl true) H'
section
variable {P : Program} {w : World} {K : PySem.W.Frag} {mg : Str → Option Value} {base : Heap}
theorem ok_law (T : Tx K mg) : FnOk P w K mg base CX0 9 T.f_law T.fd_law P_law (spLaw K) := by
  refine T.F_law.ok sc_law (fun vs H Q E h => ?_) (fun cdv A outer s H vs Q E hr h => ?_)
  · obtain ⟨a, ns, rfl, _⟩ := h
    rfl
  · obtain ⟨a, ns, rfl, hS, hlen, k⟩ := h
    have G_l_take : FnOk P w K mg base CX0 1 T.f_l_take T.fd_l_take P_l_take (spTake K ns) := ok_l_take T ns
    have G_l_signs : FnOk P w K mg base CX0 2 T.f_l_signs T.fd_l_signs P_l_signs (spSignsOf K ns) := ok_l_signs T ns
    have G_l_tree : FnOk P w K mg base CX0 3 T.f_l_tree T.fd_l_tree P_l_tree (spTree K ns) := ok_l_tree T ns
    have G_l_text : FnOk P w K mg base CX0 3 T.f_l_text T.fd_l_text P_l_text (spText K ns) := ok_l_text T ns
    have G_l_gone : FnOk P w K mg base CX0 1 T.f_l_gone T.fd_l_gone P_l_gone spGone := ok_l_gone T
    have G_l_like : FnOk P w K mg base CX0 4 T.f_l_like T.fd_l_like P_l_like spLikeR := ok_l_likeR T
    have G_book : FnOk P w K mg base CX0 6 T.f_book T.fd_book P_book (spBook T.C_Loom) := ok_book T
    have G_standings : FnOk P w K mg base CX0 6 T.f_standings T.fd_standings P_standings (spStand T.C_Loom) := ok_standings T
    have G_go : FnOk P w K mg base CX0 8 T.f_go T.fd_go P_go (spGo T.C_Loom) := ok_go T
    have KB_go_a_book_standing_text : KBn K T.fd_go P_go 0 ["a_book", "standing", "text"] (fun _ ws => ws) (fun _ zs => zs) :=
      T.F_go.kbinds (fun x => x) (fun _ _ _ _ _ _ ws hl => match ws, hl with | [_, _, _], _ => rfl) (fun h => h)
    refine ⟨_, (pss_cons (ps_set (i := 1) sc_law.nd rfl (Or.inl rfl) (pe_lst (pa_cons pe_int (pa_cons pe_int (pa_cons pe_int (pa_cons pe_int pa_nil))))))
        (pss_cons (ps_for PassesOwn.never rfl (pi_range1 rfl T.n_range (pa_cons pe_int pa_nil)) (pg_name (i := 2) sc_law.nd rfl (Or.inl rfl)) (pss_cons (ps_set (i := 3) sc_law.nd rfl (Or.inl rfl) (pe_call G_l_signs (hr.mono (by decide)) rfl T.m_l_signs T.F_l_signs.kp T.b_l_signs .nil pass0 (pa_cons (pv 0) (pa_cons (pv 1) pa_nil))))
        (pss_cons (ps_set (i := 4) sc_law.nd rfl (Or.inr rfl) (pe_slice (sl_listK (K := K) rfl) (pe_call G_l_tree (hr.mono (by decide)) rfl T.m_l_tree T.F_l_tree.kp T.b_l_tree .nil pass0 (pa_cons (pv 0) (pa_cons (pv 1) (pa_cons (pv 3) (pa_cons pe_int (pa_cons pe_int pa_nil)))))) po_none (po_some pe_int)))
        (C8.pss_cut (ps_if (PW.pt (pw_and (pt_cmpR op_eq (pe_call G_l_take (hr.mono (by decide)) rfl T.m_l_take T.F_l_take.kp T.b_l_take .nil pass0 (pa_cons (pv 0) (pa_cons (pv 1) (pa_cons pe_int pa_nil)))) pe_int (nomark _)) (pw_and1 (pt_cmpR op_gt (pe_callB (call_len_seqK (K := K) rfl) rfl T.n_len (by decide +kernel) (pa_cons (pv 4) pa_nil)) pe_int (nomark _))))) (pss_one (ps_set (i := 4) sc_law.nd rfl (Or.inr rfl) (pe_slice (sl_listK (K := K) rfl) (pv 4) po_none (po_some (pe_op op_add pe_int (pe_call G_l_take (hr.mono (by decide)) rfl T.m_l_take T.F_l_take.kp T.b_l_take .nil pass0 (pa_cons (pv 0) (pa_cons (pv 1) (pa_cons (pe_callB (call_len_seqK (K := K) rfl) rfl T.n_len (by decide +kernel) (pa_cons (pv 4) pa_nil)) pa_nil))))))))) pss_nil)
        (pss_cons (ps_set (i := 5) sc_law.nd rfl (Or.inl rfl) (pe_call G_book (hr.mono (by decide)) rfl T.m_book T.F_book.kp T.b_book .nil pass0 (pa_cons (pv 3) (pa_cons (pv 4) pa_nil))))
        (pss_cons (ps_set (i := 6) sc_law.nd rfl (Or.inl rfl) (pe_call G_l_text (hr.mono (by decide)) rfl T.m_l_text T.F_l_text.kp T.b_l_text .nil pass0 (pa_cons (pv 0) (pa_cons (pv 1) (pa_cons (pv 3) (pa_cons (pv 4) pa_nil))))))
        (pss_one (ps_for PassesOwn.never rfl (pi_list (pe_call G_standings (hr.mono (by decide)) rfl T.m_standings T.F_standings.kp T.b_standings .nil pass0 (pa_cons (pv 5) pa_nil))) (pg_name (i := 7) sc_law.nd rfl (Or.inl rfl)) (pss_cons (ps_set (i := 8) sc_law.nd rfl (Or.inl rfl) (pe_call G_go (hr.mono (by decide)) rfl T.m_go T.F_go.kp T.b_go .nil pass0 (pa_cons (pv 5) (pa_cons (pv 7) (pa_cons (pv 6) pa_nil)))))
        (pss_cons (ps_set (i := 9) sc_law.nd rfl (Or.inl rfl) (pe_call G_l_gone (hr.mono (by decide)) rfl T.m_l_gone T.F_l_gone.kp T.b_l_gone .nil pass0 (pa_cons (pv 4) (pa_cons (pv 7) (pa_cons (pv 6) pa_nil)))))
        (pss_cons (ps_if (pt_not (pt_val (pe_call G_l_like (hr.mono (by decide)) rfl T.m_l_like T.F_l_like.kp T.b_l_like .nil pass0 (pa_cons (pv 8) (pa_cons (pv 9) pa_nil))))) (pss_one (ps_ret pe_bl)) pss_nil)
        (pss_cons (ps_set (i := 10) sc_law.nd rfl (Or.inl rfl) (pe_call G_l_take (hr.mono (by decide)) rfl T.m_l_take T.F_l_take.kp T.b_l_take .nil pass0 (pa_cons (pv 0) (pa_cons (pv 1) (pa_cons (pe_op op_add (pe_callB call_len_str rfl T.n_len (by decide +kernel) (pa_cons (pv 6) pa_nil)) pe_int) pa_nil)))))
        (pss_cons (ps_set (i := 11) sc_law.nd rfl (Or.inl rfl) (pe_callN0 G_go (hr.mono (by decide)) rfl T.m_go T.F_go.kp KB_go_a_book_standing_text pass0 (pk_cons (pv 5) (pk_cons (pv 7) (pk_cons (pe_slice sl_str (pv 6) po_none (po_some (pv 10))) pk_nil)))))
        (pss_one (ps_if (pt_cmpR op_notN (pv 9) pe_non (nomark _)) (pss_cons (ps_set (i := 12) sc_law.nd rfl (Or.inl rfl) (pe_call G_go (hr.mono (by decide)) rfl T.m_go T.F_go.kp T.b_go .nil pass0 (pa_cons (pv 5) (pa_cons (pe_ix (ix_tupK (K := K) rfl) (pv 11) pe_int (fun _ _ => rfl)) (pa_cons (pe_slice sl_str (pv 6) (po_some (pv 10)) po_none) pa_nil)))))
        (pss_cons (ps_if (pt_cmpR (op_neD hr.units) (pe_tup (pa_cons (pe_ix (ix_tupK (K := K) rfl) (pv 12) pe_int (fun _ _ => rfl)) (pa_cons (pe_op op_cat (pe_ix (ix_tupK (K := K) rfl) (pv 11) pe_int (fun _ _ => rfl)) (pe_ix (ix_tupK (K := K) rfl) (pv 12) pe_int (fun _ _ => rfl))) pa_nil))) (pv 8) (nomark _)) (pss_one (ps_ret pe_bl)) pss_nil)
        (C8.pss_cut (ps_if (PW.pt (pw_and (pt_cmpR op_eq (pv 7) pe_str (nomark _)) (pw_and1 (pt_cmpR op_ne (pe_op op_add_str (pe_join pe_str (pe_lc (own := [("_law_at", 13)]) (g := (gName 13)) rfl sc_law.nd (pi_list (pe_ix (ix_tupK (K := K) rfl) (pv 8) pe_int (fun _ _ => rfl))) (blkOk_by (N := N_law) (sc := defScope s_law) (by decide +kernel)) (fun _ _ _ _ _ => (pg_name (i := 13) sc_law.nd rfl (Or.inl rfl))) (fun _ _ _ _ _ => pts_nil) (fun _ _ _ _ _ => (pe_ix (ix_listK (K := K) rfl) (pv 4) (pv 13) (fun _ _ => rfl))))) (pe_ix (ix_tupK (K := K) rfl) (pv 8) pe_int (fun _ _ => rfl))) (pv 6) (nomark _))))) (pss_one (ps_ret pe_bl)) pss_nil)
        (pss_cons (ps_expr (pe_bm PySem.F.plainAttrs_list PySem.F.slot_list_append PySem.F.type_list_append mt_append (pe_ix (ix_tupK (K := K) rfl) (pv 8) pe_int (fun _ _ => rfl)) (pa_cons pe_str pa_nil)))
        (pss_one (ps_if (pt_not (pt_val (pe_call G_l_like (hr.mono (by decide)) rfl T.m_l_like T.F_l_like.kp T.b_l_like .nil pass0 (pa_cons (pe_call G_go (hr.mono (by decide)) rfl T.m_go T.F_go.kp T.b_go .nil pass0 (pa_cons (pv 5) (pa_cons (pv 7) (pa_cons (pv 6) pa_nil)))) (pa_cons (pv 9) pa_nil))))) (pss_one (ps_ret pe_bl)) pss_nil)))))) pss_nil)))))))))))))))
        (pss_one (ps_ret pe_bl)))), ?_⟩
    refine ⟨le_size (by simp), fun p hp => ?_⟩
    have st0 : St K ns a (upd H p (.lst [.int 0, .int 0, .int 0, .int 0])) p := ⟨⟨0, 0, 0, 0, upd_same, Int.le_refl _⟩, (Scr.mk hS hp).ex (Ex.new _ hp)⟩
    generalize upd H p (.lst [.int 0, .int 0, .int 0, .int 0]) = H1 at *
    refine ⟨4, rfl, by decide, by decide, for_range (lo := 0) (n := 4) (fun i σ H' => ∃ v2 v3 v4 v5 v6 v7 v8 v9 v10 v11 v12 : Option V, σ = [some (.ref a), some (.ref p), v2, v3, v4, v5, v6, v7, v8, v9, v10, v11, v12, none] ∧ St K ns a H' p) ?_ ?_ ?_⟩
    · exact ⟨none, none, none, none, none, none, none, none, none, none, none, rfl, st0⟩
    · rintro i σ H2 hi ⟨v2, v3, v4, v5, v6, v7, v8, v9, v10, v11, v12, rfl, st2⟩
      refine ⟨_, rfl, _, rfl, a, p, rfl, st2, fun H3 sg x3 st3 hsg => ?_⟩
      refine ⟨_, rfl, _, rfl, _, rfl, a, p, sg, rfl, st3, hsg, fun H4 q0 us0 x4 st4 hq00 nq0p hq0 hpl0 l01 l02 hw0 => ?_⟩
      refine ⟨_, rfl, q0, _, rfl, SqL.of hq0, fun q1 hq1 => ?_⟩
      have e12 : cutV (txts us0) none (some 12) = txts (us0.take 12) := cut_take us0 12
      rw [e12]
      have s5 : Same H4 (upd H4 q1 (.lst (txts (us0.take 12)))) := Same.new _ hq1
      have g1 : upd H4 q1 (.lst (txts (us0.take 12))) q1 = some (.lst (txts (us0.take 12))) := upd_same
      have n1p := st4.ne hq1
      have st5 := st4.same s5
      generalize upd H4 q1 (.lst (txts (us0.take 12))) = H5 at *
      have hpl1 := hpl0.take 12
      have hw1 : ∀ u ∈ us0.take 12, WordL sg 5 u := fun u hu => hw0 u (List.mem_of_mem_take hu)
      have l11 : 1 ≤ (us0.take 12).length := by rw [List.length_take]; omega
      have l12 : (us0.take 12).length ≤ 12 := by rw [List.length_take]; omega
      generalize us0.take 12 = ws1 at *
      refine ⟨fun σ' H' => ∃ (q : Addr) (ws : List (List Nat)), σ' = [some (.ref a), some (.ref p), some (.int (0 + (i : Int))), some (.str (SX.S sg)), some (.ref q), v5, v6, v7, v8, v9, v10, v11, v12, none] ∧ St K ns a H' p ∧ q ≠ p ∧ H' q = some (.lst (txts ws)) ∧ Plain ws ∧ (∀ u ∈ ws, WordL sg 5 u) ∧ 1 ≤ ws.length ∧ ws.length ≤ 12, ?_, ?_⟩
      · refine ⟨_, rfl, _, rfl, a, p, 2, rfl, st5, by decide, by decide, fun H6 r6 x6 st6 r60 r61 => ⟨rfl, _, rfl, ?_⟩⟩
        have g16 := x6 _ _ n1p g1
        refine ite2 (fun c => ?_) (fun c => iteF ⟨q1, ws1, rfl, st6, n1p, g16, hpl1, hw1, l11, l12⟩)
        refine ⟨_, rfl, q1, _, rfl, .inl (SqL.of g16), _, _, rfl, rfl, _, rfl, ?_⟩
        refine ite2 (fun d => ?_) (fun d => ⟨q1, ws1, rfl, st6, n1p, g16, hpl1, hw1, l11, l12⟩)
        refine ⟨_, rfl, _, rfl, _, rfl, _, rfl, q1, _, rfl, .inl (SqL.of g16), a, p, _, rfl, st6, by rw [txts_len]; omega, by rw [txts_len]; omega, fun H7 r7 x7 st7 r70 r71 => ⟨_, _, rfl, rfl, ?_⟩⟩
        obtain ⟨n, rfl⟩ := Int.eq_ofNat_of_zero_le r70
        have g17 := x7 _ _ n1p g16
        refine ⟨_, rfl, q1, _, rfl, SqL.of g17, fun q hq => ?_⟩
        have e13 : cutV (txts ws1) none (some (1 + (n : Int))) = txts (ws1.take (1 + n)) := by
          rw [show (1 + (n : Int)) = ((1 + n : Nat) : Int) by omega]
          exact cut_take ws1 (1 + n)
        rw [e13]
        exact ⟨q, ws1.take (1 + n), rfl, st7.same (Same.new _ hq), st7.ne hq, upd_same, hpl1.take _, fun u hu => hw1 u (List.mem_of_mem_take hu), by rw [List.length_take]; omega, by rw [List.length_take]; omega⟩
      · clear g1 hpl1 hw1 l11 l12 st5 n1p hq1 s5
        rintro σ' H6 ⟨q, ws, rfl, st6, nqp, hq6, hpl, hw, l1, l2⟩
        have hww : ∀ u ∈ ws, Word sg u := fun u hu => (hw u hu).word (by decide)
        refine ⟨_, rfl, _, rfl, q, sg, ws, rfl, .inl hq6, hsg, l1, by omega, hww, fun H7 b us s7 hb0 hL7 => ?_⟩
        have st7 := st6.same s7
        refine ⟨_, rfl, _, rfl, _, rfl, _, rfl, a, p, q, sg, ws, rfl, st7, nqp, s7 _ _ hq6, hsg, hw, l1, by omega, fun H8 x x8 st8 hx hxs => ?_⟩
        have hL8 := hL7.exP x8 st7.1
        have hq8 := x8 _ _ nqp (s7 _ _ hq6)
        refine ⟨_, rfl, b, sg, us, ws, rfl, hL8, hpl, fun H9 r ys s9 hr0 hr9 hys hyl => ⟨r, rfl, ⟨_, SqL.of hr9⟩, ?_⟩⟩
        have st9 := st8.same s9
        have nrp := st8.ne hr0
        have hL9 := hL8.same s9
        have hq9 := s9 _ _ hq8
        have h0 : Stnd ws [] := by
          obtain ⟨u, hu⟩ := List.exists_mem_of_ne_nil ws (List.ne_nil_of_length_pos l1)
          exact ⟨u, hu, List.nil_prefix, fun z => by have := (hw u hu).1; rw [← z] at this; simp at this⟩
        have hxsm : ∀ c ∈ x, c < 1114112 := fun c hc => by
          have := (hsg.2.2.1 c (hxs c hc)).2
          omega
        have stl : ∀ u, Stnd ws u → u.length ≤ 12 ∧ ∀ c ∈ u, c < 1114112 := fun u ⟨w, hw', hp, _⟩ => by
          have := hp.length_le
          have hw2 := hw w hw'
          refine ⟨by have := hw2.2.1; omega, fun c hc => ?_⟩
          have := (hsg.2.2.1 c (hw2.2.2 c (hp.subset hc))).2
          omega
        refine for_list (K := K) (a := r) (xs := txts ys) (fun j σ H' => ∃ v7 v8 v9 v10 v11 v12 : Option V, σ = [some (.ref a), some (.ref p), some (.int (0 + (i : Int))), some (.str (SX.S sg)), some (.ref q), some (.ref b), some (.str (SX.S x)), v7, v8, v9, v10, v11, v12, none] ∧ Ex p H9 H' ∧ St K ns a H' p) ?_ ?_ ?_ ?_
        · exact ⟨v7, v8, v9, v10, v11, v12, rfl, Ex.refl _ _, st9⟩
        · rintro j σ H10 _ ⟨_, _, _, _, _, _, _, x10, _⟩
          exact SqL.of (x10 _ _ nrp hr9)
        · rintro j y σ K1 hy ⟨v7, v8, v9, v10, v11, v12, rfl, xk, stk⟩
          obtain ⟨u, hu, rfl⟩ := txt_at hy
          have hus : Stnd ws u := (hys.2.2 u).mp (List.mem_of_getElem? hu)
          have hul := (stl u hus).1
          have hqk := xk _ _ nqp hq9
          have hLk := hL9.exP xk st9.1
          refine ⟨_, rfl, _, rfl, _, rfl, b, sg, us, ws, u, x, rfl, hLk, hpl, hus, by omega, hxs, fun K2 v s2 hR2 => ?_⟩
          refine ⟨_, rfl, _, rfl, _, rfl, q, ws, u, x, rfl, s2 _ _ hqk, hpl.nodup, by omega, fun w hw' => by have := (hw w hw').2.1; omega, hul, by omega, fun K3 v' s3 hR3 => ?_⟩
          have bound : ∀ e, gone ws x u [] = some e → e.2.length ≤ 1000 := fun e he => by
            have := (gone_inv h0 (s' := e.1) (ns' := e.2) he).2.2.2
            simp at this
            omega
          refine ⟨_, rfl, _, rfl, v, v', gone ws x u [], rfl, hR2.ra.same s3, hR3.ra, bound, fun K4 s4 => ⟨true, rfl, iteF ?_⟩⟩
          have s14 := (s2.trans s3).trans s4
          have st4 := stk.same s14
          refine ⟨_, rfl, _, rfl, _, rfl, _, rfl, le_size (by rw [SX.S_len]; omega), _, _, rfl, rfl, a, p, _, rfl, st4, by rw [SX.S_len]; omega, by rw [SX.S_len]; omega, fun K5 r5 x5 st5 r50 r51 => ?_⟩
          obtain ⟨n, rfl⟩ := Int.eq_ofNat_of_zero_le r50
          have X5 : Ex p K1 K5 := (Same.ex s14).trans x5
          have hL5 := hLk.exP X5 stk.1
          refine ⟨_, rfl, _, rfl, _, rfl, _, rfl, _, rfl, _, rfl, le_size (by rw [SX.S_len]; omega), ?_⟩
          rw [TxO.cut_to]
          refine ⟨rfl, rfl, b, sg, us, ws, u, x.take n, rfl, hL5, hpl, hus, by rw [List.length_take]; omega, fun c hc => hxs c (List.mem_of_mem_take hc), fun K6 v6 s6 hR6 => ?_⟩
          have X6 : Ex p K1 K6 := X5.trans (Same.ex s6)
          have st6 := st5.same s6
          rcases hR3 with ⟨hg, rfl⟩ | ⟨t3, l3, s, m, hg, rfl, hl30, ht3, hl3⟩
          · refine ⟨_, rfl, rfl, _, rfl, iteF ?_⟩
            exact ⟨_, _, _, _, _, _, rfl, xk.trans X6, st6⟩
          · rcases hR2 with ⟨hg', _⟩ | ⟨t2, l2, s', m', hg', rfl, hl20, ht2, hl2⟩
            · rw [hg] at hg'; cases hg'
            rw [hg] at hg'
            have hg' := Option.some.inj hg'
            injection hg' with ea eb
            subst ea eb
            obtain ⟨s1, n1, n2, hg1, hg2, em⟩ := gone_two n hg
            rcases hR6 with ⟨hg6, _⟩ | ⟨t6, l6, s1', n1', hg6, rfl, hl60, ht6, hl6⟩
            · rw [hg1] at hg6; cases hg6
            rw [hg1] at hg6
            have hg6 := Option.some.inj hg6
            injection hg6 with ea eb
            subst ea eb
            have nl2 : l2 ≠ p := stk.ne hl20
            have nt2 : t2 ≠ p := tup_ne (stk.same s2).1 ht2
            have nl3 : l3 ≠ p := (stk.same s2).ne hl30
            have nt3 : t3 ≠ p := tup_ne (stk.same (s2.trans s3)).1 ht3
            have inv1 := gone_inv h0 hg1
            have inv := gone_inv h0 hg
            have hs1 : Stnd ws s1 := inv1.2.2.1 hus
            have hss : Stnd ws s := inv.2.2.1 hus
            refine ⟨_, rfl, rfl, _, rfl, iteT ?_⟩
            have hL6 := hL5.same s6
            refine ⟨_, rfl, _, rfl, t6, _, _, _, rfl, rfl, SqT.of ht6, rfl, _, rfl, _, rfl, _, rfl, _, rfl, le_size (by rw [SX.S_len]; omega), ?_⟩
            rw [TxO.cut_from]
            refine ⟨b, sg, us, ws, s1, x.drop n, rfl, hL6, hpl, hs1, by rw [List.length_drop]; omega, fun c hc => hxs c (List.mem_of_mem_drop hc), fun K7 v7' s7 hR7 => ?_⟩
            rcases hR7 with ⟨hg7, _⟩ | ⟨t7, l7, s2', n2', hg7, rfl, hl70, ht7, hl7⟩
            · rw [hg2] at hg7; cases hg7
            rw [hg2] at hg7
            have hg7 := Option.some.inj hg7
            injection hg7 with ea eb
            subst ea eb
            have ht6' := s7 _ _ ht6
            have hl6' := s7 _ _ hl6
            have b1 := inv1.2.2.2
            have b2 := (gone_inv h0 hg2).2.2.2
            have b3 := inv.2.2.2
            simp at b1 b2 b3
            have nlen : ∀ k : List Nat, (nums k).length = k.length := fun k => List.length_map _
            refine ⟨_, rfl, t7, _, _, _, rfl, rfl, SqT.of ht7, rfl, _, rfl, t6, _, _, _, rfl, rfl, SqT.of ht6', rfl, _, rfl, t7, _, _, _, rfl, rfl, SqT.of ht7, rfl, l6, l7, _, _, rfl, rfl, hl6', hl7, le_size (by rw [nlen, nlen]; omega), fun L hL => ⟨le_size (by simp), fun t8 ht8 => ?_⟩⟩
            have sL : Same K7 (upd K7 L (.lst (nums n1 ++ nums n2))) := Same.new _ hL
            have gL : upd K7 L (.lst (nums n1 ++ nums n2)) L = some (.lst (nums m)) := by rw [upd_same, nums_cat, em]
            generalize upd K7 L (.lst (nums n1 ++ nums n2)) = K8 at *
            have s8' : Same K8 (upd K8 t8 (.tup [.str (SX.S s), .ref L])) := Same.new _ ht8
            have g8 : upd K8 t8 (.tup [.str (SX.S s), .ref L]) t8 = some (.tup [.str (SX.S s), .ref L]) := upd_same
            generalize upd K8 t8 (.tup [.str (SX.S s), .ref L]) = K9 at *
            have gL9 := s8' _ _ gL
            have s69 : Same K6 K9 := (s7.trans sL).trans s8'
            have X9 : Ex p K1 K9 := X6.trans (Same.ex s69)
            have X29 : Ex p K2 K9 := ((Same.ex (s3.trans s4)).trans x5).trans (Same.ex (s6.trans s69))
            have X39 : Ex p K3 K9 := ((Same.ex s4).trans x5).trans (Same.ex (s6.trans s69))
            have ht29 := X29 _ _ nt2 ht2
            have hl29 := X29 _ _ nl2 hl2
            have st9' := st6.same s69
            have ssm := (stl s hss).2
            refine ⟨_, rfl, resD s m, resD s m, .tup (SqT.of g8) (.cons (.str _) (.cons (.lst (SqL.of gL9) (dp_nums m)) .nil)), .tup (SqT.of ht29) (.cons (.str _) (.cons (.lst (SqL.of hl29) (dp_nums m)) .nil)), shaped_res ssm, shaped_res ssm, ?_⟩
            rw [eqv_res]
            refine ⟨_, rfl, iteF ?_⟩
            refine ⟨fun σ' H' => σ' = [some (.ref a), some (.ref p), some (.int (0 + (i : Int))), some (.str (SX.S sg)), some (.ref q), some (.ref b), some (.str (SX.S x)), some (.str (SX.S u)), some (.ref t2), some (.ref t3), some (.int (n : Int)), some (.ref t6), some (.ref t7), none] ∧ Same K9 H', ?_, ?_⟩
            · refine ⟨_, rfl, rfl, _, rfl, ?_⟩
              refine ite2 (fun c => ?_) (fun c => ⟨rfl, Same.refl _⟩)
              have eu : u = [] := by
                have h := of_decide_eq_true c
                injection h with h
                exact S_inj (v := []) h
              have eqx := inv.1
              rw [eu] at eqx
              simp only [List.map_nil, List.flatten_nil, List.nil_append] at eqx
              have hq99 := X9 _ _ nqp hqk
              have fl : (m.map fun n => ws.getD n []).flatten.length ≤ 40 := by
                have := congrArg List.length eqx
                rw [List.length_append] at this
                omega
              refine ⟨⟨_, rfl⟩, _, rfl, t2, _, _, _, rfl, rfl, SqT.of ht29, rfl, l2, rfl, ⟨_, SqL.of hl29⟩, fun D hD => lc_list (K := K) (a := l2) (xs := nums m) (fun j H' => H' D = some (.lst (txts ((m.take j).map fun n => ws.getD n []))) ∧ Same K9 H') ⟨upd_same, Same.new _ hD⟩ (fun j H' _ ⟨_, sm⟩ => SqL.of (sm _ _ hl29)) ?_ ?_⟩
              · rintro j y H' hy ⟨hDl, sm⟩
                rw [List.getElem?_map] at hy
                obtain ⟨k0, hk0, rfl⟩ := Option.map_eq_some_iff.mp hy
                have hkl : k0 < ws.length := by
                  rcases inv.2.1 k0 (List.mem_of_getElem? hk0) with h | h
                  · cases h
                  · exact h
                have hat : atI (txts ws) (k0 : Int) = some (.str (SX.S (ws.getD k0 []))) := atI_nat (by rw [txts, List.getElem?_map, List.getElem?_eq_getElem hkl]; simp [hkl])
                have hj := (List.getElem?_eq_some_iff.mp hk0).1
                refine ⟨rfl, _, rfl, _, rfl, q, _, _, _, rfl, rfl, SqL.of (sm _ _ hq99), hat, _, hDl, lt_size (by rw [txts_len, List.length_map, List.length_take]; omega), ?_, sm.updNew hD⟩
                rw [upd_same, List.take_add_one, hk0, List.map_append, ← txts_cat]
                rfl
              · rintro H' ⟨hDl, sm⟩
                rw [nlen, List.take_length] at hDl
                refine ⟨_, _, (m.map fun n => ws.getD n []).map SX.S, rfl, rfl, .inl (by rw [txts_S]; exact SqL.of hDl), ?_, ?_⟩
                · have sumF : ∀ ls : List (List Nat), ((ls.map SX.S).map (·.length)).sum = ls.flatten.length := fun ls => by
                    induction ls with
                    | nil => rfl
                    | cons a r ih => rw [List.map_cons, List.map_cons, List.sum_cons, ih, SX.S_len, List.flatten_cons, List.length_append]
                  rw [sumF, emptyS, SX.S_len, List.length_nil, Nat.mul_zero, Nat.add_zero]
                  exact le_size (by omega)
                rw [emptyS, join_flat]
                refine ⟨_, rfl, t2, _, _, _, rfl, rfl, SqT.of (sm _ _ ht29), rfl, _, _, rfl, rfl, le_size (by rw [SX.S_len, SX.S_len]; have := (stl s hss).1; omega), ?_⟩
                rw [S_cat, eqx]
                refine ⟨_, rfl, rfl, false, congrArg V.bl (by simp), iteF ⟨rfl, sm⟩⟩
            · rintro σ' K10 ⟨rfl, s10⟩
              have ht210 := s10 _ _ ht29
              have hl210 := s10 _ _ hl29
              refine ⟨_, rfl, t2, _, _, _, rfl, rfl, SqT.of ht210, rfl, .inl ⟨rfl, _, SqL.of hl210⟩, l2, _, _, rfl, rfl, hl210, lt_size (by rw [nlen]; omega), ?_⟩
              have X11 : Ex p K1 (upd K10 l2 (.lst (nums m ++ [V.str "more"]))) := (X9.trans (Same.ex s10)).updNew hl20
              have st11 : St K ns a (upd K10 l2 (.lst (nums m ++ [V.str "more"]))) p := stk.upd (st9'.same s10) X11 nl2
              have n32 : l3 ≠ l2 := fun z => by rw [z, hl2] at hl30; cases hl30
              have nt32 : t3 ≠ l2 := fun z => by
                have := s3 _ _ hl2
                rw [← z, ht3] at this
                cases this
              have ht311 : upd K10 l2 (.lst (nums m ++ [V.str "more"])) t3 = some (.tup [.str (SX.S s), .ref l3]) := by rw [upd_ne nt32]; exact s10 _ _ (X39 _ _ nt3 ht3)
              have hl311 : upd K10 l2 (.lst (nums m ++ [V.str "more"])) l3 = some (.lst (nums m)) := by rw [upd_ne n32]; exact s10 _ _ (X39 _ _ nl3 hl3)
              refine ⟨_, rfl, _, rfl, _, rfl, b, sg, us, ws, u, x, rfl, hLk.exP X11 stk.1, hpl, hus, by omega, hxs, fun K12 v12' s12 hR12 => ?_⟩
              refine ⟨_, rfl, v12', .ref t3, gone ws x u [], rfl, hR12.ra, .inr ⟨t3, l3, s, m, hg, rfl, s12 _ _ ht311, s12 _ _ hl311⟩, bound, fun K13 s13 => ⟨true, rfl, iteF ?_⟩⟩
              exact ⟨_, _, _, _, _, _, rfl, (xk.trans X11).trans (Same.ex (s12.trans s13)), st11.same (s12.trans s13)⟩
        · rintro σ H10 ⟨v7, v8, v9, v10, v11, v12, rfl, x10, st10⟩
          exact ⟨_, _, _, _, _, _, _, _, _, _, _, rfl, st10⟩
    · rintro σ H2 ⟨v2, v3, v4, v5, v6, v7, v8, v9, v10, v11, v12, rfl, st2⟩
      exact k _
end
end J


set_option Elab.async false
set_option linter.all false
set_option maxRecDepth 100000
set_option maxHeartbeats 4000000
namespace J
open PySem L2
theorem all_mk {l : PySem.W.OpenLaw} {w : World} {K : PySem.W.Frag} {h : Heap} {mg : Str → Option Value} {fa f_InvalidLoom_init f_is_number f_is_sequence f_is_signs f_is_string_over f_is_word f_check_signs f_check_text f_is_arc f_Loom_init f_Loom_eq f_shorter_first f_book f_is_book f_check_book f_words f_is_plain f_check_plain f_standings f_go f_read_on f_l_take f_l_like f_l_signs f_l_word f_l_tree f_l_shuffled f_l_gone f_l_text f_law C_InvalidLoom C_Loom : Addr} (X : K.In h) (G : h.Ns mainGlobals mg) (hfa : mg "law" = some (.ref fa))
    {od_InvalidLoom_init an_InvalidLoom_init : Option Addr} {sl_InvalidLoom_init : Array (Option Value)} {oc_InvalidLoom_init kV_InvalidLoom_init dc_InvalidLoom_init pm_InvalidLoom_init cd_InvalidLoom_init ct_InvalidLoom_init : Value}
    {od_is_number an_is_number : Option Addr} {sl_is_number : Array (Option Value)} {oc_is_number kV_is_number dc_is_number pm_is_number cd_is_number ct_is_number : Value}
    {od_is_sequence an_is_sequence : Option Addr} {sl_is_sequence : Array (Option Value)} {oc_is_sequence kV_is_sequence dc_is_sequence pm_is_sequence cd_is_sequence ct_is_sequence : Value}
    {od_is_signs an_is_signs : Option Addr} {sl_is_signs : Array (Option Value)} {oc_is_signs kV_is_signs dc_is_signs pm_is_signs cd_is_signs ct_is_signs : Value}
    {od_is_string_over an_is_string_over : Option Addr} {sl_is_string_over : Array (Option Value)} {oc_is_string_over kV_is_string_over dc_is_string_over pm_is_string_over cd_is_string_over ct_is_string_over : Value}
    {od_is_word an_is_word : Option Addr} {sl_is_word : Array (Option Value)} {oc_is_word kV_is_word dc_is_word pm_is_word cd_is_word ct_is_word : Value}
    {od_check_signs an_check_signs : Option Addr} {sl_check_signs : Array (Option Value)} {oc_check_signs kV_check_signs dc_check_signs pm_check_signs cd_check_signs ct_check_signs : Value}
    {od_check_text an_check_text : Option Addr} {sl_check_text : Array (Option Value)} {oc_check_text kV_check_text dc_check_text pm_check_text cd_check_text ct_check_text : Value}
    {od_is_arc an_is_arc : Option Addr} {sl_is_arc : Array (Option Value)} {oc_is_arc kV_is_arc dc_is_arc pm_is_arc cd_is_arc ct_is_arc : Value}
    {od_Loom_init an_Loom_init : Option Addr} {sl_Loom_init : Array (Option Value)} {oc_Loom_init kV_Loom_init dc_Loom_init pm_Loom_init cd_Loom_init ct_Loom_init : Value}
    {od_Loom_eq an_Loom_eq : Option Addr} {sl_Loom_eq : Array (Option Value)} {oc_Loom_eq kV_Loom_eq dc_Loom_eq pm_Loom_eq cd_Loom_eq ct_Loom_eq : Value}
    {od_shorter_first an_shorter_first : Option Addr} {sl_shorter_first : Array (Option Value)} {oc_shorter_first kV_shorter_first dc_shorter_first pm_shorter_first cd_shorter_first ct_shorter_first : Value}
    {od_book an_book : Option Addr} {sl_book : Array (Option Value)} {oc_book kV_book dc_book pm_book cd_book ct_book : Value}
    {od_is_book an_is_book : Option Addr} {sl_is_book : Array (Option Value)} {oc_is_book kV_is_book dc_is_book pm_is_book cd_is_book ct_is_book : Value}
    {od_check_book an_check_book : Option Addr} {sl_check_book : Array (Option Value)} {oc_check_book kV_check_book dc_check_book pm_check_book cd_check_book ct_check_book : Value}
    {od_words an_words : Option Addr} {sl_words : Array (Option Value)} {oc_words kV_words dc_words pm_words cd_words ct_words : Value}
    {od_is_plain an_is_plain : Option Addr} {sl_is_plain : Array (Option Value)} {oc_is_plain kV_is_plain dc_is_plain pm_is_plain cd_is_plain ct_is_plain : Value}
    {od_check_plain an_check_plain : Option Addr} {sl_check_plain : Array (Option Value)} {oc_check_plain kV_check_plain dc_check_plain pm_check_plain cd_check_plain ct_check_plain : Value}
    {od_standings an_standings : Option Addr} {sl_standings : Array (Option Value)} {oc_standings kV_standings dc_standings pm_standings cd_standings ct_standings : Value}
    {od_go an_go : Option Addr} {sl_go : Array (Option Value)} {oc_go kV_go dc_go pm_go cd_go ct_go : Value}
    {od_read_on an_read_on : Option Addr} {sl_read_on : Array (Option Value)} {oc_read_on kV_read_on dc_read_on pm_read_on cd_read_on ct_read_on : Value}
    {od_l_take an_l_take : Option Addr} {sl_l_take : Array (Option Value)} {oc_l_take kV_l_take dc_l_take pm_l_take cd_l_take ct_l_take : Value}
    {od_l_like an_l_like : Option Addr} {sl_l_like : Array (Option Value)} {oc_l_like kV_l_like dc_l_like pm_l_like cd_l_like ct_l_like : Value}
    {od_l_signs an_l_signs : Option Addr} {sl_l_signs : Array (Option Value)} {oc_l_signs kV_l_signs dc_l_signs pm_l_signs cd_l_signs ct_l_signs : Value}
    {od_l_word an_l_word : Option Addr} {sl_l_word : Array (Option Value)} {oc_l_word kV_l_word dc_l_word pm_l_word cd_l_word ct_l_word : Value}
    {od_l_tree an_l_tree : Option Addr} {sl_l_tree : Array (Option Value)} {oc_l_tree kV_l_tree dc_l_tree pm_l_tree cd_l_tree ct_l_tree : Value}
    {od_l_shuffled an_l_shuffled : Option Addr} {sl_l_shuffled : Array (Option Value)} {oc_l_shuffled kV_l_shuffled dc_l_shuffled pm_l_shuffled cd_l_shuffled ct_l_shuffled : Value}
    {od_l_gone an_l_gone : Option Addr} {sl_l_gone : Array (Option Value)} {oc_l_gone kV_l_gone dc_l_gone pm_l_gone cd_l_gone ct_l_gone : Value}
    {od_l_text an_l_text : Option Addr} {sl_l_text : Array (Option Value)} {oc_l_text kV_l_text dc_l_text pm_l_text cd_l_text ct_l_text : Value}
    {od_law an_law : Option Addr} {sl_law : Array (Option Value)} {oc_law kV_law dc_law pm_law cd_law ct_law : Value}
    {t_MOST_SIGNS : Tok}
    {t_LONGEST_WORD : Tok}
    {t_LONGEST_TEXT : Tok}
    {t_LAST_STATE : Tok}
    {t_MOST_ARCS : Tok}
    (a_CLoom : PySem.W.nsIn K mainGlobals "Loom" = some (some (.ref C_Loom)))
    (a_CInvalidLoom : PySem.W.nsIn K mainGlobals "InvalidLoom" = some (some (.ref C_InvalidLoom)))
    (a_InvalidLoom_init : PySem.W.findIn K (.ref C_InvalidLoom) "__init__" = some (some (.ref f_InvalidLoom_init)))
    (i_InvalidLoom_init : PySem.W.isFn K (.ref f_InvalidLoom_init) = true)
    (l_InvalidLoom_init : K.lookup f_InvalidLoom_init = some ⟨oc_InvalidLoom_init, od_InvalidLoom_init, .func (PySem.W.fnOf "__init__" "InvalidLoom.__init__" (defArgs s_InvalidLoom_init) (defBody s_InvalidLoom_init) (defScope s_InvalidLoom_init) .none kV_InvalidLoom_init dc_InvalidLoom_init pm_InvalidLoom_init an_InvalidLoom_init cd_InvalidLoom_init ct_InvalidLoom_init), sl_InvalidLoom_init⟩)
    (c_InvalidLoom_init : PySem.W.codeIn K cd_InvalidLoom_init "InvalidLoom.__init__" = true)
    (k_InvalidLoom_init : PySem.W.keepIn K (.ref f_InvalidLoom_init) = true)
    (a_is_number : PySem.W.nsIn K mainGlobals "is_number" = some (some (.ref f_is_number)))
    (l_is_number : K.lookup f_is_number = some ⟨oc_is_number, od_is_number, .func (PySem.W.fnOf "is_number" "is_number" (defArgs s_is_number) (defBody s_is_number) (defScope s_is_number) .none kV_is_number dc_is_number pm_is_number an_is_number cd_is_number ct_is_number), sl_is_number⟩)
    (c_is_number : PySem.W.codeIn K cd_is_number "is_number" = true)
    (k_is_number : PySem.W.keepIn K (.ref f_is_number) = true)
    (a_is_sequence : PySem.W.nsIn K mainGlobals "is_sequence" = some (some (.ref f_is_sequence)))
    (l_is_sequence : K.lookup f_is_sequence = some ⟨oc_is_sequence, od_is_sequence, .func (PySem.W.fnOf "is_sequence" "is_sequence" (defArgs s_is_sequence) (defBody s_is_sequence) (defScope s_is_sequence) .none kV_is_sequence dc_is_sequence pm_is_sequence an_is_sequence cd_is_sequence ct_is_sequence), sl_is_sequence⟩)
    (c_is_sequence : PySem.W.codeIn K cd_is_sequence "is_sequence" = true)
    (k_is_sequence : PySem.W.keepIn K (.ref f_is_sequence) = true)
    (a_is_signs : PySem.W.nsIn K mainGlobals "is_signs" = some (some (.ref f_is_signs)))
    (l_is_signs : K.lookup f_is_signs = some ⟨oc_is_signs, od_is_signs, .func (PySem.W.fnOf "is_signs" "is_signs" (defArgs s_is_signs) (defBody s_is_signs) (defScope s_is_signs) .none kV_is_signs dc_is_signs pm_is_signs an_is_signs cd_is_signs ct_is_signs), sl_is_signs⟩)
    (c_is_signs : PySem.W.codeIn K cd_is_signs "is_signs" = true)
    (k_is_signs : PySem.W.keepIn K (.ref f_is_signs) = true)
    (a_is_string_over : PySem.W.nsIn K mainGlobals "is_string_over" = some (some (.ref f_is_string_over)))
    (l_is_string_over : K.lookup f_is_string_over = some ⟨oc_is_string_over, od_is_string_over, .func (PySem.W.fnOf "is_string_over" "is_string_over" (defArgs s_is_string_over) (defBody s_is_string_over) (defScope s_is_string_over) .none kV_is_string_over dc_is_string_over pm_is_string_over an_is_string_over cd_is_string_over ct_is_string_over), sl_is_string_over⟩)
    (c_is_string_over : PySem.W.codeIn K cd_is_string_over "is_string_over" = true)
    (k_is_string_over : PySem.W.keepIn K (.ref f_is_string_over) = true)
    (a_is_word : PySem.W.nsIn K mainGlobals "is_word" = some (some (.ref f_is_word)))
    (l_is_word : K.lookup f_is_word = some ⟨oc_is_word, od_is_word, .func (PySem.W.fnOf "is_word" "is_word" (defArgs s_is_word) (defBody s_is_word) (defScope s_is_word) .none kV_is_word dc_is_word pm_is_word an_is_word cd_is_word ct_is_word), sl_is_word⟩)
    (c_is_word : PySem.W.codeIn K cd_is_word "is_word" = true)
    (k_is_word : PySem.W.keepIn K (.ref f_is_word) = true)
    (a_check_signs : PySem.W.nsIn K mainGlobals "check_signs" = some (some (.ref f_check_signs)))
    (l_check_signs : K.lookup f_check_signs = some ⟨oc_check_signs, od_check_signs, .func (PySem.W.fnOf "check_signs" "check_signs" (defArgs s_check_signs) (defBody s_check_signs) (defScope s_check_signs) .none kV_check_signs dc_check_signs pm_check_signs an_check_signs cd_check_signs ct_check_signs), sl_check_signs⟩)
    (c_check_signs : PySem.W.codeIn K cd_check_signs "check_signs" = true)
    (k_check_signs : PySem.W.keepIn K (.ref f_check_signs) = true)
    (a_check_text : PySem.W.nsIn K mainGlobals "check_text" = some (some (.ref f_check_text)))
    (l_check_text : K.lookup f_check_text = some ⟨oc_check_text, od_check_text, .func (PySem.W.fnOf "check_text" "check_text" (defArgs s_check_text) (defBody s_check_text) (defScope s_check_text) .none kV_check_text dc_check_text pm_check_text an_check_text cd_check_text ct_check_text), sl_check_text⟩)
    (c_check_text : PySem.W.codeIn K cd_check_text "check_text" = true)
    (k_check_text : PySem.W.keepIn K (.ref f_check_text) = true)
    (a_is_arc : PySem.W.nsIn K mainGlobals "is_arc" = some (some (.ref f_is_arc)))
    (l_is_arc : K.lookup f_is_arc = some ⟨oc_is_arc, od_is_arc, .func (PySem.W.fnOf "is_arc" "is_arc" (defArgs s_is_arc) (defBody s_is_arc) (defScope s_is_arc) .none kV_is_arc dc_is_arc pm_is_arc an_is_arc cd_is_arc ct_is_arc), sl_is_arc⟩)
    (c_is_arc : PySem.W.codeIn K cd_is_arc "is_arc" = true)
    (k_is_arc : PySem.W.keepIn K (.ref f_is_arc) = true)
    (a_Loom_init : PySem.W.findIn K (.ref C_Loom) "__init__" = some (some (.ref f_Loom_init)))
    (i_Loom_init : PySem.W.isFn K (.ref f_Loom_init) = true)
    (l_Loom_init : K.lookup f_Loom_init = some ⟨oc_Loom_init, od_Loom_init, .func (PySem.W.fnOf "__init__" "Loom.__init__" (defArgs s_Loom_init) (defBody s_Loom_init) (defScope s_Loom_init) .none kV_Loom_init dc_Loom_init pm_Loom_init an_Loom_init cd_Loom_init ct_Loom_init), sl_Loom_init⟩)
    (c_Loom_init : PySem.W.codeIn K cd_Loom_init "Loom.__init__" = true)
    (k_Loom_init : PySem.W.keepIn K (.ref f_Loom_init) = true)
    (a_Loom_eq : PySem.W.findIn K (.ref C_Loom) "__eq__" = some (some (.ref f_Loom_eq)))
    (l_Loom_eq : K.lookup f_Loom_eq = some ⟨oc_Loom_eq, od_Loom_eq, .func (PySem.W.fnOf "__eq__" "Loom.__eq__" (defArgs s_Loom_eq) (defBody s_Loom_eq) (defScope s_Loom_eq) .none kV_Loom_eq dc_Loom_eq pm_Loom_eq an_Loom_eq cd_Loom_eq ct_Loom_eq), sl_Loom_eq⟩)
    (c_Loom_eq : PySem.W.codeIn K cd_Loom_eq "Loom.__eq__" = true)
    (k_Loom_eq : PySem.W.keepIn K (.ref f_Loom_eq) = true)
    (a_shorter_first : PySem.W.nsIn K mainGlobals "shorter_first" = some (some (.ref f_shorter_first)))
    (l_shorter_first : K.lookup f_shorter_first = some ⟨oc_shorter_first, od_shorter_first, .func (PySem.W.fnOf "shorter_first" "shorter_first" (defArgs s_shorter_first) (defBody s_shorter_first) (defScope s_shorter_first) .none kV_shorter_first dc_shorter_first pm_shorter_first an_shorter_first cd_shorter_first ct_shorter_first), sl_shorter_first⟩)
    (c_shorter_first : PySem.W.codeIn K cd_shorter_first "shorter_first" = true)
    (k_shorter_first : PySem.W.keepIn K (.ref f_shorter_first) = true)
    (a_book : PySem.W.nsIn K mainGlobals "book" = some (some (.ref f_book)))
    (l_book : K.lookup f_book = some ⟨oc_book, od_book, .func (PySem.W.fnOf "book" "book" (defArgs s_book) (defBody s_book) (defScope s_book) .none kV_book dc_book pm_book an_book cd_book ct_book), sl_book⟩)
    (c_book : PySem.W.codeIn K cd_book "book" = true)
    (k_book : PySem.W.keepIn K (.ref f_book) = true)
    (a_is_book : PySem.W.nsIn K mainGlobals "is_book" = some (some (.ref f_is_book)))
    (l_is_book : K.lookup f_is_book = some ⟨oc_is_book, od_is_book, .func (PySem.W.fnOf "is_book" "is_book" (defArgs s_is_book) (defBody s_is_book) (defScope s_is_book) .none kV_is_book dc_is_book pm_is_book an_is_book cd_is_book ct_is_book), sl_is_book⟩)
    (c_is_book : PySem.W.codeIn K cd_is_book "is_book" = true)
    (k_is_book : PySem.W.keepIn K (.ref f_is_book) = true)
    (a_check_book : PySem.W.nsIn K mainGlobals "check_book" = some (some (.ref f_check_book)))
    (l_check_book : K.lookup f_check_book = some ⟨oc_check_book, od_check_book, .func (PySem.W.fnOf "check_book" "check_book" (defArgs s_check_book) (defBody s_check_book) (defScope s_check_book) .none kV_check_book dc_check_book pm_check_book an_check_book cd_check_book ct_check_book), sl_check_book⟩)
    (c_check_book : PySem.W.codeIn K cd_check_book "check_book" = true)
    (k_check_book : PySem.W.keepIn K (.ref f_check_book) = true)
    (a_words : PySem.W.nsIn K mainGlobals "words" = some (some (.ref f_words)))
    (l_words : K.lookup f_words = some ⟨oc_words, od_words, .func (PySem.W.fnOf "words" "words" (defArgs s_words) (defBody s_words) (defScope s_words) .none kV_words dc_words pm_words an_words cd_words ct_words), sl_words⟩)
    (c_words : PySem.W.codeIn K cd_words "words" = true)
    (k_words : PySem.W.keepIn K (.ref f_words) = true)
    (a_is_plain : PySem.W.nsIn K mainGlobals "is_plain" = some (some (.ref f_is_plain)))
    (l_is_plain : K.lookup f_is_plain = some ⟨oc_is_plain, od_is_plain, .func (PySem.W.fnOf "is_plain" "is_plain" (defArgs s_is_plain) (defBody s_is_plain) (defScope s_is_plain) .none kV_is_plain dc_is_plain pm_is_plain an_is_plain cd_is_plain ct_is_plain), sl_is_plain⟩)
    (c_is_plain : PySem.W.codeIn K cd_is_plain "is_plain" = true)
    (k_is_plain : PySem.W.keepIn K (.ref f_is_plain) = true)
    (a_check_plain : PySem.W.nsIn K mainGlobals "check_plain" = some (some (.ref f_check_plain)))
    (l_check_plain : K.lookup f_check_plain = some ⟨oc_check_plain, od_check_plain, .func (PySem.W.fnOf "check_plain" "check_plain" (defArgs s_check_plain) (defBody s_check_plain) (defScope s_check_plain) .none kV_check_plain dc_check_plain pm_check_plain an_check_plain cd_check_plain ct_check_plain), sl_check_plain⟩)
    (c_check_plain : PySem.W.codeIn K cd_check_plain "check_plain" = true)
    (k_check_plain : PySem.W.keepIn K (.ref f_check_plain) = true)
    (a_standings : PySem.W.nsIn K mainGlobals "standings" = some (some (.ref f_standings)))
    (l_standings : K.lookup f_standings = some ⟨oc_standings, od_standings, .func (PySem.W.fnOf "standings" "standings" (defArgs s_standings) (defBody s_standings) (defScope s_standings) .none kV_standings dc_standings pm_standings an_standings cd_standings ct_standings), sl_standings⟩)
    (c_standings : PySem.W.codeIn K cd_standings "standings" = true)
    (k_standings : PySem.W.keepIn K (.ref f_standings) = true)
    (a_go : PySem.W.nsIn K mainGlobals "go" = some (some (.ref f_go)))
    (l_go : K.lookup f_go = some ⟨oc_go, od_go, .func (PySem.W.fnOf "go" "go" (defArgs s_go) (defBody s_go) (defScope s_go) .none kV_go dc_go pm_go an_go cd_go ct_go), sl_go⟩)
    (c_go : PySem.W.codeIn K cd_go "go" = true)
    (k_go : PySem.W.keepIn K (.ref f_go) = true)
    (a_read_on : PySem.W.nsIn K mainGlobals "read_on" = some (some (.ref f_read_on)))
    (l_read_on : K.lookup f_read_on = some ⟨oc_read_on, od_read_on, .func (PySem.W.fnOf "read_on" "read_on" (defArgs s_read_on) (defBody s_read_on) (defScope s_read_on) .none kV_read_on dc_read_on pm_read_on an_read_on cd_read_on ct_read_on), sl_read_on⟩)
    (c_read_on : PySem.W.codeIn K cd_read_on "read_on" = true)
    (k_read_on : PySem.W.keepIn K (.ref f_read_on) = true)
    (a_l_take : PySem.W.nsIn K mainGlobals "_law_take" = some (some (.ref f_l_take)))
    (l_l_take : K.lookup f_l_take = some ⟨oc_l_take, od_l_take, .func (PySem.W.fnOf "_law_take" "_law_take" (defArgs s_l_take) (defBody s_l_take) (defScope s_l_take) .none kV_l_take dc_l_take pm_l_take an_l_take cd_l_take ct_l_take), sl_l_take⟩)
    (c_l_take : PySem.W.codeIn K cd_l_take "_law_take" = true)
    (k_l_take : PySem.W.keepIn K (.ref f_l_take) = true)
    (a_l_like : PySem.W.nsIn K mainGlobals "_law_like" = some (some (.ref f_l_like)))
    (l_l_like : K.lookup f_l_like = some ⟨oc_l_like, od_l_like, .func (PySem.W.fnOf "_law_like" "_law_like" (defArgs s_l_like) (defBody s_l_like) (defScope s_l_like) .none kV_l_like dc_l_like pm_l_like an_l_like cd_l_like ct_l_like), sl_l_like⟩)
    (c_l_like : PySem.W.codeIn K cd_l_like "_law_like" = true)
    (k_l_like : PySem.W.keepIn K (.ref f_l_like) = true)
    (a_l_signs : PySem.W.nsIn K mainGlobals "_law_signs" = some (some (.ref f_l_signs)))
    (l_l_signs : K.lookup f_l_signs = some ⟨oc_l_signs, od_l_signs, .func (PySem.W.fnOf "_law_signs" "_law_signs" (defArgs s_l_signs) (defBody s_l_signs) (defScope s_l_signs) .none kV_l_signs dc_l_signs pm_l_signs an_l_signs cd_l_signs ct_l_signs), sl_l_signs⟩)
    (c_l_signs : PySem.W.codeIn K cd_l_signs "_law_signs" = true)
    (k_l_signs : PySem.W.keepIn K (.ref f_l_signs) = true)
    (a_l_word : PySem.W.nsIn K mainGlobals "_law_word" = some (some (.ref f_l_word)))
    (l_l_word : K.lookup f_l_word = some ⟨oc_l_word, od_l_word, .func (PySem.W.fnOf "_law_word" "_law_word" (defArgs s_l_word) (defBody s_l_word) (defScope s_l_word) .none kV_l_word dc_l_word pm_l_word an_l_word cd_l_word ct_l_word), sl_l_word⟩)
    (c_l_word : PySem.W.codeIn K cd_l_word "_law_word" = true)
    (k_l_word : PySem.W.keepIn K (.ref f_l_word) = true)
    (a_l_tree : PySem.W.nsIn K mainGlobals "_law_tree" = some (some (.ref f_l_tree)))
    (l_l_tree : K.lookup f_l_tree = some ⟨oc_l_tree, od_l_tree, .func (PySem.W.fnOf "_law_tree" "_law_tree" (defArgs s_l_tree) (defBody s_l_tree) (defScope s_l_tree) .none kV_l_tree dc_l_tree pm_l_tree an_l_tree cd_l_tree ct_l_tree), sl_l_tree⟩)
    (c_l_tree : PySem.W.codeIn K cd_l_tree "_law_tree" = true)
    (k_l_tree : PySem.W.keepIn K (.ref f_l_tree) = true)
    (a_l_shuffled : PySem.W.nsIn K mainGlobals "_law_shuffled" = some (some (.ref f_l_shuffled)))
    (l_l_shuffled : K.lookup f_l_shuffled = some ⟨oc_l_shuffled, od_l_shuffled, .func (PySem.W.fnOf "_law_shuffled" "_law_shuffled" (defArgs s_l_shuffled) (defBody s_l_shuffled) (defScope s_l_shuffled) .none kV_l_shuffled dc_l_shuffled pm_l_shuffled an_l_shuffled cd_l_shuffled ct_l_shuffled), sl_l_shuffled⟩)
    (c_l_shuffled : PySem.W.codeIn K cd_l_shuffled "_law_shuffled" = true)
    (k_l_shuffled : PySem.W.keepIn K (.ref f_l_shuffled) = true)
    (a_l_gone : PySem.W.nsIn K mainGlobals "_law_gone" = some (some (.ref f_l_gone)))
    (l_l_gone : K.lookup f_l_gone = some ⟨oc_l_gone, od_l_gone, .func (PySem.W.fnOf "_law_gone" "_law_gone" (defArgs s_l_gone) (defBody s_l_gone) (defScope s_l_gone) .none kV_l_gone dc_l_gone pm_l_gone an_l_gone cd_l_gone ct_l_gone), sl_l_gone⟩)
    (c_l_gone : PySem.W.codeIn K cd_l_gone "_law_gone" = true)
    (k_l_gone : PySem.W.keepIn K (.ref f_l_gone) = true)
    (a_l_text : PySem.W.nsIn K mainGlobals "_law_text" = some (some (.ref f_l_text)))
    (l_l_text : K.lookup f_l_text = some ⟨oc_l_text, od_l_text, .func (PySem.W.fnOf "_law_text" "_law_text" (defArgs s_l_text) (defBody s_l_text) (defScope s_l_text) .none kV_l_text dc_l_text pm_l_text an_l_text cd_l_text ct_l_text), sl_l_text⟩)
    (c_l_text : PySem.W.codeIn K cd_l_text "_law_text" = true)
    (k_l_text : PySem.W.keepIn K (.ref f_l_text) = true)
    (a_law : PySem.W.nsIn K mainGlobals "law" = some (some (.ref f_law)))
    (l_law : K.lookup f_law = some ⟨oc_law, od_law, .func (PySem.W.fnOf "law" "law" (defArgs s_law) (defBody s_law) (defScope s_law) .none kV_law dc_law pm_law an_law cd_law ct_law), sl_law⟩)
    (c_law : PySem.W.codeIn K cd_law "law" = true)
    (k_law : PySem.W.keepIn K (.ref f_law) = true)
    (pg_Loom : PySem.W.plainGet K C_Loom Str.empty = true)
    (hd_Loom : PySem.W.hasDictIn K C_Loom = true)
    (po_Loom : PySem.W.plainOver K C_Loom = true)
    (sa_Loom : PySem.W.findIn K (.ref C_Loom) "__setattr__" = some (some (.builtin "object.__setattr__")))
    (mk_Loom : PySem.W.makesIn K C_Loom = true)
    (kc_Loom : PySem.W.keepIn K (.ref C_Loom) = true)
    (na_Loom_signs : PySem.W.findIn K (.ref C_Loom) "signs" = some none)
    (na_Loom_arcs : PySem.W.findIn K (.ref C_Loom) "arcs" = some none)
    (ic_Loom : PySem.W.findIn K (.ref C_Loom) "__class__" = some (some (.builtin "object.__class__")))
    (ig : PySem.W.specialIn K (.builtin "object.__class__") "__get__" = some (some (.builtin "getset_descriptor.__get__")))
    (it : PySem.W.takesIn K (.builtin "object.__class__") = some true)
    (im_Loom : PySem.W.mroIn K C_Loom (.type "object") = some true)
    (cc_Loom : PySem.W.isClsIn K C_Loom = true)
    (ty_Loom : PySem.W.typeIn K (.ref C_Loom) = some (.type "type"))
    (z_all : PySem.W.nsIn K mainGlobals "all" = some none)
    (z_any : PySem.W.nsIn K mainGlobals "any" = some none)
    (z_bool : PySem.W.nsIn K mainGlobals "bool" = some none)
    (z_dict : PySem.W.nsIn K mainGlobals "dict" = some none)
    (z_enumerate : PySem.W.nsIn K mainGlobals "enumerate" = some none)
    (z_int : PySem.W.nsIn K mainGlobals "int" = some none)
    (z_isinstance : PySem.W.nsIn K mainGlobals "isinstance" = some none)
    (z_len : PySem.W.nsIn K mainGlobals "len" = some none)
    (z_list : PySem.W.nsIn K mainGlobals "list" = some none)
    (z_range : PySem.W.nsIn K mainGlobals "range" = some none)
    (z_sorted : PySem.W.nsIn K mainGlobals "sorted" = some none)
    (z_str : PySem.W.nsIn K mainGlobals "str" = some none)
    (z_tuple : PySem.W.nsIn K mainGlobals "tuple" = some none)
    (z_zip : PySem.W.nsIn K mainGlobals "zip" = some none)
    (g_MOST_SIGNS : PySem.W.nsIn K mainGlobals "MOST_SIGNS" = some (some (.int 4 t_MOST_SIGNS)))
    (g_LONGEST_WORD : PySem.W.nsIn K mainGlobals "LONGEST_WORD" = some (some (.int 12 t_LONGEST_WORD)))
    (g_LONGEST_TEXT : PySem.W.nsIn K mainGlobals "LONGEST_TEXT" = some (some (.int 2000 t_LONGEST_TEXT)))
    (g_LAST_STATE : PySem.W.nsIn K mainGlobals "LAST_STATE" = some (some (.int 63 t_LAST_STATE)))
    (g_MOST_ARCS : PySem.W.nsIn K mainGlobals "MOST_ARCS" = some (some (.int 200 t_MOST_ARCS)))
    : ∃ fd : FuncData, (∀ (s : Shared) (v : Value), BindsTo s fd ⟨[v], []⟩ [("_law_script", v)]) ∧ ∀ base : Heap, K.In base → base.Ns mainGlobals mg → FnOk l.prog w K mg base CX0 9 fa fd P_law (spLaw K) := by
  have e := hfa.symm.trans (PySem.W.mg_of X G a_law)
  cases e
  have F_InvalidLoom_init := fun_mk (st := s_InvalidLoom_init) l_InvalidLoom_init c_InvalidLoom_init k_InvalidLoom_init
  have b_InvalidLoom_init := F_InvalidLoom_init.binds (ps := P_InvalidLoom_init) fun _ _ _ _ _ _ us hl => match us, hl with | [_, _, _], _ => rfl
  have F_is_number := fun_mk (st := s_is_number) l_is_number c_is_number k_is_number
  have b_is_number := F_is_number.binds (ps := P_is_number) fun _ _ _ _ _ _ us hl => match us, hl with | [_, _, _], _ => rfl
  have F_is_sequence := fun_mk (st := s_is_sequence) l_is_sequence c_is_sequence k_is_sequence
  have b_is_sequence := F_is_sequence.binds (ps := P_is_sequence) fun _ _ _ _ _ _ us hl => match us, hl with | [_, _, _], _ => rfl
  have F_is_signs := fun_mk (st := s_is_signs) l_is_signs c_is_signs k_is_signs
  have b_is_signs := F_is_signs.binds (ps := P_is_signs) fun _ _ _ _ _ _ us hl => match us, hl with | [_], _ => rfl
  have F_is_string_over := fun_mk (st := s_is_string_over) l_is_string_over c_is_string_over k_is_string_over
  have b_is_string_over := F_is_string_over.binds (ps := P_is_string_over) fun _ _ _ _ _ _ us hl => match us, hl with | [_, _, _, _], _ => rfl
  have F_is_word := fun_mk (st := s_is_word) l_is_word c_is_word k_is_word
  have b_is_word := F_is_word.binds (ps := P_is_word) fun _ _ _ _ _ _ us hl => match us, hl with | [_, _], _ => rfl
  have F_check_signs := fun_mk (st := s_check_signs) l_check_signs c_check_signs k_check_signs
  have b_check_signs := F_check_signs.binds (ps := P_check_signs) fun _ _ _ _ _ _ us hl => match us, hl with | [_], _ => rfl
  have F_check_text := fun_mk (st := s_check_text) l_check_text c_check_text k_check_text
  have b_check_text := F_check_text.binds (ps := P_check_text) fun _ _ _ _ _ _ us hl => match us, hl with | [_, _], _ => rfl
  have F_is_arc := fun_mk (st := s_is_arc) l_is_arc c_is_arc k_is_arc
  have b_is_arc := F_is_arc.binds (ps := P_is_arc) fun _ _ _ _ _ _ us hl => match us, hl with | [_, _], _ => rfl
  have F_Loom_init := fun_mk (st := s_Loom_init) l_Loom_init c_Loom_init k_Loom_init
  have b_Loom_init := F_Loom_init.binds (ps := P_Loom_init) fun _ _ _ _ _ _ us hl => match us, hl with | [_, _, _], _ => rfl
  have F_Loom_eq := fun_mk (st := s_Loom_eq) l_Loom_eq c_Loom_eq k_Loom_eq
  have b_Loom_eq := F_Loom_eq.binds (ps := P_Loom_eq) fun _ _ _ _ _ _ us hl => match us, hl with | [_, _], _ => rfl
  have F_shorter_first := fun_mk (st := s_shorter_first) l_shorter_first c_shorter_first k_shorter_first
  have b_shorter_first := F_shorter_first.binds (ps := P_shorter_first) fun _ _ _ _ _ _ us hl => match us, hl with | [_], _ => rfl
  have F_book := fun_mk (st := s_book) l_book c_book k_book
  have b_book := F_book.binds (ps := P_book) fun _ _ _ _ _ _ us hl => match us, hl with | [_, _], _ => rfl
  have F_is_book := fun_mk (st := s_is_book) l_is_book c_is_book k_is_book
  have b_is_book := F_is_book.binds (ps := P_is_book) fun _ _ _ _ _ _ us hl => match us, hl with | [_], _ => rfl
  have F_check_book := fun_mk (st := s_check_book) l_check_book c_check_book k_check_book
  have b_check_book := F_check_book.binds (ps := P_check_book) fun _ _ _ _ _ _ us hl => match us, hl with | [_], _ => rfl
  have F_words := fun_mk (st := s_words) l_words c_words k_words
  have b_words := F_words.binds (ps := P_words) fun _ _ _ _ _ _ us hl => match us, hl with | [_], _ => rfl
  have F_is_plain := fun_mk (st := s_is_plain) l_is_plain c_is_plain k_is_plain
  have b_is_plain := F_is_plain.binds (ps := P_is_plain) fun _ _ _ _ _ _ us hl => match us, hl with | [_], _ => rfl
  have F_check_plain := fun_mk (st := s_check_plain) l_check_plain c_check_plain k_check_plain
  have b_check_plain := F_check_plain.binds (ps := P_check_plain) fun _ _ _ _ _ _ us hl => match us, hl with | [_], _ => rfl
  have F_standings := fun_mk (st := s_standings) l_standings c_standings k_standings
  have b_standings := F_standings.binds (ps := P_standings) fun _ _ _ _ _ _ us hl => match us, hl with | [_], _ => rfl
  have F_go := fun_mk (st := s_go) l_go c_go k_go
  have b_go := F_go.binds (ps := P_go) fun _ _ _ _ _ _ us hl => match us, hl with | [_, _, _], _ => rfl
  have F_read_on := fun_mk (st := s_read_on) l_read_on c_read_on k_read_on
  have b_read_on := F_read_on.binds (ps := P_read_on) fun _ _ _ _ _ _ us hl => match us, hl with | [_, _, _], _ => rfl
  have F_l_take := fun_mk (st := s_l_take) l_l_take c_l_take k_l_take
  have b_l_take := F_l_take.binds (ps := P_l_take) fun _ _ _ _ _ _ us hl => match us, hl with | [_, _, _], _ => rfl
  have F_l_like := fun_mk (st := s_l_like) l_l_like c_l_like k_l_like
  have b_l_like := F_l_like.binds (ps := P_l_like) fun _ _ _ _ _ _ us hl => match us, hl with | [_, _], _ => rfl
  have F_l_signs := fun_mk (st := s_l_signs) l_l_signs c_l_signs k_l_signs
  have b_l_signs := F_l_signs.binds (ps := P_l_signs) fun _ _ _ _ _ _ us hl => match us, hl with | [_, _], _ => rfl
  have F_l_word := fun_mk (st := s_l_word) l_l_word c_l_word k_l_word
  have b_l_word := F_l_word.binds (ps := P_l_word) fun _ _ _ _ _ _ us hl => match us, hl with | [_, _, _, _], _ => rfl
  have F_l_tree := fun_mk (st := s_l_tree) l_l_tree c_l_tree k_l_tree
  have b_l_tree := F_l_tree.binds (ps := P_l_tree) fun _ _ _ _ _ _ us hl => match us, hl with | [_, _, _, _, _], _ => rfl
  have F_l_shuffled := fun_mk (st := s_l_shuffled) l_l_shuffled c_l_shuffled k_l_shuffled
  have b_l_shuffled := F_l_shuffled.binds (ps := P_l_shuffled) fun _ _ _ _ _ _ us hl => match us, hl with | [_, _, _], _ => rfl
  have F_l_gone := fun_mk (st := s_l_gone) l_l_gone c_l_gone k_l_gone
  have b_l_gone := F_l_gone.binds (ps := P_l_gone) fun _ _ _ _ _ _ us hl => match us, hl with | [_, _, _], _ => rfl
  have F_l_text := fun_mk (st := s_l_text) l_l_text c_l_text k_l_text
  have b_l_text := F_l_text.binds (ps := P_l_text) fun _ _ _ _ _ _ us hl => match us, hl with | [_, _, _, _], _ => rfl
  have F_law := fun_mk (st := s_law) l_law c_law k_law
  have b_law := F_law.binds (ps := P_law) fun _ _ _ _ _ _ us hl => match us, hl with | [_], _ => rfl
  exact ⟨_, fun s v => .of_eq rfl, fun base _ _ => ok_law {
    f_InvalidLoom_init := _
    fd_InvalidLoom_init := _
    F_InvalidLoom_init := F_InvalidLoom_init
    b_InvalidLoom_init := b_InvalidLoom_init
    f_is_number := _
    fd_is_number := _
    F_is_number := F_is_number
    b_is_number := b_is_number
    m_is_number := PySem.W.mg_of X G a_is_number
    f_is_sequence := _
    fd_is_sequence := _
    F_is_sequence := F_is_sequence
    b_is_sequence := b_is_sequence
    m_is_sequence := PySem.W.mg_of X G a_is_sequence
    f_is_signs := _
    fd_is_signs := _
    F_is_signs := F_is_signs
    b_is_signs := b_is_signs
    m_is_signs := PySem.W.mg_of X G a_is_signs
    f_is_string_over := _
    fd_is_string_over := _
    F_is_string_over := F_is_string_over
    b_is_string_over := b_is_string_over
    m_is_string_over := PySem.W.mg_of X G a_is_string_over
    f_is_word := _
    fd_is_word := _
    F_is_word := F_is_word
    b_is_word := b_is_word
    m_is_word := PySem.W.mg_of X G a_is_word
    f_check_signs := _
    fd_check_signs := _
    F_check_signs := F_check_signs
    b_check_signs := b_check_signs
    m_check_signs := PySem.W.mg_of X G a_check_signs
    f_check_text := _
    fd_check_text := _
    F_check_text := F_check_text
    b_check_text := b_check_text
    m_check_text := PySem.W.mg_of X G a_check_text
    f_is_arc := _
    fd_is_arc := _
    F_is_arc := F_is_arc
    b_is_arc := b_is_arc
    m_is_arc := PySem.W.mg_of X G a_is_arc
    f_Loom_init := _
    fd_Loom_init := _
    F_Loom_init := F_Loom_init
    b_Loom_init := b_Loom_init
    f_Loom_eq := _
    fd_Loom_eq := _
    F_Loom_eq := F_Loom_eq
    b_Loom_eq := b_Loom_eq
    f_shorter_first := _
    fd_shorter_first := _
    F_shorter_first := F_shorter_first
    b_shorter_first := b_shorter_first
    m_shorter_first := PySem.W.mg_of X G a_shorter_first
    f_book := _
    fd_book := _
    F_book := F_book
    b_book := b_book
    m_book := PySem.W.mg_of X G a_book
    f_is_book := _
    fd_is_book := _
    F_is_book := F_is_book
    b_is_book := b_is_book
    m_is_book := PySem.W.mg_of X G a_is_book
    f_check_book := _
    fd_check_book := _
    F_check_book := F_check_book
    b_check_book := b_check_book
    m_check_book := PySem.W.mg_of X G a_check_book
    f_words := _
    fd_words := _
    F_words := F_words
    b_words := b_words
    m_words := PySem.W.mg_of X G a_words
    f_is_plain := _
    fd_is_plain := _
    F_is_plain := F_is_plain
    b_is_plain := b_is_plain
    m_is_plain := PySem.W.mg_of X G a_is_plain
    f_check_plain := _
    fd_check_plain := _
    F_check_plain := F_check_plain
    b_check_plain := b_check_plain
    m_check_plain := PySem.W.mg_of X G a_check_plain
    f_standings := _
    fd_standings := _
    F_standings := F_standings
    b_standings := b_standings
    m_standings := PySem.W.mg_of X G a_standings
    f_go := _
    fd_go := _
    F_go := F_go
    b_go := b_go
    m_go := PySem.W.mg_of X G a_go
    f_read_on := _
    fd_read_on := _
    F_read_on := F_read_on
    b_read_on := b_read_on
    m_read_on := PySem.W.mg_of X G a_read_on
    f_l_take := _
    fd_l_take := _
    F_l_take := F_l_take
    b_l_take := b_l_take
    m_l_take := PySem.W.mg_of X G a_l_take
    f_l_like := _
    fd_l_like := _
    F_l_like := F_l_like
    b_l_like := b_l_like
    m_l_like := PySem.W.mg_of X G a_l_like
    f_l_signs := _
    fd_l_signs := _
    F_l_signs := F_l_signs
    b_l_signs := b_l_signs
    m_l_signs := PySem.W.mg_of X G a_l_signs
    f_l_word := _
    fd_l_word := _
    F_l_word := F_l_word
    b_l_word := b_l_word
    m_l_word := PySem.W.mg_of X G a_l_word
    f_l_tree := _
    fd_l_tree := _
    F_l_tree := F_l_tree
    b_l_tree := b_l_tree
    m_l_tree := PySem.W.mg_of X G a_l_tree
    f_l_shuffled := _
    fd_l_shuffled := _
    F_l_shuffled := F_l_shuffled
    b_l_shuffled := b_l_shuffled
    m_l_shuffled := PySem.W.mg_of X G a_l_shuffled
    f_l_gone := _
    fd_l_gone := _
    F_l_gone := F_l_gone
    b_l_gone := b_l_gone
    m_l_gone := PySem.W.mg_of X G a_l_gone
    f_l_text := _
    fd_l_text := _
    F_l_text := F_l_text
    b_l_text := b_l_text
    m_l_text := PySem.W.mg_of X G a_l_text
    f_law := _
    fd_law := _
    F_law := F_law
    b_law := b_law
    m_law := PySem.W.mg_of X G a_law
    n_all := PySem.W.mg_none_of X G z_all
    n_any := PySem.W.mg_none_of X G z_any
    n_bool := PySem.W.mg_none_of X G z_bool
    n_dict := PySem.W.mg_none_of X G z_dict
    n_enumerate := PySem.W.mg_none_of X G z_enumerate
    n_int := PySem.W.mg_none_of X G z_int
    n_isinstance := PySem.W.mg_none_of X G z_isinstance
    n_len := PySem.W.mg_none_of X G z_len
    n_list := PySem.W.mg_none_of X G z_list
    n_range := PySem.W.mg_none_of X G z_range
    n_sorted := PySem.W.mg_none_of X G z_sorted
    n_str := PySem.W.mg_none_of X G z_str
    n_tuple := PySem.W.mg_none_of X G z_tuple
    n_zip := PySem.W.mg_none_of X G z_zip
    t_MOST_SIGNS := t_MOST_SIGNS
    g_MOST_SIGNS := PySem.W.mg_of X G g_MOST_SIGNS
    t_LONGEST_WORD := t_LONGEST_WORD
    g_LONGEST_WORD := PySem.W.mg_of X G g_LONGEST_WORD
    t_LONGEST_TEXT := t_LONGEST_TEXT
    g_LONGEST_TEXT := PySem.W.mg_of X G g_LONGEST_TEXT
    t_LAST_STATE := t_LAST_STATE
    g_LAST_STATE := PySem.W.mg_of X G g_LAST_STATE
    t_MOST_ARCS := t_MOST_ARCS
    g_MOST_ARCS := PySem.W.mg_of X G g_MOST_ARCS
    C_Loom := C_Loom
    M_Loom := ⟨mk_Loom, a_Loom_init, i_Loom_init, kc_Loom⟩
    cl_Loom := ⟨pg_Loom, hd_Loom, po_Loom, sa_Loom⟩
    g_Loom := PySem.W.mg_of X G a_CLoom
    na_Loom_signs := na_Loom_signs
    na_Loom_arcs := na_Loom_arcs
    ic_Loom := ic_Loom
    ig := ig
    it := it
    im_Loom := im_Loom
    cc_Loom := cc_Loom
    ty_Loom := ty_Loom }⟩
theorem walk {l : PySem.W.OpenLaw} {q : Program} {loose : List Str} {XP : (Str → Option Value) → Heap → Prop} {YP : World → Heap → Prop} {d : DefRec} {K : Params → PySem.W.Frag} (hn : l.most = some 63) (hdf : d.params.defaults = [])
    (hY : ∀ (w : World) (h : Heap), YP w h → (K w.params).In h)
    (F : ∀ (w : World) (mg : Str → Option Value) (fa : Addr) (h : Heap), (K w.params).In h → h.Ns mainGlobals mg → mg d.name = some (.ref fa) →
      ∃ fd : FuncData, (∀ (s : Shared) (u : Value), BindsTo s fd ⟨[u], []⟩ [("_law_script", u)]) ∧ ∀ base : Heap, (K w.params).In base → base.Ns mainGlobals mg → FnOk l.prog w (K w.params) mg base CX0 9 fa fd P_law (spLaw (K w.params))) :
    PySem.W.WalkO q loose XP YP l.row.toRowW d [] (fun f vs => PySem.call f vs) :=
  L2.walk_of (n := 63) (k := 9) (x := "_law_script") (CX := fun _ => CX0) (sp := fun w => spLaw (K w.params)) hn (by decide) hdf ⟨rfl, by decide, by decide⟩ hY F (fun _ _ a ns hl _ hS => ⟨a, ns, rfl, hS, hl, fun _ => rfl⟩) fun _ _ _ _ _ z => z
end J

open PySem PySem.W PyProof.Rows in
set_option maxRecDepth 100000 in
set_option maxHeartbeats 0 in
theorem PySem.Challenge.cw_onewayread_k39_texts_read_by_plain_books_holds : PySem.Challenge.rw_onewayread_k39_texts_read_by_plain_books.Holds := by
  w_on; o_law; k_head; (case hw => w_witness2)
  k_fill
  refine J.walk (l := PySem.Challenge.rw_onewayread_k39_texts_read_by_plain_books) rfl rfl (fun w h Y => PySem.W.kIn_of Y) ?F
  case F =>
    intro w mg fa h KX G hmg
    refine' J.all_mk KX G hmg ?a_CLoom ?a_CInvalidLoom ?a_InvalidLoom_init ?i_InvalidLoom_init ?l_InvalidLoom_init ?c_InvalidLoom_init ?k_InvalidLoom_init ?a_is_number ?l_is_number ?c_is_number ?k_is_number ?a_is_sequence ?l_is_sequence ?c_is_sequence ?k_is_sequence ?a_is_signs ?l_is_signs ?c_is_signs ?k_is_signs ?a_is_string_over ?l_is_string_over ?c_is_string_over ?k_is_string_over ?a_is_word ?l_is_word ?c_is_word ?k_is_word ?a_check_signs ?l_check_signs ?c_check_signs ?k_check_signs ?a_check_text ?l_check_text ?c_check_text ?k_check_text ?a_is_arc ?l_is_arc ?c_is_arc ?k_is_arc ?a_Loom_init ?i_Loom_init ?l_Loom_init ?c_Loom_init ?k_Loom_init ?a_Loom_eq ?l_Loom_eq ?c_Loom_eq ?k_Loom_eq ?a_shorter_first ?l_shorter_first ?c_shorter_first ?k_shorter_first ?a_book ?l_book ?c_book ?k_book ?a_is_book ?l_is_book ?c_is_book ?k_is_book ?a_check_book ?l_check_book ?c_check_book ?k_check_book ?a_words ?l_words ?c_words ?k_words ?a_is_plain ?l_is_plain ?c_is_plain ?k_is_plain ?a_check_plain ?l_check_plain ?c_check_plain ?k_check_plain ?a_standings ?l_standings ?c_standings ?k_standings ?a_go ?l_go ?c_go ?k_go ?a_read_on ?l_read_on ?c_read_on ?k_read_on ?a_l_take ?l_l_take ?c_l_take ?k_l_take ?a_l_like ?l_l_like ?c_l_like ?k_l_like ?a_l_signs ?l_l_signs ?c_l_signs ?k_l_signs ?a_l_word ?l_l_word ?c_l_word ?k_l_word ?a_l_tree ?l_l_tree ?c_l_tree ?k_l_tree ?a_l_shuffled ?l_l_shuffled ?c_l_shuffled ?k_l_shuffled ?a_l_gone ?l_l_gone ?c_l_gone ?k_l_gone ?a_l_text ?l_l_text ?c_l_text ?k_l_text ?a_law ?l_law ?c_law ?k_law ?pg_Loom ?hd_Loom ?po_Loom ?sa_Loom ?mk_Loom ?kc_Loom ?na_Loom_signs ?na_Loom_arcs ?ic_Loom ?ig ?it ?im_Loom ?cc_Loom ?ty_Loom ?z_all ?z_any ?z_bool ?z_dict ?z_enumerate ?z_int ?z_isinstance ?z_len ?z_list ?z_range ?z_sorted ?z_str ?z_tuple ?z_zip ?g_MOST_SIGNS ?g_LONGEST_WORD ?g_LONGEST_TEXT ?g_LAST_STATE ?g_MOST_ARCS
    (case a_CLoom => k_is)
    (case a_CInvalidLoom => k_is)
    (case a_InvalidLoom_init => k_is)
    (case i_InvalidLoom_init => k_is)
    (case l_InvalidLoom_init => k_is)
    (case c_InvalidLoom_init => k_is)
    (case k_InvalidLoom_init => k_is)
    (case a_is_number => k_is)
    (case l_is_number => k_is)
    (case c_is_number => k_is)
    (case k_is_number => k_is)
    (case a_is_sequence => k_is)
    (case l_is_sequence => k_is)
    (case c_is_sequence => k_is)
    (case k_is_sequence => k_is)
    (case a_is_signs => k_is)
    (case l_is_signs => k_is)
    (case c_is_signs => k_is)
    (case k_is_signs => k_is)
    (case a_is_string_over => k_is)
    (case l_is_string_over => k_is)
    (case c_is_string_over => k_is)
    (case k_is_string_over => k_is)
    (case a_is_word => k_is)
    (case l_is_word => k_is)
    (case c_is_word => k_is)
    (case k_is_word => k_is)
    (case a_check_signs => k_is)
    (case l_check_signs => k_is)
    (case c_check_signs => k_is)
    (case k_check_signs => k_is)
    (case a_check_text => k_is)
    (case l_check_text => k_is)
    (case c_check_text => k_is)
    (case k_check_text => k_is)
    (case a_is_arc => k_is)
    (case l_is_arc => k_is)
    (case c_is_arc => k_is)
    (case k_is_arc => k_is)
    (case a_Loom_init => k_is)
    (case i_Loom_init => k_is)
    (case l_Loom_init => k_is)
    (case c_Loom_init => k_is)
    (case k_Loom_init => k_is)
    (case a_Loom_eq => k_is)
    (case l_Loom_eq => k_is)
    (case c_Loom_eq => k_is)
    (case k_Loom_eq => k_is)
    (case a_shorter_first => k_is)
    (case l_shorter_first => k_is)
    (case c_shorter_first => k_is)
    (case k_shorter_first => k_is)
    (case a_book => k_is)
    (case l_book => k_is)
    (case c_book => k_is)
    (case k_book => k_is)
    (case a_is_book => k_is)
    (case l_is_book => k_is)
    (case c_is_book => k_is)
    (case k_is_book => k_is)
    (case a_check_book => k_is)
    (case l_check_book => k_is)
    (case c_check_book => k_is)
    (case k_check_book => k_is)
    (case a_words => k_is)
    (case l_words => k_is)
    (case c_words => k_is)
    (case k_words => k_is)
    (case a_is_plain => k_is)
    (case l_is_plain => k_is)
    (case c_is_plain => k_is)
    (case k_is_plain => k_is)
    (case a_check_plain => k_is)
    (case l_check_plain => k_is)
    (case c_check_plain => k_is)
    (case k_check_plain => k_is)
    (case a_standings => k_is)
    (case l_standings => k_is)
    (case c_standings => k_is)
    (case k_standings => k_is)
    (case a_go => k_is)
    (case l_go => k_is)
    (case c_go => k_is)
    (case k_go => k_is)
    (case a_read_on => k_is)
    (case l_read_on => k_is)
    (case c_read_on => k_is)
    (case k_read_on => k_is)
    (case a_l_take => k_is)
    (case l_l_take => k_is)
    (case c_l_take => k_is)
    (case k_l_take => k_is)
    (case a_l_like => k_is)
    (case l_l_like => k_is)
    (case c_l_like => k_is)
    (case k_l_like => k_is)
    (case a_l_signs => k_is)
    (case l_l_signs => k_is)
    (case c_l_signs => k_is)
    (case k_l_signs => k_is)
    (case a_l_word => k_is)
    (case l_l_word => k_is)
    (case c_l_word => k_is)
    (case k_l_word => k_is)
    (case a_l_tree => k_is)
    (case l_l_tree => k_is)
    (case c_l_tree => k_is)
    (case k_l_tree => k_is)
    (case a_l_shuffled => k_is)
    (case l_l_shuffled => k_is)
    (case c_l_shuffled => k_is)
    (case k_l_shuffled => k_is)
    (case a_l_gone => k_is)
    (case l_l_gone => k_is)
    (case c_l_gone => k_is)
    (case k_l_gone => k_is)
    (case a_l_text => k_is)
    (case l_l_text => k_is)
    (case c_l_text => k_is)
    (case k_l_text => k_is)
    (case a_law => k_is)
    (case l_law => k_is)
    (case c_law => k_is)
    (case k_law => k_is)
    (case pg_Loom => k_is)
    (case hd_Loom => k_is)
    (case po_Loom => k_is)
    (case sa_Loom => k_is)
    (case mk_Loom => k_is)
    (case kc_Loom => k_is)
    (case na_Loom_signs => k_is)
    (case na_Loom_arcs => k_is)
    (case ic_Loom => k_is)
    (case ig => k_is)
    (case it => k_is)
    (case im_Loom => k_is)
    (case cc_Loom => k_is)
    (case ty_Loom => k_is)
    (case z_all => k_is)
    (case z_any => k_is)
    (case z_bool => k_is)
    (case z_dict => k_is)
    (case z_enumerate => k_is)
    (case z_int => k_is)
    (case z_isinstance => k_is)
    (case z_len => k_is)
    (case z_list => k_is)
    (case z_range => k_is)
    (case z_sorted => k_is)
    (case z_str => k_is)
    (case z_tuple => k_is)
    (case z_zip => k_is)
    (case g_MOST_SIGNS => k_is)
    (case g_LONGEST_WORD => k_is)
    (case g_LONGEST_TEXT => k_is)
    (case g_LAST_STATE => k_is)
    (case g_MOST_ARCS => k_is)
