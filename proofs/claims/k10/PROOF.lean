import PyProof.Rows.All
import Wide.All
import OpenK.AllK
import Wide.FinOn
import HandS.List
import HandS.SortOrd
import HandS.SortRule
import KE.KSortTup
import PyProof.EqKinds
import KE.SortData
import KE.DataMinMax
import PySem.Builtin._heapq.W4All
import HandS.ForMost
import HandS.Walk
import KE.GoesEnum
import HandS.ForExc
import HandS.ExcValue
import HandS.ExcIs
import HandS.ExcInit
import HandS.IsInst
import KE.KExcInit
import HandS.Strs
import HandS.Set
import HandS.SortInts
import KE.KSetDisp
import HandS.Defaults
import KE.KxIndex
import HandS.SetKeys
import PyProof.DictMoreH
import KE.GoesMore
import HandS.OwnEq
import HandS.More
import HandS.Conv
import KE.KDictSum
import HandS.Deep
import HandS.Iter
import KE.KDictWalk
import HandS.DictComp
import HandS.FStr
import HandS.SetBool
import HandS.SetFor
import HandS.Flow
import HandS.ListItems
import HandS.Sort
import KE.KDictList
import HandS.Zip
import HandS.TryMany
import HandS.Text
import HandS.Style
import KE.KRevSl
import HandS.StrMore
import HandS.Codes
import HandS.NestedK
import HandS.TupLen
import HandS.RevRange
import HandS.Star
import HandS.Gcd
import HandS.WordsDict
import KE.KSortKey
import HandS.SortKw
import PyProof.P3Eq
import PySem.Challenge.RW_onewayread_k10_whole_one_way_by_all_rows

set_option Elab.async false
set_option linter.all false
set_option maxRecDepth 100000
set_option maxHeartbeats 4000000
/-! sorted of lists of tuples of ints and texts, and of texts, of any length: one total order -/
namespace SrtC
open PySem PySem.Spec PyProof.Rows Srt SrtO L2
/-! ### the order of texts and cells -/
def sLt (x y : Str) : Bool := decide (x.cps.toList < y.cps.toList)
theorem str_ext {x y : Str} (h : x.cps.toList = y.cps.toList) : x = y := by
  cases x; cases y
  exact congrArg _ (Array.toList_inj.mp h)
theorem sLt_irr (x : Str) : sLt x x = false := decide_eq_false (List.lt_irrefl _)
theorem sLt_trans {x y z : Str} (h1 : sLt x y = true) (h2 : sLt y z = true) : sLt x z = true :=
  decide_eq_true (List.lt_trans (of_decide_eq_true h1) (of_decide_eq_true h2))
theorem sLt_tri {x y : Str} (h1 : sLt x y = false) (h2 : sLt y x = false) : x = y := by
  have a := List.not_lt.mp (of_decide_eq_false h1)
  have b := List.not_lt.mp (of_decide_eq_false h2)
  exact str_ext (List.le_antisymm b a)
def cLt : Key → Key → Bool
  | .inl a, .inl b => decide (a < b)
  | .inl _, .inr _ => true
  | .inr _, .inl _ => false
  | .inr x, .inr y => sLt x y
theorem cLt_irr (x : Key) : cLt x x = false := by
  cases x with
  | inl a => exact decide_eq_false (Int.lt_irrefl a)
  | inr x => exact sLt_irr x
theorem cLt_trans {x y z : Key} (h1 : cLt x y = true) (h2 : cLt y z = true) : cLt x z = true := by
  cases x with
  | inl a =>
    cases z with
    | inr c => rfl
    | inl c =>
      cases y with
      | inl b => exact decide_eq_true (Int.lt_trans (of_decide_eq_true h1) (of_decide_eq_true h2))
      | inr b => cases h2
  | inr a =>
    cases y with
    | inl b => cases h1
    | inr b =>
      cases z with
      | inl c => cases h2
      | inr c => exact sLt_trans h1 h2
theorem cLt_tri {x y : Key} (h1 : cLt x y = false) (h2 : cLt y x = false) : x = y := by
  cases x with
  | inl a =>
    cases y with
    | inl b =>
      have p : ¬ a < b := of_decide_eq_false h1
      have q : ¬ b < a := of_decide_eq_false h2
      exact congrArg _ (by omega)
    | inr b => cases h1
  | inr a =>
    cases y with
    | inl b => cases h2
    | inr b => exact congrArg _ (sLt_tri h1 h2)
def lexC : List Key → List Key → Bool
  | [], [] => false
  | [], _ :: _ => true
  | _ :: _, [] => false
  | x :: xs, y :: ys => if x = y then lexC xs ys else cLt x y
theorem lexC_irr : ∀ x : List Key, lexC x x = false
  | [] => rfl
  | x :: xs => by
    show (if x = x then lexC xs xs else cLt x x) = false
    rw [if_pos rfl]
    exact lexC_irr xs
theorem lexC_trans : ∀ {x y z : List Key}, lexC x y = true → lexC y z = true → lexC x z = true
  | [], [], [], h1, _ => nomatch h1
  | [], _ :: _, [], _, h2 => nomatch h2
  | [], _, _ :: _, _, _ => rfl
  | _ :: _, [], _, h1, _ => by cases h1
  | _ :: _, _ :: _, [], _, h2 => by cases h2
  | x :: xs, y :: ys, z :: zs, h1, h2 => by
    have e1 : (if x = y then lexC xs ys else cLt x y) = true := h1
    have e2 : (if y = z then lexC ys zs else cLt y z) = true := h2
    show (if x = z then lexC xs zs else cLt x z) = true
    by_cases a : x = y
    · subst a
      rw [if_pos rfl] at e1
      by_cases b : x = z
      · rw [if_pos b] at e2 ⊢
        exact lexC_trans e1 e2
      · rw [if_neg b] at e2 ⊢
        exact e2
    · rw [if_neg a] at e1
      by_cases b : y = z
      · subst b
        rw [if_neg a]
        exact e1
      · rw [if_neg b] at e2
        have t := cLt_trans e1 e2
        have n : ¬ x = z := fun q => by
          subst q
          rw [cLt_irr] at t
          cases t
        rw [if_neg n]
        exact t
theorem lexC_tri : ∀ {x y : List Key}, lexC x y = false → lexC y x = false → x = y
  | [], [], _, _ => rfl
  | [], _ :: _, h1, _ => by cases h1
  | _ :: _, [], _, h2 => by cases h2
  | x :: xs, y :: ys, h1, h2 => by
    have e1 : (if x = y then lexC xs ys else cLt x y) = false := h1
    have e2 : (if y = x then lexC ys xs else cLt y x) = false := h2
    by_cases a : x = y
    · subst a
      rw [if_pos rfl] at e1 e2
      rw [lexC_tri e1 e2]
    · rw [if_neg a] at e1
      rw [if_neg (fun q => a q.symm)] at e2
      exact absurd (cLt_tri e1 e2) a
/-- an order with these three is a strict weak one -/
theorem swo_of {α : Type} {lt : α → α → Bool} (irr : ∀ x, lt x x = false) (tr : ∀ x y z, lt x y = true → lt y z = true → lt x z = true) (tri : ∀ x y, lt x y = false → lt y x = false → lt x = lt y) : Swo lt := by
  have asym : ∀ x y, lt x y = true → lt y x = false := fun x y h => by
    rcases bcase (lt y x) with q | q
    · have t := tr _ _ _ h q
      rw [irr] at t
      cases t
    · exact q
  refine ⟨asym, fun x y z h1 h2 => ?_⟩
  rcases bcase (lt z x) with q | q
  · rcases bcase (lt x y) with p | p
    · have t := tr _ _ _ q p
      rw [h2] at t
      cases t
    · have e := tri _ _ p h1
      rcases bcase (lt y z) with r | r
      · have t := tr _ _ _ r q
        rw [h1] at t
        cases t
      · have e2 := tri _ _ h2 r
        have e3 : lt z x = lt y x := congrFun e2 x
        rw [q, h1] at e3
        cases e3
  · exact q
theorem swo_lexC {α : Type} (k : α → List Key) : Swo fun u v : α => lexC (k u) (k v) :=
  swo_of (fun x => lexC_irr _) (fun x y z h1 h2 => lexC_trans h1 h2) (fun x y h1 h2 => by
    have e := lexC_tri h1 h2
    funext z
    show lexC (k x) (k z) = lexC (k y) (k z)
    rw [e])
/-- the same things in a row that ascends stand in one way -/
theorem srtd_uniq {α : Type} {lt : α → α → Bool} (tri : ∀ x y, lt x y = false → lt y x = false → x = y) {l m : List α} (h1 : Srtd lt l) (h2 : Srtd lt m) (p : l.Perm m) : l = m :=
  List.Perm.eq_of_pairwise (fun a b _ _ h h' => tri a b h' h) h1 h2 p

/-! ### tuples of cells compare as lexC says -/
section
variable {prog : Program} {w : World} {A : Around} {E : Value → Shared → Prop} {s : Shared}
theorem one_int {b : Bool} {x y : Int} {t u : Tok} {Q : Bool → Shared → Prop} (h : Q (decide (x < y)) s) : wpAny (model prog w) A (oneLt' b (.int x t) (.int y u)) Q E s := by
  cases b with
  | true => exact oneLt_int h
  | false => exact PySem.W.kat_one _ _ (PyProof.Rows.lt_int h)
theorem one_str {b : Bool} {x y : Str} {t u : Tok} {Q : Bool → Shared → Prop} (h : Q (sLt x y) s) : wpAny (model prog w) A (oneLt' b (.str x t) (.str y u)) Q E s := by
  cases b with
  | true => exact oneLt_str h
  | false => exact PySem.W.kat_one _ _ (PyProof.Rows.lt_str h)
theorem lex_same (x : Key) (xs ys : List Key) : lexC (x :: xs) (x :: ys) = lexC xs ys := if_pos rfl
theorem lex_diff {x y : Key} (h : ¬ x = y) (xs ys : List Key) : lexC (x :: xs) (y :: ys) = cLt x y := if_neg h
theorem lex_go : ∀ (cs ds : List Key) (xs ys : List Value) (i : Nat) (r0 : Bool), Vals (cs.map kV) xs → Vals (ds.map kV) ys → cs.map Sum.isLeft = ds.map Sum.isLeft → r0 = lexC cs ds →
    PySem.W.KatLex prog w A true false (fun r s' => s' = s ∧ r = r0) (xs.zip ys) i s
  | [], [], _, _, i, r0, .nil, .nil, _, hr => PySem.W.kat_nil ⟨rfl, hr.symm⟩
  | [], _ :: _, _, _, _, _, _, _, hs, _ => by cases hs
  | _ :: _, [], _, _, _, _, _, _, hs, _ => by cases hs
  | .inl a :: cs, .inl b :: ds, x :: xs, y :: ys, i, r0, .cons rx tx, .cons ry ty, hs, hr => by
    obtain ⟨t, rfl⟩ := rx
    obtain ⟨u, rfl⟩ := ry
    have hs' : cs.map Sum.isLeft = ds.map Sum.isLeft := by simpa using hs
    refine PySem.W.kat_cons (SeqAt.EqAt.int_int a t b u prog w _ _ (PySem.W.kat_go (fun e => PySem.W.kat_yes ?_) (fun e => PySem.W.kat_no (one_int ⟨rfl, ?_⟩))))
    · have e : a = b := by simpa using e
      subst e
      exact lex_go cs ds xs ys (i + 1) r0 tx ty hs' (by rw [hr, lex_same])
    · have e : ¬ a = b := by simpa using e
      rw [hr, lex_diff (fun q => e (Sum.inl.inj q))]
      rfl
  | .inr a :: cs, .inr b :: ds, x :: xs, y :: ys, i, r0, .cons rx tx, .cons ry ty, hs, hr => by
    obtain ⟨t, rfl⟩ := rx
    obtain ⟨u, rfl⟩ := ry
    have hs' : cs.map Sum.isLeft = ds.map Sum.isLeft := by simpa using hs
    refine PySem.W.kat_cons (SeqAt.EqAt.str_str a t b u prog w _ _ (PySem.W.kat_go (fun e => PySem.W.kat_yes ?_) (fun e => PySem.W.kat_no (one_str ⟨rfl, ?_⟩))))
    · have e : a = b := by simpa using e
      subst e
      exact lex_go cs ds xs ys (i + 1) r0 tx ty hs' (by rw [hr, lex_same])
    · have e : ¬ a = b := by simpa using e
      rw [hr, lex_diff (fun q => e (Sum.inr.inj q))]
      rfl
  | .inl a :: cs, .inr b :: ds, _, _, _, _, _, _, hs, _ => by simp at hs
  | .inr a :: cs, .inl b :: ds, _, _, _, _, _, _, hs, _ => by simp at hs
/-- v is a tuple of these cells -/
def IsC (h : Heap) (v : Value) (cs : List Key) : Prop := ∃ a its, v = .ref a ∧ Vals (cs.map kV) its ∧ IsTup h a its.toArray
theorem IsC.keeps {h h' : Heap} {v : Value} {cs : List Key} (x : IsC h v cs) (k : ∀ b o, h.get? b = some o → o.cls = .type "tuple" → h'.get? b = some o) : IsC h' v cs := by
  obtain ⟨a, its, e, r, o, ho, hc, hd⟩ := x
  exact ⟨a, its, e, r, o, k _ _ ho hc, hc, hd⟩
theorem cells_cmp {vs : List Value} {k : Value → List Key} {S : List Bool} (hp : ∀ v ∈ vs, IsC s.heap v (k v) ∧ (k v).map Sum.isLeft = S) : Cmp prog w A s (tuples' true) (fun p => p.1 ∈ vs) (lt2 fun v u => lexC (k v) (k u)) := by
  intro p q hm hm'
  obtain ⟨⟨a, its, e, r, o, ho, hc, n, hd⟩, h1⟩ := hp _ hm
  obtain ⟨⟨a', its', e', r', o', ho', hc', n', hd'⟩, h2⟩ := hp _ hm'
  show wpAny (model prog w) A (keyLt' (tuples' true) p.1 q.1) (fun r s' => s' = s ∧ r = lexC (k p.1) (k q.1)) (fun _ _ => False) s
  have el : its.length = its'.length := by
    have q1 := congrArg List.length (h1.trans h2.symm)
    rw [List.length_map, List.length_map] at q1
    have q2 := r.length
    have q3 := r'.length
    rw [List.length_map] at q2 q3
    omega
  generalize k p.1 = cs at *
  generalize k q.1 = ds at *
  rw [e, e']
  refine PySem.W.kat_lt ho hd ho' hd' ?_
  have ed : decide (its.toArray.size < its'.toArray.size) = false := decide_eq_false (by simp [el])
  rw [ed]
  exact lex_go cs ds its its' 0 _ r r' (h1.trans h2.symm) rfl
theorem firstsC {h : Heap} {k : Value → List Key} {b : Bool} {S : List Bool} : ∀ {vs : List Value}, (∀ v ∈ vs, IsC h v (k v) ∧ (k v).map Sum.isLeft = b :: S) → ∃ fs : List Value, PySem.W.KatTups h vs fs ∧ fs.length = vs.length ∧
    ∀ f ∈ fs, (b = true ∧ ∃ x t, f = Value.int x t) ∨ (b = false ∧ ∃ x t, f = Value.str x t)
  | [], _ => ⟨[], PySem.W.KatTups.nil, rfl, fun _ hm => by simp at hm⟩
  | v :: vs, hp => by
    obtain ⟨fs, h1, h2, h3⟩ := firstsC (vs := vs) fun v' hm => hp v' (List.mem_cons_of_mem _ hm)
    obtain ⟨⟨a, its, e, r, o, ho, hc, n, hd⟩, hs⟩ := hp v (List.mem_cons_self ..)
    subst e
    generalize k (.ref a) = cs at *
    cases cs with
    | nil => cases hs
    | cons c cs =>
      match its, r with
      | u :: us, .cons rx tx =>
        refine ⟨u :: fs, PySem.W.KatTups.cons ho hc hd rfl h1, by rw [List.length_cons, List.length_cons, h2], fun f hm => ?_⟩
        rcases List.mem_cons.mp hm with rfl | hm
        · have hb : Sum.isLeft c = b := by
            have := congrArg List.head? hs
            simpa using this
          cases c with
          | inl x =>
            obtain ⟨t, rfl⟩ := rx
            exact .inl ⟨hb.symm, x, t, rfl⟩
          | inr x =>
            obtain ⟨t, rfl⟩ := rx
            exact .inr ⟨hb.symm, x, t, rfl⟩
        · exact h3 f hm
theorem cells_sortable {a : Addr} {vs : List Value} {k : Value → List Key} {b : Bool} {S : List Bool} (h0 : 0 < vs.length) (hp : ∀ v ∈ vs, IsC s.heap v (k v) ∧ (k v).map Sum.isLeft = b :: S) (ha : ∀ o, s.heap.get? a = some o → o.cls ≠ .type "tuple") :
    SortableO prog w A s a vs fun v u => lexC (k v) (k u) := by
  intro h' keep
  have hp' : ∀ v ∈ vs, IsC h' v (k v) ∧ (k v).map Sum.isLeft = b :: S := fun v hm => ⟨(hp v hm).1.keeps fun b o e c => keep b o (fun z => by subst z; exact ha o e c) e, (hp v hm).2⟩
  obtain ⟨fs, h1, h2, h3⟩ := firstsC hp'
  refine ⟨tuples' true, fun Q E hq => ?_, cells_cmp hp'⟩
  cases b with
  | true =>
    refine PySem.W.kat_kind (T := .type "int") h1 (by omega) (fun f hm => ?_) (by rfl) ?_
    · rcases h3 f hm with ⟨_, x, t, rfl⟩ | ⟨z, _⟩
      · exact PySem.W.Looks.now
      · cases z
    · have e : (Value.type "int" != Value.type "tuple") = true := by first | decide +kernel | rfl | decide
      rw [e]
      exact hq
  | false =>
    refine PySem.W.kat_kind (T := .type "str") h1 (by omega) (fun f hm => ?_) (by rfl) ?_
    · rcases h3 f hm with ⟨z, _⟩ | ⟨_, x, t, rfl⟩
      · cases z
      · exact PySem.W.Looks.now
    · have e : (Value.type "str" != Value.type "tuple") = true := by first | decide +kernel | rfl | decide
      rw [e]
      exact hq
theorem sorted_cells {l : Addr} {vs : List Value} {k : Value → List Key} {b : Bool} {S : List Bool} {Q : Value → Shared → Prop} (hl : s.heap.IsList l vs.toArray) (hz : vs.length ≤ sizeLine) (hp : ∀ v ∈ vs, IsC s.heap v (k v) ∧ (k v).map Sum.isLeft = b :: S)
    (h : ∀ (h' : Heap) (d : Addr) (out : List Value), Srtd (fun v u => lexC (k v) (k u)) out → Stb (fun v u => lexC (k v) (k u)) out vs → (∀ b o, s.heap.get? b = some o → h'.get? b = some o) → s.heap.objs.size ≤ d → (∃ n, h'.get? d = some (seqObj "list" out.toArray n)) → Q (.ref d) { s with heap := h' }) :
    wpAny (model prog w) A (call (.builtin "sorted") [.ref l]) Q E s := by
  refine sorted_ord (swo_lexC k) hl hz (fun h2 h₁ a ha kk => ?_) fun out hs hb => ?_
  · refine cells_sortable (s := { s with heap := h₁ }) (by omega) (fun v hm => ⟨(hp v hm).1.keeps fun b o e _ => (kk b o e).2, (hp v hm).2⟩) fun o e => ?_
    obtain rfl : o = seqObj "list" vs.toArray 0 := Option.some.inj (e.symm.trans ha)
    intro c
    exact absurd (Value.type.inj c) (by decide)
  · exact h _ _ out hs hb (fun b o e => sortedAll_old e) (Nat.le_succ _) (sortedAll_at s.heap vs out.toArray)
/-! ### texts -/
def tv : Value → Str
  | .str x _ => x
  | _ => Str.empty
def ltTv (v u : Value) : Bool := sLt (tv v) (tv u)
theorem swo_tv : Swo ltTv := swo_of (fun x => sLt_irr _) (fun x y z h1 h2 => sLt_trans h1 h2) (fun x y h1 h2 => by
    have e := sLt_tri h1 h2
    funext z
    show sLt (tv x) (tv z) = sLt (tv y) (tv z)
    rw [e])
theorem strs_mem : ∀ {vs : List Value} {ss : List Str}, StrsAre vs ss → ∀ v ∈ vs, ∃ x t, v = Value.str x t
  | _, _, .nil, v, h => absurd h (by simp)
  | _, _, .cons x t r, v, h => by
    rcases List.mem_cons.mp h with e | h
    · exact ⟨x, t, e⟩
    · exact strs_mem r v h
theorem strs_tv : ∀ {vs : List Value}, (∀ v ∈ vs, ∃ x t, v = Value.str x t) → StrsAre vs (vs.map tv)
  | [], _ => .nil
  | v :: vs, h => by
    obtain ⟨x, t, e⟩ := h v List.mem_cons_self
    subst e
    exact .cons x t (strs_tv fun u hu => h u (List.mem_cons_of_mem _ hu))
theorem tv_strs : ∀ {vs : List Value} {ss : List Str}, StrsAre vs ss → vs.map tv = ss
  | _, _, .nil => rfl
  | _, _, .cons x t r => congrArg (x :: ·) (tv_strs r)
theorem str_cmp {vs : List Value} {ss : List Str} (hI : StrsAre vs ss) : Cmp prog w A s oneType' (fun p => p.1 ∈ vs) (lt2 ltTv) := by
  intro p q hm hm'
  obtain ⟨a, t, e⟩ := strs_mem hI _ hm
  obtain ⟨b, u, e'⟩ := strs_mem hI _ hm'
  show wpAny (model prog w) A (keyLt' oneType' p.1 q.1) (fun r s' => s' = s ∧ r = ltTv p.1 q.1) (fun _ _ => False) s
  rw [e, e', keyLt'_oneType]
  exact oneLt_str ⟨rfl, rfl⟩
theorem strs_sortable {a : Addr} {vs : List Value} {ss : List Str} (hI : StrsAre vs ss) (h2 : 2 ≤ vs.length) : SortableO prog w A s a vs ltTv := by
  intro h' _
  refine ⟨oneType', fun Q E hq => ?_, str_cmp hI⟩
  match vs, hI, h2 with
  | v1 :: v2 :: rest, hI, _ =>
    rw [keyKind_strs hI]
    exact wpAny_pure hq
  | [], _, h => exact absurd h (by decide)
  | [v], _, h => exact absurd h (by simp)
/-- ascending texts -/
def Asc (ss : List Str) : Prop := ss.Pairwise fun x y => sLt y x = false
theorem strs_out {vs out : List Value} {ss : List Str} (hI : StrsAre vs ss) (hs : Srtd ltTv out) (hb : Stb ltTv out vs) : StrsAre out (out.map tv) ∧ (out.map tv).Perm ss ∧ Asc (out.map tv) := by
  refine ⟨strs_tv fun v hv => strs_mem hI v (hb.perm.mem_iff.mp hv), ?_, ?_⟩
  · have q := hb.perm.map tv
    rw [tv_strs hI] at q
    exact q
  · exact List.pairwise_map.mpr hs
end
end SrtC
namespace L2
open PySem PySem.Spec PyProof.Rows
section
variable {X : Cx}
/-- sorted(xs), xs a list of tuples of ints and texts that stand in the same columns (k says which): a new list, ascending -/
def rSortedC (K : PySem.W.Frag) : List V → Hp → VK → Prop := fun vs H Q => ∃ (a : Addr) (xs : List V) (k : V → List Key) (b : Bool) (S : List Bool), vs = [V.ref a] ∧ SqL K H a xs ∧ (∀ x ∈ xs, ∃ t, x = V.ref t ∧ SqT K H t ((k x).map kV) ∧ (k x).map Sum.isLeft = b :: S) ∧
  ∀ ys p, SrtO.Srtd (fun x y => SrtC.lexC (k x) (k y)) ys → ys.Perm xs → H p = none → Q (.ref p) (upd H p (.lst ys))
theorem cr_sortedC : CallR X (.builtin "sorted") (rSortedC X.K) := by
  intro pins s σ H vs us Q I r h
  obtain ⟨a, xs, k, b, S, rfl, hs, hx, q⟩ := h
  obtain ⟨its, rv, hl, hz⟩ := I.list hs
  obtain ⟨u, rfl, ru⟩ := vals1 r
  obtain rfl : u = Value.ref a := ru
  obtain ⟨e1, e2⟩ := refs_back rv fun x m => by
    obtain ⟨t, e, _⟩ := hx x m
    exact ⟨t, e⟩
  refine SrtC.sorted_cells (k := fun u => k (backV u)) (b := b) (S := S) hl.isList (by rw [← rv.length]; exact hz) (fun v hv => ?_) fun h' d out h1 h2 kp hd hn => ?_
  · obtain ⟨t, rfl⟩ := e2 v hv
    have hm : V.ref t ∈ xs := by rw [e1]; exact List.mem_map.mpr ⟨_, hv, rfl⟩
    obtain ⟨t', e, ht, hS⟩ := hx _ hm
    cases e
    obtain ⟨its2, r2, hT, _⟩ := I.tuple ht
    exact ⟨⟨t, its2, rfl, r2, hT⟩, hS⟩
  · have h3 : ∀ u ∈ out, ∃ a, u = Value.ref a := fun u hu => e2 u (h2.perm.mem_iff.mp hu)
    obtain ⟨n, hn⟩ := hn
    have hb : (out.map backV).Perm xs := by
      rw [e1]
      exact h2.perm.map backV
    refine ⟨.ref d, upd H d (.lst (out.map backV)), I.laid (t' := s.toks) kp hd ⟨?_, out, n, vals_back h3, hn⟩, rfl, q _ d (List.pairwise_map.mpr h1) hb (I.hok.fresh hd)⟩
    rw [hb.length_eq]
    exact hz
/-- sorted(xs), xs a list of texts of any length -/
def rSortedTx (K : PySem.W.Frag) : List V → Hp → VK → Prop := fun vs H Q => ∃ (a : Addr) (ss : List Str), vs = [V.ref a] ∧ SqL K H a (ss.map V.str) ∧
  ∀ (ys : List Str) (p : Addr), SrtC.Asc ys → ys.Perm ss → H p = none → Q (.ref p) (upd H p (.lst (ys.map V.str)))
theorem strs_of_vals' : ∀ {ss : List Str} {us : List Value}, Vals (ss.map V.str) us → StrsAre us ss
  | [], _, .nil => .nil
  | x :: ss, _, .cons ⟨t, e⟩ r => by
    subst e
    exact .cons x t (strs_of_vals' r)
theorem cr_sortedTx : CallR X (.builtin "sorted") (rSortedTx X.K) := by
  intro pins s σ H vs us Q I r h
  obtain ⟨a, ss, rfl, hs, q⟩ := h
  obtain ⟨its, rv, hl, hz⟩ := I.list hs
  obtain ⟨u, rfl, ru⟩ := vals1 r
  obtain rfl : u = Value.ref a := ru
  have hI := strs_of_vals' rv
  have hz' : its.length ≤ sizeLine := by rw [← rv.length]; exact hz
  refine SrtO.sorted_ord SrtC.swo_tv hl.isList hz' (fun h2 h₁ a ha kk => SrtC.strs_sortable hI h2) fun out h1 h2 => ?_
  obtain ⟨a1, a2, a3⟩ := SrtC.strs_out hI h1 h2
  obtain ⟨ep, he'⟩ := sortedAll_at s.heap its out.toArray
  have hlen : ((out.map SrtC.tv).map V.str).length ≤ sizeLine := by
    rw [List.length_map, a2.length_eq, ← List.length_map (f := V.str)]
    exact hz
  exact ⟨.ref _, upd H (s.heap.objs.size + 1) (.lst ((out.map SrtC.tv).map V.str)), I.laid (t' := s.toks) (fun _ _ => sortedAll_old) (Nat.le_succ _) ⟨hlen, out, ep, vals_of_strs a1, he'⟩, rfl, q _ _ a3 a2 (I.hok.fresh (Nat.le_succ _))⟩
end
end L2

set_option Elab.async false
set_option linter.all false
set_option maxRecDepth 100000
set_option maxHeartbeats 4000000
/-! sorted(a list of lists of ints), any length -/
namespace L2
open PySem PySem.Spec PyProof.Rows
theorem each_self {α : Type} {P : α → α → Prop} : ∀ l : List α, (∀ v ∈ l, P v v) → PySem.W.EachIs P l l
  | [], _ => .nil
  | v :: l, h => .cons (h v (List.mem_cons_self ..)) (each_self l fun u hu => h u (List.mem_cons_of_mem _ hu))
theorem each_eq {α : Type} : ∀ {l m : List α}, PySem.W.EachIs (fun v b : α => v = b) l m → l = m
  | _, _, .nil => rfl
  | _, _, .cons e t => by rw [e, each_eq t]
def rSortedLL (K : PySem.W.Frag) : List V → Hp → VK → Prop := fun vs H Q => ∃ (a : Addr) (xs : List V) (k : V → List Int), vs = [V.ref a] ∧ SqL K H a xs ∧ (∀ x ∈ xs, ∃ t, x = V.ref t ∧ SqL K H t ((k x).map V.int)) ∧
  ∀ ys p, ys.Pairwise (fun x y => k x ≤ k y) → ys.Perm xs → H p = none → Q (.ref p) (upd H p (.lst ys))
theorem dpAll_ints {K : PySem.W.Frag} {H : Hp} : ∀ ns : List Int, DpAll K H (ns.map V.int) (ns.map PyData.int)
  | [] => .nil
  | n :: r => .cons (.int n) (dpAll_ints r)
section
variable {X : Cx}
theorem cr_sortedLL (hu : X.A.units + 64 < cLine) : CallR X (.builtin "sorted") (rSortedLL X.K) := by
  intro pins s σ H vs us Q I r h
  obtain ⟨a, xs, k, rfl, hs, hx, q⟩ := h
  obtain ⟨its, rv, hl, hz⟩ := I.list hs
  obtain ⟨u, rfl, ru⟩ := vals1 r
  obtain rfl : u = Value.ref a := ru
  obtain ⟨e1, e2⟩ := refs_back rv fun x m => by
    obtain ⟨t, e, _⟩ := hx x m
    exact ⟨t, e⟩
  have hd1 : ∀ u : Value, (PyData.list ((k (backV u)).map PyData.int)).depth ≤ 1 := fun u => by
    show PyData.depthAll _ + 1 ≤ 1
    rw [PySem.W.depth_ints]
    exact Nat.le_refl _
  refine PySem.W.sorted_data (vs := its) (bs := its) (enc := fun u => .list ((k (backV u)).map .int)) (R := fun v b => v = b) hl.isList (each_self _ fun _ _ => rfl) (each_self _ fun v hv => ?_) (PySem.W.AllAlike.of fun b b' => ?_) (PySem.W.Sortable.others (enc := fun u : Value => PyData.list ((k (backV u)).map PyData.int)) fun b => ⟨(fun z => nomatch z), (fun xs z => nomatch z)⟩) (by rw [← rv.length]; exact hz) (fun b _ => ?_) fun out ho he => ?_
  · obtain ⟨t, rfl⟩ := e2 v hv
    have hm : V.ref t ∈ xs := by rw [e1]; exact List.mem_map.mpr ⟨_, hv, rfl⟩
    obtain ⟨t', e, ht⟩ := hx _ hm
    cases e
    exact Dp.reads I _ _ _ (.lst ht (dpAll_ints _)) rfl
  · show PySem.W.alike (.list _) (.list _) = true
    rw [PySem.W.alike]
    exact PySem.W.alike_ints _ _
  · have := hd1 b
    omega
  · have eo := each_eq he
    rw [PySem.W.dataLe_rows] at eo
    have hp : out.Perm its := by rw [eo]; exact List.mergeSort_perm _ _
    have hs2 : out.Pairwise fun u v => k (backV u) ≤ k (backV v) := by
      rw [eo]
      refine (List.pairwise_mergeSort (fun a b c h1 h2 => ?_) (fun a b => ?_) its).imp fun h => of_decide_eq_true h
      · exact decide_eq_true (List.le_trans (of_decide_eq_true h1) (of_decide_eq_true h2))
      · rw [Bool.or_eq_true, decide_eq_true_iff, decide_eq_true_iff]
        exact List.le_total _ _
    have h3 : ∀ u ∈ out, ∃ a, u = Value.ref a := fun u hu => e2 u (hp.mem_iff.mp hu)
    obtain ⟨n, hn⟩ := sortedAll_at s.heap its out.toArray
    have hb : (out.map backV).Perm xs := by
      rw [e1]
      exact hp.map backV
    have hfr : s.heap.objs.size ≤ s.heap.objs.size + 1 := Nat.le_succ _
    refine ⟨.ref _, upd H (s.heap.objs.size + 1) (.lst (out.map backV)), I.laid (t' := s.toks) (fun b o e => sortedAll_old e) hfr ⟨?_, out, n, vals_back h3, hn⟩, rfl, q _ _ (List.pairwise_map.mpr hs2) hb (I.hok.fresh hfr)⟩
    rw [hb.length_eq]
    exact hz
end
end L2

set_option Elab.async false
set_option linter.all false
set_option maxRecDepth 100000
set_option maxHeartbeats 4000000
/-! heappush and heappop -/
namespace HQ
open PySem PySem.Spec PyProof.Rows
theorem entry_sift : entryFor table "_heapq.heapify.sift" = some Builtin.«_heapq.heapify.sift» := entryFor_of_tree (by kernel_rfl)
theorem plain_sift : plainId "_heapq.heapify.sift" = true := by decide +kernel
theorem entry_push : entryFor table "_heapq.heappush" = some Builtin.«_heapq.heappush» := entryFor_of_tree (by kernel_rfl)
theorem plain_push : plainId "_heapq.heappush" = true := by decide +kernel
theorem kind_push : builtinKind "_heapq.heappush" = none := by kernel_rfl
theorem args_push (a b : Value) : argsOk "_heapq.heappush" ⟨[a, b], []⟩ := by unfold argsOk; kernel_rfl
theorem entry_pop : entryFor table "_heapq.heappop" = some Builtin.«_heapq.heappop» := entryFor_of_tree (by kernel_rfl)
theorem plain_pop : plainId "_heapq.heappop" = true := by decide +kernel
theorem kind_pop : builtinKind "_heapq.heappop" = none := by kernel_rfl
theorem args_pop (a : Value) : argsOk "_heapq.heappop" ⟨[a], []⟩ := by unfold argsOk; kernel_rfl
end HQ

set_option Elab.async false
set_option linter.all false
set_option maxRecDepth 100000
set_option maxHeartbeats 4000000
/-! heaps: the order of the places -/
namespace HQ
/-- how items are told as data, and which one is less -/
structure Ordr (E : Type) where
  enc : E → PySem.PyData
  lt : E → E → Bool
  spec : ∀ e f, PySem.W.dataLt (enc e) (enc f) = lt e f
  alike : ∀ e f, PySem.W.alike (enc e) (enc f) = true
  nn : ∀ e, enc e ≠ .none
  dep : ∀ e, (enc e).depth ≤ 3
  irr : ∀ e, lt e e = false
  tot : ∀ e f, lt e f = true → lt f e = false
  tr : ∀ e f g, lt f e = false → lt g f = false → lt g e = false
variable {E : Type} (O : Ordr E)
def le (e f : E) : Prop := O.lt f e = false
def par (i : Nat) : Nat := (i - 1) / 2
theorem le_refl (e : E) : le O e e := O.irr e
theorem le_trans {e f g : E} (h : le O e f) (k : le O f g) : le O e g := O.tr e f g h k
theorem le_of_lt {e f : E} (h : O.lt e f = true) : le O e f := O.tot e f h
theorem par_lt {i : Nat} (h : 0 < i) : par i < i := by unfold par; omega
theorem par_kid {i p : Nat} (h : 0 < i) (e : par i = p) : i = 2 * p + 1 ∨ i = 2 * p + 2 := by unfold par at e; omega
def swp (g : Nat → E) (i j : Nat) : Nat → E := fun k => if k = i then g j else if k = j then g i else g k
def Ok (g : Nat → E) (n : Nat) : Prop := ∀ i, 0 < i → i < n → le O (g (par i)) (g i)
structure Up (g : Nat → E) (n pos : Nat) : Prop where
  h1 : ∀ i, 0 < i → i < n → i ≠ pos → par i ≠ pos → le O (g (par i)) (g i)
  h2 : ∀ i, 0 < i → i < n → par i = pos → le O (g pos) (g i) ∧ (0 < pos → le O (g (par pos)) (g i))
structure Down (g : Nat → E) (n pos : Nat) : Prop where
  h1 : ∀ i, 0 < i → i < n → i ≠ pos → par i ≠ pos → le O (g (par i)) (g i)
  h3 : ∀ i, 0 < i → i < n → par i = pos → 0 < pos → le O (g (par pos)) (g i)
theorem Up.zero {g : Nat → E} {n : Nat} (h : Up O g n 0) : Ok O g n := fun i h0 hn => by
  by_cases c : par i = 0
  · have := (h.h2 i h0 hn c).1
    rw [c]
    exact this
  · exact h.h1 i h0 hn (by omega) c
theorem Up.stop {g : Nat → E} {n pos : Nat} (h : Up O g n pos) (k : le O (g (par pos)) (g pos)) : Ok O g n := fun i h0 hn => by
  by_cases c : par i = pos
  · rw [c]
    exact (h.h2 i h0 hn c).1
  · by_cases d : i = pos
    · rw [d]
      exact k
    · exact h.h1 i h0 hn d c
theorem Up.step {g : Nat → E} {n pos : Nat} (h : Up O g n pos) (hp : 0 < pos) (hn : pos < n) (k : O.lt (g pos) (g (par pos)) = true) : Up O (swp g (par pos) pos) n (par pos) := by
  have hpp := par_lt hp
  have kle := le_of_lt O k
  have s1 : swp g (par pos) pos (par pos) = g pos := if_pos rfl
  have s2 : swp g (par pos) pos pos = g (par pos) := by unfold swp; rw [if_neg (by omega), if_pos rfl]
  have s3 : ∀ i, i ≠ par pos → i ≠ pos → swp g (par pos) pos i = g i := fun i a b => by unfold swp; rw [if_neg a, if_neg b]
  refine ⟨fun i h0 hi n1 n2 => ?_, fun i h0 hi e => ?_⟩
  · -- neither the place nor its kid
    by_cases c : i = pos
    · exact absurd (by rw [c]) n2
    · by_cases d : par i = pos
      · rw [d, s2, s3 i n1 c]
        exact (h.h2 i h0 hi d).2 hp
      · rw [s3 i n1 c, s3 (par i) n2 d]
        exact h.h1 i h0 hi c d
  · by_cases c : i = pos
    · subst c
      rw [s1, s2]
      refine ⟨kle, fun h1 => ?_⟩
      rw [s3 (par (par i)) (by have := par_lt h1; omega) (by have := par_lt h1; omega)]
      exact h.h1 (par i) h1 (by omega) (by omega) (by have := par_lt h1; omega)
    · have ni : i ≠ par pos := fun z => by rw [z] at e h0; have := par_lt h0; omega
      have q : le O (g (par pos)) (g i) := by
        have := h.h1 i h0 hi c (by omega)
        rw [e] at this
        exact this
      rw [s1, s3 i ni c]
      refine ⟨le_trans O kle q, fun h1 => ?_⟩
      rw [s3 (par (par pos)) (by have := par_lt h1; omega) (by have := par_lt h1; omega)]
      refine le_trans O ?_ q
      exact h.h1 (par pos) h1 (by omega) (by omega) (by have := par_lt h1; omega)
theorem Down.leaf {g : Nat → E} {n pos : Nat} (h : Down O g n pos) (k : n ≤ 2 * pos + 1) : Up O g n pos :=
  ⟨h.h1, fun i h0 hi e => by rcases par_kid h0 e with z | z <;> omega⟩
theorem Down.step {g : Nat → E} {n pos c : Nat} (h : Down O g n pos) (hc0 : 0 < c) (hc : c < n) (hp : par c = pos) (k : ∀ i, 0 < i → i < n → par i = pos → le O (g c) (g i)) : Down O (swp g c pos) n c := by
  have hpc : pos < c := by have := par_lt hc0; omega
  have s1 : swp g c pos c = g pos := if_pos rfl
  have s2 : swp g c pos pos = g c := by unfold swp; rw [if_neg (by omega), if_pos rfl]
  have s3 : ∀ i, i ≠ c → i ≠ pos → swp g c pos i = g i := fun i a b => by unfold swp; rw [if_neg a, if_neg b]
  refine ⟨fun i h0 hi n1 n2 => ?_, fun i h0 hi e h1 => ?_⟩
  · by_cases d : i = pos
    · subst d
      rw [s2, s3 (par i) n2 (by have := par_lt h0; omega)]
      exact h.h3 c hc0 hc hp h0
    · by_cases f : par i = pos
      · rw [f, s2, s3 i n1 d]
        exact k i h0 hi f
      · rw [s3 i n1 d, s3 (par i) n2 f]
        exact h.h1 i h0 hi d f
  · have ni : i ≠ pos := fun z => by rw [z] at e h0; have := par_lt h0; omega
    have nc : i ≠ c := fun z => by rw [z] at e h0; have := par_lt h0; omega
    rw [hp, s2, s3 i nc ni]
    have := h.h1 i h0 hi ni (by omega)
    rw [e] at this
    exact this
theorem Ok.least {g : Nat → E} {n : Nat} (h : Ok O g n) : ∀ (m k : Nat), k ≤ m → k < n → le O (g 0) (g k)
  | m, 0, _, _ => le_refl O _
  | 0, k + 1, h1, _ => by omega
  | m + 1, k + 1, h1, h2 => by
    have hp := par_lt (i := k + 1) (by omega)
    exact le_trans O (h.least m (par (k + 1)) (by omega) (by omega)) (h (k + 1) (by omega) h2)
theorem Ok.push {g g' : Nat → E} {n : Nat} (h : Ok O g n) (e : ∀ i, i < n → g' i = g i) : Up O g' (n + 1) n :=
  ⟨fun i h0 hi n1 n2 => by
    have := par_lt h0
    rw [e i (by omega), e (par i) (by omega)]
    exact h i h0 (by omega), fun i h0 hi z => by have := par_lt h0; omega⟩
theorem Ok.pop {g g' : Nat → E} {n : Nat} (h : Ok O g (n + 1)) (e : ∀ i, 0 < i → i < n → g' i = g i) : Down O g' n 0 :=
  ⟨fun i h0 hi n1 n2 => by
    rw [e i (by omega) hi, e (par i) (by omega) (by have := par_lt h0; omega)]
    exact h i h0 (by omega), fun i h0 hi z h1 => by omega⟩
end HQ

set_option Elab.async false
set_option linter.all false
set_option maxRecDepth 100000
set_option maxHeartbeats 4000000
/-! heappush, heappop: the machine's steps -/
namespace HQ
open PySem PySem.Spec PyProof.Rows L2
def itemsQ (a : Addr) : Sem (Array Value) := do
  let some xs ← seqItems? (.ref a) | unsupported "internal:_heapq"
  return xs
def atQ (xs : Array Value) (i : Nat) : Sem Value :=
  match xs[i]? with
  | some v => pure v
  | none => unsupported "internal:_heapq.index"
def swapQ (a : Addr) (i j : Nat) : Sem Unit := do
  let xs ← itemsQ a
  let x ← atQ xs i
  let y ← atQ xs j
  updateSeq a fun xs => (xs.setIfInBounds i y).setIfInBounds j x
def lessQ (a : Addr) (size : Nat) (x y : Value) : Sem Bool := do
  let less ← holding [x, y] (do truthOfDropped (← richCompare .Lt x y))
  if (← itemsQ a).size != size then rule "_heapq.size-changed"; raiseError "RuntimeError" "list changed size during iteration"
  return less
section
variable {P : Program} {w : World} {A : Around} {E : Value → Shared → Prop} {s : Shared} {a : Addr} {its : Array Value} {n : Nat}
abbrev lstO (its : Array Value) (n : Nat) : Obj := { cls := .type "list", dict := none, data := .seq its n, slots := #[] }
theorem wp_items {Q : Array Value → Shared → Prop} (h : s.heap.get? a = some (lstO its n)) (q : Q its s) : wpAny (model P w) A (itemsQ a) Q E s := by
  unfold itemsQ
  exact wpAny_bind (wpAny_seqItems h rfl (wpAny_pure q))
theorem wp_at {i : Nat} {v : Value} {Q : Value → Shared → Prop} (h : its[i]? = some v) (q : Q v s) : wpAny (model P w) A (atQ its i) Q E s := by
  unfold atQ
  rw [h]
  exact wpAny_pure q
theorem wp_less {x y : Value} {k : Bool} {Q : Bool → Shared → Prop} (h : s.heap.get? a = some (lstO its n)) (hc : ∀ (Q' : Value → Shared → Prop), Q' (.bool k) s → wpAny (model P w) A (richCompare .Lt x y) Q' E s) (q : Q k s) : wpAny (model P w) A (lessQ a its.size x y) Q E s := by
  unfold lessQ
  refine wpAny_bind (wpAny_holding (wpAny_bind (hc _ ?_)))
  show wpAny _ A (truthy (.bool k)) _ _ s
  refine wpAny_truthy_bool ?_
  refine wpAny_bind (wp_items h ?_)
  have e : (its.size != its.size) = false := by simp
  rw [e]
  exact wpAny_bind (wpAny_pure (wpAny_pure q))
theorem wp_swap {i j : Nat} {x y : Value} {Q : Unit → Shared → Prop} (h : s.heap.get? a = some (lstO its n)) (hi : its[i]? = some x) (hj : its[j]? = some y) (hz : its.size ≤ sizeLine)
    (q : Q () { s with heap := s.heap.update a (Obj.mapSeq fun xs => (xs.setIfInBounds i y).setIfInBounds j x) }) : wpAny (model P w) A (swapQ a i j) Q E s := by
  unfold swapQ
  refine wpAny_bind (wp_items h (wpAny_bind (wp_at hi (wpAny_bind (wp_at hj ?_)))))
  exact wpAny_updateSeq h rfl q hz (by simp; omega)
end
def siftArgs (a : Addr) (down : Bool) (pos : Nat) (result : Value) : Args := ⟨[.ref a, .bool false, .bool down, rawInt (pos : Nat), rawInt ((0 : Nat) : Int), result, rawInt (-1)], []⟩
section
variable {P : Program} {w : World} {A : Around} {R : Result → Shared → Prop} {s : Shared} {a : Addr} {its : Array Value} {n pos : Nat} {result : Value}
/-- at the top, or behind the last comparison -/
theorem up_end (h : s.heap.get? a = some (lstO its n)) (hp : pos = 0) (q : R (.ok (.ret result)) s) : codeAny (model P w) A (.builtin "_heapq.heapify.sift" (siftArgs a false pos result)) R s := by
  refine codeAny_builtin entry_sift ?_
  rw [Around.under_plainId plain_sift _]
  show wpAny _ A.in1 (itemsQ a >>= _) _ _ s
  refine wpAny_bind (wp_items h ?_)
  subst hp
  exact wpAny_pure q
theorem up_cmp {x p : Value} {k : Bool} (h : s.heap.get? a = some (lstO its n)) (hp : 0 < pos) (hx : its[pos]? = some x) (hy : its[par pos]? = some p) (hz : its.size ≤ sizeLine) (hc : ∀ (E : Value → Shared → Prop) (Q' : Value → Shared → Prop), Q' (.bool k) s → wpAny (model P w) A.in1 (richCompare .Lt x p) Q' E s)
    (q0 : k = false → R (.ok (.ret result)) s) (q1 : k = true → codeAny (model P w) A (.builtin "_heapq.heapify.sift" (siftArgs a false (par pos) result)) R { s with heap := s.heap.update a (Obj.mapSeq fun xs => (xs.setIfInBounds (par pos) x).setIfInBounds pos p) }) : codeAny (model P w) A (.builtin "_heapq.heapify.sift" (siftArgs a false pos result)) R s := by
  refine codeAny_builtin entry_sift ?_
  rw [Around.under_plainId plain_sift _]
  show wpAny _ A.in1 (itemsQ a >>= _) _ _ s
  refine wpAny_bind (wp_items h ?_)
  obtain ⟨pos, rfl⟩ : ∃ m, pos = m + 1 := ⟨pos - 1, by omega⟩
  show wpAny _ A.in1 (atQ its (pos + 1) >>= _) _ _ s
  refine wpAny_bind (wp_at hx ?_)
  show wpAny _ A.in1 (atQ its (par (pos + 1)) >>= _) _ _ s
  refine wpAny_bind (wp_at hy ?_)
  show wpAny _ A.in1 (lessQ a its.size x p >>= _) _ _ s
  refine wpAny_bind (wp_less h (hc _) ?_)
  cases k with
  | false => exact wpAny_pure (q0 rfl)
  | true =>
    show wpAny _ A.in1 (swapQ a (par (pos + 1)) (pos + 1) >>= _) _ _ s
    refine wpAny_bind (wp_swap h hy hx hz ?_)
    exact wpAny_pure ⟨plainId_quiet plain_sift _, q1 rfl⟩
/-- a leaf: up again -/
theorem down_leaf (h : s.heap.get? a = some (lstO its n)) (hp : ¬ pos < its.size / 2) (q : codeAny (model P w) A (.builtin "_heapq.heapify.sift" (siftArgs a false pos result)) R s) : codeAny (model P w) A (.builtin "_heapq.heapify.sift" (siftArgs a true pos result)) R s := by
  refine codeAny_builtin entry_sift ?_
  rw [Around.under_plainId plain_sift _]
  show wpAny _ A.in1 (itemsQ a >>= _) _ _ s
  refine wpAny_bind (wp_items h ?_)
  show wpAny _ A.in1 (if pos < its.size / 2 then _ else _) _ _ s
  rw [if_neg hp]
  exact wpAny_pure ⟨plainId_quiet plain_sift _, q⟩
/-- one kid alone -/
theorem down_one {x v : Value} (h : s.heap.get? a = some (lstO its n)) (hp : pos < its.size / 2) (h2 : ¬ 2 * pos + 1 + 1 < its.size) (hx : its[2 * pos + 1]? = some x) (hv : its[pos]? = some v) (hz : its.size ≤ sizeLine)
    (q : codeAny (model P w) A (.builtin "_heapq.heapify.sift" (siftArgs a true (2 * pos + 1) result)) R { s with heap := s.heap.update a (Obj.mapSeq fun xs => (xs.setIfInBounds (2 * pos + 1) v).setIfInBounds pos x) }) : codeAny (model P w) A (.builtin "_heapq.heapify.sift" (siftArgs a true pos result)) R s := by
  refine codeAny_builtin entry_sift ?_
  rw [Around.under_plainId plain_sift _]
  show wpAny _ A.in1 (itemsQ a >>= _) _ _ s
  refine wpAny_bind (wp_items h ?_)
  show wpAny _ A.in1 (if pos < its.size / 2 then (if 2 * pos + 1 + 1 < its.size then _ else _) else _) _ _ s
  rw [if_pos hp, if_neg h2]
  show wpAny _ A.in1 (swapQ a (2 * pos + 1) pos >>= _) _ _ s
  refine wpAny_bind (wp_swap h hx hv hz ?_)
  exact wpAny_pure ⟨plainId_quiet plain_sift _, q⟩
/-- two kids -/
theorem down_two {x y v : Value} {k : Bool} (h : s.heap.get? a = some (lstO its n)) (hp : pos < its.size / 2) (h2 : 2 * pos + 1 + 1 < its.size) (hx : its[2 * pos + 1]? = some x) (hy : its[2 * pos + 1 + 1]? = some y) (hv : its[pos]? = some v) (hz : its.size ≤ sizeLine)
    (hc : ∀ (E : Value → Shared → Prop) (Q' : Value → Shared → Prop), Q' (.bool k) s → wpAny (model P w) A.in1 (richCompare .Lt x y) Q' E s)
    (q1 : k = true → codeAny (model P w) A (.builtin "_heapq.heapify.sift" (siftArgs a true (2 * pos + 1) result)) R { s with heap := s.heap.update a (Obj.mapSeq fun xs => (xs.setIfInBounds (2 * pos + 1) v).setIfInBounds pos x) })
    (q0 : k = false → codeAny (model P w) A (.builtin "_heapq.heapify.sift" (siftArgs a true (2 * pos + 1 + 1) result)) R { s with heap := s.heap.update a (Obj.mapSeq fun xs => (xs.setIfInBounds (2 * pos + 1 + 1) v).setIfInBounds pos y) }) : codeAny (model P w) A (.builtin "_heapq.heapify.sift" (siftArgs a true pos result)) R s := by
  refine codeAny_builtin entry_sift ?_
  rw [Around.under_plainId plain_sift _]
  show wpAny _ A.in1 (itemsQ a >>= _) _ _ s
  refine wpAny_bind (wp_items h ?_)
  show wpAny _ A.in1 (if pos < its.size / 2 then (if 2 * pos + 1 + 1 < its.size then _ else _) else _) _ _ s
  rw [if_pos hp, if_pos h2]
  show wpAny _ A.in1 (atQ its (2 * pos + 1) >>= _) _ _ s
  refine wpAny_bind (wp_at hx ?_)
  show wpAny _ A.in1 (atQ its (2 * pos + 1 + 1) >>= _) _ _ s
  refine wpAny_bind (wp_at hy ?_)
  show wpAny _ A.in1 (lessQ a its.size x y >>= _) _ _ s
  refine wpAny_bind (wp_less h (hc _) ?_)
  cases k with
  | true =>
    show wpAny _ A.in1 (swapQ a (2 * pos + 1) pos >>= _) _ _ s
    refine wpAny_bind (wp_swap h hx hv hz ?_)
    exact wpAny_pure ⟨plainId_quiet plain_sift _, q1 rfl⟩
  | false =>
    show wpAny _ A.in1 (swapQ a (2 * pos + 1 + 1) pos >>= _) _ _ s
    refine wpAny_bind (wp_swap h hy hv hz ?_)
    exact wpAny_pure ⟨plainId_quiet plain_sift _, q0 rfl⟩
end
end HQ

set_option Elab.async false
set_option linter.all false
set_option maxRecDepth 100000
set_option maxHeartbeats 4000000
/-! heappush, heappop: rules -/
namespace HQ
open PySem PySem.Spec PyProof.Rows L2
variable {E : Type}
/-- an item's data, as long as tuples stay -/
def DI (K : PySem.W.Frag) (O : Ordr E) (H : Hp) (v : V) (e : E) : Prop := ∀ H', (∀ t xs, H t = some (.tup xs) → H' t = some (.tup xs)) → Dp K H' v (O.enc e)
theorem DI.to {K : PySem.W.Frag} {O : Ordr E} {H H' : Hp} {v : V} {e : E} (h : DI K O H v e) (t : ∀ t xs, H t = some (.tup xs) → H' t = some (.tup xs)) : DI K O H' v e := fun H2 k => h H2 fun a xs q => k a xs (t a xs q)
abbrev T3 (E : Type) := Value × V × E
def vsO (ts : List (T3 E)) : List V := ts.map fun x => x.2.1
def itO (ts : List (T3 E)) : List Value := ts.map fun x => x.1
def gO (d : T3 E) (ts : List (T3 E)) : Nat → E := fun i => (ts.getD i d).2.2
section
variable {X : Cx} {pins : List (Addr × Obj)} {σ : L2.St}
structure QSt (O : Ordr E) (X : Cx) (pins : List (Addr × Obj)) (σ : L2.St) (H0 : Hp) (a : Addr) (s : Shared) (ts : List (T3 E)) : Prop where
  inv : Inv X pins σ (upd H0 a (.lst (vsO ts))) s
  hp : ∃ n, s.heap.get? a = some (lstO (itO ts).toArray n)
  it : ∀ x ∈ ts, RelV x.2.1 x.1 ∧ DI X.K O (upd H0 a (.lst (vsO ts))) x.2.1 x.2.2
theorem vals_of {ts : List (T3 E)} (h : ∀ x ∈ ts, RelV x.2.1 x.1) : Vals (vsO ts) (itO ts) := by
  induction ts with
  | nil => exact .nil
  | cons x r ih => exact .cons (h x List.mem_cons_self) (ih fun y hy => h y (List.mem_cons_of_mem _ hy))
theorem QSt.size {O : Ordr E} {H0 : Hp} {a : Addr} {s : Shared} {ts : List (T3 E)} (q : QSt O X pins σ H0 a s ts) : ts.length ≤ sizeLine := by
  have := (q.inv.lstM (l := a) (xs := vsO ts) upd_same).1
  unfold vsO at this
  rwa [List.length_map] at this
theorem tup_lst {H0 : Hp} {a : Addr} {xs ys : List V} : ∀ t zs, upd H0 a (.lst xs) t = some (.tup zs) → upd H0 a (.lst ys) t = some (.tup zs) := fun t zs h => by
  by_cases c : t = a
  · subst c
    rw [upd_same] at h
    cases h
  · rw [upd_ne c] at h ⊢
    exact h
/-- the list is written anew -/
theorem QSt.put {O : Ordr E} {H0 : Hp} {a : Addr} {s : Shared} {ts ts' : List (T3 E)} (q : QSt O X pins σ H0 a s ts) {f : Array Value → Array Value} {t' : Nat} (hf : f (itO ts).toArray = (itO ts').toArray) (hz : ts'.length ≤ sizeLine) (hi : ∀ x ∈ ts', RelV x.2.1 x.1 ∧ DI X.K O (upd H0 a (.lst (vsO ts))) x.2.1 x.2.2) :
    QSt O X pins σ H0 a { s with heap := s.heap.update a (Obj.mapSeq f), toks := t' } ts' := by
  obtain ⟨n, hp⟩ := q.hp
  have I := q.inv.lset (l := a) (xs := vsO ts) (its := itO ts) (its' := itO ts') (ys := vsO ts') (n := n) (t' := t') (f := f) upd_same hp hf (vals_of fun x hx => (hi x hx).1) (by unfold vsO; rw [List.length_map]; exact hz)
  rw [upd_upd] at I
  refine ⟨I, ?_, fun x hx => ⟨(hi x hx).1, (hi x hx).2.to tup_lst⟩⟩
  have q := PySem.IsL.update hp f
  rw [hf] at q
  exact ⟨_, q⟩
def swpL (ts : List (T3 E)) (i j : Nat) (x y : T3 E) : List (T3 E) := (ts.set i y).set j x
theorem swp_get {ts : List (T3 E)} {i j : Nat} {x y : T3 E} (hi : ts[i]? = some x) (hj : ts[j]? = some y) (d : T3 E) (ne : i ≠ j) : gO d (swpL ts i j x y) = swp (gO d ts) i j := by
  have li := (List.getElem?_eq_some_iff.mp hi).1
  have lj := (List.getElem?_eq_some_iff.mp hj).1
  funext k
  unfold gO swpL swp
  simp only [List.getD_eq_getElem?_getD, List.getElem?_set]
  by_cases c : k = i
  · subst c
    rw [if_neg (by omega), if_pos rfl, if_pos li, if_pos rfl, hj]
  · by_cases e : k = j
    · subst e
      rw [if_pos rfl, if_neg c, if_pos rfl, hi, if_pos (by rw [List.length_set]; exact lj)]
    · rw [if_neg (by omega), if_neg (by omega), if_neg c, if_neg e]
theorem swp_mem {ts : List (T3 E)} {i j : Nat} {x y : T3 E} (hi : ts[i]? = some x) (hj : ts[j]? = some y) : ∀ z, z ∈ swpL ts i j x y ↔ z ∈ ts := by
  have li := (List.getElem?_eq_some_iff.mp hi).1
  have lj := (List.getElem?_eq_some_iff.mp hj).1
  intro z
  constructor
  · intro h
    rcases List.mem_or_eq_of_mem_set h with h | rfl
    · rcases List.mem_or_eq_of_mem_set h with h | rfl
      · exact h
      · exact List.mem_of_getElem? hj
    · exact List.mem_of_getElem? hi
  · intro h
    obtain ⟨k, hk⟩ := List.mem_iff_getElem?.mp h
    by_cases c : k = i
    · subst c
      rw [hi] at hk
      cases hk
      exact List.mem_iff_getElem?.mpr ⟨j, by unfold swpL; rw [List.getElem?_set, if_pos rfl, if_pos (by rw [List.length_set]; exact lj)]⟩
    · by_cases e : k = j
      · subst e
        rw [hj] at hk
        cases hk
        refine List.mem_iff_getElem?.mpr ⟨i, ?_⟩
        unfold swpL
        rw [List.getElem?_set, if_neg (Ne.symm (Ne.symm c)), List.getElem?_set, if_pos rfl, if_pos li]
      · refine List.mem_iff_getElem?.mpr ⟨k, ?_⟩
        unfold swpL
        rw [List.getElem?_set, if_neg (Ne.symm e), List.getElem?_set, if_neg (Ne.symm c)]
        exact hk
theorem swp_len (ts : List (T3 E)) (i j : Nat) (x y : T3 E) : (swpL ts i j x y).length = ts.length := by unfold swpL; rw [List.length_set, List.length_set]
theorem QSt.swp {O : Ordr E} {H0 : Hp} {a : Addr} {s : Shared} {ts : List (T3 E)} (q : QSt O X pins σ H0 a s ts) {i j : Nat} {x y : T3 E} (hi : ts[i]? = some x) (hj : ts[j]? = some y) :
    QSt O X pins σ H0 a { s with heap := s.heap.update a (Obj.mapSeq fun xs => (xs.setIfInBounds i y.1).setIfInBounds j x.1) } (swpL ts i j x y) := by
  refine q.put (t' := s.toks) ?_ (by rw [swp_len]; exact q.size) fun z hz => q.it z ((swp_mem hi hj z).mp hz)
  unfold itO swpL
  rw [List.map_set, List.map_set]
  simp
theorem QSt.cmp {O : Ordr E} {H0 : Hp} {a : Addr} {s : Shared} {ts : List (T3 E)} (q : QSt O X pins σ H0 a s ts) (hu : X.A.units + 8 < cLine) {x y : T3 E} (hx : x ∈ ts) (hy : y ∈ ts) (G : Value → Shared → Prop) (Q' : Value → Shared → Prop) (h : Q' (.bool (O.lt x.2.2 y.2.2)) s) : wpAny (model X.prog X.w) X.A.in1 (richCompare .Lt x.1 y.1) Q' G s := by
  obtain ⟨r1, d1⟩ := q.it x hx
  obtain ⟨r2, d2⟩ := q.it y hy
  obtain ⟨as, ra⟩ := Dp.reads q.inv _ _ _ (d1 _ fun _ _ h => h) r1
  obtain ⟨bs, rb⟩ := Dp.reads q.inv _ _ _ (d2 _ fun _ _ h => h) r2
  have := PySem.W.rcLt_alike _ _ X.A.in1 s x.1 y.1 as bs ra rb (O.alike _ _) (O.nn _) (by
    have e1 := O.dep x.2.2
    have e2 := Nat.min_le_left (O.enc x.2.2).depth (O.enc y.2.2).depth
    show X.A.units + 1 + _ < cLine
    omega) X.prog X.w G Q'
  rw [O.spec] at this
  exact this h
theorem it_at {ts : List (T3 E)} {i : Nat} {x : T3 E} (h : ts[i]? = some x) : (itO ts).toArray[i]? = some x.1 := by
  unfold itO
  simp [h]
theorem g_at {ts : List (T3 E)} {i : Nat} {x : T3 E} (h : ts[i]? = some x) (d : T3 E) : gO d ts i = x.2.2 := by
  unfold gO
  rw [List.getD_eq_getElem?_getD, h]
  rfl
/-- up to its place -/
theorem up_all {O : Ordr E} {H0 : Hp} {a : Addr} {R : Result → Shared → Prop} {result : Value} (hu : X.A.units + 8 < cLine) (d : T3 E) : ∀ (m pos : Nat) (ts : List (T3 E)) (s : Shared), pos ≤ m → pos < ts.length → QSt O X pins σ H0 a s ts → Up O (gO d ts) ts.length pos →
    (∀ ts' s', ts'.length = ts.length → (∀ z, z ∈ ts' ↔ z ∈ ts) → QSt O X pins σ H0 a s' ts' → Ok O (gO d ts') ts'.length → R (.ok (.ret result)) s') →
    codeAny (model X.prog X.w) X.A (.builtin "_heapq.heapify.sift" (siftArgs a false pos result)) R s
  | m, 0, ts, s, _, _, q, u, k => by
    obtain ⟨n, hp⟩ := q.hp
    exact up_end hp rfl (k ts s rfl (fun _ => Iff.rfl) q (u.zero O))
  | 0, pos + 1, ts, s, hm, _, _, _, _ => absurd hm (by omega)
  | m + 1, pos + 1, ts, s, hm, hl, q, u, k => by
    obtain ⟨n, hp⟩ := q.hp
    have hpp := par_lt (i := pos + 1) (by omega)
    obtain ⟨x, hx⟩ : ∃ x, ts[pos + 1]? = some x := ⟨_, List.getElem?_eq_getElem hl⟩
    obtain ⟨y, hy⟩ : ∃ y, ts[par (pos + 1)]? = some y := ⟨_, List.getElem?_eq_getElem (by omega)⟩
    have gx := g_at hx d
    have gy := g_at hy d
    refine up_cmp (k := O.lt x.2.2 y.2.2) (x := x.1) (p := y.1) hp (by omega) (it_at hx) (it_at hy) (by have := q.size; unfold itO; simpa using this) (fun G Q' h => q.cmp hu (List.mem_of_getElem? hx) (List.mem_of_getElem? hy) G Q' h) (fun e => ?_) fun e => ?_
    · refine k ts s rfl (fun _ => Iff.rfl) q (u.stop O ?_)
      show O.lt (gO d ts (pos + 1)) (gO d ts (par (pos + 1))) = false
      rw [gx, gy]
      exact e
    · have q2 := q.swp hy hx
      have u2 := u.step O (by omega) hl (by rw [gx, gy]; exact e)
      rw [← swp_get hy hx d (by omega)] at u2
      refine up_all hu d m (par (pos + 1)) (swpL ts (par (pos + 1)) (pos + 1) y x) _ (by omega) (by rw [swp_len]; omega) q2 (by rw [swp_len]; exact u2) fun ts' s' e1 e2 e3 e4 => ?_
      exact k ts' s' (by rw [e1, swp_len]) (fun z => (e2 z).trans (swp_mem hy hx z)) e3 e4
/-- down to a leaf, then up -/
theorem down_all {O : Ordr E} {H0 : Hp} {a : Addr} {R : Result → Shared → Prop} {result : Value} (hu : X.A.units + 8 < cLine) (d : T3 E) : ∀ (m pos : Nat) (ts : List (T3 E)) (s : Shared), ts.length - pos ≤ m → pos < ts.length → QSt O X pins σ H0 a s ts → Down O (gO d ts) ts.length pos →
    (∀ ts' s', ts'.length = ts.length → (∀ z, z ∈ ts' ↔ z ∈ ts) → QSt O X pins σ H0 a s' ts' → Ok O (gO d ts') ts'.length → R (.ok (.ret result)) s') →
    codeAny (model X.prog X.w) X.A (.builtin "_heapq.heapify.sift" (siftArgs a true pos result)) R s
  | 0, pos, ts, s, hm, hl, _, _, _ => absurd hm (by omega)
  | m + 1, pos, ts, s, hm, hl, q, u, k => by
    obtain ⟨n, hp⟩ := q.hp
    have es : (itO ts).toArray.size = ts.length := by unfold itO; simp
    have hz : (itO ts).toArray.size ≤ sizeLine := by rw [es]; exact q.size
    obtain ⟨v, hv⟩ : ∃ v, ts[pos]? = some v := ⟨_, List.getElem?_eq_getElem hl⟩
    by_cases c1 : pos < (itO ts).toArray.size / 2
    · have l1 : 2 * pos + 1 < ts.length := by rw [es] at c1; omega
      obtain ⟨x, hx⟩ : ∃ x, ts[2 * pos + 1]? = some x := ⟨_, List.getElem?_eq_getElem l1⟩
      have gx := g_at hx d
      have p1 : par (2 * pos + 1) = pos := by unfold par; omega
      have p2 : par (2 * pos + 1 + 1) = pos := by unfold par; omega
      have go1 : (∀ i, 0 < i → i < ts.length → par i = pos → le O (gO d ts (2 * pos + 1)) (gO d ts i)) → codeAny (model X.prog X.w) X.A (.builtin "_heapq.heapify.sift" (siftArgs a true (2 * pos + 1) result)) R { s with heap := s.heap.update a (Obj.mapSeq fun xs => (xs.setIfInBounds (2 * pos + 1) v.1).setIfInBounds pos x.1) } := fun hk => by
        have q2 := q.swp hx hv
        have u2 := u.step O (c := 2 * pos + 1) (by omega) l1 p1 hk
        rw [← swp_get hx hv d (by omega)] at u2
        refine down_all hu d m (2 * pos + 1) (swpL ts (2 * pos + 1) pos x v) _ (by rw [swp_len]; omega) (by rw [swp_len]; omega) q2 (by rw [swp_len]; exact u2) fun ts' s' e1 e2 e3 e4 => ?_
        exact k ts' s' (by rw [e1, swp_len]) (fun z => (e2 z).trans (swp_mem hx hv z)) e3 e4
      by_cases c2 : 2 * pos + 1 + 1 < (itO ts).toArray.size
      · have l2 : 2 * pos + 1 + 1 < ts.length := by rw [es] at c2; exact c2
        obtain ⟨y, hy⟩ : ∃ y, ts[2 * pos + 1 + 1]? = some y := ⟨_, List.getElem?_eq_getElem l2⟩
        have gy := g_at hy d
        refine down_two (k := O.lt x.2.2 y.2.2) hp c1 c2 (it_at hx) (it_at hy) (it_at hv) hz (fun G Q' h => q.cmp hu (List.mem_of_getElem? hx) (List.mem_of_getElem? hy) G Q' h) (fun e => go1 fun i h0 hi e2 => ?_) fun e => ?_
        · rcases par_kid h0 e2 with z | z
          · rw [z]; exact le_refl O _
          · rw [z, gx, gy]
            exact le_of_lt O e
        · have q2 := q.swp hy hv
          have u2 := u.step O (c := 2 * pos + 1 + 1) (by omega) l2 p2 fun i h0 hi e2 => by
            rcases par_kid h0 e2 with z | z
            · rw [z, gx, gy]; exact e
            · rw [z]; exact le_refl O _
          rw [← swp_get hy hv d (by omega)] at u2
          refine down_all hu d m (2 * pos + 1 + 1) (swpL ts (2 * pos + 1 + 1) pos y v) _ (by rw [swp_len]; omega) (by rw [swp_len]; omega) q2 (by rw [swp_len]; exact u2) fun ts' s' e1 e2 e3 e4 => ?_
          exact k ts' s' (by rw [e1, swp_len]) (fun z => (e2 z).trans (swp_mem hy hv z)) e3 e4
      · refine down_one hp c1 c2 (it_at hx) (it_at hv) hz (go1 fun i h0 hi e2 => ?_)
        rcases par_kid h0 e2 with z | z
        · rw [z]; exact le_refl O _
        · exact absurd hi (by rw [es] at c2; omega)
    · refine down_leaf hp c1 ?_
      exact up_all hu d pos pos ts s (Nat.le_refl _) hl q (u.leaf O (by rw [es] at c1; omega)) k
end
end HQ

set_option Elab.async false
set_option linter.all false
set_option maxRecDepth 100000
set_option maxHeartbeats 4000000
/-! heappush, heappop: calls -/
namespace HQ
open PySem PySem.Spec PyProof.Rows L2
variable {E : Type}
def listQ (fname which : String) (v : Value) : Sem Addr := do
  if ← isInstance v (.type "list") then
    if let .ref a := v then return a
  rule "_heapq.not-a-list"
  let what ← if v == .none then pure "None" else typeNameOf v
  raiseError "TypeError" s!"{fname}() argument{which} must be list, not {what}"
def oneQ (fname : String) (args : Args) : Sem (Value × Addr) := do
  let heap ← oneArg s!"_heapq.{fname}" args
  return (heap, ← listQ fname "" heap)
def twoQ (fname : String) (args : Args) : Sem (Value × Addr × Value) := do
  noKeywords s!"_heapq.{fname}" args
  checkCount fname 2 2 args.pos.length
  let [heap, item] := args.pos | unsupported "internal:_heapq"
  return (heap, ← listQ fname " 1" heap, item)
def gE (ps : List (V × E)) (d : E) : Nat → E := fun i => (ps.getD i (.non, d)).2
/-- a heap: its items and their data, the least in front -/
structure HpL (K : PySem.W.Frag) (O : Ordr E) (H : Hp) (l : Addr) (ps : List (V × E)) : Prop where
  at' : H l = some (.lst (ps.map (·.1)))
  it : ∀ p ∈ ps, DI K O H p.1 p.2
  ok : ∀ d, Ok O (gE ps d) ps.length
section
variable {X : Cx} {pins : List (Addr × Obj)} {σ : L2.St} {P : Program} {w : World} {A : Around} {EE : Value → Shared → Prop} {s : Shared} {a : Addr} {its : Array Value} {n : Nat}
theorem wp_list {fname which : String} {Q : Addr → Shared → Prop} (h : s.heap.get? a = some (lstO its n)) (q : Q a s) : wpAny (model P w) A (listQ fname which (.ref a)) Q EE s := by
  unfold listQ
  refine wpAny_bind (wpAny_isInstance (T := "list") (b := true) ⟨_, h, rfl⟩ (by rw [isSubtype_type]; rfl) ?_)
  exact wpAny_pure q
theorem wp_one {fname : String} {Q : Value × Addr → Shared → Prop} (h : s.heap.get? a = some (lstO its n)) (q : Q (.ref a, a) s) : wpAny (model P w) A (oneQ fname ⟨[.ref a], []⟩) Q EE s := by
  unfold oneQ
  refine wpAny_bind ?_
  show wpAny _ _ (noKeywords _ _ >>= _) _ _ s
  refine wpAny_bind ?_
  show wpAny _ _ (pure ()) _ _ s
  refine wpAny_pure ?_
  show wpAny _ _ (pure (Value.ref a)) _ _ s
  refine wpAny_pure ?_
  exact wpAny_bind (wp_list h (wpAny_pure q))
theorem wp_two {fname : String} {u : Value} {Q : Value × Addr × Value → Shared → Prop} (h : s.heap.get? a = some (lstO its n)) (q : Q (.ref a, a, u) s) : wpAny (model P w) A (twoQ fname ⟨[.ref a, u], []⟩) Q EE s := by
  unfold twoQ
  refine wpAny_bind ?_
  show wpAny _ _ (pure ()) _ _ s
  refine wpAny_pure ?_
  refine wpAny_bind ?_
  show wpAny _ _ (checkCount fname 2 2 2) _ _ s
  unfold checkCount
  simp only [bne_self_eq_false, Bool.and_false, Bool.false_eq_true, if_false, Nat.lt_irrefl, gt_iff_lt]
  refine wpAny_bind (wpAny_pure ?_)
  refine wpAny_bind (wpAny_pure (wpAny_pure ?_))
  exact wpAny_bind (wp_list h (wpAny_pure q))
theorem zip3 : ∀ (ps : List (V × E)) (its : List Value), Vals (ps.map (·.1)) its → ∃ ts : List (T3 E), itO ts = its ∧ ts.map (fun x => x.2) = ps ∧ ∀ x ∈ ts, RelV x.2.1 x.1
  | [], _, .nil => ⟨[], rfl, rfl, fun _ h => nomatch h⟩
  | p :: ps, v :: its, .cons r t => by
    obtain ⟨ts, e1, e2, e3⟩ := zip3 ps its t
    refine ⟨(v, p.1, p.2) :: ts, by unfold itO at *; rw [List.map_cons, e1], by rw [List.map_cons, e2], fun x hx => ?_⟩
    rcases List.mem_cons.mp hx with rfl | hx
    · exact r
    · exact e3 x hx
theorem vs_of {ts : List (T3 E)} {ps : List (V × E)} (h : ts.map (fun x => x.2) = ps) : vsO ts = ps.map (·.1) := by
  unfold vsO
  rw [← h, List.map_map]
  rfl
theorem g_of {ts : List (T3 E)} {ps : List (V × E)} (h : ts.map (fun x => x.2) = ps) (v : Value) (d : E) : gO (v, .non, d) ts = gE ps d := by
  funext i
  unfold gO gE
  rw [← h, List.getD_eq_getElem?_getD, List.getD_eq_getElem?_getD, List.getElem?_map]
  cases ts[i]? <;> rfl
theorem HpL.state {O : Ordr E} {H : Hp} {ps : List (V × E)} (I : Inv X pins σ H s) (h : HpL X.K O H a ps) : ∃ ts : List (T3 E), ts.map (fun x => x.2) = ps ∧ QSt O X pins σ H a s ts := by
  obtain ⟨z, its, n, r, hl, e⟩ := I.lstM h.at'
  obtain ⟨ts, e1, e2, e3⟩ := zip3 ps its r
  have eu : upd H a (.lst (vsO ts)) = H := by
    funext b
    by_cases c : b = a
    · subst c; rw [upd_same, vs_of e2, h.at']
    · rw [upd_ne c]
  refine ⟨ts, e2, by rw [eu]; exact I, ⟨n, by rw [e1]; exact e⟩, fun x hx => ⟨e3 x hx, ?_⟩⟩
  rw [eu]
  exact h.it x.2 (by rw [← e2]; exact List.mem_map_of_mem hx)
theorem QSt.hpl {O : Ordr E} {H0 : Hp} {ts : List (T3 E)} (q : QSt O X pins σ H0 a s ts) (ok : ∀ d, Ok O (gO d ts) ts.length) : HpL X.K O (upd H0 a (.lst (vsO ts))) a (ts.map fun x => x.2) := by
  refine ⟨by rw [upd_same, vs_of rfl], fun p hp => ?_, fun d => ?_⟩
  · obtain ⟨x, hx, rfl⟩ := List.mem_map.mp hp
    exact (q.it x hx).2
  · rw [← g_of rfl .none d, List.length_map]
    exact ok _
theorem ok_any {O : Ordr E} {ts : List (T3 E)} {d : T3 E} (h : Ok O (gO d ts) ts.length) (d' : T3 E) : Ok O (gO d' ts) ts.length := fun i h0 hn => by
  have e : ∀ k, k < ts.length → gO d' ts k = gO d ts k := fun k hk => by
    unfold gO
    rw [List.getD_eq_getElem?_getD, List.getD_eq_getElem?_getD, List.getElem?_eq_getElem hk]
    rfl
  have := par_lt h0
  rw [e i hn, e _ (by omega)]
  exact h i h0 hn
end
/-- an item is put in -/
def rPush (K : PySem.W.Frag) (O : Ordr E) : List V → Hp → VK → Prop := fun vs H Q => ∃ l v ps e, vs = [.ref l, v] ∧ HpL K O H l ps ∧ DI K O H v e ∧ ps.length < sizeLine ∧
  ∀ ps', ps'.length = ps.length + 1 → (∀ z, z ∈ ps' ↔ z ∈ ps ∨ z = (v, e)) → HpL K O (upd H l (.lst (ps'.map (·.1)))) l ps' → Q .non (upd H l (.lst (ps'.map (·.1))))
theorem cr_push {X : Cx} (O : Ordr E) (hu : X.A.units + 8 < cLine) : CallR X (.builtin "_heapq.heappush") (rPush X.K O) := by
  intro pins s σ H vs us Q I r h
  obtain ⟨l, v, ps, e, rfl, hp, hd, hz, k⟩ := h
  obtain ⟨u1, u, rfl, r1, ru⟩ := r.two
  cases r1
  obtain ⟨ts, e2, q⟩ := hp.state I
  obtain ⟨n, hl⟩ := q.hp
  have el : ts.length = ps.length := by rw [← e2, List.length_map]
  refine call_function_tree kind_push plain_push entry_push (args_push _ _) ?_
  show wpAny _ _ (twoQ "heappush" ⟨[.ref l, u], []⟩ >>= fun t => updateSeq t.2.1 (·.push t.2.2) >>= fun _ => itemsQ t.2.1 >>= fun xs => again (.builtin "_heapq.heapify.sift" ⟨[t.1, .bool false, .bool false, rawInt ((xs.size - 1 : Nat) : Int), rawInt ((0 : Nat) : Int), .none, rawInt (-1)], []⟩)) _ _ s
  refine wpAny_bind (wp_two hl (wpAny_bind (wpAny_updateSeq hl rfl ?_ (by unfold itO; simp; omega) (by unfold itO; simp; omega))))
  have q2 : QSt O X pins σ H l { s with heap := s.heap.update l (Obj.mapSeq (·.push u)) } (ts ++ [(u, v, e)]) := by
    refine q.put (t' := s.toks) ?_ (by rw [List.length_append]; simp; omega) fun x hx => ?_
    · unfold itO; simp
    · rcases List.mem_append.mp hx with hx | hx
      · exact q.it x hx
      · rw [List.mem_singleton.mp hx]
        refine ⟨ru, hd.to fun t xs ht => ?_⟩
        by_cases c : t = l
        · subst c; rw [hp.at'] at ht; cases ht
        · rw [upd_ne c]; exact ht
  obtain ⟨n2, hl2⟩ := q2.hp
  refine wpAny_bind (wp_items hl2 ?_)
  refine wpAny_pure ⟨plainId_quiet plain_sift _, ?_⟩
  have es : (itO (ts ++ [(u, v, e)])).toArray.size - 1 = ts.length := by unfold itO; simp
  show codeAny _ _ (.builtin "_heapq.heapify.sift" (siftArgs l false _ .none)) _ _
  rw [es]
  refine up_all (d := (.none, .non, e)) hu (O := O) (H0 := H) ts.length ts.length (ts ++ [(u, v, e)]) _ (Nat.le_refl _) (by simp) q2 ?_ fun ts' s' e3 e4 q3 ok => ?_
  · have := (hp.ok e).push O (g' := gO (.none, .non, e) (ts ++ [(u, v, e)])) fun i hi => by
      rw [g_of rfl, ← g_of e2 .none, g_of rfl]
      unfold gE
      rw [List.getD_eq_getElem?_getD, List.getD_eq_getElem?_getD, List.getElem?_map, List.getElem?_map, List.getElem?_append_left (by omega)]
    rw [← el] at this
    simpa using this
  · have hh := q3.hpl fun d' => ok_any ok d'
    rw [vs_of rfl] at hh
    refine ⟨.non, _, q3.inv, rfl, ?_⟩
    rw [vs_of rfl]
    refine k (ts'.map fun x => x.2) (by rw [List.length_map, e3, List.length_append, el]; rfl) (fun z => ?_) hh
    rw [← e2, List.mem_map, List.mem_map]
    constructor
    · rintro ⟨x, hx, rfl⟩
      rcases List.mem_append.mp ((e4 x).mp hx) with hx | hx
      · exact .inl ⟨x, hx, rfl⟩
      · rw [List.mem_singleton.mp hx]; exact .inr rfl
    · rintro (⟨x, hx, rfl⟩ | rfl)
      · exact ⟨x, (e4 x).mpr (List.mem_append_left _ hx), rfl⟩
      · exact ⟨(u, v, e), (e4 _).mpr (List.mem_append_right _ (List.mem_singleton.mpr rfl)), rfl⟩
/-- the least item is taken -/
def rPopQ (K : PySem.W.Frag) (O : Ordr E) : List V → Hp → VK → Prop := fun vs H Q => ∃ l ps, vs = [.ref l] ∧ HpL K O H l ps ∧ ps ≠ [] ∧
  ∀ v e ps', (v, e) ∈ ps → (∀ p ∈ ps, le O e p.2) → ps'.length + 1 = ps.length → (∀ z ∈ ps, z ∈ ps' ∨ z = (v, e)) → (∀ z ∈ ps', z ∈ ps) → HpL K O (upd H l (.lst (ps'.map (·.1)))) l ps' → Q v (upd H l (.lst (ps'.map (·.1))))
theorem least_of {O : Ordr E} {ps : List (V × E)} {p : V × E} {r : List (V × E)} (hp : ps = p :: r) (ok : Ok O (gE ps p.2) ps.length) : ∀ q ∈ ps, le O p.2 q.2 := fun q hq => by
  obtain ⟨i, hi⟩ := List.mem_iff_getElem?.mp hq
  have hl := (List.getElem?_eq_some_iff.mp hi).1
  have := Ok.least O ok i i (Nat.le_refl _) hl
  unfold gE at this
  rw [List.getD_eq_getElem?_getD, List.getD_eq_getElem?_getD, hi, hp] at this
  exact this
theorem back_of (a : List Value) (x : Value) : (a ++ [x]).toArray.back? = some x := by simp
theorem pop_of (a : List Value) (x : Value) : (a ++ [x]).toArray.pop = a.toArray := by simp
theorem cr_pop {X : Cx} (O : Ordr E) (hu : X.A.units + 8 < cLine) : CallR X (.builtin "_heapq.heappop") (rPopQ X.K O) := by
  intro pins s σ H vs us Q I r h
  obtain ⟨l, ps, rfl, hp, hne, k⟩ := h
  rw [Vals.ref1 r]
  obtain ⟨ts, e2, q⟩ := hp.state I
  obtain ⟨n, hl⟩ := q.hp
  have el : ts.length = ps.length := by rw [← e2, List.length_map]
  have hz := q.size
  refine call_function_tree kind_pop plain_pop entry_pop (args_pop _) ?_
  show wpAny _ _ (oneQ "heappop" ⟨[.ref l], []⟩ >>= _) _ _ s
  refine wpAny_bind (wp_one hl ?_)
  show wpAny _ _ (itemsQ l >>= _) _ _ s
  refine wpAny_bind (wp_items hl ?_)
  obtain ⟨x0, rest, rfl⟩ : ∃ x r, ts = x :: r := by
    cases ts with
    | nil => exact absurd (by rw [← e2]; rfl) hne
    | cons x r => exact ⟨x, r, rfl⟩
  have hps : ps = x0.2 :: rest.map (fun x => x.2) := by rw [← e2]; rfl
  have least := least_of hps (hp.ok _)
  rcases List.eq_nil_or_concat rest with rfl | ⟨mid, xl, he⟩
  · -- the only one
    show wpAny _ _ (updateSeq l (·.pop) >>= _) _ _ s
    refine wpAny_bind (wpAny_updateSeq hl rfl ?_ (by unfold itO; simp; exact hz) (by unfold itO; simp))
    have q2 : QSt O X pins σ H l { s with heap := s.heap.update l (Obj.mapSeq (·.pop)) } [] := q.put (t' := s.toks) (by unfold itO; rfl) (Nat.zero_le _) fun x hx => nomatch hx
    refine wpAny_pure ?_
    have hh := q2.hpl fun d' => fun i h0 hn => absurd hn (Nat.not_lt_zero _)
    refine ⟨x0.2.1, _, q2.inv, (q.it x0 List.mem_cons_self).1, ?_⟩
    exact k x0.2.1 x0.2.2 [] (by rw [hps]; exact List.mem_cons_self) least (by rw [hps]; rfl) (fun z hz => .inr (by rw [hps] at hz; exact List.mem_singleton.mp hz)) (fun z hz => nomatch hz) hh
  · rw [List.concat_eq_append] at he
    subst he
    have eI : itO (x0 :: (mid ++ [xl])) = itO (x0 :: mid) ++ [xl.1] := by unfold itO; simp
    have eb : (itO (x0 :: (mid ++ [xl]))).toArray.back? = some xl.1 := by rw [eI]; exact back_of _ _
    have es : ((itO (x0 :: (mid ++ [xl]))).toArray.size == 1) = false := by unfold itO; simp
    have e0 : (itO (x0 :: (mid ++ [xl]))).toArray[0]? = some x0.1 := by unfold itO; simp
    rw [eb]
    show wpAny _ _ (updateSeq l (·.pop) >>= _) _ _ s
    refine wpAny_bind (wpAny_updateSeq hl rfl ?_ (by unfold itO; simp at hz ⊢; omega) (by unfold itO; simp at hz ⊢; omega))
    have q2 : QSt O X pins σ H l { s with heap := s.heap.update l (Obj.mapSeq (·.pop)) } (x0 :: mid) := q.put (t' := s.toks) (by rw [eI]; exact pop_of _ _) (by simp at hz ⊢; omega) fun x hx => q.it x (by
      rcases List.mem_cons.mp hx with rfl | hx
      · exact List.mem_cons_self
      · exact List.mem_cons_of_mem _ (List.mem_append_left _ hx))
    rw [es, if_neg Bool.false_ne_true]
    show wpAny _ _ (atQ (itO (x0 :: (mid ++ [xl]))).toArray 0 >>= fun first => updateSeq l (·.setIfInBounds 0 xl.1) >>= fun _ => again (.builtin "_heapq.heapify.sift" (siftArgs l true 0 first))) _ _ _
    refine wpAny_bind (wp_at e0 ?_)
    obtain ⟨n2, hl2⟩ := q2.hp
    refine wpAny_bind (wpAny_updateSeq hl2 rfl ?_ (by unfold itO; simp at hz ⊢; omega) (by unfold itO; simp at hz ⊢; omega))
    have q3 := q2.put (t' := s.toks) (f := (·.setIfInBounds 0 xl.1)) (ts' := xl :: mid) (by unfold itO; simp) (by simp at hz ⊢; omega) fun x hx => by
      rcases List.mem_cons.mp hx with rfl | hx
      · exact ⟨(q.it x (by simp)).1, (q.it x (by simp)).2.to tup_lst⟩
      · exact q2.it x (List.mem_cons_of_mem _ hx)
    refine wpAny_pure ⟨plainId_quiet plain_sift _, ?_⟩
    show codeAny _ _ (.builtin "_heapq.heapify.sift" (siftArgs l true 0 x0.1)) _ _
    refine down_all (d := (.none, .non, x0.2.2)) hu (O := O) (H0 := H) _ 0 (xl :: mid) _ (Nat.le_refl _) (by simp) q3 ?_ fun ts' s' e3 e4 q4 ok => ?_
    · refine Ok.pop O (g := gE ps x0.2.2) (by have := hp.ok x0.2.2; rw [← el] at this; simpa using this) fun i h0 hi => ?_
      rw [g_of rfl, hps]
      unfold gE
      rw [List.getD_eq_getElem?_getD, List.getD_eq_getElem?_getD]
      obtain ⟨j, rfl⟩ : ∃ j, i = j + 1 := ⟨i - 1, by omega⟩
      rw [List.map_cons, List.map_append, List.getElem?_cons_succ, List.getElem?_cons_succ, List.getElem?_append_left (by simp at hi ⊢; omega)]
    · have hh := q4.hpl fun d' => ok_any ok d'
      rw [vs_of rfl] at hh
      refine ⟨x0.2.1, _, q4.inv, (q.it x0 List.mem_cons_self).1, ?_⟩
      rw [vs_of rfl]
      refine k x0.2.1 x0.2.2 (ts'.map fun x => x.2) (by rw [hps]; exact List.mem_cons_self) least (by rw [List.length_map, e3, hps]; simp) (fun z hz => ?_) (fun z hz => ?_) hh
      · rw [hps] at hz
        rcases List.mem_cons.mp hz with rfl | hz
        · exact .inr rfl
        · obtain ⟨x, hx, rfl⟩ := List.mem_map.mp hz
          refine .inl (List.mem_map.mpr ⟨x, (e4 x).mpr ?_, rfl⟩)
          rcases List.mem_append.mp hx with hx | hx
          · exact List.mem_cons_of_mem _ hx
          · rw [List.mem_singleton.mp hx]; exact List.mem_cons_self
      · obtain ⟨x, hx, rfl⟩ := List.mem_map.mp hz
        rw [hps]
        refine List.mem_cons_of_mem _ (List.mem_map.mpr ⟨x, ?_, rfl⟩)
        rcases List.mem_cons.mp ((e4 x).mp hx) with rfl | hx
        · exact List.mem_append_right _ List.mem_cons_self
        · exact List.mem_append_left _ hx
end HQ

set_option Elab.async false
set_option linter.all false
set_option maxRecDepth 100000
set_option maxHeartbeats 4000000
/-! enumerate of a tuple -/
namespace PySem
open Sem (wp)
open PySem.Spec PyProof.Rows
theorem meets_enumerate_newB1 {v : Value} {o : Obj} {H : Heap → Prop} (B : Begins v o H) :
    Meets (Builtin.«enumerate.__new__» ⟨[.type "enumerate", v], []⟩) (fun _ R s => H s.heap ∧
      R (.ok (.ret (.ref (s.heap.push o).objs.size))) { s with heap := (s.heap.push o).push { cls := .type "enumerate", data := .fields #[.none, .bool false, .ref s.heap.objs.size, rawInt 0, .none, .none] } }) :=
  .of_wp fun prog w A R s h => by
    obtain ⟨hp, g, d, tk, os⟩ := s; obtain ⟨h1, h⟩ := h
    have hsub := sub_enumerate
    have q1 : ∀ {A' : Around} {E : Value → Shared → Prop} {Q : Value → Shared → Prop}, Q (.ref hp.objs.size) ⟨hp.push o, g, d, tk, os⟩ → wpAny (model prog w) A' (pyIter v) Q E ⟨hp, g, d, tk, os⟩ :=
      fun q => B.iter prog w _ _ ⟨hp, g, d, tk, os⟩ _ h1 q
    wp_walk using q1
    refine wpAny_stack_any fun st => wpAny_pure ?_
    split
    · rename_i c _ _ _ _ _
      cases (c == Value.type "enumerate")
      · wp_walk using q1
        exact ⟨_, rfl, h⟩
      · wp_walk using q1
        exact ⟨_, rfl, h⟩
    · wp_walk using q1
      exact ⟨_, rfl, h⟩
section
variable {prog : Program} {w : World} {A : Around} {E : Value → Shared → Prop} {s : Shared}
theorem enum_begins1 {v : Value} {o : Obj} {H : Heap → Prop} {Q : Value → Shared → Prop} (B : Begins v o H) (h1 : H s.heap)
    (h : ∀ h', IsEnum h' (s.heap.objs.size + 1) s.heap.objs.size 0 .none → h'.get? s.heap.objs.size = some o → h'.objs.size = s.heap.objs.size + 2 →
      (∀ b o, s.heap.get? b = some o → h'.get? b = some o) → Q (.ref (s.heap.objs.size + 1)) { s with heap := h' }) :
    wpAny (model prog w) A (call (.type "enumerate") [v]) Q E s := by
  refine callType_new F.called_enumerate (by decide) (F.typeCall_enumerate_1 _) (F.newCall_enumerate_1 _) (fun obj => F.args_object_init_2 obj _) F.entry_enumerate_new
    (meets_enumerate_newB1 B) ⟨h1, ?_⟩
  have hz : (s.heap.push o).objs.size = s.heap.objs.size + 1 := Heap.size_push ..
  show _ ∧ _
  rw [hz]
  have he : IsEnum ((s.heap.push o).push { cls := .type "enumerate", data := .fields #[.none, .bool false, .ref s.heap.objs.size, rawInt 0, .none, .none] }) (s.heap.objs.size + 1) s.heap.objs.size 0 .none := by
    have := Heap.get?_push_size (s.heap.push o) (o := { cls := .type "enumerate", data := .fields #[.none, .bool false, .ref s.heap.objs.size, rawInt 0, .none, .none] }) rfl
    rw [hz] at this; exact this
  refine ⟨⟨_, he, rfl⟩, h _ he (Heap.get?_push_of_some _ (Heap.get?_push_size _ B.free)) (by rw [Heap.size_push, hz]) fun b o x => Heap.get?_push_of_some _ (Heap.get?_push_of_some _ x)⟩
end
end PySem
namespace L2
open PySem PySem.Spec PyProof.Rows
/-- the tuple at a, each item in a new pair -/
def IteT (K : PySem.W.Frag) (a : Addr) : It :=
  ⟨fun i H => ∃ (xs : List V) (x : V), SqT K H a xs ∧ xs[i]? = some x, fun i H v H' => ∃ T x, v = .ref T ∧ H T = none ∧ H' = upd H T (.tup [.int (i : Nat), x]) ∧ ∀ xs, SqT K H a xs → xs[i]? = some x, fun i H => ∃ xs : List V, SqT K H a xs ∧ xs.length = i⟩
theorem turn_enumT {P : Program} {w : World} {K : PySem.W.Frag} {elts : List Expr} {kk : Nat} {tpos : Pos} (a e it : Addr) (hn : e ≠ it) (hae : a ≠ e) (hai : a ≠ it) :
    Turn P w K (.Tuple elts kk tpos) (IteT K a) [e, it] e (fun i h => (∃ old, IsEnum h e it ((i : Nat) : Int) old) ∧ h.IsTupleIter it a i) where
  mem := by simp
  obj := fun i h st b hb => by
    obtain ⟨⟨old, he⟩, ⟨o, ho, hc, hd⟩⟩ := st
    have e' : b = e ∨ b = it := by simpa using hb
    rcases e' with z | z
    · rw [z]; exact ⟨_, he, fun v q => nomatch q⟩
    · rw [z]; exact ⟨o, ho, fun v q => by rw [hd] at q; cases q⟩
  keep := fun i h h' st k => by
    obtain ⟨⟨old, he⟩, ⟨o, ho, r⟩⟩ := st
    exact ⟨⟨old, k e (by simp) _ he⟩, ⟨o, k it (by simp) _ ho, r⟩⟩
  item := by
    intro X hP hw hK hc i pins s σ H E I hf st hg
    subst hP hw hK
    obtain ⟨⟨old, he⟩, hit⟩ := st
    obtain ⟨xs, x, hq, hx⟩ := hg
    obtain ⟨its, rv, p, hz⟩ := I.tuple hq
    obtain ⟨u, hu, ru⟩ := rv.get hx
    have hel : e < s.heap.objs.size := Heap.lt_size he
    have hil : it < s.heap.objs.size := by obtain ⟨_, q, _⟩ := hit; exact Heap.lt_size q
    have hlt : i < its.toArray.size := by
      have q := (List.getElem?_eq_some_iff.mp hu).1
      simpa using q
    refine wpAny_pyNext_enum_itemD (Draws.tuple (A := X.A.in1) (I.ok.hd hc) it a hai its.toArray) he ⟨hit, p⟩ hlt hn (by simp [hn]; exact fun z => hae z.symm) fun y h' tk hy ho hst hT hsz hk => ?_
    have hyu : y = u := by
      have q : its.toArray[i]? = some y := hy
      have q2 : its.toArray[i]? = some u := by simpa using hu
      rw [q] at q2
      exact Option.some.inj q2
    subst hyu
    refine ⟨_, rfl, wpAny_letOwnedTupleGo_enum (s := { s with heap := h', toks := tk + 1 }) ho fun h'' he' sb => ?_⟩
    have hT2 : h''.get? s.heap.objs.size = some { cls := .type "tuple", data := .seq #[.int i tk, y] } := (sb.2 _ (Nat.ne_of_gt hel)).trans hT
    have new : ObjOk X.prog X.w (upd H s.heap.objs.size (.tup [.int (i : Nat), x])) h'' s.heap.objs.size (.tup [.int (i : Nat), x]) :=
      ⟨by show 2 ≤ sizeLine; decide, [.int i tk, y], .cons ⟨_, rfl⟩ (.cons ru .nil), ⟨_, hT2, rfl, _, rfl⟩⟩
    have I1 : Inv X pins σ (upd H s.heap.objs.size (.tup [.int (i : Nat), x])) { s with heap := h'', toks := tk + 1 } :=
      I.turnedNew (ch := [e, it]) (fun b ob hb q => (sb.2 b (fun z => hb (by simp [z]))).trans (hk b ob (fun z => hb (by simp [z])) (fun z => hb (by simp [z])) q)) hf (Nat.le_refl _) new
    obtain ⟨oi, hoi, ri⟩ := hst.1
    refine ⟨.ref s.heap.objs.size, _, I1, rfl, ⟨_, x, rfl, I.hok.fresh (Nat.le_refl _), rfl, fun ys hy => by rw [I.tuple_inj hy hq]; exact hx⟩, ⟨⟨y, ?_⟩, ⟨oi, (sb.2 it (Ne.symm hn)).trans hoi, ri⟩⟩, fun b hb => ?_⟩
    · have e1 : ((i + 1 : Nat) : Int) = (i : Int) + 1 := by omega
      rw [e1]; exact he'
    · have hb' : b < s.heap.objs.size := by
        have e' : b = e ∨ b = it := by simpa using hb
        rcases e' with z | z
        · rw [z]; exact hel
        · rw [z]; exact hil
      rw [upd_ne (Nat.ne_of_lt hb')]
      exact (hf b hb).1
  done := by
    intro X hP hw hK hc i pins s σ H E I hf st hg
    subst hP hw hK
    obtain ⟨⟨old, he⟩, hit⟩ := st
    obtain ⟨xs, hq, hx⟩ := hg
    obtain ⟨its, rv, p, hz⟩ := I.tuple hq
    obtain ⟨f0, f1, f2, f3, f4, f5⟩ := hf it (by simp)
    have hl := rv.length
    have hn' : i = its.toArray.size := by simp; omega
    subst hn'
    exact wpAny_pyNext_enum_endD (Draws.tuple (A := X.A.in1) (I.ok.hd hc) it a hai its.toArray) he ⟨hit, p⟩ fun h' eb => ⟨rfl, I.turned (t' := s.toks) (fun b o hb q => eb b o hb q) f0 f1 f3 f4 f5⟩
  self := fun A i s Q E st h => let ⟨⟨_, he⟩, _⟩ := st; wpAny_pyIter_enum he h
def iEnumT (K : PySem.W.Frag) (ta : TA) : TI := fun σ H R => ta σ H fun vs H1 => ∃ a xs, vs = [.ref a] ∧ SqT K H1 a xs ∧ R (IteT K a) H1
theorem pi_enumT {X : Cx} {e : Expr} {ta : TA} {p pos tpos : Pos} {elts : List Expr} {kk : Nat} (hg : Gl X "enumerate") (hm : X.mg "enumerate" = none) (ha : PA X [e] ta) (hs : starEach [e] X.env = [(false, eval e X.env)] := by rfl) :
    PI X (.Tuple elts kk tpos) (.Call (.Name "enumerate" p) [e] [] pos) (iEnumT X.K ta) := by
  refine ⟨fun pins s σ H R I h => ?_⟩
  refine Call_ (ld_blt I hg hm boot_enumerate (PyProof.Rows.callWith_type1 (thn (ha.run pos pins s σ H _ I h) fun us s1 ⟨vs, H1, I1, r1, q1⟩ => ?_) hs rfl))
  obtain ⟨a, xs, ex, hq, q⟩ := q1
  subst ex
  cases r1 with
  | cons r rr =>
    cases rr
    cases r
    obtain ⟨its, rv, p', hz⟩ := I1.tuple hq
    have hal : a < s1.heap.objs.size := by obtain ⟨_, q, _⟩ := p'; exact Heap.lt_size q
    refine enum_begins1 (begins_tuple a its.toArray) (show s1.heap.IsTuple a its.toArray from p') fun h' he hit hsz hk => wpAny_pyIter_enum he ?_
    have I2 : Inv X pins σ H1 { s1 with heap := h' } := I1.kept (t' := s1.toks) hk
    refine ⟨s1.heap.objs.size + 1, [s1.heap.objs.size + 1, s1.heap.objs.size], _, _, H1, rfl, I2, turn_enumT a (s1.heap.objs.size + 1) s1.heap.objs.size (Nat.succ_ne_self _) (Nat.ne_of_lt (Nat.lt_succ_of_lt hal)) (Nat.ne_of_lt hal), ⟨⟨.none, he⟩, ⟨_, hit, rfl, rfl⟩⟩, fun b hb => ?_, q⟩
    have e' : b = s1.heap.objs.size + 1 ∨ b = s1.heap.objs.size := by simpa using hb
    have hle : s1.heap.objs.size ≤ b := by
      rcases e' with z | z
      · rw [z]; exact Nat.le_add_right _ _
      · rw [z]; exact Nat.le_refl _
    exact I1.fpOk hle (I1.hok.fresh hle)
theorem walk_enumT {K : PySem.W.Frag} {a : Addr} {xs : List V} : Walk (IteT K a) xs.length (fun H => SqT K H a xs) (YPair (fun i => some (.int (i : Nat))) (fun i => xs[i]?)) :=
by
  refine ⟨fun i _ hi q => ⟨xs, xs[i], q, by simp [hi]⟩, fun _ q => ⟨xs, q, rfl⟩, fun i H v H' _ q y => ?_⟩
  obtain ⟨T, x, h1, h2, h3, h4⟩ := y
  exact ⟨T, .int (i : Nat), x, h1, h2, h3, rfl, h4 xs q⟩
end L2

set_option Elab.async false
set_option linter.all false
set_option maxRecDepth 100000
set_option maxHeartbeats 4000000
/-! own exceptions without arguments: raised, and as values -/
namespace L2
open PySem PySem.Spec PyProof.Rows
section
variable {X : Cx} {C : Addr} {bmB : List Value} {B newId initId : String}
theorem pmk_own0 {x : Str} {p pos : Pos} (F : ExcBaseFacts B newId initId bmB) (q : PySem.W.excIn X.K C bmB newId = true) (gC : X.mg x = some (.ref C)) (kC : PySem.W.keepIn X.K (.ref C) = true) (r : Raises X (.ref C)) (hg : Gl X x)
    (hdb : (x == ("__debug__" : Str)) = false := by decide) : PMk X (.Call (.Name x p) [] [] pos) (fun _ H Q => Q (.ref C) none H) := by
  intro pins s σ H Q I h
  refine wpAny_Call_Name_kw (ld_glob I hg gC ?_ hdb)
  refine PySem.W.callWith_K0 I.kIn kC ?_
  obtain ⟨bm, N, nm, qn, bs, hdct, sn, sub, ab, col, dd, k0, k1, k2, k3, k5, mN, hC, hN, hni, T⟩ := exc_obj I.kIn q
  refine wpAny_call_exc_subT F T hC hN hni (fun h' e hm => ?_) (by show 0 ≤ sizeLine; exact Nat.zero_le _)
  exact mk_of I hm r h (I.hok.gone hm.new)
/-- X(), as a value -/
theorem pe_exc0 {x : Str} {p pos : Pos} (F : ExcBaseFacts B newId initId bmB) (q : PySem.W.excIn X.K C bmB newId = true) (gC : X.mg x = some (.ref C)) (kC : PySem.W.keepIn X.K (.ref C) = true) (hg : Gl X x)
    (hdb : (x == ("__debug__" : Str)) = false := by decide) : PE X (.Call (.Name x p) [] [] pos) (fun σ H Q => ∀ a, H a = none → Q (.ref a) (upd H a (ExO (.ref C) a))) := by
  refine ⟨fun pins s σ H Q I h => ?_⟩
  refine wpAny_Call_Name_kw (ld_glob I hg gC ?_ hdb)
  refine PySem.W.callWith_K0 I.kIn kC ?_
  obtain ⟨bm, N, nm, qn, bs, hdct, sn, sub, ab, col, dd, k0, k1, k2, k3, k5, mN, hC, hN, hni, T⟩ := exc_obj I.kIn q
  refine wpAny_call_exc_subT F T hC hN hni (fun h' a hm => ?_) (by show 0 ≤ sizeLine; exact Nat.zero_le _)
  have hn : H a = none := I.hok.gone hm.new
  obtain ⟨t, ht, _, _⟩ := hm.there
  exact ⟨.ref a, upd H a (ExO (.ref C) a), I.laidN hm.keeps hm.new hn (exO_ok ht ⟨rfl, rfl⟩ rfl rfl rfl (show 4 < 6 by decide)), rfl, h a hn⟩
end
end L2

set_option Elab.async false
set_option linter.all false
set_option maxRecDepth 100000
set_option maxHeartbeats 4000000
/-! own exceptions with an __init__ of their own that stores its arguments, over Exception: the stores -/
namespace PySem
namespace ExX
open Builtin Builtin.ObjectAttr PySem.W PySem.Calls PyProof.Rows PySem.HandSPX
abbrev exTail : List Value := [.type "Exception", .type "BaseException", .type "object"]
/-- own classes, then Exception's mro -/
def refsEX : List Value → Bool
  | .ref _ :: r => refsEX r
  | l => l == exTail
theorem refsEX_cases : ∀ l : List Value, refsEX l = true → (∃ c r, l = .ref c :: r ∧ refsEX r = true) ∨ l = exTail := by
  intro l e
  unfold refsEX at e
  split at e
  · exact .inl ⟨_, _, rfl, e⟩
  · exact .inr (beq_iff_eq.mp e)
theorem refsEX_pass (self : Value) : ∀ l : List Value, refsEX l = true → refuseLoop self "__setattr__" l = pure () := by
  intro l
  induction l with
  | nil => intro e; exact absurd e (by decide)
  | cons a r ih =>
    intro e
    rcases refsEX_cases (a :: r) e with ⟨c, r', q, h⟩ | q
    · obtain ⟨rfl, rfl⟩ := List.cons.inj q
      rw [refuseLoop_ref]; exact ih h
    · rw [q]; exact F.store_Exception.passes self
theorem refsEX_contains (X : String) : ∀ l : List Value, refsEX l = true → l.contains (.type X) = exTail.contains (.type X) := by
  intro l
  induction l with
  | nil => intro e; exact absurd e (by decide)
  | cons a r ih =>
    intro e
    rcases refsEX_cases (a :: r) e with ⟨c, r', q, h⟩ | q
    · obtain ⟨rfl, rfl⟩ := List.cons.inj q
      rw [List.contains_cons, ih h]; rfl
    · rw [q]
theorem refsEX_ne {l : List Value} (e : refsEX l = true) : l.isEmpty = false := by
  cases l with
  | nil => exact absurd e (by decide)
  | cons _ _ => rfl
section
variable {prog : Program} {w : World} {A : Around} {E : Value → Shared → Prop} {R : Result → Shared → Prop} {hp : Heap} {g : Array GenState} {d : Drawn} {t : Nat} {os : OsState}
theorem osa_new {K : W.Frag} {name : Str} {tk : Tok} {v : Value} {x C : Addr} {fv : Array Value} {cd : ClassData}
    (X : K.In hp) (hx : hp.get? x = some { cls := .ref C, data := .fields fv }) (hcd : W.clsIn K C = some cd) (hm : refsEX cd.mro = true) (hh : cd.hasDict = true) (ha : W.findIn K (.ref C) name = some none)
    (hq : ∀ h' tk' dx, (∀ b o, b ≠ x → hp.get? b = some o → h'.get? b = some o) → hp.objs.size ≤ dx → dx ≠ x → h'.get? x = some { cls := .ref C, dict := some dx, data := .fields fv } →
      h'.Ns1 dx (fun y => if y = name then some v else none) → R (.ok (.ret .none)) ⟨h', g, d, tk', os⟩) :
    codeAny (model prog w) A (.call (.builtin "object.__setattr__") ⟨[.ref x, .str name tk, v], []⟩) R ⟨hp, g, d, t, os⟩ := by
  have I : W.InstAt hp x { cls := .ref C, data := .fields fv } C none := ⟨hx, rfl, rfl, trivial⟩
  have SF := F.store_object
  have ne := refsEX_ne hm
  have hob : cd.mro.contains (.type "object") = true := (refsEX_contains "object" _ hm).trans (by decide +kernel)
  have hxs : x ≠ hp.objs.size := Nat.ne_of_lt (Heap.lt_size hx)
  have sub : W.Looks (model prog w) hp (isInstance (.ref x) (.type "object")) true := I.type.andThen (W.looks_mroIn X (by unfold W.mroIn; rw [hcd, Option.bind_some, if_neg (by rw [ne]; decide), hob]))
  refine codeAny_call_builtin SF.slot.plain SF.entry (@W.check_slot (model prog w) _ _ ⟨hp, g, d, t, os⟩ "object.__setattr__" "object" "__setattr__" (.ref x) [.str name tk, v] [] _ SF.kind SF.split sub (SF.args (.ref x) (.str name tk) v) ?_)
  have hmr : W.Looks (model prog w) hp (mroOf (.ref C)) cd.mro := (W.looks_clsIn X hcd).andThen .now
  have L3 : W.Looks (model prog w) hp (storeTaker? none) none := .now
  have hcls : W.Looks (model prog w) hp (classData C) cd := W.looks_clsIn X hcd
  rw [W.osa_eq, refuse_eq]
  refine wpAny_bind (wpAny_bind (I.type.at (wpAny_bind (hmr.at ?_))))
  rw [refsEX_pass _ _ hm]
  refine wpAny_pure (wpAny_bind (I.type.at (wpAny_bind ((W.looks_findIn X ha).at (wpAny_bind (L3.at ?_))))))
  show wpAny _ _ (storeInOwnDict (.ref x) (.ref C) (.str name tk) name v false) _ _ _
  obtain ⟨nm, bs, mro, ns, qn, hd, sn, sb, ab, col, del⟩ := cd
  dsimp only at hh
  subst hh
  unfold storeInOwnDict ownDictForStores
  repeat (first | with_reducible refine store_in_new ?_ ?_ | with_reducible refine wpAny_loadPart_at hx ?_ | with_reducible refine hcls.at ?_ | wp_step)
  · exact ⟨_, #[], _, (Heap.get?_update_ne _ _ _ _ hxs.symm).trans (Heap.get?_push_at rfl rfl), rfl, fun e he => absurd he (by simp), fun _ => rfl⟩
  · intro h' tk' hn' hs
    have hx₁ : (hp.push { cls := .type "dict", data := .dict #[] }).get? x = some { cls := .ref C, data := .fields fv } := Heap.get?_push_of_some _ hx
    refine hq h' tk' hp.objs.size (fun b o hb ho => ?_) (Nat.le_refl _) hxs.symm ?_ hn'
    · exact (hs.2 b (Nat.ne_of_lt (Heap.lt_size ho))).trans ((Heap.get?_update_ne _ _ _ _ hb).trans (Heap.get?_push_of_some _ ho))
    · exact (hs.2 x hxs).trans (Heap.get?_update_self _ hx₁ rfl)
theorem osa_old {K : W.Frag} {name : Str} {tk : Tok} {v : Value} {x C dx : Addr} {fv : Array Value} {cd : ClassData} {m0 : Str → Option Value} {nl : List Str}
    (X : K.In hp) (hx : hp.get? x = some { cls := .ref C, dict := some dx, data := .fields fv }) (hns : hp.Ns1 dx m0) (hw : Within m0 nl) (hz : nl.length ≤ 1000) (hcd : W.clsIn K C = some cd) (hm : refsEX cd.mro = true) (hh : cd.hasDict = true)
    (ha : W.findIn K (.ref C) name = some none)
    (hq : ∀ h' tk', (∀ b o, b ≠ dx → hp.get? b = some o → h'.get? b = some o) → h'.Ns1 dx (fun y => if y = name then some v else m0 y) → R (.ok (.ret .none)) ⟨h', g, d, tk', os⟩) :
    codeAny (model prog w) A (.call (.builtin "object.__setattr__") ⟨[.ref x, .str name tk, v], []⟩) R ⟨hp, g, d, t, os⟩ := by
  obtain ⟨oD, esD, epD, hoD, hdD, _⟩ := hns.count hw
  have I : W.InstAt hp x { cls := .ref C, dict := some dx, data := .fields fv } C (some oD) := ⟨hx, rfl, rfl, hoD⟩
  have SF := F.store_object
  have ne := refsEX_ne hm
  have hob : cd.mro.contains (.type "object") = true := (refsEX_contains "object" _ hm).trans (by decide +kernel)
  have sub : W.Looks (model prog w) hp (isInstance (.ref x) (.type "object")) true := I.type.andThen (W.looks_mroIn X (by unfold W.mroIn; rw [hcd, Option.bind_some, if_neg (by rw [ne]; decide), hob]))
  refine codeAny_call_builtin SF.slot.plain SF.entry (@W.check_slot (model prog w) _ _ ⟨hp, g, d, t, os⟩ "object.__setattr__" "object" "__setattr__" (.ref x) [.str name tk, v] [] _ SF.kind SF.split sub (SF.args (.ref x) (.str name tk) v) ?_)
  have hmr : W.Looks (model prog w) hp (mroOf (.ref C)) cd.mro := (W.looks_clsIn X hcd).andThen .now
  have L3 : W.Looks (model prog w) hp (storeTaker? none) none := .now
  have hcls : W.Looks (model prog w) hp (classData C) cd := W.looks_clsIn X hcd
  rw [W.osa_eq, refuse_eq]
  refine wpAny_bind (wpAny_bind (I.type.at (wpAny_bind (hmr.at ?_))))
  rw [refsEX_pass _ _ hm]
  refine wpAny_pure (wpAny_bind (I.type.at (wpAny_bind ((W.looks_findIn X ha).at (wpAny_bind (L3.at ?_))))))
  show wpAny _ _ (storeInOwnDict (.ref x) (.ref C) (.str name tk) name v false) _ _ _
  obtain ⟨nm, bs, mro, ns, qn, hd, sn, sb, ab, col, del⟩ := cd
  dsimp only at hh
  subst hh
  unfold storeInOwnDict ownDictForStores
  repeat (first | with_reducible refine PySem.OEX.store_in_old hns hw hz ?_ | with_reducible refine wpAny_loadPart_at hx ?_ | with_reducible refine hcls.at ?_ | wp_step)
  intro h' tk' hn' hs
  exact hq h' tk' (fun b o hb ho => (hs.2 b hb).trans ho) hn'
end
end ExX
end PySem

set_option Elab.async false
set_option linter.all false
set_option maxRecDepth 100000
set_option maxHeartbeats 4000000
namespace PySem
namespace ExX
open PySem.W PySem.Calls PyProof.Rows PySem.HandSPX
/-- what the written part says of an own exception class, at C, over Exception, and of its __init__, at fI -/
structure ExcT (K : W.Frag) (mg : Str → Option Value) (C fI : Addr) (cn : Str) (fs : List Str) (qual : Str) (st : Stmt) : Prop where
  gC : mg cn = some (.ref C)
  cls : ∃ nm q N bs bm sn sub ab col dd k0 k1 k2 k3 k5, K.lookup C = some (excClassObj nm q C N bs bm true sn sub ab col dd k0 k1 k2 k3 k5 "Exception.__new__") ∧ refsEX bm = true
  sa : findIn K (.ref C) "__setattr__" = some (some (.builtin "object.__setattr__"))
  ga : findIn K (.ref C) "__getattribute__" = some (some (.builtin "BaseException.__getattribute__"))
  gg : findIn K (.ref C) "__getattr__" = some none
  no : ∀ f ∈ fs, findIn K (.ref C) f = some none
  iC : findIn K (.ref C) "__init__" = some (some (.ref fI))
  tC : typeIn K (.ref fI) = some (.type "function")
  kC : keepIn K (.ref C) = true
  exC : subIn K (.ref C) (.type "BaseException") = some true
  tyC : typeIn K (.ref C) = some (.type "type")
  hdC : hasDictIn K C = true
  fn : ∃ (oc : Value) (od : Option Addr) (kV doc pm : Value) (an : Option Addr) (cdv ct : Value) (osl : Array (Option Value)),
    K.lookup fI = some ⟨oc, od, .func (fnOf "__init__" qual (L2.defArgs st) (L2.defBody st) (L2.defScope st) .none kV doc pm an cdv ct), osl⟩ ∧ codeIn K cdv qual = true
theorem ldC {M : Model} {s : Shared} {name : Str} {scope : Scope} {L a : Addr} {cd : Value} {m : Str → Option Value} {x : Str} {pos : Pos} {v : Value} {Q : Value → Shared → Prop} {A : Around} {E : Value → Shared → Prop} (hn : s.heap.Ns L m) (hv : m x = some v) (h : Q v s)
    (hk : scope.kind = .function := by rfl) (hl : (envOfC name scope L a cd).kindOf x = some .local := by rfl) (hd : (x == ("__debug__" : Str)) = false := by decide) :
    wpAny M A (eval (.Name x pos) (envOfC name scope L a cd)) Q E s := wpAny_Name (wpAny_loadName_local hk hl hn hv h) hd
end ExX
end PySem
namespace PySem
namespace ExX
open PySem.W PySem.Calls PyProof.Rows PySem.HandSPX
/-- a made exception of the class at C: itself at e, its dict at d, the fields m -/
structure OwnMade (h h' : Heap) (e C d : Addr) (m : Str → Option Value) : Prop where
  keep : ∀ b o, h.get? b = some o → h'.get? b = some o
  new : h.objs.size ≤ e
  obj : ∃ oe vs, h'.get? e = some oe ∧ oe.cls = .ref C ∧ oe.dict = some d ∧ oe.data = .fields vs ∧ vs[1]? = some .none
  dbig : h.objs.size ≤ d
  dne : d ≠ e
  ns : h'.Ns1 d m
end ExX
end PySem
namespace L2
open PySem PySem.Spec PyProof.Rows PySem.ExX
/-- an exception object of the class at C, its own dict at d, not raised -/
def ExD (C d e : Addr) : HO := .ext fun h => ∃ (oe : Obj) (vs : Array Value), h.get? e = some oe ∧ Zc (.ref C) (some d) oe ∧ oe.data = .fields vs ∧ vs[1]? = some .none
theorem exD_ok {P : Program} {w : World} {H : Hp} {h : Heap} {C d e : Addr} {oe : Obj} {vs : Array Value} (he : h.get? e = some oe) (z : Zc (.ref C) (some d) oe) (hd : oe.data = .fields vs) (h1 : vs[1]? = some .none) : ObjOk P w H h e (ExD C d e) :=
  ⟨⟨oe, vs, he, z, hd, h1⟩, ⟨oe, he⟩, fun _ _ ⟨o, v, q, r⟩ k => ⟨o, v, k o q, r⟩⟩
section
variable {X : Cx} {pins : List (Addr × Obj)} {σ : St} {H : Hp} {hp h' : Heap} {g : Array GenState} {dr : Drawn} {tk tk' : Nat} {os : OsState} {e C d : Addr} {m : Str → Option Value} {fs : List (Str × V)}
/-- the heap without the exception itself: its dict laid -/
theorem own_split (I : Inv X pins σ H ⟨hp, g, dr, tk, os⟩) (M : OwnMade hp h' e C d m) (rel : ∀ f, RelO (fs.lookup f) (m f)) :
    ∃ G' : Heap, (∀ b o, G'.get? b = some o → h'.get? b = some o) ∧ G'.get? e = none ∧ Inv X pins σ (upd H d (.xd fs)) ⟨G', g, dr, tk', os⟩ := by
  have hns := M.ns
  obtain ⟨G', g1, g2⟩ := restrict h' fun b => decide (b ≠ e)
  have gk : ∀ b, b ≠ e → G'.get? b = h'.get? b := fun b hb => g1 b (decide_eq_true hb)
  have ge : G'.get? e = none := g2 e (by simp)
  have old : ∀ b o, hp.get? b = some o → G'.get? b = some o := fun b o q => (gk b (Nat.ne_of_lt (Nat.lt_of_lt_of_le (Heap.lt_size q) M.new))).trans (M.keep b o q)
  have ob : ObjOk X.prog X.w (upd H d (.xd fs)) G' d (.xd fs) := ⟨_, hns.at (fun o q => (gk d M.dne).trans q), fun f => rel f⟩
  have J : Inv X pins σ (upd H d (.xd fs)) ⟨G', g, dr, tk', os⟩ := I.laid (t' := tk') old M.dbig ob
  refine ⟨G', fun b o q => ?_, ge, J⟩
  by_cases hb : b = e
  · rw [hb, ge] at q; cases q
  · exact (gk b hb).symm.trans q
theorem own_value (I : Inv X pins σ H ⟨hp, g, dr, tk, os⟩) (M : OwnMade hp h' e C d m) (rel : ∀ f, RelO (fs.lookup f) (m f)) :
    Inv X pins σ (upd (upd H d (.xd fs)) e (ExD C d e)) ⟨h', g, dr, tk', os⟩ := by
  obtain ⟨G', k, ge, J⟩ := own_split (tk' := tk') I M rel
  obtain ⟨oe, vs, hoe, hc, hd, hdat, h1⟩ := M.obj
  have hn : upd H d (.xd fs) e = none := by
    rw [upd_ne (Ne.symm M.dne)]
    exact I.hok.fresh M.new
  exact J.laidN k ge hn (exD_ok hoe ⟨hc, hd⟩ hdat h1)
theorem own_raise {Q : XK} (I : Inv X pins σ H ⟨hp, g, dr, tk, os⟩) (M : OwnMade hp h' e C d m) (rel : ∀ f, RelO (fs.lookup f) (m f)) (r : Raises X (.ref C)) (q : ∀ d, H d = none → Q (.ref C) (some d) (upd H d (.xd fs))) :
    MkP X pins σ Q (.ref e) ⟨h', g, dr, tk', os⟩ := by
  obtain ⟨G', k, ge, J⟩ := own_split (tk' := tk') I M rel
  obtain ⟨oe, vs, hoe, hc, hd, hdat, h1⟩ := M.obj
  refine ⟨e, oe, vs, ⟨G', g, dr, tk', os⟩, _, .ref C, some d, rfl, J, k, ge, hoe, ⟨hc, hd⟩, hdat, h1, ?_, rfl, I.bare, r, q d (I.hok.fresh M.dbig)⟩
  rw [upd_ne (Ne.symm M.dne)]
  exact I.hok.fresh M.new
end
end L2

set_option Elab.async false
set_option linter.all false
set_option maxRecDepth 100000
set_option maxHeartbeats 4000000
/-! isinstance of exception objects that are values, whatever own dict they have -/
namespace PySem.W
open PySem PySem.Spec PySem.Calls PyProof.Rows
section
variable {prog : Program} {w : World} {A : Around} {E : Value → Shared → Prop} {s : Shared} {K : Frag} {x D : Addr} {ox : Obj} {od : Option Obj}
theorem findObj_dataZ {C : Addr} {name : Str} {a g : Value} (hc : (clsIn K C).isSome = true) (ha : findIn K (.ref C) name = some (some a)) (hg : specialIn K a "__get__" = some (some g)) (ht : takesIn K a = some true) : findObj K C od name = some (.bind g a) := by
  obtain ⟨cd, hc⟩ := Option.isSome_iff_exists.mp hc
  unfold findObj
  rw [hc, Option.bind_some, ha, Option.bind_some]
  simp [hg, ht]
theorem kin_classZ {Q : Option Value → Shared → Prop} (hga : findIn K (.ref D) "__getattribute__" = some (some (.builtin "BaseException.__getattribute__"))) (hgt : findIn K (.ref D) "__getattr__" = some none) (hsub : subIn K (.ref D) (.type "BaseException") = some true)
    (hdct : hasDictIn K D = true) (ha : findIn K (.ref D) "__class__" = some (some (.builtin "object.__class__")))
    (hn : specialIn K (.builtin "object.__class__") "__get__" = some (some (.builtin "getset_descriptor.__get__"))) (htk : takesIn K (.builtin "object.__class__") = some true) (hm : mroIn K D (.type "object") = some true)
    (X : K.In s.heap) (I : InstAt s.heap x ox D od) (h : Q (some (.ref D)) { s with toks := s.toks + 1 }) : wpAny (model prog w) A (getAttr? (.ref x) "__class__") Q E s := by
  have hf : findObj K D od "__class__" = some (.bind (.builtin "getset_descriptor.__get__") (.builtin "object.__class__")) := findObj_dataZ (by obtain ⟨cd, hc, _⟩ := any_some hdct; rw [hc]; rfl) ha hn htk
  obtain ⟨hp, g, d, t, os⟩ := s
  have L0 := I.type (M := model prog w)
  have L1 := looks_findIn (M := model prog w) X hga
  have L2 := looks_findIn (M := model prog w) X hgt
  have L3 := looks_find (M := model prog w) X I hf
  have sub : Looks (model prog w) hp (isInstance (.ref x) (.type "BaseException")) true := L0.andThen (looks_subIn X hsub)
  have hx0 : (false && onTheHeap (Value.builtin "BaseException.__getattribute__")) = false := rfl
  have hx2 : (Value.builtin "BaseException.__getattribute__" == Value.builtin "object.__getattribute__") = false := by decide +kernel
  have hx1 : (onTheHeap (Value.ref D) && Value.builtin "BaseException.__getattribute__" == Value.builtin "object.__getattribute__") = false := by rw [hx2]; rfl
  unfold getAttr? getAttrBy? getAttrBy
  refine wpAny_bind (wpAny_mkText (wpAny_bind (wpAny_attempt (wpAny_holding (wpAny_bind (L0.at (wpAny_bind (L1.at ?_))))))))
  show wpAny _ _ (if (onTheHeap (Value.ref D) && Value.builtin "BaseException.__getattribute__" == Value.builtin "object.__getattribute__") = true then _ else _) _ _ _
  rw [hx1, if_neg Bool.false_ne_true]
  unfold getAttrByItsOwn hookBefore
  refine wpAny_bind ?_
  rw [if_pos (show onTheHeap (Value.ref D) = true from rfl)]
  refine L2.at ?_
  refine wpAny_bind (wpAny_attempt (wpAny_holding ?_))
  unfold callGetattribute
  rw [hx0, if_neg Bool.false_ne_true]
  unfold boundAndCalled
  rw [PySem.F.excAttr_ValueError.ga.bind (.ref x)]
  refine wpAny_bind (wpAny_pure ?_)
  show wpAny _ _ (call (.builtin "BaseException.__getattribute__") [.ref x, .str "__class__" t]) _ _ _
  refine wpAny_call (codeAny_call_builtin PySem.F.excAttr_ValueError.ga.plain PySem.F.entry_bexc_ga ?_)
  refine @check_slot (model prog w) _ _ ⟨hp, g, d, t + 1, os⟩ "BaseException.__getattribute__" "BaseException" "__getattribute__" (.ref x) [.str "__class__" t] [] _ (by decide +kernel) (by decide +kernel) sub (PySem.F.args_bexc_ga (.ref x) (.str "__class__" t)) ?_
  unfold Builtin.«object.__getattribute__»
  refine wpAny_bind (wpAny_of_eq (a := ((Value.ref x : Value), [Value.str "__class__" t])) (by first | rfl | (simp only [slotArgs]; rfl)) ?_)
  refine wpAny_bind (wpAny_pure (wpAny_bind (L0.at (wpAny_bind (L3.at ?_)))))
  show wpAny _ _ (holding [Value.builtin "object.__class__"] (call (.builtin "getset_descriptor.__get__") [.builtin "object.__class__", .ref x, .ref D]) >>= ret) _ _ _
  refine wpAny_bind (wpAny_holding (wpAny_call (class_get (s := ⟨hp, g, d, t + 1, os⟩) (ox := ox) (od := od) X I hm ?_)))
  refine wpAny_pure ?_
  show wpAny _ _ (handedOut (.ref D)) _ _ _
  rw [handedOut_of (v := .ref D) rfl]
  first
    | exact wpAny_pure (wpAny_pure h)
    | exact wpAny_pure h
    | exact wpAny_pure (wpAny_bind (wpAny_pure (wpAny_pure h)))
theorem kitx_excZ (hga : findIn K (.ref D) "__getattribute__" = some (some (.builtin "BaseException.__getattribute__"))) (hgt : findIn K (.ref D) "__getattr__" = some none) (hsub : subIn K (.ref D) (.type "BaseException") = some true) (hdct : hasDictIn K D = true) (ha : findIn K (.ref D) "__class__" = some (some (.builtin "object.__class__")))
    (hn : specialIn K (.builtin "object.__class__") "__get__" = some (some (.builtin "getset_descriptor.__get__"))) (htk : takesIn K (.builtin "object.__class__") = some true) (hm : mroIn K D (.type "object") = some true) :
    KitX K (.ref x) (.ref D) (fun h => InstAt h x ox D od) where
  ty := fun _ _ _ I => I.type
  it := fun _ _ X _ => by
    obtain ⟨cdD, hcD, _⟩ := any_some hdct
    unfold clsIn at hcD
    split at hcD
    · rename_i c' d' cd' sl' ho
      intro A' Q' E' s' k q
      unfold isType loadHead
      exact wpAny_bind (wpAny_loadPart (k _ _ (X _ _ ho)) (wpAny_pure q))
    · cases hcD
  ne := (handS_kitx_exc (x := x) (ox := ox) hga hgt hsub hdct ha hn htk hm).ne
  ca := fun X I k => kin_classZ hga hgt hsub hdct ha hn htk hm X I k
end
end PySem.W
namespace L2
open PySem PySem.Spec PyProof.Rows PySem.ExX
/-- the type of a value: also of an exception object that is a value -/
inductive TyZ (K : PySem.W.Frag) (H : Hp) : V → Value → Prop where
  | x {v : V} {t : Value} (h : TyX K H v t) : TyZ K H v t
  | exo {a C : Addr} (e : H a = some (ExO (.ref C) a)) (c : ExcC K C) : TyZ K H (.ref a) (.ref C)
  | exd {a C d : Addr} {fs : List (Str × V)} (e : H a = some (ExD C d a)) (ed : H d = some (.xd fs)) (c : ExcC K C) : TyZ K H (.ref a) (.ref C)
section
variable {X : Cx} {pins : List (Addr × Obj)} {σ : St} {H : Hp} {s : Shared}
theorem kit_ofZ {x : V} {u t : Value} (I : Inv X pins σ H s) (rx : RelV x u) (ty : TyZ X.K H x t) : ∃ P : Heap → Prop, PySem.W.KitX X.K u t P ∧ P s.heap ∧ u ≠ .builtin "__main__.__loader__#opaque" := by
  cases ty with
  | x h => exact kit_of I rx h
  | @exo a C e c =>
    cases (show u = Value.ref a from rx)
    obtain ⟨⟨oe, vs, ho, hz, hd, _, _⟩, _, _⟩ := I.hok a _ e
    have J : PySem.W.InstAt s.heap a oe C none := by
      obtain ⟨oc, od, oda, osl⟩ := oe
      obtain ⟨h1, h2⟩ := hz
      dsimp only at h1 h2 hd
      subst h1 h2 hd
      exact ⟨ho, rfl, rfl, trivial⟩
    exact ⟨_, PySem.W.kitx_excZ c.hg c.hk c.hs c.hd c.ha c.hn c.ht c.hm, J, fun z => nomatch z⟩
  | @exd a C d fs e ed c =>
    cases (show u = Value.ref a from rx)
    obtain ⟨⟨oe, vs, ho, hz, hd, _⟩, _, _⟩ := I.hok a _ e
    obtain ⟨mA, hns, _⟩ := (show ObjOk X.prog X.w H s.heap d (.xd fs) from I.hok d _ ed)
    obtain ⟨od, hod, _⟩ := lookIn_ns hns
    have J : PySem.W.InstAt s.heap a oe C (some od) := by
      obtain ⟨oc, odd, oda, osl⟩ := oe
      obtain ⟨h1, h2⟩ := hz
      dsimp only at h1 h2 hd
      subst h1 h2 hd
      exact ⟨ho, rfl, rfl, hod⟩
    exact ⟨_, PySem.W.kitx_excZ c.hg c.hk c.hs c.hd c.ha c.hn c.ht c.hm, J, fun z => nomatch z⟩
end
def rIsiZ (K : PySem.W.Frag) : List V → Hp → VK → Prop := fun xs H Q => ∃ (x c : V) (t u : Value) (b : Bool), xs = [x, c] ∧ ClsV c u ∧ TyZ K H x t ∧ PySem.W.kitOne K t u = some b ∧ Q (.bl b) H
def rIsiTZ (K : PySem.W.Frag) : List V → Hp → VK → Prop := fun xs H Q => ∃ (x : V) (tp : Addr) (cs : List V) (t : Value) (us : List Value) (b : Bool), xs = [x, .ref tp] ∧ H tp = some (.tup cs) ∧ Paired ClsV cs us ∧ TyZ K H x t ∧ PySem.W.kitAny K t us = some b ∧ Q (.bl b) H
section
variable {X : Cx} {K : PySem.W.Frag}
theorem call_isiZ (hK : X.K = K) : CallR X (.builtin "isinstance") (rIsiZ K) := by
  subst hK
  intro pins s σ H xs us Q I r h
  obtain ⟨x, c, t, u, b, rfl, k, ty, e, q⟩ := h
  obtain ⟨u1, u2, rfl, r1, r2⟩ := vals2 r
  have e2 := k.eq r2
  subst e2
  obtain ⟨P, Z, p, hx⟩ := kit_ofZ I r1 ty
  exact PySem.W.kia_one Z I.kIn p e hx fun tk => ⟨.bl b, H, I.tok tk, rfl, q⟩
theorem call_isiTZ (hK : X.K = K) : CallR X (.builtin "isinstance") (rIsiTZ K) := by
  subst hK
  intro pins s σ H xs us Q I r h
  obtain ⟨x, tp, cs, t, ws, b, rfl, hT, k, ty, e, q⟩ := h
  obtain ⟨u1, u2, rfl, r1, r2⟩ := vals2 r
  cases (show u2 = Value.ref tp from r2)
  obtain ⟨P, Z, p, hx⟩ := kit_ofZ I r1 ty
  obtain ⟨_, its, rv, o, h1, h2, n, h3⟩ := (show ObjOk X.prog X.w H s.heap tp (.tup cs) from I.hok tp _ hT)
  have e3 := ClsV.all k rv
  subst e3
  obtain ⟨oc, od, dt, sl⟩ := o
  simp only at h2 h3
  subst h2 h3
  exact PySem.W.kia_tup Z I.kIn p h1 e hx fun tk => ⟨.bl b, H, I.tok tk, rfl, q⟩
end
end L2

set_option Elab.async false
set_option linter.all false
set_option maxRecDepth 100000
set_option maxHeartbeats 4000000
namespace PySem
namespace ExX
open PySem.W PySem.Calls PyProof.Rows
theorem refsEX_of : ∀ l : List Value, excTail exTail l = true → refsEX l = true := by
  intro l
  induction l with
  | nil => intro h; exact absurd h (by decide +kernel)
  | cons a r ih =>
    intro h
    rcases excTail_cases (bmB := exTail) (a :: r) h with ⟨c, r', e, q⟩ | e
    · cases e
      exact ih q
    · rw [e]; rfl
theorem excT_cls {K : Frag} {C : Addr} (q : excInitIn K C exTail "Exception.__new__" = true) (hd : hasDictIn K C = true) :
    ∃ nm q N bs bm sn sub ab col dd k0 k1 k2 k3 k5, K.lookup C = some (excClassObj nm q C N bs bm true sn sub ab col dd k0 k1 k2 k3 k5 "Exception.__new__") ∧ refsEX bm = true := by
  unfold excInitIn at q
  split at q
  · rename_i dd cd sl ho
    split at q
    · rename_i C' bm k0 k1 k2 k3 n k5 hm hs
      simp only [Bool.and_eq_true, beq_iff_eq, Bool.not_eq_true'] at q
      obtain ⟨⟨⟨rfl, rfl⟩, hdel⟩, ht⟩ := q
      obtain ⟨nm, bs, mro, ns, qn, hd', sn, sub, ab, col, del⟩ := cd
      dsimp only at hm hdel
      subst hm hdel
      have hsl : sl = #[k0, k1, k2, k3, some (.builtin "Exception.__new__"), k5] := by
        obtain ⟨l⟩ := sl
        simp only at hs
        rw [hs]
      subst hsl
      have e : hd' = true := by
        unfold hasDictIn at hd
        have hc : clsIn K C' = some ⟨nm, bs, .ref C' :: bm, ns, qn, hd', sn, sub, ab, col, false⟩ := by unfold clsIn; rw [ho]
        rw [hc] at hd
        simpa using hd
      subst e
      exact ⟨nm, qn, ns, bs, bm, sn, sub, ab, col, dd, k0, k1, k2, k3, k5, ho, refsEX_of _ ht⟩
    · cases q
  · cases q
end ExX
end PySem

set_option Elab.async false
set_option linter.all false
set_option maxRecDepth 100000
/-! the rules whose reading names the written part, with that part a letter of its own (within a comprehension the place's own name of it can't be found by unification) -/
namespace L2
open PySem PySem.Spec PyProof.Rows
variable {X : Cx} {K : PySem.W.Frag}
theorem ix_listK (h : X.K = K) : IxR X (rIxL K) := by subst h; exact ix_list
theorem ix_tupK (h : X.K = K) : IxR X (rIxT K) := by subst h; exact ix_tup
theorem call_tuple_ofK (h : X.K = K) : CallR X (.type "tuple") (fun xs H Q => ∃ p ys, xs = [.ref p] ∧ ((SqL K H p ys ∧ ∀ l, H l = none → Q (.ref l) (upd H l (.tup ys))) ∨ (SqT K H p ys ∧ Q (.ref p) H))) := by subst h; exact call_tuple_of
theorem call_list_ofK (h : X.K = K) : CallR X (.type "list") (fun xs H Q => ∃ p ys, xs = [.ref p] ∧ (SqL K H p ys ∨ SqT K H p ys) ∧ ∀ l, H l = none → Q (.ref l) (upd H l (.lst ys))) := by subst h; exact call_list_of
theorem call_len_seqK (h : X.K = K) : CallR X (.builtin "len") (fun xs H Q => ∃ p ys, xs = [.ref p] ∧ (SqL K H p ys ∨ SqT K H p ys) ∧ Q (.int ys.length) H) := by subst h; exact call_len_seq
theorem call_isiK' (h : X.K = K) : CallR X (.builtin "isinstance") (rIsi K) := by subst h; exact call_isi
theorem call_isiTK (h : X.K = K) : CallR X (.builtin "isinstance") (rIsiT K) := by subst h; exact call_isiT
theorem sl_listK (h : X.K = K) : SlR X (rSlL K) := by subst h; exact sl_list
theorem cr_allK (h : X.K = K) (hc : X.calm = true) : CallR X (.builtin "all") (rAll K) := by subst h; exact cr_all hc
theorem cr_anyK (h : X.K = K) (hc : X.calm = true) : CallR X (.builtin "any") (rAny K) := by subst h; exact cr_any hc
theorem cr_sumK (h : X.K = K) (hc : X.calm = true) : CallR X (.builtin "sum") (rSum K) := by subst h; exact cr_sum hc
end L2

set_option Elab.async false
set_option linter.all false
set_option maxRecDepth 100000
set_option maxHeartbeats 4000000
/-! {k}: a set display of one int; sorted of a set of ints of any size -/
namespace L2
open PySem PySem.Spec PyProof.Rows PySem.W
theorem newSet_led {P : Program} {w : World} {A : Around} {E : Value → Shared → Prop} {s : Shared} {Q : Value → Shared → Prop}
    (h : Q (.ref s.heap.objs.size) { s with heap := s.heap.push { cls := .type "set", dict := none, data := .set #[] 0 (.fresh 0 0 (!w.params.followText "set-order")) } }) :
    wpAny (model P w) A (newSet (.type "set")) Q E s := by
  unfold newSet setsByText
  refine wpAny_bind (wpAny_bind (wpAny_askSetting (wpAny_pure ?_)))
  dsimp only
  simp only [newObj]
  exact wpAny_bind (wpAny_alloc (wpAny_pure h))
def tSet1 (w : World) (te : TE) : TE := fun σ H Q => ∀ p, H p = none → te σ (upd H p (SetO w p (fun _ => false) 0)) fun x H1 => ∃ k, x = .int k ∧ H1 p = some (SetO w p (fun _ => false) 0) ∧ Q (.ref p) (upd H1 p (SetO w p (fun j => decide (j = k)) 1))
theorem kdsCode_of {K : PySem.W.Frag} {cd : Value} {q : Str} (h : PySem.W.codeIn K cd q = true) : kdsCode K cd = true := by
  unfold PySem.W.codeIn at h
  unfold kdsCode
  split at h
  · split at h
    · rename_i ho
      simp only [ho]
    · cases h
  · cases h
theorem pe_set1 {X : Cx} {e : Expr} {te : TE} {pos : Pos} (hc : kdsCode X.K X.env.code = true) (he : PE X e te) (hs : starEach [e] X.env = [(false, eval e X.env)] := by rfl) : PE X (.Set [e] 0 pos) (tSet1 X.w te) := by
  refine ⟨fun pins s σ H Q I h => ?_⟩
  rw [arm_eval_Set]
  refine wpAny_bind (wpAny_standAt ?_)
  refine wpAny_bind (kds_main I.kIn hc fun b => ?_)
  rw [hs]
  show wpAny _ _ (setDisplay .oneByOne b [(false, do let v ← eval e X.env; standAt pos; pure v)]) _ _ _
  unfold setDisplay
  try dsimp only
  rw [if_neg (by decide)]
  refine wpAny_bind (newSet_led (w := X.w) ?_)
  dsimp only
  have hn : (if ([(false, (do let v ← eval e X.env; standAt pos; pure v : Sem Value))] : List (Bool × Sem Value)).length > 30 then 0 else (([(false, (do let v ← eval e X.env; standAt pos; pure v : Sem Value))] : List (Bool × Sem Value)).findIdx? (·.1)).getD 1) = 1 := by rfl
  have hp : H s.heap.objs.size = none := I.hok.fresh (Nat.le_refl _)
  have I1 : Inv X pins σ (upd H s.heap.objs.size (SetO X.w s.heap.objs.size (fun _ => false) 0)) { s with heap := s.heap.push { cls := .type "set", dict := none, data := .set #[] 0 (.fresh 0 0 (!X.w.params.followText "set-order")) } } :=
    I.laid (t' := s.toks) (fun b u e => Heap.get?_push_of_some _ e) (Nat.le_refl _) (setO_new (setR_fresh X.w))
  have h1 := h s.heap.objs.size hp
  generalize s.heap.objs.size = a at *
  refine wpAny_bind (wpAny_holding (wpAny_bind ?_))
  show wpAny _ _ (evalAll [do let v ← eval e X.env; standAt pos; pure v]) _ _ _
  refine wpAny_evalAll_cons (wpAny_bind (thn (he.run pins _ σ _ _ I1 h1) fun u s1 ⟨x, H1, I2, r1, k, ex, hset, q⟩ => wpAny_bind (wpAny_standAt (wpAny_pure ?_))))
  refine wpAny_evalAll_nil ?_
  subst ex
  obtain ⟨tk, rfl⟩ := r1
  refine wpAny_bind (wpAny_holding ?_)
  refine wpAny_bind ?_
  rw [List.forIn_cons]
  have R := setO_get I2 hset
  refine wpAny_bind (wpAny_bind ?_)
  unfold setAdd
  refine wpAny_holding (wpAny_bind ((intKind X.prog X.w).pyHash (intKind_is X.prog X.w k tk) ?_))
  refine setR_add_hashed (s := { s1 with toks := s1.toks + 1 }) R (by decide) fun h' sb r => ?_
  refine wpAny_pure ?_
  dsimp only
  rw [List.forIn_nil]
  refine wpAny_pure ?_
  rw [if_neg (by decide)]
  refine wpAny_pure ?_
  refine wpAny_bind ?_
  generalize hl : List.drop _ [(false, (do let v ← eval e X.env; standAt pos; pure v : Sem Value))] = l
  have hl0 : l = [] := by rw [← hl]; rfl
  subst hl0
  rw [List.forIn_nil]
  refine wpAny_pure (wpAny_pure ?_)
  have he' : ∃ u, h'.get? a = some u := by
    obtain ⟨o, _, _, _, ho, _⟩ := r
    exact ⟨o, ho⟩
  have r' : SetR X.w h' a (fun j => decide (j = k)) 1 := r.congr fun j => by simp
  exact wpAny_pure ⟨.ref a, upd H1 a (SetO X.w a (fun j => decide (j = k)) 1), I2.write (e := a) (t' := s1.toks + 1) (by rw [hset]; trivial) (.inl rfl) (fun b u hb hu => (sb.2 b hb).trans hu) he' (setO_new r'), rfl, q⟩
section
variable {P : Program} {w : World} {A : Around} {E : Value → Shared → Prop} {s : Shared} {a : Addr}
theorem sorted_setN {S : Int → Bool} {n : Nat} {Q : Value → Shared → Prop} (R : SetR w s.heap a S n) (hh : A.handled = none) (hn4 : n ≤ 4096)
    (hQ : ∀ s' p (out : Array Value) (c : Nat) (ns : List Int), (∀ b o, s.heap.get? b = some o → s'.heap.get? b = some o) → s'.gens = s.gens → s'.os = s.os → s.heap.objs.size ≤ p →
      s'.heap.get? p = some (seqObj "list" out c) → IntsAre out.toList ns → ns.Pairwise (· < ·) → (∀ k, k ∈ ns ↔ S k = true) → ns.length = n → Q (.ref p) s') :
    wpAny (model P w) A (call (.builtin "sorted") [.ref a]) Q E s := by
  obtain ⟨o, es, ep, t, ho, hex, hd, g, nd, hm, hb, hf, hn, hr, hl⟩ := R
  refine Calls.call_function_entry kind_sorted plain_sorted entry_sorted (args_sorted1 _) ?_
  unfold Builtin.«sorted»
  refine wpAny_bind (m := checkCount "sorted" 1 1 _) (wpAny_pure ?_)
  refine wpAny_bind (collect_set (A := A.in1) hh ⟨o, ho, hex.1, hd⟩ hf hb hr hl fun s1 vs k1 hz g1 o1 pm => ?_)
  have hvl : vs.length = n := by rw [pm.length_eq, List.length_map, Array.length_toList]; exact hn
  have hI : IntsAre vs (vs.map Builtin.Re.reRawOf) := ints_of vs fun v hv => by
    obtain ⟨e, he, q⟩ := List.mem_map.mp (pm.mem_iff.mp hv)
    obtain ⟨k, tk, h1, _⟩ := g e he
    exact ⟨k, tk, by rw [← q]; exact h1⟩
  have pk : (vs.map Builtin.Re.reRawOf).Perm (es.toList.map keyOf) := by
    have q := pm.map Builtin.Re.reRawOf
    rw [List.map_map] at q
    exact q
  have hvz : vs.length ≤ sizeLine := by rw [hvl, sizeLine_eq]; omega
  refine wpAny_bind (wpAny_newList ?_ hvz)
  have hoL : (s1.heap.push (seqObj "list" vs.toArray 0)).get? s1.heap.objs.size = some (seqObj "list" vs.toArray 0) := Heap.get?_push_size _ rfl
  refine wpAny_bind (wpAny_holding (wpAny_call_entry slot_list_sort ⟨_, hoL, rfl⟩ entry_list_sort (SrtO.list_sort_ord SrtO.swo_int hoL hvz (fun h2 => SrtO.ints_sortable hI h2) fun out h1 h2 => ⟨.none, rfl, ?_⟩) (args_list_sort _)))
  obtain ⟨a1, a2, a3⟩ := SrtO.ints_out hI h1 h2
  obtain ⟨c, hc⟩ := sortedHeap_at (vs := vs) (out := out.toArray) hoL
  have pn : (out.map SrtO.iv).Perm (es.toList.map keyOf) := a2.trans pk
  refine wpAny_pure ⟨_, rfl, hQ _ s1.heap.objs.size out.toArray c (out.map SrtO.iv) (fun b u e => ?_) g1 o1 hz hc a1 (lt_of_le_nodup _ a3 (pn.nodup_iff.mpr nd)) (fun k => by rw [pn.mem_iff, ← hm k]) ?_⟩
  · have q := k1 b u e
    have hlt := Heap.lt_size q
    show (sortedHeap (s1.heap.push (seqObj "list" vs.toArray 0)) s1.heap.objs.size vs out.toArray).get? b = some u
    rw [sortedHeap_old (Nat.ne_of_lt hlt) (by rw [size_push']; exact Nat.lt_succ_of_lt hlt)]
    exact Heap.get?_push_of_some _ q
  · rw [pn.length_eq, List.length_map, Array.length_toList]; exact hn
end
section
variable {X : Cx}
def rSortedSetN (w : World) : List V → Hp → VK → Prop := fun vs H Q => ∃ (a : Addr) (S : Int → Bool) (n : Nat), vs = [V.ref a] ∧ H a = some (SetO w a S n) ∧ n ≤ 4096 ∧
  ∀ (ns : List Int) (p : Addr), ns.Pairwise (· < ·) → (∀ k : Int, k ∈ ns ↔ S k = true) → ns.length = n → H p = none → Q (.ref p) (upd H p (.lst (ns.map V.int)))
theorem cr_sortedSetN (hc : X.calm = true) : CallR X (.builtin "sorted") (rSortedSetN X.w) := by
  intro pins s σ H vs us Q I r h
  obtain ⟨a, S, n, rfl, ha, h64, q⟩ := h
  have R := setO_get I ha
  rw [Vals.ref1 r]
  refine sorted_setN R (I.ok.hd hc) h64 fun s' p out c ns k g o hp hg hi hs hm hl => ?_
  have hlen : (ns.map V.int).length ≤ sizeLine := by rw [List.length_map, hl, sizeLine_eq]; omega
  have hn : H p = none := I.hok.fresh hp
  have J : Inv X pins σ (upd H p (.lst (ns.map V.int))) { s with heap := s'.heap, gens := s'.gens, drawn := s'.drawn, toks := s'.toks } :=
    I.call (ch := []) (Un.laid k hp hn) (I.hok.laid k hp ⟨hlen, out.toList, c, vals_of_ints hi, hg⟩) (by rw [g]; exact I.bare) (fun _ z => nomatch z)
  have e : s' = { s with heap := s'.heap, gens := s'.gens, drawn := s'.drawn, toks := s'.toks } := by
    cases s'
    cases s
    cases o
    rfl
  rw [e]
  exact ⟨.ref p, _, J, rfl, q ns p hs hm hl hn⟩
end
/-- a def's rule that hands on what its code object is (a set's display asks it) -/
theorem Fun.okC {P : Program} {w : World} {K : PySem.W.Frag} {mg : Str → Option Value} {base : Heap} {x qual : Str} {st : Stmt} {f : Addr} {fd : FuncData} {N ps : List Str} {k : Nat} {sp : Sp} (F : Fun K x qual st f fd) (S : FnScope N ps (defScope st)) (len : ∀ vs H Q E, sp vs H Q E → vs.length = ps.length)
    (hbody : ∀ (cdv : Value) (A : Around) (outer : List Env) (s : Shared) (H : Hp) (vs : List V) (Q : VK) (E : XK), PySem.W.codeIn K cdv qual = true → Room k (A.deeper (envOfC qual (defScope st) s.heap.objs.size f cdv)) → sp vs H Q E →
      ∃ t, PSs (cxOf CX0 P w K mg base N qual (defScope st) f cdv A outer s H E).nox (defBody st) t ∧ t { nx := fun _ H' => Q .non H', rt := Q } (start N vs) H) : FnOk P w K mg base CX0 (k + 1) f fd ps sp := by
  obtain ⟨oc, od, kV, doc, pm, an, cdv, ct, osl, rfl, lk, hcd⟩ := F.ex
  refine fn_of lk hcd S len fun A outer s H vs Q E hr hsp => ?_
  obtain ⟨t, h, q⟩ := hbody cdv A outer s H vs Q E hcd hr hsp
  exact ⟨t, h.nox, q⟩
end L2

set_option Elab.async false
set_option linter.all false
set_option maxRecDepth 100000
set_option maxHeartbeats 4000000
/-! a call by keywords alone; a text times a number -/
namespace L2
open PySem PySem.Spec PyProof.Rows
theorem Fun.kbinds {K : PySem.W.Frag} {x qual : Str} {st : Stmt} {f : Addr} {fd : FuncData} {ps ks : List Str} (F : Fun K x qual st f fd) (g : {α : Type} → List α → List α)
    (h : ∀ (kV doc pm : Value) (an : Option Addr) (cdv ct : Value) (ws : List Value), ws.length = ks.length → bindArgs (PySem.W.fnOf x qual (defArgs st) (defBody st) (defScope st) .none kV doc pm an cdv ct) ⟨[], ks.zip ws⟩ = pure (ps.zip (g ws)))
    (hrel : ∀ {zs : List V} {ws : List Value}, Vals zs ws → Vals (g zs) (g ws)) : KBn K fd ps 0 ks (fun _ ws => g ws) (fun _ zs => g zs) := by
  obtain ⟨oc, od, kV, doc, pm, an, cdv, ct, osl, rfl, lk, hcd⟩ := F.ex
  refine ⟨fun s us ws _ h0 hl => ?_, fun _ r => hrel r⟩
  cases us with
  | nil => exact BindsTo.of_eq (h kV doc pm an cdv ct ws hl)
  | cons a r => cases h0
section
variable {X : Cx} {CX : CXT} {k : Nat} {f : Addr} {fd : FuncData} {ps ks : List Str} {sp : Sp} {E : XK} {x : Str} {p pos : Pos} {kws : List Keyword} {tk : TA} {g : List Value → List Value → List Value} {gV : List V → List V → List V}
theorem pe_callN0 (F : FnOk X.prog X.w X.K X.mg X.base CX k f fd ps sp) (hr : Room k X.A) (hg : Gl X x) (hm : X.mg x = some (.ref f)) (hk : PySem.W.keepIn X.K (.ref f) = true) (hb : KBn X.K fd ps 0 ks g gV) (hx : Passes CX X E)
    (hkw : PK X kws tk) (hall : (backToKw pos (keywordEach kws X.env)).all (·.1.isSome) = true := by rfl) (hks : (backToKw pos (keywordEach kws X.env)).filterMap (·.1) = ks := by rfl)
    (hdb : (x == ("__debug__" : Str)) = false := by decide)
    (hpl : ((backTo pos (starEach [] X.env)).any (·.1) || (backToKw pos (keywordEach kws X.env)).any (·.1.isNone)) = false := by rfl) :
    PE X (.Call (.Name x p) [] kws pos) (tCallN 0 ks.length sp gV E tNil tk) := by
  refine ⟨fun pins s σ H Q I h => ?_⟩
  refine wpAny_Call_Name_kw (ld_glob I hg hm ?_ hdb)
  refine PySem.W.callWith_KW0 (h₀ := X.base) I.ok.mod.kin hk hall ?_ hpl
  refine thn (hkw.run pos pins s σ H _ I h) fun ws s2 ⟨zs, H2, I2, rz, l1, l2, q2⟩ => ⟨I2.kIn, ?_⟩
  rw [hks]
  exact run_fnN (us := []) (vs := []) F hr hb hx I2 .nil rz rfl l2 q2
theorem op_mul_str : OpR X (binaryOp .Mult) (fun x y H Q => ∃ z n, x = .str z ∧ y = .int n ∧ z.length ≤ 16 ∧ -(2 ^ 63 : Int) ≤ n ∧ n ≤ 1048576 ∧ Q (.str (Txt.mul z n)) H) := by
  intro pins s σ H x y v u Q I rx ry h
  obtain ⟨z, n, rfl, rfl, h1, h2, h3, q⟩ := h
  obtain ⟨t, rfl⟩ := rx
  obtain ⟨t', rfl⟩ := ry
  exact SB.mul (mulOk_of 16 1048576 h1 h3 h2 (by decide) (by decide)) fun t' tk => ⟨.str _, H, I.tok _, ⟨_, rfl⟩, q⟩
end
end L2

set_option Elab.async false
set_option linter.all false
set_option maxRecDepth 100000
set_option maxHeartbeats 4000000
/-! d.setdefault(y, z) where the keys are tuples -/
namespace L2
open PySem PySem.Spec PyProof.Rows
section
variable {X : Cx} {pins : List (Addr × Obj)} {σ : St} {H : Hp} {s : Shared} {a b : Addr} {r : Value} {d : V} {k : List Key} {A : Around} {E : Value → Shared → Prop}
theorem d_setdT {kvs : List (List Key × V)} {Q : Value → Shared → Prop} (hu : A.units + 1 < cLine) (I : Inv X pins σ H s) (e : H a = some (.dT kvs)) (eb : H b = some (.tup (k.map kV))) (rd : RelV d r) (hl : kvs.length < sizeLine)
    (h1 : ∀ v, valV kvs k = some v → ∀ (w' : Value) (s' : Shared), Inv X pins σ H s' → RelV v w' → Q w' s') (h2 : valV kvs k = none → ∀ (w' : Value) (s' : Shared), Inv X pins σ (upd H a (.dT (putK kvs k d))) s' → RelV d w' → Q w' s') :
    wpAny (model X.prog X.w) A (call (.builtin "dict.setdefault") [.ref a, .ref b, r]) Q E s := by
  obtain ⟨z, hd, xs, rel, dd⟩ := dt_of I.hok e
  have hz : xs.length ≤ sizeLine := by rw [← Paired.length rel]; exact z
  have q := rel.val k
  refine call_setdefault_heap (hsz := hz) (tupleKind_room_in1 hu) (key_of I.hok eb) hd dd (fun p hp => ?_) fun hn h' dd' hs => ?_
  · rw [hp] at q
    cases q0 : valV kvs k with
    | none =>
      rw [q0] at q
      exact (show False from q).elim
    | some v =>
      rw [q0] at q
      exact h1 v q0 _ _ (I.tok _) q
  · rw [hn] at q
    cases q0 : valV kvs k with
    | some v =>
      rw [q0] at q
      exact (show False from q).elim
    | none =>
      have hl2 : (putK kvs k d).length ≤ sizeLine := by
        have := length_putK kvs k d
        omega
      obtain ⟨o, es, ep, hq, g2, g3, g4, _, g5⟩ := dd'
      refine h2 q0 _ _ (d_write (t' := s.toks + _) I (by rw [e]; exact True.intro) hs ⟨o, hq⟩ ⟨hl2, hd, _, (rel.put k eb rd).keeps fun c ys ec => ?_, o, es, ep, hq, g2, g3, g4, g5⟩) rd
      rw [upd_ne (ne_of ec e (fun z => nomatch z))]
      exact ec
end
/-- d.setdefault(y, z), the keys tuples -/
def tDSetdT (td ty tx : TE) : TE := fun σ H Q => td σ H fun x H1 => ∃ a, x = .ref a ∧ IsD H1 a ∧ ty σ H1 fun y H2 => tx σ H2 fun z H3 => ∃ (kvs : List (List Key × V)) (k : List Key) (b : Addr), H3 a = some (.dT kvs) ∧ y = .ref b ∧ H3 b = some (.tup (k.map kV)) ∧ kvs.length < sizeLine ∧
  (∀ v, valV kvs k = some v → Q v H3) ∧ (valV kvs k = none → Q z (upd H3 a (.dT (putK kvs k z))))
section
variable {X : Cx} {o e f : Expr} {td ty tx : TE} {apos cpos : Pos}
theorem pe_dsetdT (hu : X.A.units + 1 < cLine) (ho : PE X o td) (he : PE X e ty) (hf : PE X f tx) (m : M2 X o "setdefault" apos e f cpos) : PE X (.Call (.Attribute o "setdefault" apos) [e, f] [] cpos) (tDSetdT td ty tx) := by
  refine ⟨fun pins s σ H Q I h => ?_⟩
  refine wpAny_Call_method m.base m.few m.line PySem.F.plainAttrs_dict PySem.F.slot_dict_setdefault PySem.F.type_dict_setdefault (thn (ho.run pins s σ H _ I h) fun u s1 ⟨x, H1, I1, rx, a, ex, d, q1⟩ => ?_)
  subst ex
  obtain rfl : u = Value.ref a := rx
  obtain ⟨t1, t2, _⟩ := isD_at I1 d
  refine ⟨t1, t2, ?_⟩
  rw [m.trees]
  refine Calls.callWith_builtin rfl (Calls.evalArgs_plain (Calls.spliced_cons (thn (he.run pins s1 σ H1 _ I1 q1) fun iv s2 ⟨y, H2, I2, ry, q2⟩ =>
    Calls.spliced_cons (thn (hf.run pins s2 σ H2 _ I2 q2) fun fv s3 ⟨z, H3, I3, rz, kvs, k, b, ea, ey, eb, hl, q3, q4⟩ => Calls.spliced_nil ?_))))
  subst ey
  cases ry
  exact d_setdT hu I3 ea eb rz hl (fun v hv w' s4 I4 rw' => ⟨v, _, I4, rw', q3 v hv⟩) fun hn w' s4 I4 rw' => ⟨z, _, I4, rw', q4 hn⟩
end
end L2

set_option Elab.async false
set_option linter.all false
set_option maxRecDepth 100000
set_option maxHeartbeats 4000000
/-! zip of two texts, in a for and in a comprehension -/
namespace L2
open PySem PySem.Spec PyProof.Rows
/-- two texts at once, the signs in new pairs -/
def ItzS (x y : Str) : It :=
  ⟨fun i _ => i < min x.cps.size y.cps.size,
    fun i H v H' => ∃ T c d, v = .ref T ∧ H T = none ∧ H' = upd H T (.tup [.str ⟨#[c]⟩, .str ⟨#[d]⟩]) ∧ x.cps[i]? = some c ∧ y.cps[i]? = some d,
    fun i _ => i = min x.cps.size y.cps.size⟩
theorem turn_zipS {P : Program} {w : World} {K : PySem.W.Frag} {elts : List Expr} {kk : Nat} {tpos : Pos} {x y : Str} {t1 t2 : Tok} {z TI TO i1 i2 : Addr} (D : ZipSep2 z TI TO i1 i2 [i1] [i2]) :
    Turn P w K (.Tuple elts kk tpos) (ItzS x y) [z, TI, TO, i1, i2] z (fun i h => IsZip h z TI TO .none ∧ IsTupOf2 h TI (.ref i1) (.ref i2) ∧ (∃ x y, IsTupOf2 h TO x y) ∧ h.IsStrIter i1 (strIterType x) x t1 i ∧ h.IsStrIter i2 (strIterType y) y t2 i) where
  mem := by simp
  obj := fun i h st c hc => by
    obtain ⟨hz, hTI, ⟨x, y, hTO⟩, ⟨o1, e1, _, d1⟩, ⟨o2, e2, _, d2⟩⟩ := st
    have e' : c = z ∨ c = TI ∨ c = TO ∨ c = i1 ∨ c = i2 := by simpa using hc
    rcases e' with q | q | q | q | q
    · rw [q]; exact ⟨_, hz, fun v q => nomatch q⟩
    · rw [q]; exact ⟨_, hTI, fun v q => nomatch q⟩
    · rw [q]; exact ⟨_, hTO, fun v q => nomatch q⟩
    · rw [q]; exact ⟨o1, e1, fun v q => by rw [d1] at q; cases q⟩
    · rw [q]; exact ⟨o2, e2, fun v q => by rw [d2] at q; cases q⟩
  keep := fun i h h' st k => by
    obtain ⟨hz, hTI, ⟨x, y, hTO⟩, ⟨o1, e1, r1⟩, ⟨o2, e2, r2⟩⟩ := st
    exact ⟨k z (by simp) _ hz, k TI (by simp) _ hTI, ⟨x, y, k TO (by simp) _ hTO⟩, ⟨o1, k i1 (by simp) _ e1, r1⟩, ⟨o2, k i2 (by simp) _ e2, r2⟩⟩
  item := by
    intro X hP hw hK hc i pins s σ H E I hf st hg
    subst hP hw hK
    obtain ⟨hz, hTI, ⟨x0, y0, hTO⟩, h1, h2⟩ := st
    have hg' : i < min x.cps.size y.cps.size := hg
    have hzl : z < s.heap.objs.size := Heap.lt_size hz
    have hd := I.ok.hd hc
    refine wpAny_pyNext_zipD2_item D (Draws.text (A := X.A.in1) hd i1 x t1) (Draws.text (A := X.A.in1) hd i2 y t2) hz hTI hTO h1 h2 (by omega) (by omega) fun u u2 h' tk p1 p2 z' TO' h1' h2' hT hsz hk => ?_
    obtain ⟨c, tc, hcx, rfl⟩ := p1
    obtain ⟨d, td, hdy, rfl⟩ := p2
    refine ⟨_, rfl, wpAny_letOwnedTupleGo_zip (s := { s with heap := h', toks := tk }) z' fun h'' z'' sb => ?_⟩
    have hT2 : h''.get? s.heap.objs.size = some { cls := .type "tuple", data := .seq #[.str ⟨#[c]⟩ tc, .str ⟨#[d]⟩ td] } := (sb.2 _ (Nat.ne_of_gt hzl)).trans hT
    have new : ObjOk X.prog X.w (upd H s.heap.objs.size (.tup [.str ⟨#[c]⟩, .str ⟨#[d]⟩])) h'' s.heap.objs.size (.tup [.str ⟨#[c]⟩, .str ⟨#[d]⟩]) :=
      ⟨by show 2 ≤ sizeLine; decide, [.str ⟨#[c]⟩ tc, .str ⟨#[d]⟩ td], .cons ⟨_, rfl⟩ (.cons ⟨_, rfl⟩ .nil), ⟨_, hT2, rfl, _, rfl⟩⟩
    have I1 : Inv X pins σ (upd H s.heap.objs.size (.tup [.str ⟨#[c]⟩, .str ⟨#[d]⟩])) { s with heap := h'', toks := tk } :=
      I.turnedNew (t' := tk) (ch := [z, TI, TO, i1, i2]) (fun c o hb q => (sb.2 c (fun q' => hb (by simp [q']))).trans (hk c o (fun q' => hb (by simp [q'])) (fun q' => hb (by simp [q'])) (fun q' => hb (by simp [q'])) (fun q' => hb (by simp [q'])) q)) hf (Nat.le_refl _) new
    have nz1 : i1 ≠ z := D.zi1.symm
    have nz2 : i2 ≠ z := D.zi2.symm
    refine ⟨.ref s.heap.objs.size, _, I1, rfl, ⟨_, c, d, rfl, I.hok.fresh (Nat.le_refl _), rfl, hcx, hdy⟩, ⟨z'', ?_, ⟨_, _, (sb.2 _ D.TOz).trans TO'⟩, ?_, ?_⟩, fun c hcm => ?_⟩
    · exact (sb.2 _ D.TIz).trans (hk _ _ D.TIz D.TITO D.TIi1 D.TIi2 hTI)
    · obtain ⟨o, e, r⟩ := h1'
      exact ⟨o, (sb.2 _ nz1).trans e, r⟩
    · obtain ⟨o, e, r⟩ := h2'
      exact ⟨o, (sb.2 _ nz2).trans e, r⟩
    · have hlt : c < s.heap.objs.size := by
        have e' : c = z ∨ c = TI ∨ c = TO ∨ c = i1 ∨ c = i2 := by simpa using hcm
        rcases e' with q | q | q | q | q
        · rw [q]; exact hzl
        · rw [q]; exact Heap.lt_size hTI
        · rw [q]; exact Heap.lt_size hTO
        · rw [q]; obtain ⟨_, e1, _⟩ := h1; exact Heap.lt_size e1
        · rw [q]; obtain ⟨_, e2, _⟩ := h2; exact Heap.lt_size e2
      rw [upd_ne (Nat.ne_of_lt hlt)]
      exact (hf c hcm).1
  done := by
    intro X hP hw hK hc i pins s σ H E I hf st hg
    subst hP hw hK
    obtain ⟨hz, hTI, ⟨x0, y0, hTO⟩, h1, h2⟩ := st
    have hg' : i = min x.cps.size y.cps.size := hg
    have hd := I.ok.hd hc
    exact wpAny_pyNext_zipD2_end D (Draws.text (A := X.A.in1) hd i1 x t1) (Draws.text (A := X.A.in1) hd i2 y t2) hz hTI hTO h1 h2 (by omega) (by omega) (by omega) fun h' tk hk => ⟨rfl, I.turnedL (t' := tk) (ch := [z, TI, TO, i1, i2]) (fun c o hb q =>
      hk c o (fun q' => hb (by simp [q'])) (fun q' => hb (by simp [q'])) (fun q' => hb (by simp [q'])) (fun q' => hb (by simp [q'])) q) hf⟩
  self := fun A i s Q E st h => wpAny_pyIter_zip st.1 h
def iZipS (ta : TA) : TI := fun σ H R => ta σ H fun vs H1 => ∃ x y, vs = [.str x, .str y] ∧ R (ItzS x y) H1
theorem pi_zipS {X : Cx} {e e2 : Expr} {ta : TA} {p pos tpos : Pos} {elts : List Expr} {kk : Nat} (hg : Gl X "zip") (hm : X.mg "zip" = none) (ha : PA X [e, e2] ta)
    (hs : starEach [e, e2] X.env = (false, eval e X.env) :: starEach [e2] X.env := by rfl) (hpl : (backTo pos (starEach [e2] X.env)).any (·.1) = false := by rfl) :
    PI X (.Tuple elts kk tpos) (.Call (.Name "zip" p) [e, e2] [] pos) (iZipS ta) := by
  refine ⟨fun pins s σ H R I h => ?_⟩
  refine Call_ (ld_blt I hg hm PyProof.Rows.boot_zip (PyProof.Rows.callWith_type1 (thn (ha.run pos pins s σ H _ I h) fun us s1 ⟨vs, H1, I1, r1, q1⟩ => ?_) hs hpl))
  obtain ⟨x, y, ex, q⟩ := q1
  subst ex
  cases r1 with
  | cons r rr =>
    cases rr with
    | cons r' rr =>
      cases rr
      obtain ⟨t1, rfl⟩ := r
      obtain ⟨t2, rfl⟩ := r'
      refine zip_begins2 (begins_text x t1) (begins_text y t2) trivial trivial fun h' hz hTI hTO h1 h2 hsz hk => wpAny_pyIter_zip hz ?_
      have I2 : Inv X pins σ H1 { s1 with heap := h' } := I1.kept (t' := s1.toks) hk
      generalize hn : s1.heap.objs.size = n at hz hTI hTO h1 h2 hsz ⊢
      have D : ZipSep2 (n + 4) (n + 2) (n + 3) n (n + 1) [n] [n + 1] := by constructor <;> simp <;> omega
      refine ⟨n + 4, [n + 4, n + 2, n + 3, n, n + 1], _, _, H1, rfl, I2, turn_zipS (t1 := t1) (t2 := t2) D, ⟨hz, hTI, ⟨_, _, hTO⟩, ⟨_, h1, rfl, rfl⟩, ⟨_, h2, rfl, rfl⟩⟩, fun c hcm => ?_, q⟩
      have e' : c = n + 4 ∨ c = n + 2 ∨ c = n + 3 ∨ c = n ∨ c = n + 1 := by simpa using hcm
      have hle : s1.heap.objs.size ≤ c := by
        rw [hn]
        rcases e' with q | q | q | q | q
        · rw [q]; exact Nat.le_add_right _ _
        · rw [q]; exact Nat.le_add_right _ _
        · rw [q]; exact Nat.le_add_right _ _
        · rw [q]; exact Nat.le_refl _
        · rw [q]; exact Nat.le_add_right _ _
      exact I1.fpOk hle (I1.hok.fresh hle)
end L2

set_option Elab.async false
set_option linter.all false
set_option maxRecDepth 100000
set_option maxHeartbeats 4000000
/-! x != y of two objects of a class with an own __eq__ and no __ne__ -/
namespace HN
open PySem PySem.Spec PyProof.Rows PySem.SeqAt
section
variable {M : Model} {prog : Program} {w : World} {A : Around} {E : Value → Shared → Prop} {s : Shared} {K : PySem.W.Frag} {x C f : Addr} {ox : Obj} {od : Option Obj} {b tb : Value}
theorem ifBound_objNe {args : List Value} {Q : Option Value → Shared → Prop} (X : K.In s.heap) (I : PySem.W.InstAt s.heap x ox C od) (hs : PySem.W.findIn K (.ref C) "__ne__" = some (some (.builtin "object.__ne__")))
    (h : wpAny M A (call (.builtin "object.__ne__") (.ref x :: args)) (fun v => Q (some v)) E s) : wpAny M A (callSpecialIfBound? (.ref x) "__ne__" args) Q E s := by
  simp only [callSpecialIfBound?, bindSpecialIfBound?]
  refine wpAny_holding (wpAny_bind (wpAny_bind (wpAny_bind (I.type.here ((PySem.W.looks_findIn X hs).here ?_)))))
  refine wpAny_bind (wpAny_askSetting (wpAny_ite ?_))
  have fin : wpAny M A (call (.builtin "object.__ne__") ([.ref x] ++ args) >>= fun v => pure (some v)) Q E s := wpAny_bind (wpAny_mono h (fun v s' h' => wpAny_pure h') fun _ _ h' => h')
  split
  · exact wpAny_bind (wpAny_of_eq (F.cmp_object.ne.bind _) (wpAny_pure (by exact fin)))
  · exact wpAny_tryCatch (wpAny_bind (wpAny_of_eq (F.cmp_object.ne.bind _) (wpAny_pure (by exact fin))))
/-- what object.__ne__ does, where the class's own __eq__ says True -/
theorem entry_ne {R : Fin → Shared → Prop} (hu : A.units < cLine) (X : K.In s.heap) (I : PySem.W.InstAt s.heap x ox C od) (hs : PySem.W.findIn K (.ref C) "__eq__" = some (some (.ref f))) (hf : PySem.W.isFn K (.ref f) = true)
    (h : wpAny M A (call (.ref f) [.ref x, b]) (fun v s' => v = .bool true ∧ R (.done (.ret (.bool false))) s') E s) : wpAny M A (Builtin.«object.__ne__» ⟨[.ref x, b], []⟩) R E s := by
  unfold Builtin.«object.__ne__»
  have q : wpAny M A (callSpecialIfBound? (.ref x) "__eq__" [b]) (fun r s' => r = some (.bool true) ∧ R (.done (.ret (.bool false))) s') E s :=
    PySem.W.ifBound_K X I hs hf (wpAny_mono h (fun v s' ⟨e, z⟩ => ⟨by rw [e], z⟩) fun _ _ z => z)
  repeat (first | with_reducible refine wpAny_cRoomFor hu ?_ | with_reducible refine wpAny_bind (wpAny_mono q (fun r s' ⟨e, z⟩ => ?_) fun _ _ z => z) | wp_step)
  subst e
  refine wpAny_bind (wpAny_truthy_bool ?_)
  exact wpAny_pure z
theorem call_objNe {Q : Value → Shared → Prop} (hu : A.in1.units < cLine) (X : K.In s.heap) (I : PySem.W.InstAt s.heap x ox C od) (hm : PySem.W.mroIn K C (.type "object") = some true) (hs : PySem.W.findIn K (.ref C) "__eq__" = some (some (.ref f))) (hf : PySem.W.isFn K (.ref f) = true)
    (h : wpAny (model prog w) A.in1 (call (.ref f) [.ref x, b]) (fun v s' => v = .bool true ∧ Q (.bool false) s') E s) :
    wpAny (model prog w) A (call (.builtin "object.__ne__") [.ref x, b]) Q E s :=
  wpAny_call (codeAny_call_builtin F.cmp_object.ne.plain F.cmpEntry_ne (PySem.W.check_slot F.cmpKind_ne F.cmpSplit_ne (I.type.andThen (PySem.W.looks_mroIn X hm)) (F.cmpArgs_ne _ _) (entry_ne hu X I hs hf h)))
theorem rc_ne {L : Addr} {h₀ : Heap} {m : Str → Option Value} {Q : Value → Shared → Prop} (hu : A.units < cLine) (hu1 : A.in1.units < cLine) (F : Fr h₀ L s.heap m) (X₀ : K.In h₀) (I : PySem.W.InstAt s.heap x ox C od) (hb : PySem.W.Looks (model prog w) s.heap (typeOf b) tb) (hn : PySem.W.notFirst K C tb = true)
    (hm : PySem.W.mroIn K C (.type "object") = some true) (hne : PySem.W.findIn K (.ref C) "__ne__" = some (some (.builtin "object.__ne__"))) (hs : PySem.W.findIn K (.ref C) "__eq__" = some (some (.ref f))) (hf : PySem.W.isFn K (.ref f) = true)
    (h : wpAny (model prog w) A.in1 (call (.ref f) [.ref x, b]) (fun v s' => v = .bool true ∧ Q (.bool false) s') E s) : wpAny (model prog w) A (richCompare .NotEq (.ref x) b) Q E s := by
  have X := X₀.keeps F.keep
  have one : wpAny (model prog w) A (tryCompare (.ref x) (cmpInfo .NotEq).2.1 b) (fun r s' => ∃ v, r = some v ∧ Q v s') E s := by
    unfold tryCompare
    refine wpAny_bind (ifBound_objNe X I hne (call_objNe hu1 X I hm hs hf (wpAny_mono h (fun v s' hv => ?_) fun _ _ e => e)))
    exact ⟨hv.1, wpAny_pure ⟨_, rfl, hv.2⟩⟩
  unfold richCompare
  simp only [oneThing_ref]
  refine wpAny_holding (wpAny_bind (wpAny_cRoomFor hu ?_))
  refine wpAny_bind (I.type.here (wpAny_bind (hb.here ?_)))
  split
  · rename_i q
    have e : PySem.W.subIn K tb (.ref C) = some false := by
      rcases Bool.or_eq_true_iff.mp hn with e | e
      · rw [beq_iff_eq.mp e] at q; simp at q
      · exact beq_iff_eq.mp e
    refine wpAny_bind ((PySem.W.looks_subIn X e).here ?_)
    simp only [Bool.false_eq_true, if_false]
    refine wpAny_bind (wpAny_mono one (fun r s' z => ?_) fun _ _ e => e)
    obtain ⟨v, rfl, hq⟩ := z
    exact wpAny_pure hq
  · refine wpAny_bind (wpAny_pure ?_)
    simp only [Bool.false_eq_true, if_false]
    refine wpAny_bind (wpAny_mono one (fun r s' z => ?_) fun _ _ e => e)
    obtain ⟨v, rfl, hq⟩ := z
    exact wpAny_pure hq
end
end HN
namespace L2
open PySem PySem.Spec PyProof.Rows
section
variable {X : Cx} {n : Nat}
def rNeG (D : Eqv) : R2 := fun x y H Q => D x y H ∧ ∀ H', Ext H H' → Q (.bl false) H'
/-- x != y, two objects of the class at C, equal by its own __eq__ -/
theorem op_neG {CX : CXT} {C f : Addr} {fd : FuncData} {ps : List Str} {R : Addr → Addr → Hp → Prop} {E : XK} (F : FnOk X.prog X.w X.K X.mg X.base CX n f fd ps (spEq R))
    (hs : PySem.W.findIn X.K (.ref C) "__eq__" = some (some (.ref f))) (hf : PySem.W.isFn X.K (.ref f) = true) (hne : PySem.W.findIn X.K (.ref C) "__ne__" = some (some (.builtin "object.__ne__"))) (hm : PySem.W.mroIn X.K C (.type "object") = some true)
    (hb : Binds X.K fd ps []) (hx : Passes CX X E) (hr : Room (n + 1) X.A) : OpR X (compareOp .NotEq) (rNeG (DIns C R)) := by
  intro pins s σ H x y u v Q I rx ry hq
  obtain ⟨⟨a, b, dx, dy, fs, gs, rfl, rfl, ha, hb', hr'⟩, q⟩ := hq
  cases rx
  cases ry
  have sb : Sub X n X.A.in1 := Sub.in1 ⟨hr, rfl⟩
  obtain ⟨mA, J, _⟩ := ins_get I.hok ha
  obtain ⟨mB, J', _⟩ := ins_get I.hok hb'
  obtain ⟨od, J, _⟩ := J.look
  obtain ⟨od', J', _⟩ := J'.look
  obtain ⟨m, hF⟩ := I.fr
  show wpAny (model X.prog X.w) X.A (richCompare .NotEq (.ref a) (.ref b)) (EP X pins σ Q) X.xe s
  refine HN.rc_ne (tb := .ref C) hr.units0 sb.room.units0 hF I.ok.mod.kin J J'.type (by simp [PySem.W.notFirst]) hm hne hs hf ?_
  have hsp : spEq R [.ref a, .ref b] H (fun v H' => v = .bl true ∧ Ext H H') E := ⟨a, b, rfl, hr', fun H' e => ⟨rfl, e⟩⟩
  have e0 : Env0 X.prog X.w X.K X.mg X.base X.A.in1 X.stack s H := by
    have e := I.env0
    exact ⟨by rw [sb.fr]; exact e.frames, e.mod, e.bs, e.bsz, e.funs, e.frf, e.hok, e.bare⟩
  have hl := F.len _ _ _ _ hsp
  have r2 : Vals [V.ref a, V.ref b] [Value.ref a, Value.ref b] := .cons rfl (.cons rfl .nil)
  refine wpAny_call (codeAny_mono (F.run X.A.in1 X.stack s H ⟨[.ref a, .ref b], []⟩ [.ref a, .ref b] [.ref a, .ref b] _ E sb.room e0 (by
    have := hb s [.ref a, .ref b] I.kIn (by simpa using hl)
    simpa using this) r2 hsp) fun r s' hq => ?_)
  cases r with
  | error e => exact hx pins σ H s e s' I hq
  | ok fl =>
    cases fl with
    | ret w =>
      obtain ⟨z, H', I', rz, ez, ex⟩ := I.after hq
      subst ez
      cases rz
      exact ⟨rfl, .bl false, H', I', rfl, q H' ex⟩
    | next => exact False.elim hq
    | brk => exact False.elim hq
    | cont => exact False.elim hq
end
end L2

set_option Elab.async false
set_option linter.all false
set_option maxRecDepth 100000
set_option maxHeartbeats 4000000
/-! sorted(a dict whose keys are tuples of ints and texts): its keys, ascending -/
namespace L2
open PySem PySem.Spec PyProof.Rows
def vK : V → Key
  | .int i => .inl i
  | .str x => .inr x
  | _ => .inl 0
theorem vK_kV : ∀ ks : List Key, (ks.map kV).map vK = ks
  | [] => rfl
  | .inl i :: r => by
    show vK (.int i) :: (r.map kV).map vK = _
    rw [vK_kV r]; rfl
  | .inr x :: r => by
    show vK (.str x) :: (r.map kV).map vK = _
    rw [vK_kV r]; rfl
/-- the cells of the tuple at t -/
def keyA (H : Hp) (t : Addr) : List Key := match H t with
  | some (.tup xs) => xs.map vK
  | _ => []
theorem keyA_of {H : Hp} {t : Addr} {k : List Key} (h : H t = some (.tup (k.map kV))) : keyA H t = k := by
  unfold keyA
  rw [h]
  exact vK_kV k
def keyU (H : Hp) : Value → List Key
  | .ref t => keyA H t
  | _ => []
theorem paired_map {H : Hp} : ∀ cs : List Addr, (∀ c ∈ cs, H c = some (.tup ((keyA H c).map kV))) → Paired (fun (k : List Key) c => H c = some (.tup (k.map kV))) (cs.map (keyA H)) cs
  | [], _ => .nil
  | c :: r, h => .cons (h c (by simp)) (paired_map r fun d hd => h d (List.mem_cons_of_mem _ hd))
theorem isKeys_keyA {H : Hp} {kvs : List (List Key × V)} {bs : List Addr} (h : IsKeys H kvs bs) : bs.map (keyA H) = kvs.map (·.1) ∧ (∀ c ∈ bs, H c = some (.tup ((keyA H c).map kV))) ∧ (∀ c ∈ bs, ∃ p ∈ kvs, keyA H c = p.1) := by
  unfold IsKeys at h
  induction h with
  | nil => exact ⟨rfl, fun _ h => (nomatch h), fun _ h => (nomatch h)⟩
  | @cons p b kvs bs hh t ih =>
    have e := keyA_of hh
    refine ⟨by rw [List.map_cons, List.map_cons, e, ih.1], fun c hc => ?_, fun c hc => ?_⟩
    · rcases List.mem_cons.mp hc with rfl | hc
      · rw [e]; exact hh
      · exact ih.2.1 c hc
    · rcases List.mem_cons.mp hc with rfl | hc
      · exact ⟨p, by simp, e⟩
      · obtain ⟨q, hq, e⟩ := ih.2.2 c hc
        exact ⟨q, List.mem_cons_of_mem _ hq, e⟩
def refU : Value → Addr
  | .ref t => t
  | _ => 0
def rSortedDT : List V → Hp → VK → Prop := fun vs H Q => ∃ (d : Addr) (kvs : List (List Key × V)) (b : Bool) (S : List Bool), vs = [V.ref d] ∧ Rd H d (.dT kvs) ∧ (∀ p ∈ kvs, p.1.map Sum.isLeft = b :: S) ∧
  ∀ (cs : List Addr) (ks : List (List Key)) (p : Addr), Paired (fun (k : List Key) c => H c = some (.tup (k.map kV))) ks cs → ks.Pairwise (fun x y => SrtC.lexC y x = false) → ks.Perm (kvs.map (·.1)) → H p = none → Q (.ref p) (upd H p (.lst (cs.map V.ref)))
theorem cr_sortedDT {X : Cx} (hc : X.calm = true) : CallR X (.builtin "sorted") rSortedDT := by
  intro pins s σ H vs us Q I r h
  obtain ⟨d, kvs, b, S, rfl, hd, hsh, q⟩ := h
  obtain ⟨u, rfl, rx⟩ := r.one
  cases rx
  obtain ⟨z, hs, ks, pr, o, es, ep, ho, hx, hdt, he, hn⟩ := (show ObjOk X.prog X.w H s.heap d (.dT kvs) from hd.ok I.hok)
  have l1 : es.size = ks.length := size_of_entries he
  have l2 : kvs.length = ks.length := Paired.length pr
  refine Calls.call_function_entry kind_sorted plain_sorted entry_sorted (args_sorted1 _) ?_
  unfold Builtin.«sorted»
  refine wpAny_bind (m := checkCount "sorted" 1 1 _) (wpAny_pure ?_)
  refine wpAny_bind (PySem.W.kdu_collect (A := X.A.in1) (kdl_raw hs hx hdt) (I.ok.hd hc) ho (by omega) fun h' tk acc' kp it => ?_)
  have ea : acc'.toList = ks.map fun x => Value.ref x.2.1 := by
    have hl : acc'.toList.length = ks.length := by rw [Array.length_toList, it.1]; exact l1
    apply List.ext_getElem?
    intro j
    rw [List.getElem?_map]
    cases hj : acc'.toList[j]? with
    | none =>
      have h1 := List.getElem?_eq_none_iff.mp hj
      rw [List.getElem?_eq_none (by omega)]
      all_goals rfl
    | some v =>
      obtain ⟨en, hen, hv⟩ := it.2 j v (by rw [← Array.getElem?_toList]; exact hj)
      have qe := entry_at he j
      rw [hen] at qe
      cases hb : ks[j]? with
      | none =>
        rw [hb] at qe
        exact nomatch (show some en = none from qe)
      | some b =>
        rw [hb] at qe
        have e2 : en = entryOfKey (tupleKind (mixKind X.prog X.w)) b := Option.some.inj qe
        rw [hv, e2]
        all_goals rfl
  have eb : acc'.toList = (ks.map fun x => x.2.1).map Value.ref := by rw [ea, List.map_map]; all_goals rfl
  have IK := isKeys_of pr
  have lb : (ks.map fun x => x.2.1).length = kvs.length := by rw [List.length_map, l2]
  generalize (ks.map fun x => x.2.1) = bs at *
  obtain ⟨k1, k2, k3⟩ := isKeys_keyA IK
  have hvl : acc'.toList.length = kvs.length := by rw [eb, List.length_map, lb]
  generalize acc'.toList = vs at *
  have hvz : vs.length ≤ sizeLine := by omega
  have hp : ∀ v ∈ vs, SrtC.IsC h' v (keyU H v) ∧ (keyU H v).map Sum.isLeft = b :: S := fun v hv => by
    rw [eb] at hv
    obtain ⟨t, ht, rfl⟩ := List.mem_map.mp hv
    obtain ⟨p, hp, e⟩ := k3 t ht
    have ht2 := k2 t ht
    obtain ⟨its, r2, hT, _⟩ := I.tuple (SqT.of ht2)
    refine ⟨SrtC.IsC.keeps (h := s.heap) ⟨t, its, rfl, r2, hT⟩ fun b o e _ => kp b o e, ?_⟩
    show (keyA H t).map Sum.isLeft = _
    rw [e]
    exact hsh p hp
  refine wpAny_bind (wpAny_newList ?_ hvz)
  have hoL : (h'.push (seqObj "list" vs.toArray 0)).get? h'.objs.size = some (seqObj "list" vs.toArray 0) := Heap.get?_push_size _ rfl
  refine wpAny_bind (wpAny_holding (wpAny_call_entry slot_list_sort ⟨_, hoL, rfl⟩ entry_list_sort (SrtO.list_sort_ord (SrtC.swo_lexC (keyU H)) hoL hvz (fun h2 => SrtC.cells_sortable (by omega) (fun v hv => ⟨(hp v hv).1.keeps fun b o e _ => Heap.get?_push_of_some _ e, (hp v hv).2⟩) fun o e => ?_) fun out h1 h2 => ⟨.none, rfl, ?_⟩) (args_list_sort _)))
  · obtain rfl : o = seqObj "list" vs.toArray 0 := Option.some.inj (e.symm.trans hoL)
    intro c
    exact absurd (Value.type.inj c) (by decide)
  · obtain ⟨c, hcc⟩ := sortedHeap_at (vs := vs) (out := out.toArray) hoL
    have I0 : Inv X pins σ H { s with heap := h', toks := tk } := I.kept kp
    have old : ∀ b u, h'.get? b = some u → (sortedHeap (h'.push (seqObj "list" vs.toArray 0)) h'.objs.size vs out.toArray).get? b = some u := fun b u e => by
      have hlt := Heap.lt_size e
      rw [sortedHeap_old (Nat.ne_of_lt hlt) (by rw [size_push']; exact Nat.lt_succ_of_lt hlt)]
      exact Heap.get?_push_of_some _ e
    have hout : out = (out.map refU).map Value.ref := by
      rw [List.map_map]
      conv => lhs; rw [← List.map_id out]
      refine List.map_congr_left fun v hv => ?_
      have hv := h2.perm.mem_iff.mp hv
      rw [eb] at hv
      obtain ⟨t, _, rfl⟩ := List.mem_map.mp hv
      rfl
    have hpm : (out.map refU).Perm bs := by
      have := h2.perm.map refU
      rw [eb, List.map_map] at this
      have e : List.map (refU ∘ Value.ref) bs = bs := by
        conv => rhs; rw [← List.map_id bs]
        exact List.map_congr_left fun _ _ => rfl
      rwa [e] at this
    generalize out.map refU = cs at *
    subst hout
    have hcz : (cs.map V.ref).length ≤ sizeLine := by rw [List.length_map, hpm.length_eq, lb]; omega
    refine wpAny_pure ⟨_, rfl, .ref h'.objs.size, upd H h'.objs.size (.lst (cs.map V.ref)), I0.laid (t' := tk) old (Nat.le_refl _) (show ObjOk X.prog X.w _ _ _ (.lst (cs.map V.ref)) from ⟨hcz, cs.map Value.ref, c, vals_refs cs, hcc⟩), rfl, ?_⟩
    refine q cs (cs.map (keyA H)) _ (paired_map cs fun c hc => k2 c (hpm.mem_iff.mp hc)) ?_ ?_ (I0.hok.fresh (Nat.le_refl _))
    · exact List.pairwise_map.mpr (List.pairwise_map.mp h1)
    · rw [← k1]
      exact hpm.map _
end L2

set_option Elab.async false
/-! comparisons of data within a block: K is named -/
namespace L2
open PySem
theorem hu65 {k : Nat} {A : Around} (r : Room k A) : A.units + 65 < cLine := by have := r.un; omega
section
variable {X : Cx} {K : PySem.W.Frag}
theorem op_inDK (hK : X.K = K) (hu : X.A.units + 65 < cLine) : OpR X (compareOp .In) (rInD K) := by
  subst hK
  exact op_inD hu
theorem op_notInDK (hK : X.K = K) (hu : X.A.units + 65 < cLine) : OpR X (compareOp .NotIn) (rNotInD K) := by
  subst hK
  exact op_notInD hu
theorem op_eqDK (hK : X.K = K) (hu : X.A.units + 64 < cLine) : OpR X (compareOp .Eq) (rEqD K) := by
  subst hK
  exact op_eqD hu
theorem op_neDK (hK : X.K = K) (hu : X.A.units + 64 < cLine) : OpR X (compareOp .NotEq) (rNeD K) := by
  subst hK
  exact op_neD hu
end
end L2

set_option Elab.async false
/-! membership in a list or a tuple of data -/
namespace L2
open PySem PySem.Spec PyProof.Rows
def rInT (K : PySem.W.Frag) : R2 := fun x y H Q => ∃ dx dys, Dp K H x dx ∧ Dp K H y (.tuple dys) ∧ SeqAt.shaped dx = true ∧ SeqAt.shaped (.tuple dys) = true ∧ Q (.bl (dys.any fun z => PyData.eqv z dx)) H
section
variable {X : Cx} {K : PySem.W.Frag}
theorem op_inTK (hK : X.K = K) (room : X.A.units + 65 < cLine) : OpR X (compareOp .In) (rInT K) := by
  subst hK
  rintro pins s σ H x y xv yv Q inv rdx rdy ⟨dx, dys, px, py, shx, shy, go⟩
  obtain ⟨ax, readx⟩ := Dp.reads inv dx x xv px rdx
  obtain ⟨ay, ready⟩ := Dp.reads inv (.tuple dys) y yv py rdy
  refine SeqAt.in_tuple_reads ready readx (SeqAt.canLay_of_shaped shy) (SeqAt.canLay_of_shaped shx) ?_ ⟨.bl _, H, inv, rfl, go⟩
  exact room_in_shaped shx room
theorem op_either {op : Value → Value → Sem Value} {r1 r2 : R2} (h1 : OpR X op r1) (h2 : OpR X op r2) : OpR X op (fun x y H Q => r1 x y H Q ∨ r2 x y H Q) :=
  fun pins s σ H x y v u Q inv rx ry h => h.elim (h1 pins s σ H x y v u Q inv rx ry) (h2 pins s σ H x y v u Q inv rx ry)
end
end L2

set_option Elab.async false
set_option linter.all false
set_option maxRecDepth 100000
set_option maxHeartbeats 4000000
/-! d.items() where the keys are tuples: each pair a new tuple of the key's own tuple and the value -/
namespace L2
open PySem PySem.Spec PyProof.Rows
def ItemT (d : Addr) (o : Obj) (kvs : List (List Key × V)) : It :=
  ⟨fun i H => H d = some (.frz o (.dT kvs)) ∧ i < kvs.length,
    fun i H x H' => ∃ (T : Addr) (k : List Key) (v : V) (q : Addr), kvs[i]? = some (k, v) ∧ x = .ref T ∧ H T = none ∧ H q = some (.tup (k.map kV)) ∧ H' = upd H T (.tup [.ref q, v]),
    fun i H => H d = some (.frz o (.dT kvs)) ∧ kvs.length ≤ i⟩
section
variable {X : Cx} {pins : List (Addr × Obj)} {σ : L2.St} {H : Hp} {s : Shared} {d : Addr} {o : Obj}
/-- the locked dict's entries, keys and values -/
theorem lockedT {kvs : List (List Key × V)} (inv : Inv X pins σ H s) (at_ : H d = some (.frz o (.dT kvs))) :
    (d == sysModules) = false ∧ ∃ (es : Array DictEntry) (ep : Nat), o.data = .dict es ep ∧ s.heap.DictRaw d es ep ∧ es.size = kvs.length ∧
      ∀ (i : Nat) (k : List Key) (v : V), kvs[i]? = some (k, v) → ∃ (hi : i < es.size) (q : Addr), es[i].key = .ref q ∧ H q = some (.tup (k.map kV)) ∧ RelV v es[i].val := by
  obtain ⟨there, lz, notSys, rows, pair, o2, es, ep, ho2, exact_, data_, list_, _⟩ := inv.hok d _ at_
  rw [there] at ho2
  cases ho2
  have n1 : kvs.length = rows.length := Paired.length pair
  have n2 : es.size = rows.length := by
    have := congrArg List.length list_
    rwa [Array.length_toList, List.length_map] at this
  refine ⟨notSys, es, ep, data_, ⟨o, there, exact_, data_⟩, by omega, fun i k v e => ?_⟩
  obtain ⟨row, hrow, e1, e2, e3⟩ := paired_get pair e
  have hi : i < es.size := by
    have := (List.getElem?_eq_some_iff.mp hrow).1
    omega
  have en : es[i] = entryOfKey (tupleKind (mixKind X.prog X.w)) row := by
    have q : es.toList[i]? = some (entryOfKey (tupleKind (mixKind X.prog X.w)) row) := by rw [list_, List.getElem?_map, hrow]; rfl
    rw [Array.getElem?_toList, Array.getElem?_eq_getElem hi] at q
    exact Option.some.inj q
  refine ⟨hi, row.2.1, ?_, e2, ?_⟩
  · rw [en]; rfl
  · rw [en]; exact e3
end
section
variable {P : Program} {w : World} {K : PySem.W.Frag} {d : Addr} {o : Obj} {es : Array DictEntry} {ep : Nat}
theorem turn_itemsT {kvs : List (List Key × V)} {elts : List Expr} {kk : Nat} {tpos : Pos} (it : Addr) (hod : o.data = .dict es ep) (hsz : es.size = kvs.length) :
    Turn P w K (.Tuple elts kk tpos) (ItemT d o kvs) [it] it (fun i h => ∃ a b, IsItemIter h it d i es.size ep a b) where
  mem := List.mem_singleton.mpr rfl
  obj := by
    rintro i h ⟨a, b, at_⟩ c hc
    rw [List.mem_singleton.mp hc]
    exact ⟨_, at_, fun _ z => nomatch z⟩
  keep := by
    rintro i h h' ⟨a, b, at_⟩ k
    exact ⟨a, b, k it (List.mem_singleton.mpr rfl) _ at_⟩
  item := by
    rintro X rfl rfl rfl calm i pins s σ H E inv free ⟨a, b, at_⟩ ⟨lk, lt⟩
    obtain ⟨ns, es2, ep2, dat2, raw, sz, ent⟩ := lockedT inv lk
    obtain ⟨rfl, rfl⟩ := dict_ep hod dat2
    have hkv : kvs[i]? = some kvs[i] := List.getElem?_eq_getElem lt
    generalize hp : kvs[i] = kv at hkv
    obtain ⟨k, v⟩ := kv
    obtain ⟨hi, q, e1, e2, e3⟩ := ent i k v hkv
    have below : it < s.heap.objs.size := Heap.lt_size at_
    refine wpAny_pyNext_items_item_raw at_ raw hi fun h1 out1 tup1 size1 same1 => ?_
    refine ⟨_, rfl, wpAny_letOwnedTupleGo_items (s := { s with heap := h1 }) out1 fun h2 it2 but2 => ?_⟩
    have tup2 : h2.get? s.heap.objs.size = some { cls := .type "tuple", data := .seq #[es2[i].key, es2[i].val] } := (but2.2 _ (Nat.ne_of_gt below)).trans tup1
    have fresh : H s.heap.objs.size = none := inv.hok.fresh (Nat.le_refl _)
    have new : ObjOk X.prog X.w (upd H s.heap.objs.size (.tup [.ref q, v])) h2 s.heap.objs.size (.tup [.ref q, v]) :=
      ⟨show 2 ≤ sizeLine by decide, [es2[i].key, es2[i].val], .cons e1 (.cons e3 .nil), ⟨_, tup2, rfl, _, rfl⟩⟩
    have inv2 := inv.turnedNew (t' := s.toks) (ch := [it]) (fun b ob hb e => (but2.2 b (fun z => hb (List.mem_singleton.mpr z))).trans (same1 b ob (fun z => hb (List.mem_singleton.mpr z)) e)) free (Nat.le_refl _) new
    refine ⟨.ref s.heap.objs.size, _, inv2, rfl, ⟨_, k, v, q, hkv, rfl, fresh, e2, rfl⟩, ⟨_, _, it2⟩, fun b hb => ?_⟩
    rw [List.mem_singleton.mp hb, upd_ne (Nat.ne_of_lt below)]
    exact (free it (List.mem_singleton.mpr rfl)).1
  done := by
    rintro X rfl rfl rfl calm i pins s σ H E inv free ⟨a, b, at_⟩ ⟨lk, ge⟩
    obtain ⟨f0, f1, f2, f3, f4, f5⟩ := free it (List.mem_singleton.mpr rfl)
    obtain ⟨ns, es2, ep2, dat2, raw, sz, ent⟩ := lockedT inv lk
    obtain ⟨rfl, rfl⟩ := dict_ep hod dat2
    exact wpAny_pyNext_items_end_raw (inv.ok.hd calm) at_ raw (by omega) fun h' eb => ⟨rfl, inv.turned (t' := s.toks) (fun b ob hb e => eb b ob hb e) f0 f1 f3 f4 f5⟩
  self := fun A i s Q E st h => by
    obtain ⟨a, b, at_⟩ := st
    exact PySem.W.kcp_self at_ h
end
def iItemT (td : TE) : TI := fun σ H R => td σ H fun x H1 => ∃ d o kvs, x = .ref d ∧ H1 d = some (.frz o (.dT kvs)) ∧ R (ItemT d o kvs) H1
section
variable {X : Cx} {e : Expr} {td : TE} {apos cpos : Pos}
theorem pi_itemsT {elts : List Expr} {kk : Nat} {tpos : Pos} (he : PE X e td) (hbase : attributeBase e "items" X.env (eval e X.env) = eval e X.env := by rfl) (hline : (apos.endLine == cpos.line) = true := by rfl) :
    PI X (.Tuple elts kk tpos) (.Call (.Attribute e "items" apos) [] [] cpos) (iItemT td) := by
  constructor
  intro pins s σ H R inv h
  refine wpAny_Call_method (T := "dict") (id := "dict.items") hbase rfl hline F.plainAttrs_dict F.slot_dict_items F.type_dict_items (thn (he.run pins s σ H _ inv h) fun u s1 hu => ?_)
  obtain ⟨x, H1, inv1, rx, d, o, kvs, rfl, lk, go⟩ := hu
  cases (show u = Value.ref d from rx)
  obtain ⟨ns, es, ep, dat, raw, sz, _⟩ := lockedT inv1 lk
  refine ⟨raw.typeIs, ?_, ?_⟩
  · intro a e
    cases e
    obtain ⟨o', a1, a2, _⟩ := raw
    exact ⟨o', a1, a2.2.1⟩
  have big : Inv X pins σ H1 { s1 with heap := s1.heap.push { cls := .type "dict_items", data := .fields #[.ref d] } } := inv1.kept (t' := s1.toks) fun b ob q => Heap.get?_push_of_some _ q
  have raw2 : ({ s1 with heap := s1.heap.push { cls := .type "dict_items", data := .fields #[.ref d] } } : Shared).heap.DictRaw d es ep := raw.at fun o e => Heap.get?_push_of_some _ e
  have fin : wpAny (model X.prog X.w) X.A (pyIter (.ref s1.heap.objs.size)) (PIE X pins σ (.Tuple elts kk tpos) R) X.xe { s1 with heap := s1.heap.push { cls := .type "dict_items", data := .fields #[.ref d] } } :=
    wpAny_pyIter_items_raw (d := d) ⟨_, Heap.get?_push_size _ rfl, rfl, rfl⟩ raw2 (pi_one (tk := s1.toks) big _ (turn_itemsT _ dat sz) ⟨.none, .none, Heap.get?_push_size _ rfl⟩ go)
  show wpAny _ _ (callWith cpos (.builtin "dict.items") [.ref d] [] []) _ X.xe s1
  exact method_meetsIn F.slot_dict_items F.entry_dict_items rfl (PySem.evalArgs_none ⟨rfl, raw.typeIs, F.args_dict_items_1 _, _, meets_dict_items_raw d ns, ⟨es, ep, raw⟩, fin⟩)
theorem walk_itemsT {d : Addr} {o : Obj} {kvs : List (List Key × V)} : Walk (ItemT d o kvs) kvs.length (fun H => H d = some (.frz o (.dT kvs)))
    (fun i H x H' => ∃ (T : Addr) (k : List Key) (v : V) (q : Addr), kvs[i]? = some (k, v) ∧ x = .ref T ∧ H T = none ∧ H q = some (.tup (k.map kV)) ∧ H' = upd H T (.tup [.ref q, v])) :=
  ⟨fun _ _ lt at_ => ⟨at_, lt⟩, fun _ at_ => ⟨at_, Nat.le_refl _⟩, fun _ _ _ _ _ _ y => y⟩
end
end L2

set_option Elab.async false
set_option linter.all false
set_option maxRecDepth 100000
/-! a dict comprehension over whatever a Walk tells of; an expression whose rule is either of two -/
namespace L2
open PySem PySem.Spec PyProof.Rows
theorem pe_either {X : Cx} {e : Expr} {ta tb : TE} (ha : PE X e ta) (hb : PE X e tb) : PE X e (fun σ H Q => ta σ H Q ∨ tb σ H Q) :=
  ⟨fun pins s σ H Q I h => h.elim (ha.run pins s σ H Q I) (hb.run pins s σ H Q I)⟩
/-- an f-string, as a name of its own -/
def tJ (ts : List TE) : TE := fun σ H Q => tJs ts Str.empty σ H fun out H1 => Q (.str out) H1
theorem pe_joinT {X : Cx} {v1 v2 : Expr} {rest : List Expr} {ts : List TE} {pos : Pos} (h : PJ X (v1 :: v2 :: rest) ts) : PE X (.JoinedStr (v1 :: v2 :: rest) pos) (tJ ts) := pe_joined h
theorem dc_it {J : It} {n : Nat} {G : Hp → Prop} {Y : Nat → Hp → V → Hp → Prop} (w : Walk J n G Y) {g : TG} {tt : TT} {tk tv : TE} {vs : List Nat} {σ : St} {H1 : Hp} {D : Addr} {Qd : Hp → Prop} (Pv : Nat → Hp → Prop)
    (h0 : Pv 0 (upd H1 D (.dK []))) (hG : ∀ i H, i ≤ n → Pv i H → G H) (hs : ∀ i x H H', i < n → Pv i H → Y i H x H' → (g x (wipe σ vs) H' fun σ2 H2 => wipe σ2 vs = wipe σ vs ∧ tt σ2 H2 fun b H3 => if b = true then (tk σ2 H3 fun y H4 => tv σ2 H4 fun z H5 => ∃ kvs k, y = kV k ∧ H5 D = some (.dK kvs) ∧ kvs.length < sizeLine ∧ Pv (i + 1) (upd H5 D (.dK (putK kvs k z)))) else Pv (i + 1) H3)) (hd : ∀ H, Pv n H → Qd H) :
    ∃ W : Nat → Nat → Hp → Prop, (∃ m, W 0 m (upd H1 D (.dK []))) ∧ ∀ i m H, W i m H → (J.stop i H ∧ Qd H) ∨
      (J.go i H ∧ ∃ Nx : Hp → Prop, (∀ H', Nx H' → ∃ m', m' < m ∧ W (i + 1) m' H') ∧ ∀ x H', J.yld i H x H' → (g x (wipe σ vs) H' fun σ2 H2 => wipe σ2 vs = wipe σ vs ∧ tt σ2 H2 fun b H3 => if b = true then (tk σ2 H3 fun y H4 => tv σ2 H4 fun z H5 => ∃ kvs k, y = kV k ∧ H5 D = some (.dK kvs) ∧ kvs.length < sizeLine ∧ Nx (upd H5 D (.dK (putK kvs k z)))) else Nx H3)) := by
  refine ⟨fun i m H => (m = n - i ∧ i ≤ n) ∧ Pv i H, ⟨n, ⟨rfl, Nat.zero_le _⟩, h0⟩, ?_⟩
  rintro i m H ⟨⟨rfl, hi⟩, p⟩
  rcases Nat.lt_or_ge i n with hlt | hge
  · exact .inr ⟨w.goes i H hlt (hG i H hi p), Pv (i + 1), fun H' p' => ⟨n - (i + 1), by omega, ⟨rfl, hlt⟩, p'⟩, fun x H' y => hs i x H H' hlt p (w.yields i H x H' hlt (hG i H hi p) y)⟩
  · have e : n = i := Nat.le_antisymm hge hi
    subst e
    exact .inl ⟨w.stops H (hG _ H hi p), hd H p⟩
end L2

set_option Elab.async false
set_option linter.all false
set_option maxRecDepth 100000
set_option maxHeartbeats 4000000
/-! sets of texts: made of a list, made by a comprehension, in, len, sorted -/
namespace SetX
open PySem PySem.Spec PyProof.Rows L2 PpSet
/-- an entry's text -/
def txt (e : Int × Value) : Str := SrtC.tv e.2
def Ent (w : World) (e : Int × Value) : Prop := ∃ k tk, e.2 = Value.str k tk ∧ e.1 = hashStr w k
/-- the set of texts at a: S its members, n their number -/
structure At (w : World) (h : Heap) (a : Addr) (S : Str → Bool) (n : Nat) (o : Obj) (es : Array (Int × Value)) (ep : Nat) (t : SetTable) : Prop where
  get : h.get? a = some o
  ex : o.ExactSet
  dat : o.data = .set es ep t
  ent : ∀ e ∈ es.toList, Ent w e
  nd : (es.toList.map txt).Nodup
  mem : ∀ k, S k = true ↔ k ∈ es.toList.map txt
  room : es.size < scanBound
  fit : t.fits es.size = true
  num : es.size = n
  ris : Ris t.place.toList
  led : w.params.followText "set-order" = true ∨ t.led = true
def SetS (w : World) (h : Heap) (a : Addr) (S : Str → Bool) (n : Nat) : Prop := ∃ o es ep t, At w h a S n o es ep t
section
variable {P : Program} {w : World} {h h' : Heap} {a : Addr} {S S' : Str → Bool} {n : Nat}
theorem SetS.keep (R : SetS w h a S n) (k : ∀ o, h.get? a = some o → h'.get? a = some o) : SetS w h' a S n := by
  obtain ⟨o, es, ep, t, r⟩ := R
  exact ⟨o, es, ep, t, { r with get := k o r.get }⟩
theorem SetS.congr (R : SetS w h a S n) (e : ∀ k, S' k = S k) : SetS w h a S' n := by
  have q : S' = S := funext e
  rw [q]; exact R
theorem str_is (k : Str) (u : Tok) : (strKind P w).is k (.str k u) = true := by
  show Value.isStrOf k (.str k u) = true
  simp [Value.isStrOf]
theorem elems {l : List (Int × Value)} (g : ∀ e ∈ l, Ent w e) : ElemsOf (strKind P w) l := fun e he => by
  obtain ⟨k, tk, h1, h2⟩ := g e he
  exact ⟨⟨k, by rw [h1]; exact str_is k tk, h2⟩, by rw [h1] <;> rfl⟩
theorem ent_is {e : Int × Value} (g : Ent w e) (k : Str) : (strKind P w).is k e.2 = true ↔ txt e = k := by
  obtain ⟨k0, tk, h1, _⟩ := g
  unfold txt
  rw [h1]
  constructor
  · intro q
    exact (strKind P w).inj (.str k0 tk) k0 k (str_is k0 tk) q
  · intro q
    have q : k0 = k := q
    rw [← q]
    exact str_is k0 tk
theorem ent_mem {l : List (Int × Value)} (g : ∀ e ∈ l, Ent w e) (k : Str) : k ∈ l.map txt ↔ ∃ e ∈ l, (strKind P w).is k e.2 = true := by
  rw [List.mem_map]
  exact ⟨fun ⟨e, he, q⟩ => ⟨e, he, (ent_is (g e he) k).2 q⟩, fun ⟨e, he, q⟩ => ⟨e, he, (ent_is (g e he) k).1 q⟩⟩
theorem SetS.of (R : SetS w h a S n) : h.SetOf (strKind P w) a S n := by
  obtain ⟨o, es, ep, t, r⟩ := R
  exact ⟨o, es, ep, t, r.get, r.ex, r.dat, elems r.ent, fun k => (r.mem k).trans (ent_mem r.ent k), r.room, r.fit, r.num⟩
end
section
variable {P : Program} {w : World} {A : Around} {E : Value → Shared → Prop} {s : Shared} {a : Addr} {S : Str → Bool} {n : Nat}
theorem add_tail {g : Bool → Sem Unit} (hg : ∀ (b : Bool) (s₁ : Shared) (Q' : Unit → Shared → Prop), Q' () s₁ → wpAny (model P w) A (g b) Q' E s₁)
    {o : Obj} {es : Array (Int × Value)} {ep : Nat} {t : SetTable} (ho : s.heap.get? a = some o) (hex : o.ExactSet) (hd : o.data = .set es ep t)
    {es1 : Array (Int × Value)} {t2 : SetTable} {S' : Str → Bool} (g1 : ∀ e ∈ es1.toList, Ent w e) (nd1 : (es1.toList.map txt).Nodup) (m1 : ∀ k, S' k = true ↔ k ∈ es1.toList.map txt)
    (hb1 : es1.size < scanBound) (hf2 : t2.fits es1.size = true) (hr : Ris t2.place.toList) (hl : w.params.followText "set-order" = true ∨ t2.led = true) {wasDummy : Bool} {R : Option Bool → Shared → Prop}
    (hR : ∀ h', Heap.SameBut a s.heap h' → SetS w h' a S' es1.size → R (some true) { s with heap := h' }) :
    wpAny (model P w) A (do
        storeSet a es1 t2
        if (!wasDummy && t2.tooFull) = true then do
            g (relayAll t2 es1 (SetTable.grown es1.size)).2.2
            storeSet a (relayAll t2 es1 (SetTable.grown es1.size)).1 (relayAll t2 es1 (SetTable.grown es1.size)).2.1
            pure (some true)
          else pure (some true)) R E s := by
  have ho1 := storeB_at (es' := es1) (t' := t2) ho hd
  have sb1 := Heap.SameBut.update s.heap a (Obj.putSet es1 t2)
  refine wpAny_bind (wpAny_storeSet_of ho hd ?_ (fits_of_scanBound hb1))
  by_cases full : (!wasDummy && t2.tooFull) = true
  · rw [if_pos full]
    have pm := relayAll_perm t2 es1 (SetTable.grown es1.size)
    have hf3 := relayAll_fits t2 es1 (SetTable.grown es1.size)
    have hr3 := relayAll_ris t2 es1 (SetTable.grown es1.size)
    have hl3 := relayAll_led t2 es1 (SetTable.grown es1.size)
    generalize relayAll t2 es1 (SetTable.grown es1.size) = Z at pm hf3 hr3 hl3 ⊢
    obtain ⟨es2, t3, gave⟩ := Z
    dsimp only at pm hf3 hr3 hl3 ⊢
    have hsz : es2.size = es1.size := by simpa using pm.length_eq
    have hb2 : es2.size < scanBound := hsz ▸ hb1
    refine wpAny_bind (hg _ _ _ (wpAny_bind (wpAny_storeSet_of ho1 rfl ?_ (fits_of_scanBound hb2))))
    have ho2 := storeB_at (es' := es2) (t' := t3) ho1 rfl
    refine wpAny_pure (hR _ (sb1.trans (Heap.SameBut.update _ a _)) ?_)
    refine ⟨_, es2, _, t3, ho2, hex, rfl, ?_, ?_, ?_, ?_, ?_, ?_, ?_, ?_⟩
    · exact fun e he => g1 e (pm.mem_iff.mp he)
    · exact (pm.map txt).nodup_iff.mpr nd1
    · exact fun k => (m1 k).trans (pm.map txt).mem_iff.symm
    · exact hb2
    · exact hf3
    · exact hsz
    · exact hr3
    · exact hl.imp id fun z => by rw [hl3]; exact z
  · rw [if_neg full]
    exact wpAny_pure (hR _ sb1 ⟨_, es1, _, t2, ho1, hex, rfl, g1, nd1, m1, hb1, hf2, rfl, hr, hl⟩)
theorem add_hashed {k : Str} {tk : Tok} {Q : Bool → Shared → Prop} (R : SetS w s.heap a S n) (room : n + 1 < scanBound)
    (hQ : ∀ h', Heap.SameBut a s.heap h' → SetS w h' a (fun j => S j || decide (j = k)) (if S k = true then n else n + 1) → Q (!S k) { s with heap := h' }) :
    wpAny (model P w) A (setAddHashed a (.str k tk) (hashStr w k)) Q E s := by
  obtain ⟨o, es, ep, t, r⟩ := R
  have hel : ElemsOf (strKind P w) es.toList := elems r.ent
  have hsc : (Value.str k tk).scannable = true := rfl
  have hkey : (strKind P w).is k (.str k tk) = true := str_is k tk
  unfold setAddHashed setAddHashedIn
  refine wpAny_holding (wpAny_bind (wpAny_setState_of r.get r.dat r.fit ?_))
  dsimp only
  rw [byScan_of hsc r.room hel]
  simp only [↓reduceIte]
  unfold setAddByScan
  refine wpAny_bind (wpAny_bind (wpAny_rule (wpAny_bind (wpAny_setScan_of hkey r.get r.dat r.fit hel ?_))))
  cases hfi : List.findIdx? (fun e => (strKind P w).is k e.2) es.toList with
  | some j =>
    dsimp only
    obtain ⟨hj, pj, _⟩ := List.findIdx?_eq_some_iff_getElem.mp hfi
    have hSk : S k = true := (r.mem k).2 ((ent_mem (P := P) r.ent k).2 ⟨es.toList[j], List.getElem_mem hj, pj⟩)
    refine wpAny_pure (wpAny_pure ?_)
    have hm : ∀ i, (S i || decide (i = k)) = true ↔ i ∈ es.toList.map txt := fun i => by
      rw [Bool.or_eq_true, decide_eq_true_eq, ← r.mem i]
      exact ⟨fun z => z.elim id (fun e => e ▸ hSk), .inl⟩
    have hn : es.size = if S k = true then n else n + 1 := by
      rw [if_pos hSk]
      exact r.num
    have q := hQ s.heap (Heap.SameBut.refl a s.heap) ⟨o, es, ep, t, r.get, r.ex, r.dat, r.ent, r.nd, hm, r.room, r.fit, hn, r.ris, r.led⟩
    rw [hSk] at q
    exact q
  | none =>
    dsimp only
    have hnk : k ∉ es.toList.map txt := fun z => by
      obtain ⟨e, he, q⟩ := (ent_mem (P := P) r.ent k).1 z
      have c := List.findIdx?_eq_none_iff.mp hfi e he
      rw [q] at c
      cases c
    have hSk : S k = false := by
      cases q : S k with
      | false => rfl
      | true => exact absurd ((r.mem k).1 q) hnk
    have hgw : ∀ (b : Bool) {s₁ : Shared} {Q' : Unit → Shared → Prop}, Q' () s₁ → wpAny (model P w) A (match b with | true => rule "set.scan.the-table-gave-way" | false => pure ()) Q' E s₁ :=
      fun b s₁ Q' q => by cases b <;> first | exact wpAny_pure q | exact wpAny_rule q
    have pm := layNew_perm t es (hashStr w k) (.str k tk)
    have hf1 := layNew_fits t es (hashStr w k) (.str k tk)
    have hr1 := layNew_ris t es (hashStr w k) (.str k tk) r.ris
    have hl1 := layNew_led t es (hashStr w k) (.str k tk)
    show wpAny _ _ _ _ _ _
    have eh : (strKind P w).hash k = hashStr w k := rfl
    generalize layNew t es (hashStr w k) (.str k tk) = Z at pm hf1 hr1 hl1 ⊢
    obtain ⟨es1, t1, wasDummy, gave⟩ := Z
    dsimp only at pm hf1 hr1 hl1 ⊢
    rw [Array.toList_push] at pm
    have pc : es1.toList.Perm ((hashStr w k, Value.str k tk) :: es.toList) := pm.trans (List.perm_append_singleton _ _)
    have pk : (es1.toList.map txt).Perm (k :: es.toList.map txt) := pc.map txt
    have hsz : es1.size = n + 1 := by
      have := pc.length_eq
      rw [List.length_cons, Array.length_toList, Array.length_toList, r.num] at this
      exact this
    have hb1 : es1.size < scanBound := hsz ▸ room
    have g1 : ∀ e ∈ es1.toList, Ent w e := fun e he => by
      rcases List.mem_cons.mp (pc.mem_iff.mp he) with z | z
      · rw [z]; exact ⟨k, tk, rfl, rfl⟩
      · exact r.ent e z
    have nd1 : (es1.toList.map txt).Nodup := pk.nodup_iff.mpr (List.nodup_cons.mpr ⟨hnk, r.nd⟩)
    have m1 : ∀ i, (S i || decide (i = k)) = true ↔ i ∈ es1.toList.map txt := fun i => by
      rw [Bool.or_eq_true, decide_eq_true_eq, r.mem i, pk.mem_iff, List.mem_cons]
      exact Or.comm
    have hled : w.params.followText "set-order" = true ∨ t1.led = true := r.led.imp id fun z => by rw [hl1]; exact z
    have fin : ∀ h', Heap.SameBut a s.heap h' → SetS w h' a (fun j => S j || decide (j = k)) es1.size → Q true { s with heap := h' } := fun h' sb r => by
      have q := hQ h' sb
      rw [hSk] at q
      rw [hsz] at r
      exact q r
    refine wpAny_bind (hgw _ ?_)
    split
    · refine wpAny_bind ?_
      rw [hashByValue_scannable 8 hsc]
      refine wpAny_pure (add_tail ?_ r.get r.ex r.dat g1 nd1 m1 hb1 ?_ ?_ ?_ ?_)
      · intro b s₁ Q' q; cases b <;> first | exact wpAny_pure q | exact wpAny_rule q
      · first | (split <;> first | exact hf1 | exact SetTable.fits_plain_off hf1) | exact hf1
      · first | (split <;> exact hr1) | exact hr1
      · first | (split <;> exact hled) | exact hled
      · intro h' sb r; dsimp only; exact wpAny_pure (fin h' sb r)
    · refine wpAny_bind (wpAny_pure ?_)
      simp only [↓reduceIte]
      refine add_tail ?_ r.get r.ex r.dat g1 nd1 m1 hb1 hf1 hr1 hled ?_
      · intro b s₁ Q' q; cases b <;> first | exact wpAny_pure q | exact wpAny_rule q
      · intro h' sb r; dsimp only; exact wpAny_pure (fin h' sb r)
theorem add_call {k : Str} {tk : Tok} {Q : Value → Shared → Prop} (R : SetS w s.heap a S n) (room : n + 1 < scanBound)
    (hQ : ∀ h', Heap.SameBut a s.heap h' → SetS w h' a (fun j => S j || decide (j = k)) (if S k = true then n else n + 1) → Q .none { s with heap := h', toks := s.toks + 1 }) :
    wpAny (model P w) A (call (.builtin "set.add") [.ref a, .str k tk]) Q E s := by
  have hS : s.heap.SetOf (strKind P w) a S n := R.of
  refine wpAny_call_entry F.slot_set_add hS.typeIs F.entry_set_add ?_ (F.args_set_add_2 _ _)
  unfold Builtin.«set.add» Builtin.Frozenset.oneOther
  simp only [List.isEmpty_nil, bind_assoc]
  unfold Builtin.Frozenset.addrOf setAdd
  refine wpAny_bind (wpAny_pure ?_)
  try dsimp only
  refine wpAny_bind (wpAny_pure ?_)
  try dsimp only
  refine wpAny_bind (wpAny_holding (wpAny_bind ((strKind P w).pyHash (str_is k tk) ?_)))
  refine add_hashed (s := { s with toks := s.toks + 1 }) R room fun h' sb r => ?_
  show wpAny _ _ (ret Value.none) _ _ _
  exact wpAny_pure ⟨_, rfl, hQ h' sb r⟩
theorem led0 (w : World) : w.params.followText "set-order" = true ∨ (SetTable.fresh 0 0 (!w.params.followText "set-order")).led = true := by
  show _ ∨ (!w.params.followText "set-order") = true
  cases w.params.followText "set-order"
  · exact .inr rfl
  · exact .inl rfl
theorem fresh {h : Heap} {a : Addr} (w : World) (ho : h.get? a = some { cls := .type "set", dict := none, data := .set #[] 0 (.fresh 0 0 (!w.params.followText "set-order")) }) : SetS w h a (fun _ => false) 0 :=
  ⟨_, #[], 0, _, ho, ⟨rfl, rfl, rfl⟩, rfl, (fun e he => by simp at he), (by simp), (fun k => by simp), (by decide), (by rfl), rfl, List.Pairwise.nil, led0 w⟩
/-! ### set(a list of texts) -/
theorem upd_loop {I : Addr} {fp wr : List Addr} {G : Array GenState → Array GenState → Prop} {m : Nat} {Pv : Nat → Value → Prop} {St : Nat → Shared → Prop} {R : Result → Shared → Prop}
    (W : WalksS P w A.in1 I fp wr G m Pv St) (D : Addr) (hDf : D ∉ fp) (ss : List Str) (hn : m = ss.length) (hb : ss.length + 1 < scanBound) (hval : ∀ i v, Pv i v → ∃ k t, ss[i]? = some k ∧ v = .str k t) :
    ∀ (k i : Nat) (s : Shared), m - i = k → i ≤ m → St i s → (∃ c, c ≤ i ∧ SetS w s.heap D (fun j => decide (j ∈ ss.take i)) c) →
      (∀ s' c, Moved (D :: wr) G s s' → c ≤ m → SetS w s'.heap D (fun j => decide (j ∈ ss)) c → R (.ok (.ret .none)) s') →
      codeAny (model P w) A (.builtin "set.update.loop" ⟨[.ref D, .ref I], []⟩) R s := by
  have hDw : D ∉ wr := fun h => hDf (W.sub _ h)
  have more : ∀ b ∈ wr, b ∈ D :: wr := fun b hb => List.mem_cons_of_mem _ hb
  intro k
  induction k with
  | zero =>
    rintro i s hk' hi hst ⟨c, hc, hS⟩ hR
    obtain rfl : i = m := by omega
    refine codeAny_builtin F.entry_set_update_loop ?_
    rw [Around.under_plainId F.plain_set_update_loop _]
    show wpAny _ A.in1 (pyNext (.ref I) >>= _) _ _ s
    refine wpAny_bind (W.done s _ _ hst fun s' hm => ?_)
    show wpAny _ A.in1 (ret Value.none) _ _ s'
    rw [List.take_of_length_le (show ss.length ≤ i by omega)] at hS
    exact wpAny_pure (hR s' c (hm.mono more) hc (hS.keep fun o e => hm.heap D o hDw e))
  | succ k ih =>
    rintro i s hk' hi hst ⟨c, hc, hS⟩ hR
    have hlt : i < m := by omega
    refine codeAny_builtin F.entry_set_update_loop ?_
    rw [Around.under_plainId F.plain_set_update_loop _]
    show wpAny _ A.in1 (pyNext (.ref I) >>= _) _ _ s
    refine wpAny_bind (W.item i s _ _ hlt hst fun v s' hP hst' hm => ?_)
    obtain ⟨z, t, hz, rfl⟩ := hval i v hP
    have hS' : SetS w s'.heap D (fun j => decide (j ∈ ss.take i)) c := hS.keep fun o e => hm.heap D o hDw e
    show wpAny _ A.in1 (holding [Value.str z t] (setAdd D (.str z t)) >>= _) _ _ s'
    refine wpAny_bind (wpAny_holding ?_)
    unfold setAdd
    refine wpAny_holding (wpAny_bind ((strKind P w).pyHash (k := z) (str_is _ _) ?_))
    refine add_hashed (s := { s' with toks := s'.toks + 1 }) hS' (by omega) fun h' hsb hS2 => ?_
    have hS3 : SetS w h' D (fun j => decide (j ∈ ss.take (i + 1))) (if decide (z ∈ ss.take i) = true then c else c + 1) := hS2.congr fun j => by
      rw [List.take_add_one, hz]
      simp [List.mem_append]
    have hc3 : (if decide (z ∈ ss.take i) = true then c else c + 1) ≤ i + 1 := by
      split <;> omega
    refine wpAny_pure ⟨plainId_quiet F.plain_set_update_loop _, ih (i + 1) _ (by omega) hlt (W.frame _ s' _ _ hst' (Nat.le_succ _) fun b hb o e => ?_) ⟨_, hc3, hS3⟩ fun s'' c2 hm'' hc'' hS'' => ?_⟩
    · rw [hsb.2 b (fun h : b = D => hDf (by rw [← h]; exact hb))]; exact e
    · refine hR s'' c2 (Moved.trans W.gtrans ((hm.mono more).then_heap (Nat.le_succ _) fun b o hb e => ?_) hm'') hc'' hS''
      rw [hsb.2 b (fun h : b = D => hb (by rw [h]; exact List.mem_cons_self))]; exact e
theorem strs_get : ∀ {us : List Value} {ss : List Str}, StrsAre us ss → ∀ {i : Nat} {v : Value}, us[i]? = some v → ∃ k t, ss[i]? = some k ∧ v = .str k t
  | _, _, .nil, i, v, h => by simp at h
  | _, _, .cons x t r, 0, v, h => by
    obtain rfl := Option.some.inj h
    exact ⟨x, t, rfl, rfl⟩
  | _, _, .cons x t r, i + 1, v, h => strs_get r (i := i) h
theorem slen : ∀ {vs : List Value} {ss : List Str}, StrsAre vs ss → vs.length = ss.length
  | _, _, .nil => rfl
  | _, _, .cons _ _ r => congrArg (· + 1) (slen r)
/-- a new empty set -/
abbrev newO (w : World) : Obj := { cls := .type "set", dict := none, data := .set #[] 0 (.fresh 0 0 (!w.params.followText "set-order")) }
set_option maxHeartbeats 6400000 in
theorem call_list {l : Addr} {items : Array Value} (ss : List Str) {Q : Value → Shared → Prop} (hh : A.handled = none) (hl : s.heap.IsList l items) (hit : StrsAre items.toList ss) (hb : ss.length + 1 < scanBound)
    (h : ∀ (h' : Heap) (tk c : Nat), SetS w h' s.heap.objs.size (fun j => decide (j ∈ ss)) c → c ≤ ss.length → (∀ b o, s.heap.get? b = some o → h'.get? b = some o) → Q (.ref s.heap.objs.size) { s with heap := h', toks := tk }) :
    wpAny (model P w) A (call (.type "set") [.ref l]) Q E s := by
  have hisz : items.size = ss.length := by rw [← slen hit, Array.length_toList]
  obtain ⟨c, tl, hmro⟩ := F.called_set.mro
  have hmade := F.called_set.made
  have hsub := F.called_set.sub
  have h1 := F.called_set.notType
  have h2 := F.called_set.canCreate
  have hct := F.typeCall_set_1 (.ref l)
  refine wpAny_call (codeAny_of_tree ?_)
  show wpAny _ _ (callAny (.type "set") _) _ _ _
  refine wpAny_pure ⟨Code.quiet_builtin _ (by decide +kernel), codeAny_builtin F.entry_type_call ?_⟩
  rw [Around.under_plain (weight_type_call_type "set" [.ref l] []) rfl]
  repeat (any_goals (first | assumption | wp_step))

  refine codeAny_mono (code_set_led1 (.ref l) (E := E) (Q₁ := fun obj s₁ => obj = .ref s.heap.objs.size ∧ s₁ = { s with heap := s.heap.push (newO w) }) ⟨rfl, rfl⟩) fun r s₁ hr => ?_
  cases r with
  | error e => exact hr
  | ok fl =>
    cases fl with
    | ret obj =>
      obtain ⟨rfl, rfl⟩ := hr
      have hS : (s.heap.push (newO w)).get? s.heap.objs.size = some (newO w) := Heap.get?_push_size _ rfl
      have hT : Shared.TypeIs { s with heap := s.heap.push (newO w) } (.ref s.heap.objs.size) "set" := ⟨_, hS, rfl⟩
      have hli := F.called_set.init.lookup
      have hbi := F.called_set.init.bind (.ref s.heap.objs.size)
      repeat (any_goals (first | assumption | wp_step))

      refine codeAny_mono (codeAny_call_builtin (R := wants (fun r s₂ => r = .none ∧ ∃ h' tk c, s₂ = { s with heap := h', toks := tk } ∧ SetS w h' s.heap.objs.size (fun j => decide (j ∈ ss)) c ∧ c ≤ ss.length ∧
          (∀ b o, s.heap.get? b = some o → h'.get? b = some o)) E) F.called_set.init.plain F.entry_set_init (check_set_init_1 hT ?_)) fun r₂ s₂ hr₂ => ?_
      · obtain ⟨ol, hol, hcl, nl, hdl⟩ := hl
        obtain ⟨ocls, odict, odata, oslots⟩ := ol
        simp only at hcl hdl
        subst hcl; subst hdl
        have hol' : (s.heap.push (newO w)).get? l = some { cls := .type "list", dict := odict, data := .seq items nl, slots := oslots } := Heap.get?_push_of_some _ hol
        have hsls := F.sub_list_set
        have hslf := F.sub_list_frozenset
        have hne : (Value.type "list" == Value.type "dict") = false := by decide
        have hl1 : (s.heap.push (newO w)).IsList l items := ⟨_, hol', rfl, nl, rfl⟩
        unfold Builtin.«set.__init__» noKeywords Builtin.Frozenset.updateFrom
        generalize hPI : pyIter = PI
        wp_walk
        subst hPI

        refine wpAny_pyIter_list hl1 ?_
        refine wpAny_bind (wpAny_runValue ?_)
        have hlS : l < s.heap.objs.size := Heap.lt_size hol
        have hh3 : A.in1.in1.in1.handled = none := by simp [hh]
        have hneI : l ≠ (s.heap.push (newO w)).objs.size := by
          rw [Heap.size_push]; exact Nat.ne_of_lt (Nat.lt_succ_of_lt hlS)
        have hSf : s.heap.objs.size ∉ [(s.heap.push (newO w)).objs.size, l] := by
          rw [Heap.size_push]; simp only [List.mem_cons, List.mem_singleton, List.not_mem_nil, or_false, not_or]
          exact ⟨Nat.ne_of_lt (Nat.lt_succ_self _), Nat.ne_of_gt hlS⟩
        have hval : ∀ (i : Nat) (v : Value), items[i]? = some v → ∃ k t, ss[i]? = some k ∧ v = .str k t := fun i v hv => strs_get hit (by rw [Array.getElem?_toList]; exact hv)
        refine upd_loop ((Walks.list hh3 _ l hneI items).toS) s.heap.objs.size
          hSf ss hisz hb hval (items.size - 0) 0 _ (by omega) (Nat.zero_le _)
          ⟨⟨_, Heap.get?_push_size _ rfl, rfl, rfl⟩, (hl1.push _)⟩ ?hS0 ?hR
        case hS0 =>
          have hget : ((s.heap.push (newO w)).push { cls := .type "list_iterator", data := .fields #[.ref l, .int 0 0] }).get? s.heap.objs.size = some (newO w) := Heap.get?_push_of_some _ hS
          exact ⟨0, Nat.le_refl 0, (fresh w hget).congr fun j => by simp⟩
        case hR =>
          intro s' c' hm hc' hS'
          obtain ⟨h', g2, d', tk', os'⟩ := s'
          obtain rfl : g2 = s.gens := hm.gens
          obtain rfl : d' = s.drawn := hm.drawn
          obtain rfl : os' = s.os := hm.os
          show wpAny _ _ _ _ _ _
          refine wpAny_pure ?_
          show wpAny _ _ (ret Value.none) _ _ _
          rw [hisz] at hc'
          refine wpAny_pure ⟨rfl, h', tk', c', rfl, hS', hc', fun b o e => ?_⟩
          have hb0 : b < s.heap.objs.size := Heap.lt_size e
          have hb1 : b ≠ s.heap.objs.size := Nat.ne_of_lt hb0
          have hb2 : b ≠ (s.heap.push (newO w)).objs.size := by
            rw [Heap.size_push]; exact Nat.ne_of_lt (Nat.lt_succ_of_lt hb0)
          exact hm.heap b o (by simp only [List.mem_cons, List.mem_singleton, List.not_mem_nil, or_false, not_or]; exact ⟨hb1, hb2⟩) (Heap.get?_push_of_some _ (Heap.get?_push_of_some _ e))

      · cases r₂ with
        | error e => exact hr₂
        | ok fl₂ =>
          cases fl₂ with
          | ret r =>
            obtain ⟨rfl, h', tk, c', rfl, hS', hc', hk'⟩ := hr₂
            repeat (any_goals (first | assumption | wp_step))
            exact h _ _ _ hS' hc' hk'
          | _ => exact hr₂.elim
    | _ => exact hr.elim
/-! ### sorted(a set of texts) -/
theorem sorted_set {Q : Value → Shared → Prop} (R : SetS w s.heap a S n) (hh : A.handled = none) (hn4 : n ≤ 100000)
    (hQ : ∀ s' p (out : Array Value) (c : Nat) (ss : List Str), (∀ b o, s.heap.get? b = some o → s'.heap.get? b = some o) → s'.gens = s.gens → s'.os = s.os → s.heap.objs.size ≤ p →
      s'.heap.get? p = some (seqObj "list" out c) → StrsAre out.toList ss → SrtC.Asc ss → ss.Nodup → (∀ k, k ∈ ss ↔ S k = true) → ss.length = n → Q (.ref p) s') :
    wpAny (model P w) A (call (.builtin "sorted") [.ref a]) Q E s := by
  obtain ⟨o, es, ep, t, r⟩ := R
  refine Calls.call_function_entry kind_sorted plain_sorted entry_sorted (args_sorted1 _) ?_
  unfold Builtin.«sorted»
  refine wpAny_bind (m := checkCount "sorted" 1 1 _) (wpAny_pure ?_)
  refine wpAny_bind (collect_set (A := A.in1) hh ⟨o, r.get, r.ex.1, r.dat⟩ r.fit r.room r.ris r.led fun s1 vs k1 hz g1 o1 pm => ?_)
  have hvl : vs.length = n := by rw [pm.length_eq, List.length_map, Array.length_toList]; exact r.num
  have hI : StrsAre vs (vs.map SrtC.tv) := SrtC.strs_tv fun v hv => by
    obtain ⟨e, he, q⟩ := List.mem_map.mp (pm.mem_iff.mp hv)
    obtain ⟨k, tk, h1, _⟩ := r.ent e he
    exact ⟨k, tk, by rw [← q]; exact h1⟩
  have pk : (vs.map SrtC.tv).Perm (es.toList.map txt) := by
    have q := pm.map SrtC.tv
    rw [List.map_map] at q
    exact q
  have hvz : vs.length ≤ sizeLine := by rw [hvl, sizeLine_eq]; omega
  refine wpAny_bind (wpAny_newList ?_ hvz)
  have hoL : (s1.heap.push (seqObj "list" vs.toArray 0)).get? s1.heap.objs.size = some (seqObj "list" vs.toArray 0) := Heap.get?_push_size _ rfl
  refine wpAny_bind (wpAny_holding (wpAny_call_entry slot_list_sort ⟨_, hoL, rfl⟩ entry_list_sort (SrtO.list_sort_ord SrtC.swo_tv hoL hvz (fun h2 => SrtC.strs_sortable hI h2) fun out h1 h2 => ⟨.none, rfl, ?_⟩) (args_list_sort _)))
  obtain ⟨a1, a2, a3⟩ := SrtC.strs_out hI h1 h2
  obtain ⟨c, hc⟩ := sortedHeap_at (vs := vs) (out := out.toArray) hoL
  have pn : (out.map SrtC.tv).Perm (es.toList.map txt) := a2.trans pk
  refine wpAny_pure ⟨_, rfl, hQ _ s1.heap.objs.size out.toArray c (out.map SrtC.tv) (fun b u e => ?_) g1 o1 hz hc a1 a3 (pn.nodup_iff.mpr r.nd) (fun k => by rw [pn.mem_iff, ← r.mem k]) ?_⟩
  · have q := k1 b u e
    have hlt := Heap.lt_size q
    show (sortedHeap (s1.heap.push (seqObj "list" vs.toArray 0)) s1.heap.objs.size vs out.toArray).get? b = some u
    rw [sortedHeap_old (Nat.ne_of_lt hlt) (by rw [size_push']; exact Nat.lt_succ_of_lt hlt)]
    exact Heap.get?_push_of_some _ q
  · rw [pn.length_eq, List.length_map, Array.length_toList]; exact r.num
end
end SetX
namespace L2
open PySem PySem.Spec PyProof.Rows SetX
/-- the set of texts at a -/
def SetSO (w : World) (a : Addr) (S : Str → Bool) (n : Nat) : HO := .ext fun h => SetS w h a S n
theorem setSO_new {w : World} {P : Program} {H : Hp} {h : Heap} {a : Addr} {S : Str → Bool} {n : Nat} (R : SetS w h a S n) : ObjOk P w H h a (SetSO w a S n) :=
  ⟨R, let ⟨o, _, _, _, r⟩ := R; ⟨o, r.get⟩, fun _ _ p k => SetS.keep p k⟩
section
variable {X : Cx}
theorem setSO_get {pins : List (Addr × Obj)} {σ : St} {H : Hp} {s : Shared} {a : Addr} {S : Str → Bool} {n : Nat} (I : Inv X pins σ H s) (ha : H a = some (SetSO X.w a S n)) : SetS X.w s.heap a S n := (I.hok a _ ha).1
/-- set(xs), xs a list of texts -/
def rSetTx (K : PySem.W.Frag) (w : World) : List V → Hp → VK → Prop := fun vs H Q => ∃ (l : Addr) (ss : List Str), vs = [V.ref l] ∧ SqL K H l (ss.map V.str) ∧ ss.length ≤ 4000 ∧
  ∀ (p : Addr) (c : Nat), H p = none → c ≤ ss.length → Q (.ref p) (upd H p (SetSO w p (fun j => decide (j ∈ ss)) c))
theorem cr_setTx (hc : X.calm = true) : CallR X (.type "set") (rSetTx X.K X.w) := by
  intro pins s σ H vs us Q I r h
  obtain ⟨l, ss, rfl, hs, hn, q⟩ := h
  obtain ⟨its, rv, hl, hz⟩ := I.list hs
  rw [Vals.ref1 r]
  have hI := strs_of_vals' rv
  refine call_list ss (I.ok.hd hc) hl.isList (by simpa using hI) (by unfold scanBound; omega) fun h' tk c R hc' k => ?_
  have hp := I.hok.fresh (Nat.le_refl s.heap.objs.size)
  exact ⟨.ref _, upd H s.heap.objs.size (SetSO X.w s.heap.objs.size (fun j => decide (j ∈ ss)) c), I.laid (t' := tk) k (Nat.le_refl _) (setSO_new R), rfl, q _ c hp hc'⟩
/-- sorted(a set of texts) -/
def rSortedSetS (w : World) : List V → Hp → VK → Prop := fun vs H Q => ∃ (a : Addr) (S : Str → Bool) (n : Nat), vs = [V.ref a] ∧ H a = some (SetSO w a S n) ∧ n ≤ 100000 ∧
  ∀ (ss : List Str) (p : Addr), SrtC.Asc ss → ss.Nodup → (∀ k : Str, k ∈ ss ↔ S k = true) → ss.length = n → H p = none → Q (.ref p) (upd H p (.lst (ss.map V.str)))
theorem cr_sortedSetS (hc : X.calm = true) : CallR X (.builtin "sorted") (rSortedSetS X.w) := by
  intro pins s σ H vs us Q I r h
  obtain ⟨a, S, n, rfl, ha, hn, q⟩ := h
  rw [Vals.ref1 r]
  refine SetX.sorted_set (setSO_get I ha) (I.ok.hd hc) hn fun s' p out c ss k g o hp hg hi hs hnd hm hl => ?_
  have hlen : (ss.map V.str).length ≤ sizeLine := by rw [List.length_map, hl, sizeLine_eq]; omega
  have hpn : H p = none := I.hok.fresh hp
  have J : Inv X pins σ (upd H p (.lst (ss.map V.str))) { s with heap := s'.heap, gens := s'.gens, drawn := s'.drawn, toks := s'.toks } :=
    I.call (ch := []) (Un.laid k hp hpn) (I.hok.laid k hp ⟨hlen, out.toList, c, vals_of_strs hi, hg⟩) (by rw [g]; exact I.bare) (fun _ z => nomatch z)
  have e : s' = { s with heap := s'.heap, gens := s'.gens, drawn := s'.drawn, toks := s'.toks } := by
    cases s'
    cases s
    cases o
    rfl
  rw [e]
  exact ⟨.ref p, _, J, rfl, q ss p hs hnd hm hl hpn⟩
/-- len(a set of texts) -/
def rLenSetS (w : World) : List V → Hp → VK → Prop := fun vs H Q => ∃ (a : Addr) (S : Str → Bool) (n : Nat), vs = [V.ref a] ∧ H a = some (SetSO w a S n) ∧ n ≤ 100000 ∧
  ∀ ss : List Str, ss.Nodup → (∀ k : Str, k ∈ ss ↔ S k = true) → ss.length = n → Q (.int n) H
theorem cr_lenSetS : CallR X (.builtin "len") (rLenSetS X.w) := by
  intro pins s σ H vs us Q I r h
  obtain ⟨a, S, n, rfl, ha, hn, q⟩ := h
  rw [Vals.ref1 r]
  obtain ⟨o, es, ep, t, R⟩ := setSO_get I ha
  refine call_len_set R.get R.ex R.dat R.fit (by rw [R.num] <;> omega) ⟨.int n, H, I.tok _, ⟨_, by rw [R.num]⟩, q (es.toList.map txt) R.nd (fun k => (R.mem k).symm) ?_⟩
  rw [List.length_map, Array.length_toList]
  exact R.num
/-- x in a set of texts -/
def rSInS (w : World) (neg : Bool) : V → V → Hp → VK → Prop := fun x y H Q => ∃ (k : Str) (a : Addr) (S : Str → Bool) (n : Nat), x = V.str k ∧ y = V.ref a ∧ H a = some (SetSO w a S n) ∧ Q (.bl (if neg then !S k else S k)) H
theorem or_sinS : OpR X (compareOp .In) (rSInS X.w false) := by
  intro pins s σ H x y v u Q I rx ry h
  obtain ⟨k, a, S, n, rfl, rfl, ha, q⟩ := h
  cases ry
  obtain ⟨t, rfl⟩ := rx
  exact wpAny_inSet_of (str_is (P := X.prog) (w := X.w) k t) rfl (setSO_get I ha).of ⟨.bl (S k), H, I.tok _, rfl, q⟩
end
end L2

set_option Elab.async false
set_option linter.all false
set_option maxRecDepth 100000
set_option maxHeartbeats 4000000
/-! a set of texts, made by a comprehension over two sources without tests -/
namespace SetC2
open PySem PySem.Spec PyProof.Rows L2 SetX
abbrev two (elt t0 i0 t1 i1 : Expr) (scope : Scope) (pos : Pos) : Expr := .SetComp elt [⟨t0, i0, [], 0⟩, ⟨t1, i1, [], 0⟩] scope pos
abbrev No : Value → Shared → Prop := fun _ _ => False
theorem outer_turn (elt t0 i0 t1 i1 : Expr) (scope : Scope) (pos : Pos) (it acc : Value) (env : Env) :
    compTurn (two elt t0 i0 t1 i1 scope pos) 0 it acc env = (do
      standAt i0.pos
      match ← pyNext it with
      | none => pure (.done .next)
      | some v =>
        letOwnedTupleGo t0 it v
        assign t0 env v
        let x ← eval i1 env
        standAt i1.pos
        let x ← foldedSetIterable i1 env x
        let _ ← runOwn (.compStart (two elt t0 i0 t1 i1 scope pos) 1 (← holding [x] (pyIter x)) acc env) env
        again (.compLoop (two elt t0 i0 t1 i1 scope pos) 0 it acc env)) := by rfl
theorem inner_turn (elt t0 i0 t1 i1 : Expr) (scope : Scope) (pos : Pos) (it acc : Value) (env : Env) :
    compTurn (two elt t0 i0 t1 i1 scope pos) 1 it acc env = (do
      standAt i1.pos
      match ← pyNext it with
      | none => pure (.done .next)
      | some v =>
        letOwnedTupleGo t1 it v
        assign t1 env v
        (do let v ← eval elt env; standAt elt.pos; let _ ← call (.builtin "set.add") [acc, v])
        again (.compLoop (two elt t0 i0 t1 i1 scope pos) 1 it acc env)) := by rfl
/-- one step of a walk: the end, or a thing more -/
def Step (J : It) (i : Nat) (H : Hp) (fin nxt : Hp → Prop) (B : V → Hp → (Hp → Prop) → Prop) : Prop :=
  (J.stop i H ∧ fin H) ∨ (J.go i H ∧ ∃ nx : Hp → Prop, (∀ H', nx H' → nxt H') ∧ ∀ x H', J.yld i H x H' → B x H' nx)
/-- a walk to its end, by a measure -/
def Whole (J : It) (H : Hp) (fin : Hp → Prop) (B : V → Hp → (Hp → Prop) → Prop) : Prop :=
  ∃ W : Nat → Nat → Hp → Prop, (∃ m, W 0 m H) ∧ ∀ i m H, W i m H → Step J i H fin (fun H' => ∃ m', m' < m ∧ W (i + 1) m' H') B
theorem whole_list {K : PySem.W.Frag} {a : Addr} {xs : List V} {H : Hp} {fin : Hp → Prop} {B : V → Hp → (Hp → Prop) → Prop} (Pv : Nat → Hp → Prop) (h0 : Pv 0 H) (hl : ∀ i H, Pv i H → SqL K H a xs)
    (hs : ∀ i x H, xs[i]? = some x → Pv i H → B x H (Pv (i + 1))) (hd : ∀ H, Pv xs.length H → fin H) : Whole (Itl K a) H fin B := by
  refine ⟨fun i m H => i + m = xs.length ∧ Pv i H, ⟨xs.length, Nat.zero_add _, h0⟩, fun i m H ⟨e, p⟩ => ?_⟩
  have q := hl i H p
  cases m with
  | zero => exact .inl ⟨⟨xs, q, by omega⟩, hd H (by rw [← e]; exact p)⟩
  | succ m =>
    have hlt : i < xs.length := by omega
    refine .inr ⟨⟨xs, xs[i], q, List.getElem?_eq_getElem hlt⟩, Pv (i + 1), fun H' p' => ⟨m, Nat.lt_succ_self m, by omega, p'⟩, fun x H' y => ?_⟩
    obtain ⟨rfl, y⟩ := y
    exact hs i x _ (y xs q) p
theorem whole_range {lo : Int} {n : Nat} {H : Hp} {fin : Hp → Prop} {B : V → Hp → (Hp → Prop) → Prop} (Pv : Nat → Hp → Prop) (h0 : Pv 0 H)
    (hs : ∀ i H, i < n → Pv i H → B (.int (lo + (i : Int))) H (Pv (i + 1))) (hd : ∀ H, Pv n H → fin H) : Whole (Itr lo n) H fin B := by
  refine ⟨fun i m H => i + m = n ∧ Pv i H, ⟨n, Nat.zero_add _, h0⟩, fun i m H ⟨e, p⟩ => ?_⟩
  cases m with
  | zero => exact .inl ⟨show n ≤ i by omega, hd H (by rw [← e]; exact p)⟩
  | succ m =>
    have hlt : i < n := by omega
    refine .inr ⟨hlt, Pv (i + 1), fun H' p' => ⟨m, Nat.lt_succ_self m, by omega, p'⟩, fun x H' y => ?_⟩
    obtain ⟨rfl, rfl⟩ := y
    exact hs i _ hlt p
theorem thnX {α : Type} {Y : Cx} {t : Sem α} {Q Q' : α → Shared → Prop} {M : Model} {A : Around} {E : Value → Shared → Prop} {s : Shared} (hx : ∀ v s, ¬ Y.xe v s) (h : wpAny M A t Q Y.xe s) (hQ : ∀ a s, Q a s → Q' a s) : wpAny M A t Q' E s :=
  wpAny_mono h hQ fun v s z => (hx v s z).elim
/-- set.add of a text -/
theorem add_text {Y : Cx} {pins : List (Addr × Obj)} {σ : L2.St} {H : Hp} {s : Shared} {E : Value → Shared → Prop} {D : Addr} {S : Str → Bool} {n : Nat} {c : Str} {u : Value} {Q : Value → Shared → Prop} (I : Inv Y pins σ H s) (hD : H D = some (SetSO Y.w D S n)) (hu : RelV (.str c) u) (room : n + 1 < scanBound)
    (h : ∀ s', Inv Y pins σ (upd H D (SetSO Y.w D (fun j => S j || decide (j = c)) (if S c = true then n else n + 1))) s' → Q .none s') : wpAny (model Y.prog Y.w) Y.A (call (.builtin "set.add") [.ref D, u]) Q E s := by
  obtain ⟨tk, rfl⟩ := hu
  refine add_call (setSO_get I hD) room fun h' sb R => h _ ?_
  have he : ∃ u, h'.get? D = some u := let ⟨o, _, _, _, r⟩ := R; ⟨o, r.get⟩
  exact I.write (e := D) (t' := s.toks + 1) (by rw [hD]; trivial) (.inl rfl) (fun b u hb hu => (sb.2 b hb).trans hu) he (setSO_new R)
section
variable {Y : Cx}
/-- a source's next thing, put into its name; what is behind it may go on as it likes as long as it knows the slots -/
theorem hand {tg : Expr} {J : It} {fp : List Addr} {it : Addr} {tn : Nat → Heap → Prop} {g : TG} {pins : List (Addr × Obj)} {σ : L2.St} {H : Hp} {s : Shared} {i : Nat} {vs : List Nat} {B : L2.St → Hp → Prop} (hc : Y.calm = true) (hx : ∀ v s, ¬ Y.xe v s) (T : Turn Y.prog Y.w Y.K tg J fp it tn) (pg : PG Y tg g)
    (I : Inv Y pins σ H s) (hf : ∀ b ∈ fp, FpOk Y pins H b) (st : tn i s.heap) (go : J.go i H) (h : ∀ x H', J.yld i H x H' → g x σ H' fun σ2 H2 => wipe σ2 vs = σ ∧ B σ2 H2) :
    wpAny (model Y.prog Y.w) Y.A (pyNext (.ref it)) (fun r s1 => ∃ u, r = some u ∧ wpAny (model Y.prog Y.w) Y.A (letOwnedTupleGo tg (.ref it) u) (fun _ s2 => wpAny (model Y.prog Y.w) Y.A (assign tg Y.env u)
      (fun _ s3 => ∃ pl σ2 H2, wipe σ2 vs = σ ∧ Inv Y (pins ++ pl) σ2 H2 s3 ∧ B σ2 H2 ∧ ∀ σ9 H9 s9, Inv Y (pins ++ pl) σ9 H9 s9 → σ.length = σ9.length → (∀ (j : Nat) v, σ[j]? = some (some v) → σ9[j]? = some (some v)) → Inv Y pins σ H9 s9 ∧ tn (i + 1) s9.heap ∧ ∀ b ∈ fp, H9 b = none) No s2) No s1) No s := by
  refine thnF (T.item Y rfl rfl rfl hc i pins s σ H No I hf st go) fun r s1 ⟨u, hr, h1⟩ => ⟨u, hr, thnF h1 fun _ s2 ⟨x, H2, I2, rx, hy, st2, n2⟩ => ?_⟩
  have P2 := I2.pinned (fun b hb => ⟨n2 b hb, (hf b hb).2⟩) (T.obj _ _ st2)
  refine thnX hx (pg.run _ s2 σ H2 x u _ P2 rx (h x H2 hy)) fun _ s3 ⟨σ3, H3, I3, hw, b3⟩ => ⟨_, σ3, H3, hw, I3, b3, fun σ9 H9 s9 I9 hl hk => ?_⟩
  have stay : ∀ b ∈ fp, ∀ o, s2.heap.get? b = some o → s9.heap.get? b = some o ∧ H9 b = none := fun b hb o e =>
    let z := I9.pin (b, o) (List.mem_append_right _ (List.mem_append_right _ (mem_pinsAt hb e)))
    ⟨z.1, z.2.1⟩
  refine ⟨I9.unpinned.weak hl hk, T.keep _ _ _ st2 fun b hb o e => (stay b hb o e).1, fun b hb => ?_⟩
  obtain ⟨o, e, _⟩ := T.obj _ _ st2 b hb
  exact (stay b hb o e).2
/-- what the second source's things come to -/
abbrev In (w : World) (g : TG) (te : TE) (D : Addr) (σ : L2.St) (vs : List Nat) : V → Hp → (Hp → Prop) → Prop := fun x H nx => g x σ H fun σ3 H3 => wipe σ3 vs = σ ∧ te σ3 H3 fun y H4 => ∃ (c : Str) (S : Str → Bool) (n : Nat), y = .str c ∧ H4 D = some (SetSO w D S n) ∧ n + 1 < scanBound ∧ nx (upd H4 D (SetSO w D (fun j => S j || decide (j = c)) (if S c = true then n else n + 1)))
theorem wiped {σ τ : L2.St} {vs : List Nat} (h : wipe τ vs = σ) : σ.length = τ.length ∧ ∀ (j : Nat) (v : V), σ[j]? = some (some v) → τ[j]? = some (some v) :=
  ⟨by rw [← h, wipe_length], fun j v e => by rw [← h] at e; exact (wipe_some e).1⟩
theorem inner {elt t0 i0 t1 i1 : Expr} {scope : Scope} {pos : Pos} {J : It} {fp : List Addr} {it D : Addr} {tn : Nat → Heap → Prop} {g : TG} {te : TE} {pins : List (Addr × Obj)} {σ : L2.St} {H : Hp} {s : Shared} {vs : List Nat} {fin : Hp → Prop} {R : Result → Shared → Prop}
    (hc : Y.calm = true) (hx : ∀ v s, ¬ Y.xe v s) (T : Turn Y.prog Y.w Y.K t1 J fp it tn) (pg : PG Y t1 g) (pe : PE Y elt te) (I : Inv Y pins σ H s) (hf : ∀ b ∈ fp, FpOk Y pins H b) (st : tn 0 s.heap) (h : Whole J H fin (In Y.w g te D σ vs))
    (done : ∀ s' H', Inv Y pins σ H' s' → fin H' → R (.ok .next) s') : codeAny (model Y.prog Y.w) Y.A (.compLoop (two elt t0 i0 t1 i1 scope pos) 1 (.ref it) (.ref D) Y.env) R s := by
  obtain ⟨W, ⟨m, w0⟩, turn⟩ := h
  refine codeAny_loop rfl (fun k s' => ∃ j H', Inv Y pins σ H' s' ∧ tn j s'.heap ∧ (∀ b ∈ fp, H' b = none) ∧ W j k H') (fun k s1 ⟨j, H1, I1, st1, n1, w1⟩ => ?_) m ⟨0, H, I, st, fun b hb => (hf b hb).1, w0⟩
  have f1 : ∀ b ∈ fp, FpOk Y pins H1 b := fun b hb => ⟨n1 b hb, (hf b hb).2⟩
  show wpAny _ Y.A ((compTurn (two elt t0 i0 t1 i1 scope pos) 1 (.ref it) (.ref D) Y.env).onRaise (fun x => do noteFrame x Y.env; theTreesLotGoes x)) _ _ s1
  refine wpAny_noted ?_
  rw [inner_turn]
  refine wpAny_bind (wpAny_standAt (wpAny_bind ?_))
  rcases turn j k H1 w1 with ⟨stop, q⟩ | ⟨go, nx, hn, b⟩
  · refine thnF (T.done Y rfl rfl rfl hc j pins _ σ H1 No I1 f1 st1 stop) fun r s2 ⟨hr, I2⟩ => ?_
    subst hr
    exact wpAny_pure (done s2 H1 I2 q)
  · refine thnF (hand (vs := vs) hc hx T pg I1 f1 st1 go b) fun r s2 ⟨u, hr, h2⟩ => ?_
    subst hr
    refine wpAny_bind (thnF h2 fun _ s3 h3 => wpAny_bind (thnF h3 fun _ s4 ⟨pl, σ4, H4, hw, I4, b4, back⟩ => ?_))
    refine wpAny_bind (wpAny_bind (thnX hx (pe.run _ s4 σ4 H4 _ I4 b4) fun z s5 ⟨y, H5, I5, r5, c, S, n, ey, hD5, room, nx5⟩ => ?_))
    subst ey
    refine wpAny_bind (wpAny_standAt (wpAny_bind (add_text I5 hD5 r5 room fun s6 I6 => wpAny_pure (wpAny_pure ⟨rfl, ?_⟩))))
    obtain ⟨I7, st7, n7⟩ := back σ4 _ s6 I6 (wiped hw).1 (wiped hw).2
    obtain ⟨m', hm, w'⟩ := hn _ nx5
    exact ⟨m', hm, j + 1, _, I7, st7, n7, w'⟩
theorem start_inner {elt t0 i0 t1 i1 : Expr} {scope : Scope} {pos : Pos} {prog : Program} {w : World} {A : Around} {R : Result → Shared → Prop} {s : Shared} {it acc : Value} {env : Env}
    (h : codeAny (model prog w) A (.compLoop (two elt t0 i0 t1 i1 scope pos) 1 it acc env) R s)
    (hi : ∀ (Q E : Value → Shared → Prop), Q it s → wpAny (model prog w) A (pyIter it) Q E s) : codeAny (model prog w) A (.compStart (two elt t0 i0 t1 i1 scope pos) 1 it acc env) R s := by
  refine codeAny_of_tree ?_
  show wpAny _ _ ((compStart (two elt t0 i0 t1 i1 scope pos) 1 it acc env).onRaise (fun x => do noteFrame x env; standAt theWindowsPlace)) _ _ s
  refine wpAny_notedAt ?_
  unfold compStart
  show wpAny _ _ (ask >>= _) _ _ s
  refine wpAny_bind (wpAny_askSetting (wpAny_ite ?_))
  split
  · first
      | exact wpAny_pure ⟨rfl, h⟩
      | exact wpAny_bind (wpAny_pure (wpAny_pure ⟨rfl, h⟩))
  · refine wpAny_bind (wpAny_rule ?_)
    show wpAny _ _ (standAt i1.pos >>= _) _ _ s
    exact wpAny_bind (wpAny_standAt (wpAny_bind (hi _ _ (wpAny_pure ⟨rfl, h⟩))))
/-- what the first source's things come to -/
abbrev Out (w : World) (g : TG) (wi1 : TI) (g1 : TG) (te : TE) (D : Addr) (σ : L2.St) (vs vs1 : List Nat) : V → Hp → (Hp → Prop) → Prop := fun x H nx => g x σ H fun σ2 H2 => wipe σ2 vs = σ ∧ wi1 σ2 H2 fun J1 H3 => Whole J1 H3 nx (In w g1 te D (wipe σ2 vs1) vs1)
theorem outer {elt t0 i0 t1 i1 : Expr} {scope : Scope} {pos : Pos} {J : It} {fp : List Addr} {it D : Addr} {tn : Nat → Heap → Prop} {g g1 : TG} {wi1 : TI} {te : TE} {σ : L2.St} {H : Hp} {s : Shared} {vs vs1 : List Nat} {fin : Hp → Prop} {R : Result → Shared → Prop}
    (hc : Y.calm = true) (hx : ∀ v s, ¬ Y.xe v s) (hs1 : ∀ env x, foldedSetIterable i1 env x = pure x) (hv : ∀ i ∈ vs1, i ∈ vs) (T : Turn Y.prog Y.w Y.K t0 J fp it tn) (pg : PG Y t0 g) (pi1 : PI Y t1 i1 wi1) (pg1 : PG Y t1 g1) (pe : PE Y elt te)
    (I : Inv Y [] σ H s) (hf : ∀ b ∈ fp, FpOk Y [] H b) (st : tn 0 s.heap) (h : Whole J H fin (Out Y.w g wi1 g1 te D σ vs vs1))
    (done : ∀ s' H', Inv Y [] σ H' s' → fin H' → R (.ok .next) s') : codeAny (model Y.prog Y.w) Y.A (.compLoop (two elt t0 i0 t1 i1 scope pos) 0 (.ref it) (.ref D) Y.env) R s := by
  obtain ⟨W, ⟨m, w0⟩, turn⟩ := h
  refine codeAny_loop rfl (fun k s' => ∃ j H', Inv Y [] σ H' s' ∧ tn j s'.heap ∧ (∀ b ∈ fp, H' b = none) ∧ W j k H') (fun k s1 ⟨j, H1, I1, st1, n1, w1⟩ => ?_) m ⟨0, H, I, st, fun b hb => (hf b hb).1, w0⟩
  have f1 : ∀ b ∈ fp, FpOk Y [] H1 b := fun b hb => ⟨n1 b hb, (hf b hb).2⟩
  show wpAny _ Y.A ((compTurn (two elt t0 i0 t1 i1 scope pos) 0 (.ref it) (.ref D) Y.env).onRaise (fun x => do noteFrame x Y.env; theTreesLotGoes x)) _ _ s1
  refine wpAny_noted ?_
  rw [outer_turn]
  refine wpAny_bind (wpAny_standAt (wpAny_bind ?_))
  rcases turn j k H1 w1 with ⟨stop, q⟩ | ⟨go, nx, hn, b⟩
  · refine thnF (T.done Y rfl rfl rfl hc j [] _ σ H1 No I1 f1 st1 stop) fun r s2 ⟨hr, I2⟩ => ?_
    subst hr
    exact wpAny_pure (done s2 H1 I2 q)
  · refine thnF (hand (vs := vs) hc hx T pg I1 f1 st1 go b) fun r s2 ⟨u, hr, h2⟩ => ?_
    subst hr
    refine wpAny_bind (thnF h2 fun _ s3 h3 => wpAny_bind (thnF h3 fun _ s4 ⟨pl, σ4, H4, hw, I4, b4, back⟩ => ?_))
    refine wpAny_bind (thnX hx (pi1.run _ s4 σ4 H4 _ I4 b4) fun x s5 h5 => ?_)
    refine wpAny_bind (wpAny_standAt (wpAny_bind (wpAny_of_eq (hs1 _ x) (wpAny_bind (wpAny_holding (thnX hx h5 fun itv s6 h6 => ?_))))))
    obtain ⟨it1, fp1, tn1, J1, H6, e6, I6, T1, st6, f6, W6⟩ := h6
    subst e6
    have know : ∀ (j : Nat) v, σ[j]? = some (some v) → (wipe σ4 vs1)[j]? = some (some v) := fun j v e => by
      rw [← hw] at e
      obtain ⟨e1, e2⟩ := wipe_some e
      rw [wipe_out fun z => e2 (hv j z)]
      exact e1
    have L := inner (elt := elt) (t0 := t0) (i0 := i0) (i1 := i1) (scope := scope) (pos := pos) (R := fun r s' => match r with
        | .ok _ => ∃ m, m < k ∧ ∃ j H', Inv Y [] σ H' s' ∧ tn j s'.heap ∧ (∀ b ∈ fp, H' b = none) ∧ W j m H'
        | .error _ => False) hc hx T1 pg1 pe (I6.weak (wipe_length σ4 vs1) (fun j v e => (wipe_some e).1)) f6 st6 W6 (fun s7 H7 I7 q7 => by
      obtain ⟨I8, st8, n8⟩ := back _ _ s7 I7 (by rw [wipe_length]; exact (wiped hw).1) know
      obtain ⟨m', hm, w'⟩ := hn _ q7
      exact ⟨m', hm, j + 1, _, I8, st8, n8, w'⟩)
    refine wpAny_bind (wpAny_runOwn ?_)
    rw [Around.mark_none]
    refine codeAny_mono (start_inner L fun Q E q => T1.self Y.A 0 _ _ _ st6 q) fun r s' hr => ?_
    cases r with
    | ok f =>
      first
        | exact wpAny_pure ⟨rfl, hr⟩
        | exact wpAny_bind (wpAny_pure (wpAny_pure ⟨rfl, hr⟩))
    | error e => exact hr.elim
end
/-- {elt for t0 in i0 for t1 in i1}: D the new set; vs the block's names, vs1 those of the second target -/
def tSc2 (w : World) (wi : TI) (g : TG) (wi1 : TI) (g1 : TG) (te : TE) (vs vs1 : List Nat) : TE := fun σ H Q => wi σ H fun J H1 => ∀ D, H1 D = none → Whole J (upd H1 D (SetSO w D (fun _ => false) 0)) (Q (.ref D)) (Out w g wi1 g1 te D (wipe σ vs) vs vs1)
section
variable {X : Cx}
/-- a new empty set behind a source's start: what the source needs stays -/
theorem with_set {pins : List (Addr × Obj)} {σ : L2.St} {H : Hp} {s : Shared} {tg : Expr} {J : It} {fp : List Addr} {it : Addr} {tn : Nat → Heap → Prop} (I : Inv X pins σ H s) (T : Turn X.prog X.w X.K tg J fp it tn) (st : tn 0 s.heap) (f : ∀ b ∈ fp, FpOk X pins H b) :
    H s.heap.objs.size = none ∧ Inv X pins σ (upd H s.heap.objs.size (SetSO X.w s.heap.objs.size (fun _ => false) 0)) { s with heap := s.heap.push (newO X.w) } ∧ tn 0 (s.heap.push (newO X.w)) ∧
      ∀ b ∈ fp, FpOk X pins (upd H s.heap.objs.size (SetSO X.w s.heap.objs.size (fun _ => false) 0)) b ∧ b < (s.heap.push (newO X.w)).objs.size := by
  have fr : H s.heap.objs.size = none := I.hok.fresh (Nat.le_refl _)
  have kp : ∀ b o, s.heap.get? b = some o → (s.heap.push (newO X.w)).get? b = some o := fun b o e => Heap.get?_push_of_some _ e
  refine ⟨fr, I.laid (t' := s.toks) kp (Nat.le_refl _) (setSO_new (fresh X.w (Heap.get?_push_size _ rfl))), T.keep _ _ _ st fun b _ o e => kp b o e, fun b hb => ?_⟩
  obtain ⟨o, e, _⟩ := T.obj _ _ st b hb
  have lt := Heap.lt_size e
  exact ⟨⟨by rw [upd_ne (Nat.ne_of_lt lt)]; exact (f b hb).1, (f b hb).2⟩, by rw [Heap.size_push]; exact Nat.lt_succ_of_lt lt⟩
theorem pe_sc2 {elt t0 i0 t1 i1 : Expr} {scope : Scope} {own : List (PySem.Str × Nat)} {vs1 : List Nat} {pos : Pos} {wi wi1 : TI} {g g1 : TG} {te : TE} (hc : X.calm = true) (hN : X.N.Nodup) (hi : PI X t0 i0 wi) (ok : BlkOk X.N X.env.scope scope own) (hv : ∀ i ∈ vs1, i ∈ own.map (·.2))
    (hg : ∀ (s : Shared) (H : Hp) (C : Addr) (cl : List (PySem.Str × Addr)) (fp : List Addr), PG (X.blk s H scope (compEnvC scope cl C X.env) fp) t0 g)
    (hi1 : ∀ (s : Shared) (H : Hp) (C : Addr) (cl : List (PySem.Str × Addr)) (fp : List Addr), PI (X.blk s H scope (compEnvC scope cl C X.env) fp) t1 i1 wi1)
    (hg1 : ∀ (s : Shared) (H : Hp) (C : Addr) (cl : List (PySem.Str × Addr)) (fp : List Addr), PG (X.blk s H scope (compEnvC scope cl C X.env) fp) t1 g1)
    (he : ∀ (s : Shared) (H : Hp) (C : Addr) (cl : List (PySem.Str × Addr)) (fp : List Addr), PE (X.blk s H scope (compEnvC scope cl C X.env) fp) elt te)
    (hs : ∀ x, foldedSetIterable i0 X.env x = pure x := by intro _; rfl) (hs1 : ∀ env x, foldedSetIterable i1 env x = pure x := by intro _ _; rfl) :
    PE X (two elt t0 i0 t1 i1 scope pos) (tSc2 X.w wi g wi1 g1 te (own.map (·.2)) vs1) := by
  refine ⟨fun pins s σ H Q I h => ?_⟩
  rw [PpSet.eval_SetComp]
  have hfree : ∀ y ∈ scope.names, y.2 = .free → ∃ c, X.env.cells.lookup y.1 = some c := fun y hy e => (ok.free y hy e).elim (fun k => I.ok.has _ (.inl k)) fun k => I.ok.has _ (.inr k)
  refine wpAny_comprehension_free (use := none) rfl hs (closure_ok hfree) ok.kind (fun y hy e => by rw [ok.uniq y hy, e]) (thn (hi.run pins s σ H _ I h) fun xv s1 h1 => thn h1 fun itv s2 h2 => ?_)
  obtain ⟨it, fp, tn, J, H2, e, I2, T, st2, f2, q⟩ := h2
  subst e
  refine PpSet.newSet_ok (newEnv_comp ?_)
  obtain ⟨fr, I3, st3, f3⟩ := with_set I2 T st2 f2
  have q := q s2.heap.objs.size fr
  have I4 := block_start I3 ok hN f3
  have st4 : tn 0 (pushCells ((s2.heap.push (newO X.w)).push { cls := Value.type "dict", data := Data.dict #[] }) scope.names) := T.keep _ _ _ st3 fun b _ o e => pushCells_keeps _ _ _ _ (Heap.get?_push_of_some _ e)
  have L := outer (Y := X.blk { s2 with heap := s2.heap.push (newO X.w) } (upd H2 s2.heap.objs.size (SetSO X.w s2.heap.objs.size (fun _ => false) 0)) scope (compEnvC scope (cellsFrom ((s2.heap.push (newO X.w)).objs.size + 1) scope.names (cloFrom X.env.cells scope.names [])) (s2.heap.push (newO X.w)).objs.size X.env) fp) (elt := elt) (i0 := i0) (scope := scope) (pos := pos) (R := compPost (model X.prog X.w) X.A X.xe none (fun u s' => EP X pins σ Q u s') (.ref s2.heap.objs.size) (s2.heap.push (newO X.w)).objs.size) hc (fun _ _ z => z) hs1 hv T (hg _ _ _ _ _) (hi1 _ _ _ _ _) (hg1 _ _ _ _ _) (he _ _ _ _ _) I4
    (fun b hb => ⟨(f3 b hb).1.1, (I4.ok.exf b hb).1, I4.ok.exfs b hb, .inl hb, fun x c e => (I4.ok.exf b hb).2 x c e, fun p hp => absurd (show p ∈ ([] : List (Addr × Obj)) ++ [] from hp) (by simp)⟩) st4 q (fun s5 H5 I5 q5 => ?_)
  · exact PpSet.codeAny_compStart_set L (T.self X.A 0 _ _ _ st4 L)
  · have I6 : Inv X pins σ H5 s5 := I3.call' (ch := fp) I5.os I5.base I5.hok I5.bare fun b hb => ⟨(f3 b hb).1.2.2.2.1, (f3 b hb).1.2.1, (f3 b hb).1.2.2.2.2.1, (f3 b hb).1.2.2.2.2.2⟩
    obtain ⟨m, hn, _⟩ := I5.loc
    obtain ⟨f0, f1, f2', f3', f4, f5⟩ := I3.fpOk (Nat.le_refl _) (show H5 (s2.heap.push (newO X.w)).objs.size = none from I5.free)
    exact ⟨m, hn, fun h'' sb => ⟨.ref _, H5, I6.turned (t' := s5.toks) (fun b o hb e => (sb.2 b hb).trans e) f0 f1 f3' f4 f5, rfl, q5⟩⟩
end
end SetC2

set_option Elab.async false
set_option linter.all false
set_option maxRecDepth 100000
set_option maxHeartbeats 4000000
/-! a set of texts, made by a comprehension over one source without tests -/
namespace SetC1
open PySem PySem.Spec PyProof.Rows L2 SetX SetC2
abbrev one (elt t0 i0 : Expr) (scope : Scope) (pos : Pos) : Expr := .SetComp elt [⟨t0, i0, [], 0⟩] scope pos
theorem one_turn (elt t0 i0 : Expr) (scope : Scope) (pos : Pos) (it acc : Value) (env : Env) :
    compTurn (one elt t0 i0 scope pos) 0 it acc env = (do
      standAt i0.pos
      match ← pyNext it with
      | none => pure (.done .next)
      | some v =>
        letOwnedTupleGo t0 it v
        assign t0 env v
        (do let v ← eval elt env; standAt elt.pos; let _ ← call (.builtin "set.add") [acc, v])
        again (.compLoop (one elt t0 i0 scope pos) 0 it acc env)) := by rfl
section
variable {Y : Cx}
theorem single {elt t0 i0 : Expr} {scope : Scope} {pos : Pos} {J : It} {fp : List Addr} {it D : Addr} {tn : Nat → Heap → Prop} {g : TG} {te : TE} {pins : List (Addr × Obj)} {σ : L2.St} {H : Hp} {s : Shared} {vs : List Nat} {fin : Hp → Prop} {R : Result → Shared → Prop}
    (hc : Y.calm = true) (hx : ∀ v s, ¬ Y.xe v s) (T : Turn Y.prog Y.w Y.K t0 J fp it tn) (pg : PG Y t0 g) (pe : PE Y elt te) (I : Inv Y pins σ H s) (hf : ∀ b ∈ fp, FpOk Y pins H b) (st : tn 0 s.heap) (h : Whole J H fin (In Y.w g te D σ vs))
    (done : ∀ s' H', Inv Y pins σ H' s' → fin H' → R (.ok .next) s') : codeAny (model Y.prog Y.w) Y.A (.compLoop (one elt t0 i0 scope pos) 0 (.ref it) (.ref D) Y.env) R s := by
  obtain ⟨W, ⟨m, w0⟩, turn⟩ := h
  refine codeAny_loop rfl (fun k s' => ∃ j H', Inv Y pins σ H' s' ∧ tn j s'.heap ∧ (∀ b ∈ fp, H' b = none) ∧ W j k H') (fun k s1 ⟨j, H1, I1, st1, n1, w1⟩ => ?_) m ⟨0, H, I, st, fun b hb => (hf b hb).1, w0⟩
  have f1 : ∀ b ∈ fp, FpOk Y pins H1 b := fun b hb => ⟨n1 b hb, (hf b hb).2⟩
  show wpAny _ Y.A ((compTurn (one elt t0 i0 scope pos) 0 (.ref it) (.ref D) Y.env).onRaise (fun x => do noteFrame x Y.env; theTreesLotGoes x)) _ _ s1
  refine wpAny_noted ?_
  rw [one_turn]
  refine wpAny_bind (wpAny_standAt (wpAny_bind ?_))
  rcases turn j k H1 w1 with ⟨stop, q⟩ | ⟨go, nx, hn, b⟩
  · refine thnF (T.done Y rfl rfl rfl hc j pins _ σ H1 No I1 f1 st1 stop) fun r s2 ⟨hr, I2⟩ => ?_
    subst hr
    exact wpAny_pure (done s2 H1 I2 q)
  · refine thnF (hand (vs := vs) hc hx T pg I1 f1 st1 go b) fun r s2 ⟨u, hr, h2⟩ => ?_
    subst hr
    refine wpAny_bind (thnF h2 fun _ s3 h3 => wpAny_bind (thnF h3 fun _ s4 ⟨pl, σ4, H4, hw, I4, b4, back⟩ => ?_))
    refine wpAny_bind (wpAny_bind (thnX hx (pe.run _ s4 σ4 H4 _ I4 b4) fun z s5 ⟨y, H5, I5, r5, c, S, n, ey, hD5, room, nx5⟩ => ?_))
    subst ey
    refine wpAny_bind (wpAny_standAt (wpAny_bind (add_text I5 hD5 r5 room fun s6 I6 => wpAny_pure (wpAny_pure ⟨rfl, ?_⟩))))
    obtain ⟨I7, st7, n7⟩ := back σ4 _ s6 I6 (wiped hw).1 (wiped hw).2
    obtain ⟨m', hm, w'⟩ := hn _ nx5
    exact ⟨m', hm, j + 1, _, I7, st7, n7, w'⟩
end
/-- {elt for t0 in i0}: D the new set; vs the block's names -/
def tSc1 (w : World) (wi : TI) (g : TG) (te : TE) (vs : List Nat) : TE := fun σ H Q => wi σ H fun J H1 => ∀ D, H1 D = none → Whole J (upd H1 D (SetSO w D (fun _ => false) 0)) (Q (.ref D)) (In w g te D (wipe σ vs) vs)
section
variable {X : Cx}
theorem pe_sc1 {elt t0 i0 : Expr} {scope : Scope} {own : List (PySem.Str × Nat)} {pos : Pos} {wi : TI} {g : TG} {te : TE} (hc : X.calm = true) (hN : X.N.Nodup) (hi : PI X t0 i0 wi) (ok : BlkOk X.N X.env.scope scope own)
    (hg : ∀ (s : Shared) (H : Hp) (C : Addr) (cl : List (PySem.Str × Addr)) (fp : List Addr), PG (X.blk s H scope (compEnvC scope cl C X.env) fp) t0 g)
    (he : ∀ (s : Shared) (H : Hp) (C : Addr) (cl : List (PySem.Str × Addr)) (fp : List Addr), PE (X.blk s H scope (compEnvC scope cl C X.env) fp) elt te)
    (hs : ∀ x, foldedSetIterable i0 X.env x = pure x := by intro _; rfl) :
    PE X (one elt t0 i0 scope pos) (tSc1 X.w wi g te (own.map (·.2))) := by
  refine ⟨fun pins s σ H Q I h => ?_⟩
  rw [PpSet.eval_SetComp]
  have hfree : ∀ y ∈ scope.names, y.2 = .free → ∃ c, X.env.cells.lookup y.1 = some c := fun y hy e => (ok.free y hy e).elim (fun k => I.ok.has _ (.inl k)) fun k => I.ok.has _ (.inr k)
  refine wpAny_comprehension_free (use := none) rfl hs (closure_ok hfree) ok.kind (fun y hy e => by rw [ok.uniq y hy, e]) (thn (hi.run pins s σ H _ I h) fun xv s1 h1 => thn h1 fun itv s2 h2 => ?_)
  obtain ⟨it, fp, tn, J, H2, e, I2, T, st2, f2, q⟩ := h2
  subst e
  refine PpSet.newSet_ok (newEnv_comp ?_)
  obtain ⟨fr, I3, st3, f3⟩ := with_set I2 T st2 f2
  have q := q s2.heap.objs.size fr
  have I4 := block_start I3 ok hN f3
  have st4 : tn 0 (pushCells ((s2.heap.push (newO X.w)).push { cls := Value.type "dict", data := Data.dict #[] }) scope.names) := T.keep _ _ _ st3 fun b _ o e => pushCells_keeps _ _ _ _ (Heap.get?_push_of_some _ e)
  have L := single (Y := X.blk { s2 with heap := s2.heap.push (newO X.w) } (upd H2 s2.heap.objs.size (SetSO X.w s2.heap.objs.size (fun _ => false) 0)) scope (compEnvC scope (cellsFrom ((s2.heap.push (newO X.w)).objs.size + 1) scope.names (cloFrom X.env.cells scope.names [])) (s2.heap.push (newO X.w)).objs.size X.env) fp) (elt := elt) (i0 := i0) (scope := scope) (pos := pos) (R := compPost (model X.prog X.w) X.A X.xe none (fun u s' => EP X pins σ Q u s') (.ref s2.heap.objs.size) (s2.heap.push (newO X.w)).objs.size) hc (fun _ _ z => z) T (hg _ _ _ _ _) (he _ _ _ _ _) I4
    (fun b hb => ⟨(f3 b hb).1.1, (I4.ok.exf b hb).1, I4.ok.exfs b hb, .inl hb, fun x c e => (I4.ok.exf b hb).2 x c e, fun p hp => absurd (show p ∈ ([] : List (Addr × Obj)) ++ [] from hp) (by simp)⟩) st4 q (fun s5 H5 I5 q5 => ?_)
  · exact PpSet.codeAny_compStart_set L (T.self X.A 0 _ _ _ st4 L)
  · have I6 : Inv X pins σ H5 s5 := I3.call' (ch := fp) I5.os I5.base I5.hok I5.bare fun b hb => ⟨(f3 b hb).1.2.2.2.1, (f3 b hb).1.2.1, (f3 b hb).1.2.2.2.2.1, (f3 b hb).1.2.2.2.2.2⟩
    obtain ⟨m, hn, _⟩ := I5.loc
    obtain ⟨f0, f1, f2', f3', f4, f5⟩ := I3.fpOk (Nat.le_refl _) (show H5 (s2.heap.push (newO X.w)).objs.size = none from I5.free)
    exact ⟨m, hn, fun h'' sb => ⟨.ref _, H5, I6.turned (t' := s5.toks) (fun b o hb e => (sb.2 b hb).trans e) f0 f1 f3' f4 f5, rfl, q5⟩⟩
end
end SetC1

set_option Elab.async false
set_option linter.all false
set_option maxRecDepth 100000
set_option maxHeartbeats 4000000
/-! a dict whose keys are tuples, made by a comprehension over one source without tests -/
namespace DcT
open PySem PySem.Spec PyProof.Rows L2 SetC2
abbrev one (kx vx t0 i0 : Expr) (scope : Scope) (pos : Pos) : Expr := .DictComp kx vx [⟨t0, i0, [], 0⟩] scope pos
section
variable {Y : Cx}
/-- an entry by a tuple -/
theorem put_tup {pins : List (Addr × Obj)} {σ : L2.St} {H : Hp} {s : Shared} {E : Value → Shared → Prop} {D b : Addr} {kvs : List (List Key × V)} {k : List Key} {z : V} {u r : Value} {Q : Unit → Shared → Prop} (hu : Y.A.units + 1 < cLine) (I : Inv Y pins σ H s) (hD : H D = some (.dT kvs)) (hb : H b = some (.tup (k.map kV))) (hz : kvs.length < sizeLine)
    (ru : RelV (.ref b) u) (rr : RelV z r) (h : ∀ s', Inv Y pins σ (upd H D (.dT (putK kvs k z))) s' → Q () s') : wpAny (model Y.prog Y.w) Y.A (dictSet D u r) Q E s := by
  cases (show u = Value.ref b from ru)
  obtain ⟨l0, hd, xs, rel, dd⟩ := dt_of I.hok hD
  have hl : (putK kvs k z).length ≤ sizeLine := by have := length_putK kvs k z; omega
  have hxs : xs.length ≤ sizeLine := by rw [← Paired.length rel]; exact l0
  refine wpAny_dictSet_heap (hsz := hxs) (show Y.A.units < cLine by omega) (key_of I.hok hb) dd fun h' dd' hs => h _ ?_
  obtain ⟨q, es, ep, hq, h2, h3, h4, _, h5⟩ := dd'
  refine d_write I (by rw [hD]; exact True.intro) hs ⟨q, hq⟩ ⟨hl, hd, _, (rel.put k hb rr).keeps fun c ys ec => ?_, q, es, ep, hq, h2, h3, h4, h5⟩
  rw [upd_ne (ne_of ec hD (fun z => nomatch z))]
  exact ec
/-- what the source's things come to -/
abbrev InT (g : TG) (tk tv : TE) (D : Addr) (σ : L2.St) (vs : List Nat) : V → Hp → (Hp → Prop) → Prop := fun x H nx => g x σ H fun σ3 H3 => wipe σ3 vs = σ ∧ tk σ3 H3 fun y H4 => tv σ3 H4 fun z H5 => ∃ (kvs : List (List Key × V)) (k : List Key) (b : Addr), y = .ref b ∧ H5 b = some (.tup (k.map kV)) ∧ H5 D = some (.dT kvs) ∧ kvs.length < sizeLine ∧ nx (upd H5 D (.dT (putK kvs k z)))
theorem single {kx vx t0 i0 : Expr} {scope : Scope} {pos : Pos} {J : It} {fp : List Addr} {it D : Addr} {tn : Nat → Heap → Prop} {g : TG} {tk tv : TE} {pins : List (Addr × Obj)} {σ : L2.St} {H : Hp} {s : Shared} {vs : List Nat} {fin : Hp → Prop} {R : Result → Shared → Prop}
    (hu : Y.A.units + 1 < cLine) (hc : Y.calm = true) (hx : ∀ v s, ¬ Y.xe v s) (T : Turn Y.prog Y.w Y.K t0 J fp it tn) (pg : PG Y t0 g) (pk : PE Y kx tk) (pv : PE Y vx tv) (I : Inv Y pins σ H s) (hf : ∀ b ∈ fp, FpOk Y pins H b) (st : tn 0 s.heap) (h : Whole J H fin (InT g tk tv D σ vs))
    (done : ∀ s' H', Inv Y pins σ H' s' → fin H' → R (.ok .next) s') : codeAny (model Y.prog Y.w) Y.A (.compLoop (one kx vx t0 i0 scope pos) 0 (.ref it) (.ref D) Y.env) R s := by
  obtain ⟨W, ⟨m, w0⟩, turn⟩ := h
  refine compLoop_anyD (fun k s' => ∃ j H', Inv Y pins σ H' s' ∧ tn j s'.heap ∧ (∀ b ∈ fp, H' b = none) ∧ W j k H') (fun k s1 ⟨j, H1, I1, st1, n1, w1⟩ => ?_) m ⟨0, H, I, st, fun b hb => (hf b hb).1, w0⟩
  have f1 : ∀ b ∈ fp, FpOk Y pins H1 b := fun b hb => ⟨n1 b hb, (hf b hb).2⟩
  rcases turn j k H1 w1 with ⟨stop, q⟩ | ⟨go, nx, hn, b⟩
  · refine thnF (T.done Y rfl rfl rfl hc j pins _ σ H1 No I1 f1 st1 stop) fun r s2 ⟨hr, I2⟩ => ?_
    subst hr
    exact done s2 H1 I2 q
  · refine thnF (hand (vs := vs) hc hx T pg I1 f1 st1 go b) fun r s2 ⟨u, hr, h2⟩ => ?_
    subst hr
    refine thnF h2 fun _ s3 h3 => thnF h3 fun _ s4 ⟨pl, σ4, H4, hw, I4, b4, back⟩ => ?_
    refine wpAny_pure ?_
    rw [if_pos rfl]
    refine thnX hx (pk.run _ s4 σ4 H4 _ I4 b4) fun ku s5 ⟨y, H5, I5, r5, b5⟩ => ?_
    refine thnX hx (pv.run _ s5 σ4 H5 _ I5 b5) fun vu s6 ⟨z, H6, I6, r6, kvs, key, b, ey, hb, hD6, hz, nx6⟩ => ?_
    subst ey
    refine put_tup hu I6 hD6 hb hz r5 r6 fun s7 I7 => ?_
    obtain ⟨I8, st8, n8⟩ := back σ4 _ s7 I7 (wiped hw).1 (wiped hw).2
    obtain ⟨m', hm, w'⟩ := hn _ nx6
    exact ⟨m', hm, j + 1, _, I8, st8, n8, w'⟩
end
/-- {kx: vx for t0 in i0}: D the new dict; vs the block's names -/
def tDcT (wi : TI) (g : TG) (tk tv : TE) (vs : List Nat) : TE := fun σ H Q => wi σ H fun J H1 => ∀ D, H1 D = none → Whole J (upd H1 D (.dT [])) (Q (.ref D)) (InT g tk tv D (wipe σ vs) vs)
section
variable {X : Cx}
theorem with_dict {pins : List (Addr × Obj)} {σ : L2.St} {H : Hp} {s : Shared} {tg : Expr} {J : It} {fp : List Addr} {it : Addr} {tn : Nat → Heap → Prop} (I : Inv X pins σ H s) (T : Turn X.prog X.w X.K tg J fp it tn) (st : tn 0 s.heap) (f : ∀ b ∈ fp, FpOk X pins H b) :
    H s.heap.objs.size = none ∧ Inv X pins σ (upd H s.heap.objs.size (.dT [])) { s with heap := s.heap.push { cls := .type "dict", data := .dict #[] } } ∧ tn 0 (s.heap.push { cls := .type "dict", data := .dict #[] }) ∧
      ∀ b ∈ fp, FpOk X pins (upd H s.heap.objs.size (.dT [])) b ∧ b < (s.heap.push { cls := .type "dict", data := .dict #[] }).objs.size := by
  have fr : H s.heap.objs.size = none := I.hok.fresh (Nat.le_refl _)
  have kp : ∀ b o, s.heap.get? b = some o → (s.heap.push { cls := .type "dict", data := .dict #[] }).get? b = some o := fun b o e => Heap.get?_push_of_some _ e
  refine ⟨fr, I.laid (t' := s.toks) kp (Nat.le_refl _) (dt_empty s.heap I.big), T.keep _ _ _ st fun b _ o e => kp b o e, fun b hb => ?_⟩
  obtain ⟨o, e, _⟩ := T.obj _ _ st b hb
  have lt := Heap.lt_size e
  exact ⟨⟨by rw [upd_ne (Nat.ne_of_lt lt)]; exact (f b hb).1, (f b hb).2⟩, by rw [Heap.size_push]; exact Nat.lt_succ_of_lt lt⟩
theorem core {kx vx t0 i0 : Expr} {scope : Scope} {own : List (PySem.Str × Nat)} {pos pos' : Pos} {wi : TI} {g : TG} {tk tv : TE} {use : Option (Value → Sem Unit)} {Qf : Value → Shared → Prop} {pins : List (Addr × Obj)} {s : Shared} {σ : L2.St} {H : Hp} {Q : VK} (hu : X.A.units + 1 < cLine) (hc : X.calm = true) (hN : X.N.Nodup) (I : Inv X pins σ H s) (hi : PI X t0 i0 wi) (ok : BlkOk X.N X.env.scope scope own)
    (hg : ∀ (s : Shared) (H : Hp) (C : Addr) (cl : List (PySem.Str × Addr)) (fp : List Addr), PG (X.blk s H scope (compEnvC scope cl C X.env) fp) t0 g)
    (hk : ∀ (s : Shared) (H : Hp) (C : Addr) (cl : List (PySem.Str × Addr)) (fp : List Addr), PE (X.blk s H scope (compEnvC scope cl C X.env) fp) kx tk)
    (he : ∀ (s : Shared) (H : Hp) (C : Addr) (cl : List (PySem.Str × Addr)) (fp : List Addr), PE (X.blk s H scope (compEnvC scope cl C X.env) fp) vx tv)
    (hs : ∀ x, foldedSetIterable i0 X.env x = pure x) (h : tDcT wi g tk tv (own.map (·.2)) σ H Q)
    (hRR : ∀ D C s' m H', Inv X pins σ H' s' → Q (.ref D) H' → s'.heap.Ns C m → FpOk X pins H' C → compPost (model X.prog X.w) X.A X.xe use Qf (.ref D) C (.ok .next) s') :
    wpAny (model X.prog X.w) X.A (comprehension (one kx vx t0 i0 scope pos) scope X.env pos' newDict false (eval i0 X.env) use) Qf X.xe s := by
  have hfree : ∀ y ∈ scope.names, y.2 = .free → ∃ c, X.env.cells.lookup y.1 = some c := fun y hy e => (ok.free y hy e).elim (fun k => I.ok.has _ (.inl k)) fun k => I.ok.has _ (.inr k)
  refine wpAny_comprehension_free (use := use) rfl hs (closure_ok hfree) ok.kind (fun y hy e => by rw [ok.uniq y hy, e]) (thn (hi.run pins s σ H _ I h) fun xv s1 h1 => thn h1 fun itv s2 h2 => ?_)
  obtain ⟨it, fp, tn, J, H2, e, I2, T, st2, f2, q⟩ := h2
  subst e
  refine wpAny_newObj_type (newEnv_comp ?_)
  obtain ⟨fr, I3, st3, f3⟩ := with_dict I2 T st2 f2
  have q := q s2.heap.objs.size fr
  have I4 := block_start I3 ok hN f3
  have st4 : tn 0 (pushCells ((s2.heap.push { cls := .type "dict", data := .dict #[] }).push { cls := Value.type "dict", data := Data.dict #[] }) scope.names) := T.keep _ _ _ st3 fun b _ o e => pushCells_keeps _ _ _ _ (Heap.get?_push_of_some _ e)
  have L := single (Y := X.blk { s2 with heap := s2.heap.push { cls := .type "dict", data := .dict #[] } } (upd H2 s2.heap.objs.size (.dT [])) scope (compEnvC scope (cellsFrom ((s2.heap.push { cls := .type "dict", data := .dict #[] }).objs.size + 1) scope.names (cloFrom X.env.cells scope.names [])) (s2.heap.push { cls := .type "dict", data := .dict #[] }).objs.size X.env) fp) (kx := kx) (vx := vx) (i0 := i0) (scope := scope) (pos := pos) (R := compPost (model X.prog X.w) X.A X.xe use Qf (.ref s2.heap.objs.size) (s2.heap.push { cls := .type "dict", data := .dict #[] }).objs.size) hu hc (fun _ _ z => z) T (hg _ _ _ _ _) (hk _ _ _ _ _) (he _ _ _ _ _) I4
    (fun b hb => ⟨(f3 b hb).1.1, (I4.ok.exf b hb).1, I4.ok.exfs b hb, .inl hb, fun x c e => (I4.ok.exf b hb).2 x c e, fun p hp => absurd (show p ∈ ([] : List (Addr × Obj)) ++ [] from hp) (by simp)⟩) st4 q (fun s5 H5 I5 q5 => ?_)
  · exact codeAny_compStart_dict L (T.self X.A 0 _ _ _ st4 L)
  · have I6 : Inv X pins σ H5 s5 := I3.call' (ch := fp) I5.os I5.base I5.hok I5.bare fun b hb => ⟨(f3 b hb).1.2.2.2.1, (f3 b hb).1.2.1, (f3 b hb).1.2.2.2.2.1, (f3 b hb).1.2.2.2.2.2⟩
    obtain ⟨m, hn, _⟩ := I5.loc
    exact hRR _ _ s5 m H5 I6 q5 hn (I3.fpOk (Nat.le_refl _) (show H5 (s2.heap.push { cls := .type "dict", data := .dict #[] }).objs.size = none from I5.free))
theorem pe_dcT {kx vx t0 i0 : Expr} {scope : Scope} {own : List (PySem.Str × Nat)} {pos : Pos} {wi : TI} {g : TG} {tk tv : TE} (hu : X.A.units + 1 < cLine) (hc : X.calm = true) (hN : X.N.Nodup) (hi : PI X t0 i0 wi) (ok : BlkOk X.N X.env.scope scope own)
    (hg : ∀ (s : Shared) (H : Hp) (C : Addr) (cl : List (PySem.Str × Addr)) (fp : List Addr), PG (X.blk s H scope (compEnvC scope cl C X.env) fp) t0 g)
    (hk : ∀ (s : Shared) (H : Hp) (C : Addr) (cl : List (PySem.Str × Addr)) (fp : List Addr), PE (X.blk s H scope (compEnvC scope cl C X.env) fp) kx tk)
    (he : ∀ (s : Shared) (H : Hp) (C : Addr) (cl : List (PySem.Str × Addr)) (fp : List Addr), PE (X.blk s H scope (compEnvC scope cl C X.env) fp) vx tv)
    (hs : ∀ x, foldedSetIterable i0 X.env x = pure x := by intro _; rfl) : PE X (one kx vx t0 i0 scope pos) (tDcT wi g tk tv (own.map (·.2))) := by
  refine ⟨fun pins s σ H Q I h => ?_⟩
  rw [arm_eval_DictComp]
  refine core hu hc hN I hi ok hg hk he hs h fun D C s' m H' I' q hn f => ⟨m, hn, fun h'' sb => ?_⟩
  exact ⟨.ref D, H', I'.turned (t' := s'.toks) (fun b o hb e => (sb.2 b hb).trans e) f.1 f.2.1 f.2.2.2.1 f.2.2.2.2.1 f.2.2.2.2.2, rfl, q⟩
/-- put into a name at once -/
theorem ps_setDcT {i : Nat} {y : PySem.Str} {py : Pos} {kx vx t0 i0 : Expr} {scope : Scope} {own : List (PySem.Str × Nat)} {pos spos : Pos} {wi : TI} {g : TG} {tk tv : TE} (hu : X.A.units + 1 < cLine) (hc : X.calm = true) (hN : X.N.Nodup) (hy : X.N[i]? = some y) (hyl : X.env.scope.names.lookup y = some .local)
    (hsw : swapsWith (one kx vx t0 i0 scope pos) (some (.Name y py)) spos.line X.env = pure true) (hi : PI X t0 i0 wi) (ok : BlkOk X.N X.env.scope scope own)
    (hg : ∀ (s : Shared) (H : Hp) (C : Addr) (cl : List (PySem.Str × Addr)) (fp : List Addr), PG (X.blk s H scope (compEnvC scope cl C X.env) fp) t0 g)
    (hk : ∀ (s : Shared) (H : Hp) (C : Addr) (cl : List (PySem.Str × Addr)) (fp : List Addr), PE (X.blk s H scope (compEnvC scope cl C X.env) fp) kx tk)
    (he : ∀ (s : Shared) (H : Hp) (C : Addr) (cl : List (PySem.Str × Addr)) (fp : List Addr), PE (X.blk s H scope (compEnvC scope cl C X.env) fp) vx tv)
    (hs : ∀ x, foldedSetIterable i0 X.env x = pure x := by intro _; rfl) : PS X (.Assign [.Name y py] (one kx vx t0 i0 scope pos) spos) (tAsg (tDcT wi g tk tv (own.map (·.2))) (gName i)) := by
  constructor
  intro pins s σ H Z I h
  replace h : tDcT wi g tk tv (own.map (·.2)) σ H (fun x H1 => gName i x σ H1 Z.nx) := h
  rw [exec_Assign_Name_used _ _ _ _ hsw]
  refine wpAny_bind (wpAny_standAt (wpAny_bind ?_))
  show wpAny _ X.A (do let _ ← comprehension (one kx vx t0 i0 scope pos) scope X.env (firstIterPos [⟨t0, i0, [], 0⟩] pos) newDict false (eval i0 X.env) (some (assign (.Name y py) X.env))) _ _ s
  have c := core (use := some (assign (.Name y py) X.env)) (pos := pos) (pos' := firstIterPos [⟨t0, i0, [], 0⟩] pos) (Qf := fun _ s' => SP X pins Z .next s') hu hc hN I hi ok hg hk he hs h fun D C s1 m H1 I1 q hn f => by
    show wpAny _ _ (assign (.Name y py) X.env (.ref D)) _ _ _
    refine wpAny_assign_Name (store_ok2 (v := V.ref D) I1 hN hy (.inl hyl) rfl (fun s2 I2 ⟨a, sb, ha⟩ => ?_) (.inr hyl))
    have ne : C ≠ a := ha.elim (fun z => by rw [z]; exact f.2.1) fun z => fun e => f.2.2.2.2.1 y a z e.symm
    exact ⟨m, hn.sameBut sb ne, fun h3 sb3 => ⟨_, H1, I2.turned (t' := s2.toks) (fun b o hb e => (sb3.2 b hb).trans e) f.1 f.2.1 f.2.2.2.1 f.2.2.2.2.1 f.2.2.2.2.2, q⟩⟩
  exact wpAny_bind (thn c fun _ s' hq => wpAny_pure (wpAny_pure hq))
end
end DcT

set_option Elab.async false
set_option linter.all false
set_option maxRecDepth 100000
/-! o.name(e, ..) with a letter for the frozen heap: for the word of a comprehension -/
namespace L2
open PySem PySem.Spec PyProof.Rows
theorem pe_bmK {X : Cx} {K : PySem.W.Frag} (hK : X.K = K) {o e : Expr} {es : List Expr} {to : TE} {t : TA} {name : Str} {apos cpos : Pos} {T id : String} {r : V → List V → Hp → VK → Prop}
    (pa : PlainAttrs T) (slot : Slot T name id) (hty : typeOf (.builtin id) = pure (.type "method_descriptor")) (hm : MtR X id r) (ho : PE X o to) (ha : PA X (e :: es) t)
    (h1 : attributeBase o name X.env (eval o X.env) = eval o X.env := by rfl)
    (h2 : (((backTo cpos (starEach (e :: es) X.env)).all (!·.1) && (backToKw cpos (keywordEach [] X.env)).all (·.1.isSome)) && decide ((e :: es).length + ([] : List Keyword).length + (if ([] : List Keyword).isEmpty then 0 else 1) < 30)) = true := by rfl)
    (h3 : (apos.endLine == cpos.line) = true := by rfl) (h4 : starEach (e :: es) X.env = (false, eval e X.env) :: starEach es X.env := by rfl) (h5 : (backTo cpos (starEach es X.env)).any (·.1) = false := by rfl) :
    PE X (.Call (.Attribute o name apos) (e :: es) [] cpos) (tBM K T r to t) := by
  subst hK
  exact pe_bm pa slot hty hm ho ha h1 h2 h3 h4 h5
end L2

set_option Elab.async false
set_option linter.all false
set_option maxRecDepth 100000
set_option maxHeartbeats 4000000
namespace L2
open PySem PySem.Spec PyProof.Rows
namespace DelS
/-- what is kept of numbered items -/
theorem keep {α : Type} (c : Nat) (f : Nat → Bool) : ∀ (xs : List α) (j : Nat), (∀ k, j ≤ k → k < j + xs.length → f k = decide (c ≤ k)) →
    ((xs.zipIdx j).filterMap fun (x, k) => if f k = true then none else some x) = xs.take (c - j)
  | [], _, _ => by simp
  | x :: xs, j, h => by
    have ih := keep c f xs (j + 1) fun k h1 h2 => h k (by omega) (by rw [List.length_cons]; omega)
    have h0 := h j (Nat.le_refl _) (by rw [List.length_cons]; omega)
    rw [List.zipIdx_cons, List.filterMap_cons]
    by_cases hc : c ≤ j
    · have e : f j = true := by rw [h0]; exact decide_eq_true hc
      simp only [e, if_true]
      rw [ih, show c - (j + 1) = 0 by omega, show c - j = 0 by omega]
      rfl
    · have e : f j = false := by rw [h0]; exact decide_eq_false hc
      simp only [e, Bool.false_eq_true, if_false]
      rw [ih, show c - j = (c - (j + 1)) + 1 by omega, List.take_succ_cons]
end DelS
section
variable {prog : Program} {w : World} {A : Around} {E : Value → Shared → Prop} {s : Shared}
theorem bounds_from {a n : Nat} (ha : a ≤ n) : sliceBounds (some (a : Int)) none none n = ((a : Int), (n : Int), 1) := by
  simp only [sliceBounds, Option.getD_none]
  have h1 : ¬ ((a : Int) < 0) := by omega
  simp only [h1, if_false, show (1 : Int) > 0 by decide, if_true]
  congr 1
  omega
def selB (a n : Int) (k : Nat) : Bool := decide (a ≤ (k : Int)) && decide ((k : Int) < n) && ((((k : Int) - a) % 1) == 0)
theorem selB_is {a n k : Nat} (h : k < n) : selB (a : Int) (n : Int) k = decide (a ≤ k) := by
  unfold selB
  rw [Int.emod_one]
  have : decide ((k : Int) < (n : Int)) = true := decide_eq_true (by omega)
  rw [this]
  simp
/-- list.__delitem__ with a slice from a place on -/
theorem delItem_slice {l sl : Addr} {items : List Value} {n : Nat} {vl : Value} {a : Nat} {Q : Unit → Shared → Prop}
    (e : s.heap.get? l = some { cls := .type "list", data := .seq items.toArray n })
    (hs : s.heap.IsSliceOf sl vl .none .none) (pl : IsPart vl (some (a : Int))) (ha : a ≤ items.length)
    (hsz : items.length ≤ sizeLine) (h : ∀ f : Array Value → Array Value, f items.toArray = (items.take a).toArray → Q () { s with heap := s.heap.update l (Obj.mapSeq f) }) :
    wpAny (model prog w) A (delItem (.ref l) (.ref sl)) Q E s := by
  have hl : s.heap.IsList l items.toArray := PySem.IsL.isList e
  obtain ⟨os, hos, hcs, hds⟩ := id hs
  have hTs : s.TypeIs (.ref sl) "slice" := ⟨os, hos, hcs⟩
  have hstep : ¬ ((rawPart none == rawInt 0) = true) := Bool.false_ne_true
  have hk : (fun xs : Array Value => (xs.toList.zipIdx.filterMap fun (x, k) => if selB (a : Int) (items.toArray.size : Int) k = true then none else some x).toArray) items.toArray = (items.take a).toArray := by
    show ((items.toArray.toList.zipIdx.filterMap fun (x, k) => if selB (a : Int) (items.toArray.size : Int) k = true then none else some x).toArray) = _
    rw [DelS.keep a _ _ 0 (fun k _ h2 => selB_is (by rw [List.size_toArray]; simpa using h2))]
    simp
  have hz' : ((fun xs : Array Value => (xs.toList.zipIdx.filterMap fun (x, k) => if selB (a : Int) (items.toArray.size : Int) k = true then none else some x).toArray) items.toArray).size ≤ sizeLine + 1 := by
    rw [hk, List.size_toArray, List.length_take]
    omega
  unfold delItem
  try with_reducible refine wpAny_holding ?_
  first | refine wpAny_bind (wpAny_pure ?_) | skip
  refine wpAny_bind (wpAny_sequenceKey hl.typeIs (by decide) ?_)
  refine wpAny_bind (wpAny_callSpecial?_slot (name := Str.ofString "__delitem__") hl.typeIs F.slot_list_delitem
    (wpAny_call_entry F.slot_list_delitem hl.typeIs F.entry_list_delitem ?_ (F.args_list_delitem_2 _ _)))
  show wpAny _ _ (Builtin.List.listSubscript? (.ref sl) >>= _) _ _ s
  refine wpAny_bind ?_
  unfold Builtin.List.listSubscript?
  refine wpAny_bind (wpAny_specialOf hTs slice_no_index ?_)
  simp only [Option.isNone_none, if_true]
  refine wpAny_pure ?_
  show wpAny _ _ (typeOf (.ref sl) >>= _) _ _ s
  refine wpAny_bind (wpAny_typeOf hTs ?_)
  first
    | rw [if_neg (by decide)]
    | refine PySem.W.KFB.if_not (by decide) ?_
  rw [listSliceParts_eq]
  refine wpAny_bind (wpAny_bind (wpAny_field hos hds (x := .none) rfl (wpAny_bind (wpAny_listPart .none ?_))))
  rw [if_neg hstep]
  refine wpAny_bind (wpAny_field hos hds (x := vl) rfl (wpAny_bind (wpAny_listPart pl ?_)))
  refine wpAny_bind (wpAny_field hos hds (x := .none) rfl (wpAny_bind (wpAny_listPart .none (wpAny_pure ?_))))
  refine wpAny_bind (m := Builtin.List.listItems (.ref l)) ?_
  unfold Builtin.List.listItems
  refine wpAny_bind (wpAny_seqItems e rfl (wpAny_pure ?_))
  refine wpAny_bind (wpAny_of_eq ((sliceIndices_raw (some (a : Int)) none none items.toArray.size (by simp)).trans (congrArg (pure : Int × Int × Int → Sem (Int × Int × Int)) (bounds_from (by rw [List.size_toArray]; exact ha)))) ?_)
  refine wpAny_bind (wpAny_rule ?_)
  show wpAny _ _ (updateSeq l (fun xs => (xs.toList.zipIdx.filterMap fun (x, k) => if selB (a : Int) (items.toArray.size : Int) k = true then none else some x).toArray) >>= _) _ _ s
  refine wpAny_bind (wpAny_updateSeq (hz := by rw [List.size_toArray]; exact hsz) (_hz' := hz') e rfl ?_)
  refine wpAny_bind (wpAny_letGo ?_)
  first
    | exact wpAny_bind (wpAny_pure (wpAny_pure ⟨.none, rfl, wpAny_pure (h _ hk)⟩))
    | exact wpAny_pure ⟨.none, rfl, wpAny_pure (h _ hk)⟩
end
section
variable {X : Cx}
theorem del_slice {pins : List (Addr × Obj)} {s : Shared} {σ : St} {H : Hp} {l sl : Addr} {xs : List V} {a : Nat} {vl : Value} {Q : Unit → Shared → Prop} (I : Inv X pins σ H s)
    (hH : H l = some (.lst xs)) (hs : s.heap.IsSliceOf sl vl .none .none) (pl : IsPart vl (some (a : Int))) (ha : a ≤ xs.length)
    (h : ∀ s', Inv X pins σ (upd H l (.lst (xs.take a))) s' → Q () s') :
    wpAny (model X.prog X.w) X.A (delItem (.ref l) (.ref sl)) Q X.xe s := by
  obtain ⟨z, its, n, r, hl, e⟩ := I.lstM hH
  refine delItem_slice (a := a) e hs pl (by omega) (by omega) fun f hf => h _ ?_
  exact I.lset (its' := its.take a) (t' := s.toks) hH e hf (r.take a) (by rw [List.length_take]; omega)
/-- del xs[e:] -/
def tDelS (to : TE) (tl : TO) : TS := fun D σ H => to σ H fun x H1 => tl σ H1 fun y H2 => ∃ (l : Addr) (xs : List V) (k : Nat), x = .ref l ∧ y = some (k : Int) ∧ H2 l = some (.lst xs) ∧ k ≤ xs.length ∧ D.nx σ (upd H2 l (.lst (xs.take k)))
theorem ps_delS {o : Expr} {lo : Option Expr} {to : TE} {tl : TO} {p2 tpos pos : Pos} (ho : PE X o to) (hl : PO X lo tl) : PS X (.Delete [.Subscript o (.Slice lo none none p2) tpos] pos) (tDelS to tl) := by
  refine ⟨fun pins s σ H D I h => ?_⟩
  refine wpAny_Delete (wpAny_deleteEach_cons (wpAny_delete_Subscript (thn (ho.run pins s σ H _ I h) fun u s1 ⟨x, H1, I1, rx, q1⟩ => ?_)))
  refine wpAny_Slice (thn (hl.run pins s1 σ H1 _ I1 q1) fun vl s2 ⟨l, H2, I2, pl, q2⟩ => thn (po_none.run pins s2 σ H2 (fun o H3 => o = none ∧ H3 = H2) I2 ⟨rfl, rfl⟩) fun vu s3 ⟨u2, H3, I3, pu, e2, e3⟩ => ?_)
  subst e2
  subst e3
  cases pu
  rw [evalPart_none]
  refine wpAny_pure ?_
  obtain ⟨a, xs, k, ex, ey, hH, hk, q⟩ := q2
  subst ex
  subst ey
  cases (show u = Value.ref a from rx)
  have I4 : Inv X pins σ H3 { s3 with heap := s3.heap.push { cls := .type "slice", data := .fields #[vl, .none, .none] } } := I3.kept (t' := s3.toks) fun b ob q => Heap.get?_push_of_some _ q
  exact del_slice I4 hH (Heap.IsSliceOf.new ..) pl hk fun s5 I5 => wpAny_deleteEach_nil ⟨σ, _, I5, q⟩
end
end L2

set_option Elab.async false
set_option linter.all false
set_option maxRecDepth 100000
set_option maxHeartbeats 4000000
/-! list(d.values()) -/
namespace L2
open PySem PySem.Spec PyProof.Rows
def tListVals (te : TE) : TE := fun σ H Q => te σ H fun x H1 => ∃ d kvs, x = V.ref d ∧ H1 d = some (.dK kvs) ∧ ∀ p, H1 p = none → Q (.ref p) (upd H1 p (.lst (kvs.map (·.2))))
theorem kv_vals {κ : Type} : ∀ {kvs : List (κ × V)} {vs : List (κ × Value)}, KV kvs vs → Vals (kvs.map (·.2)) (vs.map (·.2))
  | [], [], _ => .nil
  | _ :: _, _ :: _, .cons h t => .cons h.2 (kv_vals t)
section
variable {X : Cx} {e : Expr} {te : TE} {p apos cpos pos : Pos}
theorem pe_listVals (hc : X.calm = true) (he : PE X e te) (hg : Gl X "list") (hm : X.mg "list" = none) (hv : bootBuiltins "list" = some (.type "list")) (hbase : attributeBase e "values" X.env (eval e X.env) = eval e X.env := by rfl) (hline : (apos.endLine == cpos.line) = true := by rfl)
    (hs : starEach [.Call (.Attribute e "values" apos) [] [] cpos] X.env = (false, eval (.Call (.Attribute e "values" apos) [] [] cpos) X.env) :: starEach [] X.env := by rfl) :
    PE X (.Call (.Name "list" p) [.Call (.Attribute e "values" apos) [] [] cpos] [] pos) (tListVals te) := by
  refine ⟨fun pins s σ H Q I hq => ?_⟩
  refine wpAny_Call_Name_kw (ld_blt I hg hm hv ?_)
  refine PyProof.Rows.callWith_type1 ?_ hs rfl
  rw [hs]
  show wpAny _ _ (spliced ((false, eval (.Call (.Attribute e "values" apos) [] [] cpos) X.env) :: backTo pos (starEach [] X.env))) _ _ s
  refine Calls.spliced_cons ?_
  refine wpAny_Call_method (T := "dict") (id := "dict.values") hbase rfl hline F.plainAttrs_dict F.slot_dict_values F.type_dict_values (thn (he.run pins s σ H _ I hq) fun u s1 ⟨x, H1, I1, rx, d, kvs, ex, hd, q⟩ => ?_)
  subst ex
  obtain rfl : u = Value.ref d := rx
  obtain ⟨hz, hs0, vs, kv, hdo⟩ := I1.hok d _ hd
  obtain ⟨ep, hat⟩ := hdo.dictAt
  have lk : kvs.length = vs.length := Paired.length kv
  have I2 : Inv X pins σ H1 { s1 with heap := s1.heap.push { cls := .type "dict_values", data := .fields #[.ref d] } } := I1.kept (t' := s1.toks) fun b ob q => Heap.get?_push_of_some _ q
  refine ⟨hdo.typeIs, hdo.mapOf.noDict, ?_⟩
  show wpAny _ _ (callWith cpos (.builtin "dict.values") [.ref d] [] []) _ X.xe s1
  refine method_meetsIn F.slot_dict_values F.entry_dict_values rfl (PySem.evalArgs_none ⟨rfl, hdo.typeIs, F.args_dict_values_1 _, _, meets_dict_values (mixKind X.prog X.w) d hs0, ⟨vs, hdo⟩, ?_⟩)
  refine Calls.spliced_nil ?_
  refine PySem.W.kdl_call (PySem.W.kdl_values (knd := mixKind X.prog X.w) (kvs := vs) (ep := ep) (r := s1.heap.objs.size) (d := d)) (I1.ok.hd hc) ⟨⟨_, Heap.get?_push_size _ rfl, rfl, rfl⟩, hat.push _⟩ (by rw [← lk]; exact hz) fun h' tk acc c' hk hD hacc => ?_
  have ev : acc.toList = vs.map (·.2) := PySem.W.kdl_vals_eq _ (by rw [Array.length_toList]; exact hacc.1) fun j v e => hacc.2 j v (by rw [← Array.getElem?_toList]; exact e)
  refine ⟨.ref _, upd H1 _ (.lst (kvs.map (·.2))), I2.laid (t' := tk) hk (Nat.le_refl _)
    (show ObjOk X.prog X.w _ _ _ (.lst (kvs.map (·.2))) from ⟨by rw [List.length_map]; exact hz, acc.toList, c', by rw [ev]; exact kv_vals kv, by rw [Array.toArray_toList]; exact hD⟩), rfl, q _ (I2.hok.fresh (Nat.le_refl _))⟩
end
end L2

set_option Elab.async false
set_option linter.all false
set_option maxRecDepth 100000
set_option maxHeartbeats 4000000
/-! len(set(ints)), some of them twice -/
namespace L2
open PySem PySem.Spec PyProof.Rows
theorem fm_nodup (val : Nat → Int) : ∀ i, (firstMet val i).Nodup
  | 0 => by rw [firstMet_zero]; exact List.nodup_nil
  | i + 1 => by
    rw [firstMet_succ]
    have ih := fm_nodup val i
    unfold step_dedup
    split
    · exact ih
    · rename_i c
      rw [List.nodup_append]
      refine ⟨ih, by simp, fun a ha b hb => ?_⟩
      rw [List.mem_singleton.mp hb]
      intro z
      apply c
      rw [List.any_eq_true]
      exact ⟨a, ha, by rw [z]; exact beq_self_eq_true _⟩
theorem fm_mem (ns : List Int) (k : Int) : k ∈ firstMet (fun i => ns.getD i 0) ns.length ↔ k ∈ ns := by
  have h := firstMet_any (fun i => ns.getD i 0) ns.length k
  have e : (List.range ns.length).map (fun i => ns.getD i 0) = ns := by
    refine List.ext_getElem (by simp) fun i h1 h2 => ?_
    simp [List.getElem?_eq_getElem h2]
  rw [e] at h
  have q : ∀ l : List Int, l.any (· == k) = true ↔ k ∈ l := fun l => by
    rw [List.any_eq_true]
    exact ⟨fun ⟨x, hx, e⟩ => by rw [← eq_of_beq e]; exact hx, fun h => ⟨k, h, beq_self_eq_true _⟩⟩
  rw [← q, h, q]
def tLenSetG (K : PySem.W.Frag) (t : TA) : TE := fun σ H Q => t σ H fun vs H1 => ∃ (l : Addr) (ns : List Int), vs = [V.ref l] ∧ SqL K H1 l (ns.map V.int) ∧ ns.length ≤ 4000 ∧ ∀ ys : List Int, ys.Nodup → (∀ k, k ∈ ys ↔ k ∈ ns) → ys.length ≤ ns.length → Q (.int ys.length) H1
section
variable {X : Cx} {e : Expr} {t : TA} {p p2 pos pos2 : Pos}
theorem pe_lenSetG (hc : X.calm = true) (hA : PA X [e] t) (hg : Gl X "len") (hm : X.mg "len" = none) (hg2 : Gl X "set") (hm2 : X.mg "set" = none)
    (he : starEach [e] X.env = (false, eval e X.env) :: starEach [] X.env := by rfl) :
    PE X (.Call (.Name "len" p) [.Call (.Name "set" p2) [e] [] pos2] [] pos) (tLenSetG X.K t) := by
  refine ⟨fun pins s σ H Q I h => ?_⟩
  refine Call_ (ld_blt I hg hm PySem.boot_len ?_)
  refine PyProof.Rows.callWith_builtin1 (PyProof.Rows.args_cons ?_ rfl) rfl rfl
  refine Call_ (ld_blt I hg2 hm2 PyProof.Rows.boot_set ?_)
  refine PyProof.Rows.callWith_type1 (thn (hA.run pos2 pins s σ H _ I h) fun us s1 ⟨vs, H1, I1, r1, l, ns, ev, hq, hl, q1⟩ => ?_) he rfl
  subst ev
  rw [Vals.ref1 r1]
  obtain ⟨its, r, pl, hz⟩ := I1.list hq
  have hlen : its.toArray.size = ns.length := by rw [List.size_toArray, ← r.length, List.length_map]
  refine call_set_list (I1.ok.hd hc) pl.isList (ns := ns) (by simpa using RZ.intsAre_vals r) (by rw [hlen]; unfold scanBound; omega) fun h' tk hS hk => ?_
  refine PyProof.Rows.args_nil ?_
  rw [hlen] at hS
  obtain ⟨o, es, ep, tt, ho, hex, hd, _, _, _, hf, hn⟩ := hS
  have I2 : Inv X pins σ H1 { s1 with heap := h', toks := tk } := I1.kept fun b o e => hk b o (Heap.lt_size e) e
  have hle := firstMet_length_le (fun i => ns.getD i 0) ns.length
  exact call_len_set ho hex hd hf (by rw [hn] <;> omega) ⟨.int _, H1, I2.tok _, ⟨_, by rw [hn]⟩, q1 _ (fm_nodup _ _) (fm_mem ns) hle⟩
end
end L2

set_option Elab.async false
set_option linter.all false
set_option maxRecDepth 100000
set_option maxHeartbeats 4000000
/-! several except clauses, some of which name the error -/
namespace L2
open PySem PySem.Spec PyProof.Rows
/-- an error at g that has landed in the frame of X -/
def Lnd (X : Cx) (pins : List (Addr × Obj)) (τ : St) (G : Hp) (g : Addr) (cls : Value) (d : Option Addr) (t : Shared) : Prop :=
  ∃ (B : Heap) (t0 : Shared), Inv X pins τ G t0 ∧ (∀ b o, t0.heap.get? b = some o → b ∉ frs X.stack → B.get? b = some o) ∧ t0.heap.UpToSlots t.heap ∧
    HandSPX.FlyingZ B (X.env :: X.outer) g (Zc cls d) t.heap ∧ G g = none ∧ t.os = t0.os ∧ AllBare t.gens ∧ g ≠ X.env.locals ∧ g ∉ X.fs
section
variable {X : Cx} {pins : List (Addr × Obj)} {τ : St} {G : Hp} {g : Addr} {cls : Value} {d : Option Addr} {t : Shared}
theorem Lnd.inv (l : Lnd X pins τ G g cls d t) : Inv X pins τ G t := by
  obtain ⟨B, t0, J, n, u, f, _, o, y, _⟩ := l
  exact J.landed n f.1 u o y
theorem Lnd.as_suite (l : Lnd X pins τ G g cls d t) : ∃ oe, Zc cls d oe ∧ (∃ vs, oe.data = .fields vs) ∧ t.heap.get? g = some oe ∧ Inv (X.suite g ((g, oe) :: (X.pn ++ pins))) [] τ G t := by
  have J := l.inv
  obtain ⟨B, t0, _, _, _, f, z, _, _, n1, n2⟩ := l
  obtain ⟨oe, vs, h1, h2, h3⟩ := f.there
  exact ⟨oe, h2, ⟨vs, h3⟩, h1, J.suite h1 h3 z n1 n2⟩
theorem Lnd.again {M : Model} {A : Around} {E : Value → Shared → Prop} {Q : Unit → Shared → Prop} (l : Lnd X pins τ G g cls d t) (q : ∀ t', Lnd X pins τ G g cls d t' → Q () t') : wpAny M A (setFlight (.ref g) none) Q E t := by
  obtain ⟨B, t0, J, n, u, f, z, o, y, n1, n2⟩ := l
  exact HandSPX.lands_againZ f fun h' f' u' => q _ ⟨B, t0, J, n, u.trans u', f', z, o, y, n1, n2⟩
/-- what the clauses wish, one behind the other; a slot where the clause names the error -/
def wCls (K : PySem.W.Frag) (Wout : WX) (D : Ends) : List (Value × Option Nat × (Addr → Value → Option Addr → TS)) → WX
  | [] => Wout
  | (c, none, ts) :: r => fun cls d τ G => ∃ b, PySem.W.exmOne K cls c = some b ∧ (b = true → ∀ g, G g = none → ts g cls d D τ G) ∧ (b = false → wCls K Wout D r cls d τ G)
  | (c, some i, ts) :: r => fun cls d τ G => ∃ b, PySem.W.exmOne K cls c = some b ∧
      (b = true → ∀ g, G g = none → ts g cls d { nx := fun τ' G' => D.nx (τ'.set i none) G', rt := D.rt, bk := fun τ' G' => D.bk (τ'.set i none) G', ct := fun τ' G' => D.ct (τ'.set i none) G' } (τ.set i (some (.ref g))) G) ∧
      (b = false → wCls K Wout D r cls d τ G)
inductive ClsOk (X : Cx) : List ExceptHandler → List (Value × Option Nat × (Addr → Value → Option Addr → TS)) → Prop
  | nil : ClsOk X [] []
  | plain {x : Str} {c : Value} {ts : Addr → Value → Option Addr → TS} {b : Stmt} {bs : List Stmt} {np hp : Pos} {hds : List ExceptHandler} {l : List (Value × Option Nat × (Addr → Value → Option Addr → TS))} (hc : Names X x c)
      (hsu : ∀ (g : Addr) (oe : Obj) (cls : Value) (d : Option Addr) (pn : List (Addr × Obj)), Zc cls d oe → (∃ vs, oe.data = .fields vs) → PSs (X.suite g ((g, oe) :: pn)) (b :: bs) (ts g cls d)) (r : ClsOk X hds l) :
      ClsOk X (.ExceptHandler (some (.Name x np)) none (b :: bs) hp :: hds) ((c, none, ts) :: l)
  | named {x n : Str} {i : Nat} {c : Value} {ts : Addr → Value → Option Addr → TS} {b : Stmt} {bs : List Stmt} {np hp : Pos} {hds : List ExceptHandler} {l : List (Value × Option Nat × (Addr → Value → Option Addr → TS))} (hc : Names X x c)
      (hN : X.N.Nodup) (hi : X.N[i]? = some n) (hk : X.env.kindOf n = some .local)
      (hsu : ∀ (g : Addr) (oe : Obj) (cls : Value) (d : Option Addr) (pn : List (Addr × Obj)), Zc cls d oe → (∃ vs, oe.data = .fields vs) → PSs (X.suite g ((g, oe) :: pn)) (b :: bs) (ts g cls d)) (r : ClsOk X hds l) :
      ClsOk X (.ExceptHandler (some (.Name x np)) (some n) (b :: bs) hp :: hds) ((c, some i, ts) :: l)
/-- the test of a clause -/
theorem Lnd.test {x : Str} {c : Value} {np hp : Pos} {b : Bool} {R : Result → Shared → Prop} (l : Lnd X pins τ G g cls d t) (hc : Names X x c) (e : PySem.W.exmOne X.K cls c = some b) (q : R (.ok (if b then .brk else .next)) t) :
    codeAny (model X.prog X.w) (X.A.mark (some (.ref g))) (.handlers (.ref g) [.ExceptHandler (some (.Name x np)) none [] hp] X.env) R t := by
  obtain ⟨oe, z, hv, he, S⟩ := l.as_suite
  have ty : PySem.W.Looks (model X.prog X.w) t.heap (typeOf (.ref g)) cls := fun A1 Q1 E1 s1 k1 q1 => wpAny_typeOf_ref (k1 _ _ he) (by rw [z.1]; exact q1)
  refine codeAny_handlers_test ?_
  have look := PySem.W.exm_one (M := model X.prog X.w) l.inv.kIn ty e
  obtain ⟨h1, h2, h3 | ⟨h3, h4, h5⟩⟩ := hc
  · exact ld_glob (X := X.suite g ((g, oe) :: (X.pn ++ pins))) S h1 h3 (look.here (by exact q)) h2
  · exact ld_blt (X := X.suite g ((g, oe) :: (X.pn ++ pins))) S h1 h3 h4 (look.here (by exact q)) h5 h2
/-- the clauses, gone through -/
theorem Lnd.through {Wout : WX} {D : Ends} (hst : X.stack = X.env :: X.outer) (hfr : X.env.frame = some X.env.locals) (tk : Takes X Wout) (ok : X.Ok) {hds : List ExceptHandler} {cl : List (Value × Option Nat × (Addr → Value → Option Addr → TS))} (hk : ClsOk X hds cl) :
    ∀ {t : Shared}, Lnd X pins τ G g cls d t → wCls X.K Wout D cl cls d τ G → wpAny (model X.prog X.w) X.A (handleBy (.ref g) X.env hds) (SP X pins D) X.xe t := by
  induction hk with
  | nil =>
    intro t l wish
    refine wpAny_handleBy_nil ?_
    obtain ⟨B, t0, J, n, u, f, z, o, y, _⟩ := l
    obtain ⟨_, _, _, oe, vs, trb, _, _, hob, _, hda, htr, _⟩ := id f
    have out : wpAny (model X.prog X.w) X.A (setFlight (.ref g) X.env.frame) (fun _ t4 => wpAny (model X.prog X.w) X.A (throw (.ref g) : Sem Flow) (SP X pins D) X.xe t4) X.xe t := by
      rw [hfr]
      exact HandSPX.setFlight_upZ f fun h4 held u4 => wpAny_throw (tk _ _ ⟨g, B, t0, pins, τ, G, cls, d, rfl, J, n, u.trans u4, .inr (.inr (by rw [hst]; exact held)), z, o, y, wish⟩)
    unfold PySem.passOn
    refine wpAny_bind (wpAny_field hob hda htr ?_)
    rw [if_neg (by simp : ¬ ((Value.ref trb == Value.none) = true))]
    first
      | exact wpAny_bind (wpAny_pure (wpAny_bind out))
      | exact wpAny_bind out
  | @plain x c ts b bs np hp hds2 l2 hc hsu r ih =>
    intro t l wish
    obtain ⟨k, e, yes, no⟩ := wish
    refine wpAny_handleBy_cons (l.test hc e ?_) (by intro q; cases q)
    cases k with
    | false => exact ih l (no rfl)
    | true =>
      refine codeAny_handlers_suite (l.again fun t' l' => ?_)
      obtain ⟨oe, z, hv, _, S⟩ := l'.as_suite
      have na : G g = none := by obtain ⟨_, _, _, _, _, _, q, _⟩ := l'; exact q
      refine wpAny_mono ((hsu g oe cls d (X.pn ++ pins) z hv).run [] _ _ G _ S (yes rfl g na)) (fun fl t6 hsp => ?_) (fun _ _ q => q.elim)
      match fl, hsp with
      | .next, ⟨_, _, S6, q6⟩ => exact ⟨_, _, S6.unsuite ok, q6⟩
      | .brk, ⟨_, _, S6, q6⟩ => exact ⟨_, _, S6.unsuite ok, q6⟩
      | .cont, ⟨_, _, S6, q6⟩ => exact ⟨_, _, S6.unsuite ok, q6⟩
      | .ret _, ⟨_, _, _, S6, r6, q6⟩ => exact ⟨_, _, _, S6.unsuite ok, r6, q6⟩
  | @named x n i c ts b bs np hp hds2 l2 hc hN hi hkd hsu r ih =>
    intro t l wish
    obtain ⟨k, e, yes, no⟩ := wish
    refine wpAny_handleBy_cons (l.test hc e ?_) (by intro q; cases q)
    cases k with
    | false => exact ih l (no rfl)
    | true =>
      refine codeAny_handlers_suite_as (l.again fun t' l' => ?_)
      obtain ⟨oe, z, hv, _, S⟩ := l'.as_suite
      have na : G g = none := by obtain ⟨_, _, _, _, _, _, q, _⟩ := l'; exact q
      refine store_ok (X := X.suite g ((g, oe) :: (X.pn ++ pins))) (v := .ref g) S hN hi (.inl hkd) rfl (fun t5 S5 => ?_) (.inr hkd)
      refine wpAny_mono ((hsu g oe cls d (X.pn ++ pins) z hv).run [] t5 _ G _ S5 (yes rfl g na)) (fun fl t6 hsp => ?_) (fun _ _ q => q.elim)
      match fl, hsp with
      | .next, ⟨_, _, S6, q6⟩ => exact gone_ok (S6.unsuite ok) hN hi hkd fun t7 J7 => ⟨_, _, J7, q6⟩
      | .brk, ⟨_, _, S6, q6⟩ => exact gone_ok (S6.unsuite ok) hN hi hkd fun t7 J7 => ⟨_, _, J7, q6⟩
      | .cont, ⟨_, _, S6, q6⟩ => exact gone_ok (S6.unsuite ok) hN hi hkd fun t7 J7 => ⟨_, _, J7, q6⟩
      | .ret _, ⟨_, _, _, S6, r6, q6⟩ => exact gone_ok (S6.unsuite ok) hN hi hkd fun t7 J7 => ⟨_, _, _, J7, r6, q6⟩
/-- try: body / except X: .. / except Y as e: .. -/
theorem ps_try_cls {body : List Stmt} {h₀ : ExceptHandler} {hds : List ExceptHandler} {pos : Pos} {tb : WX → TS} {Wout : WX} {cl : List (Value × Option Nat × (Addr → Value → Option Addr → TS))} (hst : X.stack = X.env :: X.outer) (hfr : X.env.frame = some X.env.locals) (tk : Takes X Wout)
    (hb : ∀ (W : WX) (pn : List (Addr × Obj)) (xe : Value → Shared → Prop), Takes (X.tr pn xe) W → PassesOwn (model X.prog X.w) X.A X.env xe → PSs (X.tr pn xe) body (tb W)) (hh : ClsOk X (h₀ :: hds) cl) :
    PS X (.Try body (h₀ :: hds) [] [] pos) (fun D σ H => tb (wCls X.K Wout D cl) D σ H) := by
  refine ⟨fun ps s0 σ0 H0 D I0 wish => ?_⟩
  have ok := I0.ok
  have frs1 : X.A.frames = some (X.env :: X.outer) := ok.frames.trans (congrArg some hst)
  let caught : Value → Shared → Prop := fun er ta => wpAny (model X.prog X.w) X.A (noteFrame er X.env) (fun _ tb' => wpAny (model X.prog X.w) X.A (setFlight er none) (fun _ tc => wpAny (model X.prog X.w) X.A (handleBy er X.env (h₀ :: hds)) (SP X ps D) X.xe tc) X.xe tb') X.xe ta
  have land : Takes (X.tr (X.pn ++ ps) caught) (wCls X.K Wout D cl) := by
    rintro er ta ⟨g, B, t0, _, τ, G, cls, d, rfl, J0, n, u, sky, na, o, y, q⟩
    have J := J0.ofTry ok
    refine Sky.land (B := B) (a := g) (Z := Zc cls d) (L := X.env.locals) (outer := X.outer) Zc.steady frs1 hfr (by rw [← hst]; exact sky) fun h3 f3 u3 => ?_
    obtain ⟨oe, vs, e1, e2, e3⟩ := f3.there
    have away : g ∉ frs (X.env :: X.outer) := fun hm => by
      obtain ⟨_, o2, q1, q2⟩ := f3.2.2.1.mem hm
      rw [e1] at q1
      cases q1
      exact q2 _ e3
    refine Lnd.through hst hfr tk ok hh ⟨B, t0, J, n, u.trans u3, f3, na, o, y, fun z => ?_, fun hm => ?_⟩ q
    · exact away (List.mem_filterMap.mpr ⟨X.env, List.mem_cons_self, by rw [hfr, z]⟩)
    · obtain ⟨en, m1, m2⟩ := List.mem_filterMap.mp hm
      exact away (List.mem_filterMap.mpr ⟨en, List.mem_cons_of_mem _ m1, m2⟩)
  refine wpAny_Try_except (wpAny_mono ((hb _ (X.pn ++ ps) caught land PassesOwn.looking).run [] s0 σ0 H0 D (I0.toTry _) wish) (fun fl t1 z => ?_) fun _ _ z => z)
  match fl, z with
  | .next, ⟨_, _, J1, q1⟩ => exact wpAny_execs_nil ⟨_, _, J1.ofTry ok, q1⟩
  | .brk, ⟨_, _, J1, q1⟩ => exact ⟨_, _, J1.ofTry ok, q1⟩
  | .cont, ⟨_, _, J1, q1⟩ => exact ⟨_, _, J1.ofTry ok, q1⟩
  | .ret _, ⟨_, _, _, J1, r1, q1⟩ => exact ⟨_, _, _, J1.ofTry ok, r1, q1⟩
end
end L2

set_option Elab.async false
set_option linter.all false
set_option maxRecDepth 100000
set_option maxHeartbeats 4000000
namespace L2
open PySem PySem.Spec PyProof.Rows PySem.W
theorem revS_pick (x : Str) : (Builtin.Str.strSliceIndices none none (-1) x.length).filterMap (x.cps[·]?) = x.cps.toList.reverse := by
  show (sliceRange ((x.cps.size : Int) - 1) (-1) (-1)).filterMap (x.cps[·]?) = _
  rw [krv_sliceRange, krv_range, List.filterMap_reverse, krv_all]
section
variable {X : Cx}
/-- z[::-1] of a text -/
def tRevS (te : TE) : TE := fun σ H Q => te σ H fun x H1 => ∃ z : Str, x = .str z ∧ z.length ≤ sizeLine ∧ Q (.str ⟨z.cps.toList.reverse.toArray⟩) H1
theorem pe_revS {e : Expr} {te : TE} {k : Nat} {p1 p2 p3 pos : Pos} (he : PE X e te) : PE X (.Subscript e (.Slice none none (some (.UnaryOp .USub (.Constant (.int 1) k p1) p2)) p3) pos) (tRevS te) := by
  refine ⟨fun pins s σ H Q I h => ?_⟩
  refine Subscript_ (thn (he.run pins s σ H _ I h) fun v s1 ⟨x, H1, I1, r1, q1⟩ => ?_)
  obtain ⟨z, ex, hz, q⟩ := q1
  subst ex
  obtain ⟨t, rfl⟩ := r1
  have hst : PO X (some (.UnaryOp .USub (.Constant (.int 1) k p1) p2)) (tPart (tUn (rU fun i => .int (-i)) (tC (.int 1)))) := po_some (pe_un un_neg pe_int)
  refine wpAny_Slice (thn (po_none.run pins s1 σ H1 (fun o H2 => o = none ∧ H2 = H1) I1 ⟨rfl, rfl⟩) fun vl s2 ⟨l, H2, I2, pl, el, e2⟩ => ?_)
  subst el e2
  refine thn (po_none.run pins s2 σ H2 (fun o H3 => o = none ∧ H3 = H2) I2 ⟨rfl, rfl⟩) fun vu s3 ⟨u, H3, I3, pu, eu, e3⟩ => ?_
  subst eu e3
  refine thn (hst.run pins s3 σ H3 (fun o H4 => o = some (-1) ∧ H4 = H3) I3 ⟨1, rfl, -1, rfl, rfl, rfl⟩) fun vs s4 ⟨o, H4, I4, ps, eo, e4⟩ => ?_
  subst eo e4
  have I5 : Inv X pins σ H4 { s4 with heap := s4.heap.push { cls := .type "slice", data := .fields #[vl, vu, vs] } } := I4.kept (t' := s4.toks) fun b ob q => Heap.get?_push_of_some _ q
  obtain ⟨l, rfl, hl0⟩ := L2.IsPart.raw pl
  obtain ⟨u, rfl, hu0⟩ := L2.IsPart.raw pu
  obtain ⟨st, rfl, hst0⟩ := L2.IsPart.raw ps
  have e1 : l = none := by cases l <;> simp_all
  have e2 : u = none := by cases u <;> simp_all
  subst e1 e2
  have e3 : ∃ tk, st = some (-1, tk) := by
    cases st with
    | none => simp at hst0
    | some p =>
      obtain ⟨a, b⟩ := p
      simp at hst0
      first | exact ⟨b, by rw [hst0]⟩ | exact ⟨b, by rw [← hst0]⟩
  obtain ⟨tk, rfl⟩ := e3
  show wpAny (model X.prog X.w) X.A (subscriptTail e (.Slice none none (some (.UnaryOp .USub (.Constant (.int 1) k p1) p2)) p3) (.str z t) (.ref s4.heap.objs.size)) (EP X pins σ Q) X.xe { s4 with heap := s4.heap.push { cls := .type "slice", data := .fields #[partValue none, partValue none, partValue (some (-1, tk))] } }
  refine tail_any (ops := [.str z t, .ref s4.heap.objs.size]) (typeIs_str _ _ _) F.slot_str_getitem.lookup ?_ (by with_unfolding_all rfl)
  refine wpAny_getItem_str_slice (l := none) (u := none) (st := some (-1, tk)) ⟨_, Heap.get?_push_size _ rfl, rfl, rfl⟩ rfl ?_
  show Made.post (if ((-1 : Int) == 1 && (Builtin.Str.strSliceIndices none none (-1) z.length).length == z.length) = true then Made.val (.str z t)
    else Made.str ⟨((Builtin.Str.strSliceIndices none none (-1) z.length).filterMap (z.cps[·]?)).toArray⟩) (EP X pins σ Q) _
  rw [if_neg (by simp), revS_pick]
  refine ⟨?_, .str _, H4, I5.tok _, ⟨_, rfl⟩, q⟩
  show (z.cps.toList.reverse.toArray).size ≤ sizeLine
  rw [List.size_toArray, List.length_reverse]
  exact hz
end
end L2

set_option Elab.async false
set_option linter.all false
set_option maxRecDepth 100000
set_option maxHeartbeats 4000000
namespace J
open PySem L2
def topS (i : Nat) : Stmt := PySem.Challenge.pw_onewayread_k10_whole_one_way_by_all_rows.main.body.getD i (.Pass ⟨0, 0, 0, 0⟩)
abbrev s_InvalidLoom_init : Stmt := inClass (topS 3) 0
abbrev N_InvalidLoom_init : List Str := ["self", "part", "at"]
abbrev P_InvalidLoom_init : List Str := ["self", "part", "at"]
theorem sc_InvalidLoom_init : FnScope N_InvalidLoom_init P_InvalidLoom_init (defScope s_InvalidLoom_init) := ⟨rfl, rfl, rfl, by decide +kernel, rfl, by decide +kernel, by decide +kernel⟩
abbrev s_is_number : Stmt := topS 8
abbrev N_is_number : List Str := ["thing", "low", "high"]
abbrev P_is_number : List Str := ["thing", "low", "high"]
theorem sc_is_number : FnScope N_is_number P_is_number (defScope s_is_number) := ⟨rfl, rfl, rfl, by decide +kernel, rfl, by decide +kernel, by decide +kernel⟩
abbrev s_is_sequence : Stmt := topS 9
abbrev N_is_sequence : List Str := ["thing", "fewest", "most"]
abbrev P_is_sequence : List Str := ["thing", "fewest", "most"]
theorem sc_is_sequence : FnScope N_is_sequence P_is_sequence (defScope s_is_sequence) := ⟨rfl, rfl, rfl, by decide +kernel, rfl, by decide +kernel, by decide +kernel⟩
abbrev s_is_signs : Stmt := topS 10
abbrev N_is_signs : List Str := ["thing", "letters", "sign", "one", "other"]
abbrev P_is_signs : List Str := ["thing"]
theorem sc_is_signs : FnScope N_is_signs P_is_signs (defScope s_is_signs) := ⟨rfl, rfl, rfl, by decide +kernel, rfl, by decide +kernel, by decide +kernel⟩
abbrev s_is_string_over : Stmt := topS 11
abbrev N_is_string_over : List Str := ["signs", "thing", "fewest", "most", "sign"]
abbrev P_is_string_over : List Str := ["signs", "thing", "fewest", "most"]
theorem sc_is_string_over : FnScope N_is_string_over P_is_string_over (defScope s_is_string_over) := ⟨rfl, rfl, rfl, by decide +kernel, rfl, by decide +kernel, by decide +kernel⟩
abbrev s_is_word : Stmt := topS 12
abbrev N_is_word : List Str := ["signs", "thing"]
abbrev P_is_word : List Str := ["signs", "thing"]
theorem sc_is_word : FnScope N_is_word P_is_word (defScope s_is_word) := ⟨rfl, rfl, rfl, by decide +kernel, rfl, by decide +kernel, by decide +kernel⟩
abbrev s_check_signs : Stmt := topS 13
abbrev N_check_signs : List Str := ["signs"]
abbrev P_check_signs : List Str := ["signs"]
theorem sc_check_signs : FnScope N_check_signs P_check_signs (defScope s_check_signs) := ⟨rfl, rfl, rfl, by decide +kernel, rfl, by decide +kernel, by decide +kernel⟩
abbrev s_is_arc : Stmt := topS 16
abbrev N_is_arc : List Str := ["signs", "thing", "state", "word", "goal"]
abbrev P_is_arc : List Str := ["signs", "thing"]
theorem sc_is_arc : FnScope N_is_arc P_is_arc (defScope s_is_arc) := ⟨rfl, rfl, rfl, by decide +kernel, rfl, by decide +kernel, by decide +kernel⟩
abbrev s_Loom_init : Stmt := inClass (topS 17) 0
abbrev N_Loom_init : List Str := ["self", "signs", "arcs", "at", "arc"]
abbrev P_Loom_init : List Str := ["self", "signs", "arcs"]
theorem sc_Loom_init : FnScope N_Loom_init P_Loom_init (defScope s_Loom_init) := ⟨rfl, rfl, rfl, by decide +kernel, rfl, by decide +kernel, by decide +kernel⟩
abbrev s_Loom_eq : Stmt := inClass (topS 17) 1
abbrev N_Loom_eq : List Str := ["self", "other"]
abbrev P_Loom_eq : List Str := ["self", "other"]
theorem sc_Loom_eq : FnScope N_Loom_eq P_Loom_eq (defScope s_Loom_eq) := ⟨rfl, rfl, rfl, by decide +kernel, rfl, by decide +kernel, by decide +kernel⟩
abbrev s_met : Stmt := topS 18
abbrev N_met : List Str := ["loom", "seen", "waiting", "place", "state", "_", "goal"]
abbrev P_met : List Str := ["loom"]
theorem sc_met : FnScope N_met P_met (defScope s_met) := ⟨rfl, rfl, rfl, by decide +kernel, rfl, by decide +kernel, by decide +kernel⟩
abbrev s_arcs_by_state : Stmt := topS 20
abbrev N_arcs_by_state : List Str := ["loom", "table", "number", "state", "word", "goal"]
abbrev P_arcs_by_state : List Str := ["loom"]
theorem sc_arcs_by_state : FnScope N_arcs_by_state P_arcs_by_state (defScope s_arcs_by_state) := ⟨rfl, rfl, rfl, by decide +kernel, rfl, by decide +kernel, by decide +kernel⟩
abbrev s_starts : Stmt := topS 21
abbrev N_starts : List Str := ["loom", "table", "found", "state", "arcs", "number", "word", "goal", "other", "longer", "end"]
abbrev P_starts : List Str := ["loom"]
theorem sc_starts : FnScope N_starts P_starts (defScope s_starts) := ⟨rfl, rfl, rfl, by decide +kernel, rfl, by decide +kernel, by decide +kernel⟩
abbrev s_steps : Stmt := topS 22
abbrev N_steps : List Str := ["table", "rest", "behind", "ahead", "left", "found", "number", "word", "goal"]
abbrev P_steps : List Str := ["table", "rest"]
theorem sc_steps : FnScope N_steps P_steps (defScope s_steps) := ⟨rfl, rfl, rfl, by decide +kernel, rfl, by decide +kernel, by decide +kernel⟩
abbrev s_explored : Stmt := topS 23
abbrev N_explored : List Str := ["loom", "table", "origins", "start", "order", "ways", "rest", "step"]
abbrev P_explored : List Str := ["loom"]
theorem sc_explored : FnScope N_explored P_explored (defScope s_explored) := ⟨rfl, rfl, rfl, by decide +kernel, rfl, by decide +kernel, by decide +kernel⟩
abbrev s_is_even : Stmt := topS 24
abbrev N_is_even : List Str := ["rest"]
abbrev P_is_even : List Str := ["rest"]
theorem sc_is_even : FnScope N_is_even P_is_even (defScope s_is_even) := ⟨rfl, rfl, rfl, by decide +kernel, rfl, by decide +kernel, by decide +kernel⟩
abbrev s_way_to : Stmt := topS 25
abbrev N_way_to : List Str := ["origins", "rest", "line", "place", "made"]
abbrev P_way_to : List Str := ["origins", "rest"]
theorem sc_way_to : FnScope N_way_to P_way_to (defScope s_way_to) := ⟨rfl, rfl, rfl, by decide +kernel, rfl, by decide +kernel, by decide +kernel⟩
abbrev s_grown : Stmt := topS 26
abbrev N_grown : List Str := ["behind", "ahead", "line", "rows", "_", "number", "turned"]
abbrev P_grown : List Str := ["behind", "ahead", "line"]
theorem sc_grown : FnScope N_grown P_grown (defScope s_grown) := ⟨rfl, rfl, rfl, by decide +kernel, rfl, by decide +kernel, by decide +kernel⟩
abbrev s_pair_at : Stmt := topS 27
abbrev N_pair_at : List Str := ["origins", "rest", "start", "line", "_", "state", "number", "other", "row", "longer"]
abbrev P_pair_at : List Str := ["origins", "rest"]
theorem sc_pair_at : FnScope N_pair_at P_pair_at (defScope s_pair_at) := ⟨rfl, rfl, rfl, by decide +kernel, rfl, by decide +kernel, by decide +kernel⟩
abbrev s_rests : Stmt := topS 29
abbrev N_rests : List Str := ["loom", "ways", "_"]
abbrev P_rests : List Str := ["loom"]
theorem sc_rests : FnScope N_rests P_rests (defScope s_rests) := ⟨rfl, rfl, rfl, by decide +kernel, rfl, by decide +kernel, by decide +kernel⟩
abbrev s_one_way : Stmt := topS 30
abbrev N_one_way : List Str := ["loom", "ways", "_", "rest"]
abbrev P_one_way : List Str := ["loom"]
theorem sc_one_way : FnScope N_one_way P_one_way (defScope s_one_way) := ⟨rfl, rfl, rfl, by decide +kernel, rfl, by decide +kernel, by decide +kernel⟩
abbrev s_Search_init : Stmt := inClass (topS 31) 0
abbrev N_Search_init : List Str := ["self"]
abbrev P_Search_init : List Str := ["self"]
theorem sc_Search_init : FnScope N_Search_init P_Search_init (defScope s_Search_init) := ⟨rfl, rfl, rfl, by decide +kernel, rfl, by decide +kernel, by decide +kernel⟩
abbrev s_Search_offer : Stmt := inClass (topS 31) 1
abbrev N_Search_offer : List Str := ["self", "rest", "cost", "origin"]
abbrev P_Search_offer : List Str := ["self", "rest", "cost", "origin"]
theorem sc_Search_offer : FnScope N_Search_offer P_Search_offer (defScope s_Search_offer) := ⟨rfl, rfl, rfl, by decide +kernel, rfl, by decide +kernel, by decide +kernel⟩
abbrev s_double : Stmt := topS 32
abbrev N_double : List Str := ["loom", "table", "search", "start", "rest", "_", "other", "cost", "step", "further", "turned", "signs"]
abbrev P_double : List Str := ["loom"]
theorem sc_double : FnScope N_double P_double (defScope s_double) := ⟨rfl, rfl, rfl, by decide +kernel, rfl, by decide +kernel, by decide +kernel⟩
abbrev s_l_state : Stmt := topS 34
abbrev N_l_state : List Str := ["_law_script"]
abbrev P_l_state : List Str := ["_law_script"]
theorem sc_l_state : FnScope N_l_state P_l_state (defScope s_l_state) := ⟨rfl, rfl, rfl, by decide +kernel, rfl, by decide +kernel, by decide +kernel⟩
abbrev s_l_draw : Stmt := topS 35
abbrev N_l_draw : List Str := ["_law_state_here", "_law_many", "_law_digit", "_law_cell", "_law_number"]
abbrev P_l_draw : List Str := ["_law_state_here", "_law_many"]
theorem sc_l_draw : FnScope N_l_draw P_l_draw (defScope s_l_draw) := ⟨rfl, rfl, rfl, by decide +kernel, rfl, by decide +kernel, by decide +kernel⟩
abbrev s_l_is_integer : Stmt := topS 36
abbrev N_l_is_integer : List Str := ["_law_thing"]
abbrev P_l_is_integer : List Str := ["_law_thing"]
theorem sc_l_is_integer : FnScope N_l_is_integer P_l_is_integer (defScope s_l_is_integer) := ⟨rfl, rfl, rfl, by decide +kernel, rfl, by decide +kernel, by decide +kernel⟩
abbrev s_l_word : Stmt := topS 37
abbrev N_l_word : List Str := ["_law_state_here", "_law_signs", "_law_most", "_law_size", "_law_k"]
abbrev P_l_word : List Str := ["_law_state_here", "_law_signs", "_law_most"]
theorem sc_l_word : FnScope N_l_word P_l_word (defScope s_l_word) := ⟨rfl, rfl, rfl, by decide +kernel, rfl, by decide +kernel, by decide +kernel⟩
abbrev s_l_loom : Stmt := topS 38
abbrev N_l_loom : List Str := ["_law_state_here", "_law_signs", "_law_places", "_law_many", "_law_most", "_law_arcs", "_law_k", "_law_start"]
abbrev P_l_loom : List Str := ["_law_state_here"]
theorem sc_l_loom : FnScope N_l_loom P_l_loom (defScope s_l_loom) := ⟨rfl, rfl, rfl, by decide +kernel, rfl, by decide +kernel, by decide +kernel⟩
abbrev s_l_made : Stmt := topS 39
abbrev N_l_made : List Str := ["_law_pair"]
abbrev P_l_made : List Str := ["_law_pair"]
theorem sc_l_made : FnScope N_l_made P_l_made (defScope s_l_made) := ⟨rfl, rfl, rfl, by decide +kernel, rfl, by decide +kernel, by decide +kernel⟩
abbrev s_l_leaving : Stmt := topS 40
abbrev N_l_leaving : List Str := ["_law_arcs", "_law_here", "_law_at"]
abbrev P_l_leaving : List Str := ["_law_arcs", "_law_here"]
theorem sc_l_leaving : FnScope N_l_leaving P_l_leaving (defScope s_l_leaving) := ⟨rfl, rfl, rfl, by decide +kernel, rfl, by decide +kernel, by decide +kernel⟩
abbrev s_l_met : Stmt := topS 41
abbrev N_l_met : List Str := ["_law_arcs", "_law_found", "_law_turn", "_law_here", "_law_at"]
abbrev P_l_met : List Str := ["_law_arcs"]
theorem sc_l_met : FnScope N_l_met P_l_met (defScope s_l_met) := ⟨rfl, rfl, rfl, by decide +kernel, rfl, by decide +kernel, by decide +kernel⟩
abbrev s_l_joined : Stmt := topS 42
abbrev N_l_joined : List Str := ["_law_arcs", "_law_row", "_law_at"]
abbrev P_l_joined : List Str := ["_law_arcs", "_law_row"]
theorem sc_l_joined : FnScope N_l_joined P_l_joined (defScope s_l_joined) := ⟨rfl, rfl, rfl, by decide +kernel, rfl, by decide +kernel, by decide +kernel⟩
abbrev s_l_end : Stmt := topS 43
abbrev N_l_end : List Str := ["_law_arcs", "_law_here", "_law_row"]
abbrev P_l_end : List Str := ["_law_arcs", "_law_here", "_law_row"]
theorem sc_l_end : FnScope N_l_end P_l_end (defScope s_l_end) := ⟨rfl, rfl, rfl, by decide +kernel, rfl, by decide +kernel, by decide +kernel⟩
abbrev s_l_all_rows : Stmt := topS 44
abbrev N_l_all_rows : List Str := ["_law_arcs", "_law_here", "_law_most", "_law_limit", "_law_found", "_law_turn", "_law_row", "_law_at"]
abbrev P_l_all_rows : List Str := ["_law_arcs", "_law_here", "_law_most", "_law_limit"]
theorem sc_l_all_rows : FnScope N_l_all_rows P_l_all_rows (defScope s_l_all_rows) := ⟨rfl, rfl, rfl, by decide +kernel, rfl, by decide +kernel, by decide +kernel⟩
abbrev s_l_rows_within : Stmt := topS 45
abbrev N_l_rows_within : List Str := ["_law_arcs", "_law_here", "_law_most", "_law_limit", "_law_size", "_law_found"]
abbrev P_l_rows_within : List Str := ["_law_arcs", "_law_here", "_law_most", "_law_limit"]
theorem sc_l_rows_within : FnScope N_l_rows_within P_l_rows_within (defScope s_l_rows_within) := ⟨rfl, rfl, rfl, by decide +kernel, rfl, by decide +kernel, by decide +kernel⟩
abbrev s_l_is_row : Stmt := topS 46
abbrev N_l_is_row : List Str := ["_law_arcs", "_law_here", "_law_thing", "_law_number"]
abbrev P_l_is_row : List Str := ["_law_arcs", "_law_here", "_law_thing"]
theorem sc_l_is_row : FnScope N_l_is_row P_l_is_row (defScope s_l_is_row) := ⟨rfl, rfl, rfl, by decide +kernel, rfl, by decide +kernel, by decide +kernel⟩
abbrev s_l_is_double : Stmt := topS 47
abbrev N_l_is_double : List Str := ["_law_arcs", "_law_thing", "_law_here", "_law_one", "_law_other", "_law_same_end"]
abbrev P_l_is_double : List Str := ["_law_arcs", "_law_thing"]
theorem sc_l_is_double : FnScope N_l_is_double P_l_is_double (defScope s_l_is_double) := ⟨rfl, rfl, rfl, by decide +kernel, rfl, by decide +kernel, by decide +kernel⟩
abbrev s_l_first_double : Stmt := topS 48
abbrev N_l_first_double : List Str := ["_law_arcs", "_law_most", "_law_limit", "_law_best", "_law_least", "_law_here", "_law_size", "_law_rows", "_law_seen", "_law_row", "_law_place"]
abbrev P_l_first_double : List Str := ["_law_arcs", "_law_most", "_law_limit"]
theorem sc_l_first_double : FnScope N_l_first_double P_l_first_double (defScope s_l_first_double) := ⟨rfl, rfl, rfl, by decide +kernel, rfl, by decide +kernel, by decide +kernel⟩
abbrev s_law : Stmt := topS 49
abbrev N_law : List Str := ["_law_script", "_law_state_here", "_law_turn", "_law_pair", "_law_arcs", "_law_loom_here", "_law_size", "_law_best", "_law_flag", "_law_told", "_law_far", "_law_again", "_law_here", "_law_word_here", "_law_after"]
abbrev P_law : List Str := ["_law_script"]
theorem sc_law : FnScope N_law P_law (defScope s_law) := ⟨rfl, rfl, rfl, by decide +kernel, rfl, by decide +kernel, by decide +kernel⟩
/-- what the top has written -/
structure Tx (K : PySem.W.Frag) (mg : Str → Option Value) : Type where
  f_InvalidLoom_init : Addr
  fd_InvalidLoom_init : FuncData
  F_InvalidLoom_init : Fun K "__init__" "InvalidLoom.__init__" s_InvalidLoom_init f_InvalidLoom_init fd_InvalidLoom_init
  b_InvalidLoom_init : Binds K fd_InvalidLoom_init P_InvalidLoom_init []
  f_is_number : Addr
  fd_is_number : FuncData
  F_is_number : Fun K "is_number" "is_number" s_is_number f_is_number fd_is_number
  b_is_number : Binds K fd_is_number P_is_number []
  m_is_number : mg "is_number" = some (.ref f_is_number)
  f_is_sequence : Addr
  fd_is_sequence : FuncData
  F_is_sequence : Fun K "is_sequence" "is_sequence" s_is_sequence f_is_sequence fd_is_sequence
  b_is_sequence : Binds K fd_is_sequence P_is_sequence []
  m_is_sequence : mg "is_sequence" = some (.ref f_is_sequence)
  f_is_signs : Addr
  fd_is_signs : FuncData
  F_is_signs : Fun K "is_signs" "is_signs" s_is_signs f_is_signs fd_is_signs
  b_is_signs : Binds K fd_is_signs P_is_signs []
  m_is_signs : mg "is_signs" = some (.ref f_is_signs)
  f_is_string_over : Addr
  fd_is_string_over : FuncData
  F_is_string_over : Fun K "is_string_over" "is_string_over" s_is_string_over f_is_string_over fd_is_string_over
  b_is_string_over : Binds K fd_is_string_over P_is_string_over []
  m_is_string_over : mg "is_string_over" = some (.ref f_is_string_over)
  f_is_word : Addr
  fd_is_word : FuncData
  F_is_word : Fun K "is_word" "is_word" s_is_word f_is_word fd_is_word
  b_is_word : Binds K fd_is_word P_is_word []
  m_is_word : mg "is_word" = some (.ref f_is_word)
  f_check_signs : Addr
  fd_check_signs : FuncData
  F_check_signs : Fun K "check_signs" "check_signs" s_check_signs f_check_signs fd_check_signs
  b_check_signs : Binds K fd_check_signs P_check_signs []
  m_check_signs : mg "check_signs" = some (.ref f_check_signs)
  f_is_arc : Addr
  fd_is_arc : FuncData
  F_is_arc : Fun K "is_arc" "is_arc" s_is_arc f_is_arc fd_is_arc
  b_is_arc : Binds K fd_is_arc P_is_arc []
  m_is_arc : mg "is_arc" = some (.ref f_is_arc)
  f_Loom_init : Addr
  fd_Loom_init : FuncData
  F_Loom_init : Fun K "__init__" "Loom.__init__" s_Loom_init f_Loom_init fd_Loom_init
  b_Loom_init : Binds K fd_Loom_init P_Loom_init []
  f_Loom_eq : Addr
  fd_Loom_eq : FuncData
  F_Loom_eq : Fun K "__eq__" "Loom.__eq__" s_Loom_eq f_Loom_eq fd_Loom_eq
  b_Loom_eq : Binds K fd_Loom_eq P_Loom_eq []
  f_met : Addr
  fd_met : FuncData
  F_met : Fun K "met" "met" s_met f_met fd_met
  b_met : Binds K fd_met P_met []
  m_met : mg "met" = some (.ref f_met)
  f_arcs_by_state : Addr
  fd_arcs_by_state : FuncData
  F_arcs_by_state : Fun K "arcs_by_state" "arcs_by_state" s_arcs_by_state f_arcs_by_state fd_arcs_by_state
  b_arcs_by_state : Binds K fd_arcs_by_state P_arcs_by_state []
  m_arcs_by_state : mg "arcs_by_state" = some (.ref f_arcs_by_state)
  f_starts : Addr
  fd_starts : FuncData
  F_starts : Fun K "starts" "starts" s_starts f_starts fd_starts
  b_starts : Binds K fd_starts P_starts []
  m_starts : mg "starts" = some (.ref f_starts)
  f_steps : Addr
  fd_steps : FuncData
  F_steps : Fun K "steps" "steps" s_steps f_steps fd_steps
  b_steps : Binds K fd_steps P_steps []
  m_steps : mg "steps" = some (.ref f_steps)
  f_explored : Addr
  fd_explored : FuncData
  F_explored : Fun K "explored" "explored" s_explored f_explored fd_explored
  b_explored : Binds K fd_explored P_explored []
  m_explored : mg "explored" = some (.ref f_explored)
  f_is_even : Addr
  fd_is_even : FuncData
  F_is_even : Fun K "is_even" "is_even" s_is_even f_is_even fd_is_even
  b_is_even : Binds K fd_is_even P_is_even []
  m_is_even : mg "is_even" = some (.ref f_is_even)
  f_way_to : Addr
  fd_way_to : FuncData
  F_way_to : Fun K "way_to" "way_to" s_way_to f_way_to fd_way_to
  b_way_to : Binds K fd_way_to P_way_to []
  m_way_to : mg "way_to" = some (.ref f_way_to)
  f_grown : Addr
  fd_grown : FuncData
  F_grown : Fun K "grown" "grown" s_grown f_grown fd_grown
  b_grown : Binds K fd_grown P_grown []
  m_grown : mg "grown" = some (.ref f_grown)
  f_pair_at : Addr
  fd_pair_at : FuncData
  F_pair_at : Fun K "pair_at" "pair_at" s_pair_at f_pair_at fd_pair_at
  b_pair_at : Binds K fd_pair_at P_pair_at []
  m_pair_at : mg "pair_at" = some (.ref f_pair_at)
  f_rests : Addr
  fd_rests : FuncData
  F_rests : Fun K "rests" "rests" s_rests f_rests fd_rests
  b_rests : Binds K fd_rests P_rests []
  m_rests : mg "rests" = some (.ref f_rests)
  f_one_way : Addr
  fd_one_way : FuncData
  F_one_way : Fun K "one_way" "one_way" s_one_way f_one_way fd_one_way
  b_one_way : Binds K fd_one_way P_one_way []
  m_one_way : mg "one_way" = some (.ref f_one_way)
  f_Search_init : Addr
  fd_Search_init : FuncData
  F_Search_init : Fun K "__init__" "Search.__init__" s_Search_init f_Search_init fd_Search_init
  b_Search_init : Binds K fd_Search_init P_Search_init []
  f_Search_offer : Addr
  fd_Search_offer : FuncData
  F_Search_offer : Fun K "offer" "Search.offer" s_Search_offer f_Search_offer fd_Search_offer
  b_Search_offer : Binds K fd_Search_offer P_Search_offer []
  f_double : Addr
  fd_double : FuncData
  F_double : Fun K "double" "double" s_double f_double fd_double
  b_double : Binds K fd_double P_double []
  m_double : mg "double" = some (.ref f_double)
  f_l_state : Addr
  fd_l_state : FuncData
  F_l_state : Fun K "_law_state" "_law_state" s_l_state f_l_state fd_l_state
  b_l_state : Binds K fd_l_state P_l_state []
  m_l_state : mg "_law_state" = some (.ref f_l_state)
  f_l_draw : Addr
  fd_l_draw : FuncData
  F_l_draw : Fun K "_law_draw" "_law_draw" s_l_draw f_l_draw fd_l_draw
  b_l_draw : Binds K fd_l_draw P_l_draw []
  m_l_draw : mg "_law_draw" = some (.ref f_l_draw)
  f_l_is_integer : Addr
  fd_l_is_integer : FuncData
  F_l_is_integer : Fun K "_law_is_integer" "_law_is_integer" s_l_is_integer f_l_is_integer fd_l_is_integer
  b_l_is_integer : Binds K fd_l_is_integer P_l_is_integer []
  m_l_is_integer : mg "_law_is_integer" = some (.ref f_l_is_integer)
  f_l_word : Addr
  fd_l_word : FuncData
  F_l_word : Fun K "_law_word" "_law_word" s_l_word f_l_word fd_l_word
  b_l_word : Binds K fd_l_word P_l_word []
  m_l_word : mg "_law_word" = some (.ref f_l_word)
  f_l_loom : Addr
  fd_l_loom : FuncData
  F_l_loom : Fun K "_law_loom" "_law_loom" s_l_loom f_l_loom fd_l_loom
  b_l_loom : Binds K fd_l_loom P_l_loom []
  m_l_loom : mg "_law_loom" = some (.ref f_l_loom)
  f_l_made : Addr
  fd_l_made : FuncData
  F_l_made : Fun K "_law_made" "_law_made" s_l_made f_l_made fd_l_made
  b_l_made : Binds K fd_l_made P_l_made []
  m_l_made : mg "_law_made" = some (.ref f_l_made)
  f_l_leaving : Addr
  fd_l_leaving : FuncData
  F_l_leaving : Fun K "_law_leaving" "_law_leaving" s_l_leaving f_l_leaving fd_l_leaving
  b_l_leaving : Binds K fd_l_leaving P_l_leaving []
  m_l_leaving : mg "_law_leaving" = some (.ref f_l_leaving)
  f_l_met : Addr
  fd_l_met : FuncData
  F_l_met : Fun K "_law_met" "_law_met" s_l_met f_l_met fd_l_met
  b_l_met : Binds K fd_l_met P_l_met []
  m_l_met : mg "_law_met" = some (.ref f_l_met)
  f_l_joined : Addr
  fd_l_joined : FuncData
  F_l_joined : Fun K "_law_joined" "_law_joined" s_l_joined f_l_joined fd_l_joined
  b_l_joined : Binds K fd_l_joined P_l_joined []
  m_l_joined : mg "_law_joined" = some (.ref f_l_joined)
  f_l_end : Addr
  fd_l_end : FuncData
  F_l_end : Fun K "_law_end" "_law_end" s_l_end f_l_end fd_l_end
  b_l_end : Binds K fd_l_end P_l_end []
  m_l_end : mg "_law_end" = some (.ref f_l_end)
  f_l_all_rows : Addr
  fd_l_all_rows : FuncData
  F_l_all_rows : Fun K "_law_all_rows" "_law_all_rows" s_l_all_rows f_l_all_rows fd_l_all_rows
  b_l_all_rows : Binds K fd_l_all_rows P_l_all_rows []
  m_l_all_rows : mg "_law_all_rows" = some (.ref f_l_all_rows)
  f_l_rows_within : Addr
  fd_l_rows_within : FuncData
  F_l_rows_within : Fun K "_law_rows_within" "_law_rows_within" s_l_rows_within f_l_rows_within fd_l_rows_within
  b_l_rows_within : Binds K fd_l_rows_within P_l_rows_within []
  m_l_rows_within : mg "_law_rows_within" = some (.ref f_l_rows_within)
  f_l_is_row : Addr
  fd_l_is_row : FuncData
  F_l_is_row : Fun K "_law_is_row" "_law_is_row" s_l_is_row f_l_is_row fd_l_is_row
  b_l_is_row : Binds K fd_l_is_row P_l_is_row []
  m_l_is_row : mg "_law_is_row" = some (.ref f_l_is_row)
  f_l_is_double : Addr
  fd_l_is_double : FuncData
  F_l_is_double : Fun K "_law_is_double" "_law_is_double" s_l_is_double f_l_is_double fd_l_is_double
  b_l_is_double : Binds K fd_l_is_double P_l_is_double []
  m_l_is_double : mg "_law_is_double" = some (.ref f_l_is_double)
  f_l_first_double : Addr
  fd_l_first_double : FuncData
  F_l_first_double : Fun K "_law_first_double" "_law_first_double" s_l_first_double f_l_first_double fd_l_first_double
  b_l_first_double : Binds K fd_l_first_double P_l_first_double []
  m_l_first_double : mg "_law_first_double" = some (.ref f_l_first_double)
  f_law : Addr
  fd_law : FuncData
  F_law : Fun K "law" "law" s_law f_law fd_law
  b_law : Binds K fd_law P_law []
  m_law : mg "law" = some (.ref f_law)
  n_all : mg "all" = none
  n_any : mg "any" = none
  n_bool : mg "bool" = none
  n_enumerate : mg "enumerate" = none
  n_int : mg "int" = none
  n_isinstance : mg "isinstance" = none
  n_len : mg "len" = none
  n_list : mg "list" = none
  n_min : mg "min" = none
  n_range : mg "range" = none
  n_sorted : mg "sorted" = none
  n_str : mg "str" = none
  n_tuple : mg "tuple" = none
  n_zip : mg "zip" = none
  g_heappush : mg "heappush" = some (.builtin "_heapq.heappush")
  g_heappop : mg "heappop" = some (.builtin "_heapq.heappop")
  t_MOST_SIGNS : Tok
  g_MOST_SIGNS : mg "MOST_SIGNS" = some (.int 4 t_MOST_SIGNS)
  t_LONGEST_WORD : Tok
  g_LONGEST_WORD : mg "LONGEST_WORD" = some (.int 12 t_LONGEST_WORD)
  t_LAST_STATE : Tok
  g_LAST_STATE : mg "LAST_STATE" = some (.int 63 t_LAST_STATE)
  t_MOST_ARCS : Tok
  g_MOST_ARCS : mg "MOST_ARCS" = some (.int 200 t_MOST_ARCS)
  C_Loom : Addr
  M_Loom : Mk K C_Loom f_Loom_init
  cl_Loom : Cls K C_Loom
  g_Loom : mg "Loom" = some (.ref C_Loom)
  na_Loom_signs : NoAttr K C_Loom "signs"
  na_Loom_arcs : NoAttr K C_Loom "arcs"
  C_Search : Addr
  M_Search : Mk K C_Search f_Search_init
  cl_Search : Cls K C_Search
  g_Search : mg "Search" = some (.ref C_Search)
  na_Search_costs : NoAttr K C_Search "costs"
  na_Search_origins : NoAttr K C_Search "origins"
  na_Search_queue : NoAttr K C_Search "queue"
  me_Search_offer : Meth K C_Search "offer" f_Search_offer
  C_InvalidLoom : Addr
  g_InvalidLoom : mg "InvalidLoom" = some (.ref C_InvalidLoom)
  kc_InvalidLoom : PySem.W.keepIn K (.ref C_InvalidLoom) = true
  E_InvalidLoom : ExcC K C_InvalidLoom
  ty_InvalidLoom : PySem.W.typeIn K (.ref C_InvalidLoom) = some (.type "type")
  X_InvalidLoom : PySem.ExX.ExcT K mg C_InvalidLoom f_InvalidLoom_init "InvalidLoom" ["part", "at"] "InvalidLoom.__init__" s_InvalidLoom_init
  ic_Loom : PySem.W.findIn K (.ref C_Loom) "__class__" = some (some (.builtin "object.__class__"))
  ig : PySem.W.specialIn K (.builtin "object.__class__") "__get__" = some (some (.builtin "getset_descriptor.__get__"))
  it : PySem.W.takesIn K (.builtin "object.__class__") = some true
  im_Loom : PySem.W.mroIn K C_Loom (.type "object") = some true
  si_InvalidLoom : PySem.W.subIn K (.ref C_InvalidLoom) (.type "int") = some false
  si_Loom : PySem.W.subIn K (.ref C_Loom) (.type "int") = some false
  eq_Loom : PySem.W.findIn K (.ref C_Loom) "__eq__" = some (some (.ref f_Loom_eq))
  fn_Loom_eq : PySem.W.isFn K (.ref f_Loom_eq) = true
  ne_Loom : PySem.W.findIn K (.ref C_Loom) "__ne__" = some (some (.builtin "object.__ne__"))
  sl_InvalidLoom : PySem.W.subIn K (.ref C_InvalidLoom) (.type "list") = some false
  st_InvalidLoom : PySem.W.subIn K (.ref C_InvalidLoom) (.type "tuple") = some false
  sl_Loom : PySem.W.subIn K (.ref C_Loom) (.type "list") = some false
  st_Loom : PySem.W.subIn K (.ref C_Loom) (.type "tuple") = some false
end J

set_option Elab.async false
set_option linter.all false
set_option maxRecDepth 100000
set_option maxHeartbeats 4000000
namespace J
open PySem L2
/-! ### frames -/
/-- all that was tracked but what stands at p is as it was -/
def Ex (p : Addr) (H H' : Hp) : Prop := ∀ b o, b ≠ p → H b = some o → H' b = some o
theorem Ex.refl (p : Addr) (H : Hp) : Ex p H H := fun _ _ _ h => h
theorem Ex.trans {p : Addr} {H H1 H2 : Hp} (a : Ex p H H1) (b : Ex p H1 H2) : Ex p H H2 := fun c o n h => b c o n (a c o n h)
theorem Ex.upd {p : Addr} {H : Hp} (o : HO) : Ex p H (upd H p o) := fun c u n h => by rw [upd_ne n]; exact h
theorem Ex.new {p q : Addr} {H : Hp} (o : HO) (h : H q = none) : Ex p H (L2.upd H q o) := fun c u n e => by
  rw [upd_ne (ne_of_none e h)]; exact e
theorem Same.ex {p : Addr} {H H' : Hp} (s : Same H H') : Ex p H H' := fun c o _ h => s c o h
theorem Same.new {q : Addr} {H : Hp} (o : HO) (h : H q = none) : Same H (L2.upd H q o) := fun c u e => by
  rw [upd_ne (ne_of_none e h)]; exact e
/-! ### the pool of draws -/
def stv (l : Addr) (a b c d e : Int) : List V := [.ref l, .int a, .int b, .int c, .int d, .int e]
def StAt (ns : List Int) (l : Addr) (H : Hp) (p : Addr) : Prop := ∃ (a b c d e : Int), H l = some (.lst (ns.map V.int)) ∧ H p = some (.lst (stv l a b c d e)) ∧ 0 ≤ a
theorem StAt.there {ns : List Int} {l : Addr} {H : Hp} {p : Addr} (h : StAt ns l H p) : (∃ o, H p = some o) ∧ ∃ o, H l = some o := by
  obtain ⟨a, b, c, d, e, h1, h2, h3⟩ := h
  exact ⟨⟨_, h2⟩, _, h1⟩
theorem hp_ne {H : Hp} {p q : Addr} {o : HO} (h : H p = some o) (hq : H q = none) : q ≠ p := by
  intro z
  rw [z, h] at hq
  cases hq
theorem StAt.ne {ns : List Int} {l : Addr} {H : Hp} {p q : Addr} (h : StAt ns l H p) (hq : H q = none) : q ≠ p ∧ q ≠ l := by
  obtain ⟨⟨o, h1⟩, u, h2⟩ := h.there
  exact ⟨hp_ne h1 hq, hp_ne h2 hq⟩
theorem StAt.same {ns : List Int} {l : Addr} {H H' : Hp} {p : Addr} (h : StAt ns l H p) (s : Same H H') : StAt ns l H' p := by
  obtain ⟨a, b, c, d, e, h1, h2, h3⟩ := h
  exact ⟨a, b, c, d, e, s _ _ h1, s _ _ h2, h3⟩
theorem StAt.upd {ns : List Int} {l : Addr} {H : Hp} {p q : Addr} {o : HO} (h : StAt ns l H p) (n : q ≠ p ∧ q ≠ l) : StAt ns l (L2.upd H q o) p := by
  obtain ⟨a, b, c, d, e, h1, h2, h3⟩ := h
  exact ⟨a, b, c, d, e, by rw [upd_ne n.2.symm]; exact h1, by rw [upd_ne n.1.symm]; exact h2, h3⟩
theorem Ex.free {p q : Addr} {H H' : Hp} (x : Ex p H H') (hq : H' q = none) (n : q ≠ p) : H q = none := by
  cases e : H q with
  | none => rfl
  | some o => rw [x _ _ n e] at hq; cases hq
theorem Ex.updNew {p q : Addr} {H H' : Hp} {o : HO} (x : Ex p H H') (hq : H q = none) : Ex p H (L2.upd H' q o) := fun b u n e => by
  rw [upd_ne (ne_of_none e hq)]; exact x b u n e
def spState (K : PySem.W.Frag) (ns : List Int) : Sp := fun vs H Q _ => ∃ a : Addr, vs = [.ref a] ∧ SqL K H a (ns.map V.int) ∧ ∀ H' p l, Same H H' → H p = none → H l = none → StAt ns l H' p → Q (.ref p) H'
def spDraw (ns : List Int) : Sp := fun vs H Q _ => ∃ (p l : Addr) (m : Int), vs = [.ref p, .int m] ∧ StAt ns l H p ∧ 0 < m ∧ m < 1073741824 ∧
  ∀ H' (r : Int), Ex p H H' → StAt ns l H' p → 0 ≤ r → r < m → Q (.int r) H'
theorem fm_nonneg (a : Int) {b : Int} (h : 0 < b) : 0 ≤ a.fmod b := Int.fmod_nonneg_of_pos a h
theorem fm_lt (a : Int) {b : Int} (h : 0 < b) : a.fmod b < b := Int.fmod_lt_of_pos a h
theorem atI_ints {ns : List Int} {a : Int} (h0 : 0 ≤ a) (h1 : a < ns.length) : ∃ n, atI (ns.map V.int) a = some (V.int n) := by
  obtain ⟨j, rfl⟩ := Int.eq_ofNat_of_zero_le h0
  have hj : j < ns.length := by exact_mod_cast h1
  exact ⟨ns[j], atI_nat (by rw [List.getElem?_map, List.getElem?_eq_getElem hj]; rfl)⟩
section
variable {P : Program} {w : World} {K : PySem.W.Frag} {mg : Str → Option Value} {base : Heap}
theorem ok_l_state (T : Tx K mg) (ns : List Int) : FnOk P w K mg base CX0 1 T.f_l_state T.fd_l_state P_l_state (spState K ns) := by
  refine T.F_l_state.ok sc_l_state (fun vs H Q E h => ?_) (fun cdv A outer s H vs Q E hr h => ?_)
  · obtain ⟨a, rfl, _⟩ := h
    rfl
  · obtain ⟨a, rfl, hS, k⟩ := h
    refine ⟨_, (pss_one (ps_ret (pe_lst (pa_cons (pe_callTy (call_list_ofK (K := K) rfl) rfl T.n_list (by decide +kernel) (pa_cons (pv 0) pa_nil)) (pa_cons pe_int (pa_cons pe_int (pa_cons pe_int (pa_cons pe_int (pa_cons pe_int pa_nil))))))))), ?_⟩
    refine ⟨_, rfl, a, _, rfl, .inl hS, fun l hl => ?_⟩
    refine ⟨by show 6 ≤ sizeLine; decide, fun p hp => ?_⟩
    have nlp : l ≠ p := fun q => by
      rw [q, upd_same] at hp
      cases hp
    have hp0 : H p = none := by rw [upd_ne nlp.symm] at hp; exact hp
    refine k _ p l ((Same.new _ hl).trans (Same.new _ hp)) hp0 hl ⟨0, 0, 0, 0, 0, ?_, upd_same, Int.le_refl _⟩
    rw [upd_ne nlp, upd_same]
theorem ok_l_draw (T : Tx K mg) (ns : List Int) : FnOk P w K mg base CX0 1 T.f_l_draw T.fd_l_draw P_l_draw (spDraw ns) := by
  refine T.F_l_draw.ok sc_l_draw (fun vs H Q E h => ?_) (fun cdv A outer s H vs Q E hr h => ?_)
  · obtain ⟨p, l, m, rfl, _⟩ := h
    rfl
  · obtain ⟨p, l, m, rfl, hst, hm, hm2, k⟩ := h
    refine ⟨_, (C8.pss_cut (ps_if (PW.pt (pw_and (pt_cmpR op_gt (pe_ix (ix_listK (K := K) rfl) (pv 0) pe_int (fun _ _ => rfl)) pe_int (nomark _)) (pw_and1 (pt_cmpR op_lt (pe_ix (ix_listK (K := K) rfl) (pv 0) pe_int (fun _ _ => rfl)) pe_int (nomark _))))) (pss_cons (ps_set (i := 2) sc_l_draw.nd rfl (Or.inl rfl) (pe_op op_modN (pe_callTy call_int1 rfl T.n_int (by decide +kernel) (pa_cons (pe_ix (ix_listK (K := K) rfl) (pv 0) pe_int (fun _ _ => rfl)) pa_nil)) (pv 1)))
        (pss_cons (ps_asg (pe_op op_fdivN (pe_ix (ix_listK (K := K) rfl) (pv 0) pe_int (fun _ _ => rfl)) (pv 1)) (pg_sub (pv 0) pe_int set_list))
        (pss_cons (ps_asg (pe_op op_add (pe_ix (ix_listK (K := K) rfl) (pv 0) pe_int (fun _ _ => rfl)) pe_int) (pg_sub (pv 0) pe_int set_list))
        (pss_one (ps_ret (pv 2)))))) pss_nil)
        (pss_cons (ps_asg (pe_op op_add (pe_ix (ix_listK (K := K) rfl) (pv 0) pe_int (fun _ _ => rfl)) pe_int) (pg_sub (pv 0) pe_int set_list))
        (C8.pss_cut (ps_if (pt_cmpR op_lt (pe_ix (ix_listK (K := K) rfl) (pv 0) pe_int (fun _ _ => rfl)) (pe_callB (call_len_seqK (K := K) rfl) rfl T.n_len (by decide +kernel) (pa_cons (pe_ix (ix_listK (K := K) rfl) (pv 0) pe_int (fun _ _ => rfl)) pa_nil)) (nomark _)) (pss_cons (ps_set (i := 3) sc_l_draw.nd rfl (Or.inl rfl) (pe_ix (ix_listK (K := K) rfl) (pe_ix (ix_listK (K := K) rfl) (pv 0) pe_int (fun _ _ => rfl)) (pe_ix (ix_listK (K := K) rfl) (pv 0) pe_int (fun _ _ => rfl)) (fun _ _ => rfl)))
        (pss_cons (ps_asg (pe_op op_add (pe_ix (ix_listK (K := K) rfl) (pv 0) pe_int (fun _ _ => rfl)) pe_int) (pg_sub (pv 0) pe_int set_list))
        (pss_cons (ps_asg (pe_op op_modN (pe_op op_add (pe_op op_mul (pe_ix (ix_listK (K := K) rfl) (pv 0) pe_int (fun _ _ => rfl)) pe_int) (pe_callTy call_int1 rfl T.n_int (by decide +kernel) (pa_cons (pv 3) pa_nil))) (pe_op op_pow pe_int pe_int)) (pg_sub (pv 0) pe_int set_list))
        (pss_one (ps_if (pt_cmpR op_ge (pv 3) (pe_op op_pow pe_int pe_int) (nomark _)) (pss_cons (ps_asg (pe_op op_fdivN (pv 3) (pv 1)) (pg_sub (pv 0) pe_int set_list))
        (pss_cons (ps_asg pe_int (pg_sub (pv 0) pe_int set_list))
        (pss_one (ps_ret (pe_op op_modN (pe_callTy call_int1 rfl T.n_int (by decide +kernel) (pa_cons (pv 3) pa_nil)) (pv 1)))))) pss_nil))))) pss_nil)
        (pss_cons (ps_set (i := 4) sc_l_draw.nd rfl (Or.inl rfl) (pe_op op_modN (pe_op op_mul (pe_op op_add (pe_op op_add (pe_op op_mul (pe_callTy call_int1 rfl T.n_int (by decide +kernel) (pa_cons (pe_ix (ix_listK (K := K) rfl) (pv 0) pe_int (fun _ _ => rfl)) pa_nil)) pe_int) (pe_op op_mul pe_int (pe_ix (ix_listK (K := K) rfl) (pv 0) pe_int (fun _ _ => rfl)))) pe_int) pe_int) pe_int))
        (pss_cons (ps_set (i := 4) sc_l_draw.nd rfl (Or.inl rfl) (pe_op op_modN (pe_op op_mul (pv 4) (pe_op op_add (pe_op op_fdivN (pv 4) pe_int) pe_int)) pe_int))
        (pss_cons (ps_set (i := 4) sc_l_draw.nd rfl (Or.inl rfl) (pe_op op_modN (pe_op op_mul (pv 4) (pe_op op_add (pe_op op_fdivN (pv 4) pe_int) pe_int)) pe_int))
        (pss_one (ps_ret (pe_op op_modN (pv 4) (pv 1)))))))))), ?_⟩
    obtain ⟨a, b, c, d, e, hl, hp, ha⟩ := hst
    have npl : p ≠ l := by
      intro q
      rw [q, hl] at hp
      injection hp with hp
      injection hp with hp
      cases ns with
      | nil => cases hp
      | cons x r => cases hp
    have nlp := npl.symm
    -- the Mid behind the first if: as at the start
    refine ⟨fun σ' H' => σ' = [some (.ref p), some (.int m), none, none, none] ∧ H' = H, ?_, ?_⟩
    · refine ⟨_, rfl, _, _, _, _, rfl, rfl, SqL.of hp, rfl, _, _, rfl, rfl, _, rfl, ?_⟩
      refine ite2 (fun c1 => ?_) (fun c1 => ?_)
      · refine ⟨_, rfl, _, _, _, _, rfl, rfl, SqL.of hp, rfl, _, _, rfl, rfl, _, rfl, ?_⟩
        refine ite2 (fun c2 => ?_) (fun c2 => ?_)
        · refine ⟨_, rfl, _, _, _, _, rfl, rfl, SqL.of hp, rfl, .inl ⟨_, rfl, _, rfl, _, _, rfl, rfl, by omega, ?_⟩⟩
          refine ⟨_, rfl, _, _, _, _, rfl, rfl, SqL.of hp, rfl, _, rfl, _, _, rfl, rfl, ⟨by omega, by omega⟩, _, rfl, p, _, _, _, rfl, rfl, hp, rfl, ?_⟩
          refine ⟨_, rfl, _, _, _, _, rfl, rfl, SqL.of upd_same, rfl, _, _, rfl, rfl, _, rfl, p, _, _, _, rfl, rfl, upd_same, rfl, ?_⟩
          refine ⟨_, rfl, k _ _ ((Ex.upd _).trans (Ex.upd _)) ⟨_, _, _, _, _, ?_, upd_same, ?_⟩ (fm_nonneg _ hm) (fm_lt _ hm)⟩
          · rw [upd_ne nlp, upd_ne nlp]; exact hl
          · exact ha
        · exact ⟨rfl, rfl⟩
      · exact iteF ⟨rfl, rfl⟩
    · rintro σ' H' ⟨rfl, rfl⟩
      refine ⟨_, rfl, _, _, _, _, rfl, rfl, SqL.of hp, rfl, _, _, rfl, rfl, _, rfl, p, _, _, _, rfl, rfl, hp, rfl, ?_⟩
      refine ⟨fun σ2 H2 => ∃ v a b c d e, σ2 = [some (.ref p), some (.int m), none, v, none] ∧ Ex p H' H2 ∧ H2 l = some (.lst (ns.map V.int)) ∧ H2 p = some (.lst (stv l a b c d e)) ∧ 0 ≤ a, ?_, ?_⟩
      · refine ⟨_, rfl, _, _, _, _, rfl, rfl, SqL.of upd_same, rfl, _, rfl, _, _, _, _, rfl, rfl, SqL.of upd_same, rfl, l, _, rfl, .inl (SqL.of (by rw [upd_ne nlp]; exact hl)), _, _, rfl, rfl, _, rfl, ?_⟩
        refine ite2 (fun c1 => ?_) (fun c1 => ?_)
        · rw [List.length_map] at c1
          obtain ⟨n, hn⟩ := atI_ints (ns := ns) ha (by simpa using c1)
          refine ⟨_, rfl, _, _, _, _, rfl, rfl, SqL.of upd_same, rfl, _, rfl, _, _, _, _, rfl, rfl, SqL.of upd_same, rfl, l, _, _, _, rfl, rfl, SqL.of (by rw [upd_ne nlp]; exact hl), hn, ?_⟩
          refine ⟨_, rfl, _, _, _, _, rfl, rfl, SqL.of upd_same, rfl, _, _, rfl, rfl, _, rfl, p, _, _, _, rfl, rfl, upd_same, rfl, ?_⟩
          refine ⟨_, rfl, _, _, _, _, rfl, rfl, SqL.of upd_same, rfl, _, _, rfl, rfl, .inr (by decide), _, rfl, .inl ⟨_, rfl, _, _, rfl, rfl, _, _, rfl, rfl, ⟨by decide, by decide, by decide⟩, _, _, rfl, rfl, (by decide : (10 : Int) ^ 18 ≠ 0), _, rfl, p, _, _, _, rfl, rfl, upd_same, rfl, ?_⟩⟩
          refine ⟨_, rfl, _, _, rfl, rfl, ⟨by decide, by decide, by decide⟩, _, _, rfl, rfl, _, rfl, ?_⟩
          have el : ∀ {o1 o2 o3 : HO}, upd (upd (upd H' p o1) p o2) p o3 l = some (.lst (ns.map V.int)) := fun {o1 o2 o3} => by rw [upd_ne nlp, upd_ne nlp, upd_ne nlp]; exact hl
          refine ite2 (fun c2 => ?_) (fun c2 => ?_)
          · refine ⟨_, rfl, _, rfl, _, _, rfl, rfl, ⟨by omega, by omega⟩, _, rfl, p, _, _, _, rfl, rfl, upd_same, rfl, ?_⟩
            refine ⟨_, rfl, p, _, _, _, rfl, rfl, upd_same, rfl, ?_⟩
            refine ⟨_, rfl, .inl ⟨_, rfl, _, rfl, _, _, rfl, rfl, by omega, ?_⟩⟩
            refine k _ _ (((((Ex.upd _).trans (Ex.upd _)).trans (Ex.upd _)).trans (Ex.upd _)).trans (Ex.upd _)) ⟨_, _, _, _, _, ?_, upd_same, ?_⟩ (fm_nonneg _ hm) (fm_lt _ hm)
            · rw [upd_ne nlp, upd_ne nlp]; exact el
            · omega
          · exact ⟨_, _, _, _, _, _, rfl, ((Ex.upd _).trans (Ex.upd _)).trans (Ex.upd _), el, upd_same, by omega⟩
        · exact ⟨_, _, _, _, _, _, rfl, Ex.upd _, by rw [upd_ne nlp]; exact hl, upd_same, ha⟩
      · rintro σ2 H2 ⟨v, a, b, c, d, e, rfl, x2, hl2, hp2, ha2⟩
        refine ⟨_, rfl, _, _, _, _, rfl, rfl, SqL.of hp2, rfl, .inl ⟨_, rfl, _, _, rfl, rfl, .inr (by decide), _, rfl, _, _, _, _, rfl, rfl, SqL.of hp2, rfl, _, _, rfl, rfl, .inl (by decide), _, _, rfl, rfl, _, _, rfl, rfl, _, _, rfl, rfl, .inr (by decide), _, _, rfl, rfl, (by decide : (2147483647 : Int) ≠ 0), ?_⟩⟩
        have hx0 := fm_nonneg ((e * 1000003 + 7919 * d + 1) * 48271) (b := 2147483647) (by decide)
        have hx1 := fm_lt ((e * 1000003 + 7919 * d + 1) * 48271) (b := 2147483647) (by decide)
        refine ⟨_, rfl, _, rfl, _, _, rfl, rfl, ⟨by decide, by decide⟩, _, _, rfl, rfl, _, _, rfl, rfl, .inl ⟨Int.lt_of_lt_of_le (by decide) hx0, Int.lt_trans hx1 (by decide)⟩, _, _, rfl, rfl, (by decide : (2147483647 : Int) ≠ 0), ?_⟩
        refine ⟨_, rfl, _, rfl, _, _, rfl, rfl, ⟨by decide, by decide⟩, _, _, rfl, rfl, _, _, rfl, rfl, .inl ⟨Int.lt_of_lt_of_le (by decide) (fm_nonneg _ (by decide)), Int.lt_trans (fm_lt _ (by decide)) (by decide)⟩, _, _, rfl, rfl, (by decide : (2147483399 : Int) ≠ 0), ?_⟩
        refine ⟨_, rfl, _, rfl, _, _, rfl, rfl, by omega, ?_⟩
        exact k _ _ x2 ⟨_, _, _, _, _, hl2, hp2, ha2⟩ (fm_nonneg _ hm) (fm_lt _ hm)
end
end J


set_option Elab.async false
set_option linter.all false
set_option maxRecDepth 100000
set_option maxHeartbeats 4000000
namespace J
open PySem L2

theorem joinL_nil : ∀ ys : List (List Nat), TL.joinL [] ys = ys.flatten
  | [] => rfl
  | [p] => by simp [TL.joinL]
  | p :: q :: r => by
    show p ++ ([] ++ TL.joinL [] (q :: r)) = _
    rw [joinL_nil (q :: r)]
    simp
theorem join_flat (ys : List (List Nat)) : Txt.join (SX.S []) (ys.map SX.S) = SX.S ys.flatten := by rw [SX.join_S, joinL_nil]
theorem emptyS : Str.ofString "" = SX.S [] := rfl
theorem sum_ones (us : List Nat) : ((us.map fun c => SX.S [c]).map (·.length)).sum = us.length := by
  induction us with
  | nil => rfl
  | cons a r ih => simp only [List.map_cons, List.sum_cons, ih, SX.S_len, List.length_cons, List.length_nil]; omega
theorem atI_mem {α : Type} {xs : List α} {i : Int} (h0 : 0 ≤ i) (h1 : i < xs.length) : ∃ v, v ∈ xs ∧ atI xs i = some v := by
  obtain ⟨j, rfl⟩ := Int.eq_ofNat_of_zero_le h0
  have hj : j < xs.length := by exact_mod_cast h1
  exact ⟨xs[j], List.getElem_mem hj, atI_nat (List.getElem?_eq_getElem hj)⟩
/-- signs that a loom may have -/
def Signs (sg : List Nat) : Prop := sg ∈ ([[97], [97, 98], [97, 98, 99], [120, 122], [98, 100, 107, 122], [113, 119]] : List (List Nat))
theorem Signs.len {sg : List Nat} (h : Signs sg) : 1 ≤ sg.length ∧ sg.length ≤ 4 := by
  revert sg; unfold Signs; decide
/-- a word over the signs -/
def Word (sg u : List Nat) : Prop := 1 ≤ u.length ∧ u.length ≤ 12 ∧ ∀ c ∈ u, c ∈ sg
def spWord (ns : List Int) : Sp := fun vs H Q _ => ∃ (p l : Addr) (sg : List Nat) (m : Int), vs = [.ref p, .str (SX.S sg), .int m] ∧ StAt ns l H p ∧ Signs sg ∧ 0 < m ∧ m ≤ 12 ∧
  ∀ H' u, Ex p H H' → StAt ns l H' p → Word sg u → Q (.str (SX.S u)) H'
theorem sizeLine16 : (16777216 : Nat) ≤ sizeLine := by decide
theorem le_size {n : Nat} (h : n ≤ 100000) : n ≤ sizeLine := Nat.le_trans h (by decide)
theorem lt_size {n : Nat} (h : n ≤ 100000) : n < sizeLine := Nat.lt_of_le_of_lt h (by decide)
section
variable {P : Program} {w : World} {K : PySem.W.Frag} {mg : Str → Option Value} {base : Heap}

theorem ok_l_word (T : Tx K mg) (ns : List Int) : FnOk P w K mg base CX0 2 T.f_l_word T.fd_l_word P_l_word (spWord ns) := by
  have G_l_draw : FnOk P w K mg base CX0 1 T.f_l_draw T.fd_l_draw P_l_draw (spDraw ns) := ok_l_draw T ns
  refine T.F_l_word.ok sc_l_word (fun vs H Q E h => ?_) (fun cdv A outer s H vs Q E hr h => ?_)
  · obtain ⟨p, l, sg, m, rfl, _⟩ := h
    rfl
  · obtain ⟨p, l, sg, m, rfl, hst, hsg, hm, hm2, k⟩ := h
    refine ⟨_, (pss_cons (ps_set (i := 3) sc_l_word.nd rfl (Or.inl rfl) (pe_op op_add pe_int (pe_call G_l_draw (hr.mono (by decide)) rfl T.m_l_draw T.F_l_draw.kp T.b_l_draw .nil pass0 (pa_cons (pv 0) (pa_cons (pv 2) pa_nil)))))
        (pss_one (ps_ret (pe_join pe_str (pe_lc (own := [("_law_k", 4)]) (g := (gName 4)) rfl sc_l_word.nd (pi_range1 rfl T.n_range (pa_cons (pv 3) pa_nil)) (blkOk_by (N := N_l_word) (sc := defScope s_l_word) (by decide +kernel)) (fun _ _ _ _ _ => (pg_name (i := 4) sc_l_word.nd rfl (Or.inl rfl))) (fun _ _ _ _ _ => pts_nil) (fun _ _ _ _ _ => (pe_ix ix_str (pv 1) (pe_call G_l_draw (hr.mono (by decide)) rfl T.m_l_draw T.F_l_draw.kp T.b_l_draw .nil pass0 (pa_cons (pv 0) (pa_cons (pe_callB call_len_str rfl T.n_len (by decide +kernel) (pa_cons (pv 1) pa_nil)) pa_nil))) (fun _ _ => rfl)))))))), ?_⟩
    have hlen := hsg.len
    refine ⟨_, rfl, _, rfl, p, l, m, rfl, hst, hm, by omega, fun H1 r x1 st1 r0 r1 => ⟨_, _, rfl, rfl, ?_⟩⟩
    refine ⟨⟨_, rfl⟩, _, rfl, _, rfl, by omega, by omega, fun D hD => lc_range (lo := 0) (n := (1 + r).toNat) (fun i H' => ∃ us : List Nat, us.length = i ∧ (∀ c ∈ us, c ∈ sg) ∧ H' D = some (.lst ((us.map fun c => SX.S [c]).map V.str)) ∧ Ex p H H' ∧ StAt ns l H' p) ?_ ?_ ?_⟩
    · exact ⟨[], rfl, fun _ h => (nomatch h), upd_same, x1.trans (Ex.new _ hD), st1.same (Same.new _ hD)⟩
    · rintro i H2 hi ⟨us, rfl, hu, hDs, x2, st2⟩
      refine ⟨rfl, ?_⟩
      refine ⟨_, rfl, _, rfl, _, rfl, _, rfl, le_size (by rw [SX.S_len]; omega), p, l, _, rfl, st2, by rw [SX.S_len]; omega, by rw [SX.S_len]; omega, fun H3 r3 x3 st3 r30 r31 => ?_⟩
      rw [SX.S_len] at r31
      obtain ⟨c, hc, hat⟩ := atI_mem (xs := sg) r30 r31
      have nD := st1.ne hD
      refine ⟨_, _, c, rfl, rfl, le_size (by rw [SX.S_len]; omega), hat, _, x3 _ _ nD.1 hDs, lt_size (by simp; omega), us ++ [c], by simp, ?_, ?_, (x2.trans x3).updNew (x1.free hD nD.1), st3.upd nD⟩
      · intro d hd
        rcases List.mem_append.mp hd with h | h
        · exact hu d h
        · rw [List.mem_singleton.mp h]; exact hc
      · rw [upd_same]; simp
    · rintro H2 ⟨us, hl, hu, hDs, x2, st2⟩
      have hf : ∀ l : List Nat, (l.map fun c => [c]).flatten = l := fun l => by induction l with
        | nil => rfl
        | cons a l ih => simpa using ih
      refine ⟨_, _, us.map fun c => SX.S [c], rfl, rfl, .inl (SqL.of hDs), ?_, ?_⟩
      · rw [sum_ones, emptyS, SX.S_len]
        simp
        omega
      · have e : us.map (fun c => SX.S [c]) = (us.map fun c => [c]).map SX.S := by rw [List.map_map]; rfl
        rw [e, emptyS, join_flat, hf]
        exact k _ us x2 st2 ⟨by omega, by omega, hu⟩
end
end J


set_option Elab.async false
set_option linter.all false
set_option maxRecDepth 100000
set_option maxHeartbeats 4000000
namespace J
open PySem L2

/-- an arc: its state, its word, where it leads -/
abbrev Arc := Nat × List Nat × Nat
def arcHO (a : Arc) : HO := .tup [.int (a.1 : Int), .str (SX.S a.2.1), .int (a.2.2 : Int)]
def Arcs (H : Hp) (vs : List V) (as : List Arc) : Prop := vs.length = as.length ∧ ∀ (i : Nat) (a : Arc), as[i]? = some a → ∃ t, vs[i]? = some (V.ref t) ∧ H t = some (arcHO a)
theorem Arcs.same {H H' : Hp} {vs : List V} {as : List Arc} (h : Arcs H vs as) (s : Same H H') : Arcs H' vs as :=
  ⟨h.1, fun i a e => by obtain ⟨t, h1, h2⟩ := h.2 i a e; exact ⟨t, h1, s _ _ h2⟩⟩
theorem Arcs.ex {H H' : Hp} {p : Addr} {xs : List V} {vs : List V} {as : List Arc} (h : Arcs H vs as) (x : Ex p H H') (hp : H p = some (.lst xs)) : Arcs H' vs as :=
  ⟨h.1, fun i a e => by
    obtain ⟨t, h1, h2⟩ := h.2 i a e
    exact ⟨t, h1, x _ _ (fun z => by rw [z, hp] at h2; cases h2) h2⟩⟩
theorem Arcs.snoc {H : Hp} {vs : List V} {as : List Arc} {t : Addr} {a : Arc} (h : Arcs H vs as) (ht : H t = some (arcHO a)) : Arcs H (vs ++ [V.ref t]) (as ++ [a]) := by
  refine ⟨by simp [h.1], fun i b e => ?_⟩
  by_cases hi : i < as.length
  · rw [List.getElem?_append_left hi] at e
    rw [List.getElem?_append_left (by rw [h.1]; exact hi)]
    exact h.2 i b e
  · rw [List.getElem?_append_right (by omega)] at e
    have e0 : i - as.length = 0 := by
      have q := (List.getElem?_eq_some_iff.mp e).1
      simp at q
      omega
    rw [e0] at e
    cases e
    refine ⟨t, ?_, ht⟩
    rw [List.getElem?_append_right (by rw [h.1]; omega), h.1, e0]
    rfl
theorem Arcs.updL {H : Hp} {vs xs : List V} {as : List Arc} {p : Addr} {o : HO} (h : Arcs H vs as) (hp : H p = some (.lst xs)) : Arcs (upd H p o) vs as := h.ex (Ex.upd o) hp
theorem Arcs.st {ns : List Int} {l p : Addr} {H H' : Hp} {vs : List V} {as : List Arc} (h : Arcs H vs as) (st : StAt ns l H p) (x : Ex p H H') : Arcs H' vs as := by
  obtain ⟨a, b, c, d, e, h1, h2, h3⟩ := st
  exact h.ex x h2
theorem Arcs.nil (H : Hp) : Arcs H [] [] := ⟨rfl, fun i a e => by simp at e⟩
theorem ex_upd_lst {p : Addr} {H : Hp} {o : HO} : Ex p H (upd H p o) := Ex.upd o
def OkArc (sg : List Nat) (a : Arc) : Prop := a.1 ≤ 63 ∧ Word sg a.2.1 ∧ a.2.2 ≤ 63
def OkArcs (sg : List Nat) (as : List Arc) : Prop := 1 ≤ as.length ∧ as.length ≤ 13 ∧ (∀ a ∈ as, OkArc sg a) ∧ ∃ a : Arc, as[0]? = some a ∧ a.1 = 0
/-- what a place's menu hands out: a list of states -/
def Pl (p l : Addr) (H : Hp) (v : V) : Prop := ∃ a, ∃ xs : List Nat, v = .ref a ∧ a ≠ p ∧ a ≠ l ∧ H a = some (.lst (xs.map fun n : Nat => V.int (n : Int))) ∧ 1 ≤ xs.length ∧ xs.length ≤ 4 ∧ ∀ x ∈ xs, x ≤ 63
theorem Pl.same {p l : Addr} {H H' : Hp} {v : V} (h : Pl p l H v) (s : Same H H') : Pl p l H' v := by
  obtain ⟨a, xs, h1, h2, h3, h4, h5⟩ := h
  exact ⟨a, xs, h1, h2, h3, s _ _ h4, h5⟩
theorem Pl.ex {p l : Addr} {H H' : Hp} {v : V} (h : Pl p l H v) (s : Ex p H H') : Pl p l H' v := by
  obtain ⟨a, xs, h1, h2, h3, h4, h5⟩ := h
  exact ⟨a, xs, h1, h2, h3, s _ _ h2 h4, h5⟩
theorem Pl.new {p l a : Addr} {H : Hp} (xs : List Nat) (n : a ≠ p ∧ a ≠ l) (h : 1 ≤ xs.length ∧ xs.length ≤ 4) (hx : ∀ x ∈ xs, x ≤ 63) {vs : List V} (e : vs = xs.map fun n : Nat => V.int (n : Int)) : Pl p l (upd H a (.lst vs)) (.ref a) :=
  ⟨a, xs, rfl, n.1, n.2, by rw [upd_same, e], h.1, h.2, hx⟩
theorem signs_menu {v : V} (h : v ∈ ([.str "a", .str "ab", .str "ab", .str "ab", .str "abc", .str "xz", .str "bdkz", .str "qw"] : List V)) : ∃ sg, v = .str (SX.S sg) ∧ Signs sg := by
  simp only [List.mem_cons, List.not_mem_nil, or_false] at h
  rcases h with rfl | rfl | rfl | rfl | rfl | rfl | rfl | rfl
  · exact ⟨[97], rfl, by unfold Signs; decide⟩
  · exact ⟨[97, 98], rfl, by unfold Signs; decide⟩
  · exact ⟨[97, 98], rfl, by unfold Signs; decide⟩
  · exact ⟨[97, 98], rfl, by unfold Signs; decide⟩
  · exact ⟨[97, 98, 99], rfl, by unfold Signs; decide⟩
  · exact ⟨[120, 122], rfl, by unfold Signs; decide⟩
  · exact ⟨[98, 100, 107, 122], rfl, by unfold Signs; decide⟩
  · exact ⟨[113, 119], rfl, by unfold Signs; decide⟩
theorem most_menu {v : V} (h : v ∈ ([.int 1, .int 2, .int 2, .int 3, .int 3, .int 4] : List V)) : ∃ m : Int, v = .int m ∧ 0 < m ∧ m ≤ 12 := by
  simp only [List.mem_cons, List.not_mem_nil, or_false] at h
  rcases h with rfl | rfl | rfl | rfl | rfl | rfl <;> exact ⟨_, rfl, by decide, by decide⟩
def spLoom (ns : List Int) : Sp := fun vs H Q _ => ∃ (p l : Addr), vs = [.ref p] ∧ StAt ns l H p ∧
  ∀ (H' : Hp) (q r : Addr) (sg : List Nat) (us : List V) (as : List Arc), Ex p H H' → StAt ns l H' p → H q = none → H r = none → H' q = some (.tup [.str (SX.S sg), .ref r]) → H' r = some (.lst us) → Arcs H' us as → OkArcs sg as → Signs sg → (∃ gs : List Nat, gs.length ≤ 4 ∧ ∀ a ∈ as, a.2.2 ∈ gs) → Q (.ref q) H'
section
variable {P : Program} {w : World} {K : PySem.W.Frag} {mg : Str → Option Value} {base : Heap}

theorem ok_l_loom (T : Tx K mg) (ns : List Int) : FnOk P w K mg base CX0 3 T.f_l_loom T.fd_l_loom P_l_loom (spLoom ns) := by
  have G_l_draw : FnOk P w K mg base CX0 1 T.f_l_draw T.fd_l_draw P_l_draw (spDraw ns) := ok_l_draw T ns
  have G_l_word : FnOk P w K mg base CX0 2 T.f_l_word T.fd_l_word P_l_word (spWord ns) := ok_l_word T ns
  refine T.F_l_loom.ok sc_l_loom (fun vs H Q E h => ?_) (fun cdv A outer s H vs Q E hr h => ?_)
  · obtain ⟨p, l, rfl, _⟩ := h
    rfl
  · obtain ⟨p, l, rfl, hst, k⟩ := h
    refine ⟨_, (pss_cons (ps_set (i := 1) sc_l_loom.nd rfl (Or.inl rfl) (pe_ix (ix_listK (K := K) rfl) (pe_lst (pa_cons pe_str (pa_cons pe_str (pa_cons pe_str (pa_cons pe_str (pa_cons pe_str (pa_cons pe_str (pa_cons pe_str (pa_cons pe_str pa_nil))))))))) (pe_call G_l_draw (hr.mono (by decide)) rfl T.m_l_draw T.F_l_draw.kp T.b_l_draw .nil pass0 (pa_cons (pv 0) (pa_cons pe_int pa_nil))) (fun _ _ => rfl)))
        (pss_cons (ps_set (i := 2) sc_l_loom.nd rfl (Or.inl rfl) (pe_ix (ix_listK (K := K) rfl) (pe_lst (pa_cons (pe_lst (pa_cons pe_int pa_nil)) (pa_cons (pe_lst (pa_cons pe_int pa_nil)) (pa_cons (pe_lst (pa_cons pe_int (pa_cons pe_int pa_nil))) (pa_cons (pe_lst (pa_cons pe_int (pa_cons pe_int pa_nil))) (pa_cons (pe_lst (pa_cons pe_int (pa_cons pe_int (pa_cons pe_int pa_nil)))) (pa_cons (pe_lst (pa_cons pe_int (pa_cons pe_int pa_nil))) (pa_cons (pe_lst (pa_cons pe_int (pa_cons pe_int (pa_cons pe_int pa_nil)))) (pa_cons (pe_lst (pa_cons pe_int (pa_cons pe_int (pa_cons pe_int (pa_cons pe_int pa_nil))))) pa_nil))))))))) (pe_call G_l_draw (hr.mono (by decide)) rfl T.m_l_draw T.F_l_draw.kp T.b_l_draw .nil pass0 (pa_cons (pv 0) (pa_cons pe_int pa_nil))) (fun _ _ => rfl)))
        (pss_cons (ps_set (i := 3) sc_l_loom.nd rfl (Or.inl rfl) (pe_op op_add pe_int (pe_call G_l_draw (hr.mono (by decide)) rfl T.m_l_draw T.F_l_draw.kp T.b_l_draw .nil pass0 (pa_cons (pv 0) (pa_cons pe_int pa_nil)))))
        (C8.pss_cut (ps_if (pt_cmpR op_eq (pe_call G_l_draw (hr.mono (by decide)) rfl T.m_l_draw T.F_l_draw.kp T.b_l_draw .nil pass0 (pa_cons (pv 0) (pa_cons pe_int pa_nil))) pe_int (nomark _)) (pss_one (ps_set (i := 3) sc_l_loom.nd rfl (Or.inl rfl) (pe_op op_add pe_int (pe_call G_l_draw (hr.mono (by decide)) rfl T.m_l_draw T.F_l_draw.kp T.b_l_draw .nil pass0 (pa_cons (pv 0) (pa_cons pe_int pa_nil)))))) pss_nil)
        (pss_cons (ps_set (i := 4) sc_l_loom.nd rfl (Or.inl rfl) (pe_ix (ix_listK (K := K) rfl) (pe_lst (pa_cons pe_int (pa_cons pe_int (pa_cons pe_int (pa_cons pe_int (pa_cons pe_int (pa_cons pe_int pa_nil))))))) (pe_call G_l_draw (hr.mono (by decide)) rfl T.m_l_draw T.F_l_draw.kp T.b_l_draw .nil pass0 (pa_cons (pv 0) (pa_cons pe_int pa_nil))) (fun _ _ => rfl)))
        (C8.pss_cut (ps_if (pt_cmpR op_eq (pe_call G_l_draw (hr.mono (by decide)) rfl T.m_l_draw T.F_l_draw.kp T.b_l_draw .nil pass0 (pa_cons (pv 0) (pa_cons pe_int pa_nil))) pe_int (nomark _)) (pss_one (ps_set (i := 4) sc_l_loom.nd rfl (Or.inl rfl) pe_int)) pss_nil)
        (pss_cons (ps_set (i := 5) sc_l_loom.nd rfl (Or.inl rfl) (pe_lst pa_nil))
        (pss_cons (ps_for PassesOwn.never rfl (pi_range1 rfl T.n_range (pa_cons (pv 3) pa_nil)) (pg_name (i := 6) sc_l_loom.nd rfl (Or.inl rfl)) (pss_cons (ps_set (i := 7) sc_l_loom.nd rfl (Or.inl rfl) (pe_ix (ix_listK (K := K) rfl) (pv 2) (pe_call G_l_draw (hr.mono (by decide)) rfl T.m_l_draw T.F_l_draw.kp T.b_l_draw .nil pass0 (pa_cons (pv 0) (pa_cons (pe_callB (call_len_seqK (K := K) rfl) rfl T.n_len (by decide +kernel) (pa_cons (pv 2) pa_nil)) pa_nil))) (fun _ _ => rfl)))
        (C8.pss_cut (ps_if (pt_cmpR op_eq (pv 6) pe_int (nomark _)) (pss_one (ps_set (i := 7) sc_l_loom.nd rfl (Or.inl rfl) pe_int)) pss_nil)
        (pss_one (ps_expr (pe_bm PySem.F.plainAttrs_list PySem.F.slot_list_append PySem.F.type_list_append mt_append (pv 5) (pa_cons (pe_tup (pa_cons (pv 7) (pa_cons (pe_call G_l_word (hr.mono (by decide)) rfl T.m_l_word T.F_l_word.kp T.b_l_word .nil pass0 (pa_cons (pv 0) (pa_cons (pv 1) (pa_cons (pv 4) pa_nil)))) (pa_cons (pe_ix (ix_listK (K := K) rfl) (pv 2) (pe_call G_l_draw (hr.mono (by decide)) rfl T.m_l_draw T.F_l_draw.kp T.b_l_draw .nil pass0 (pa_cons (pv 0) (pa_cons (pe_callB (call_len_seqK (K := K) rfl) rfl T.n_len (by decide +kernel) (pa_cons (pv 2) pa_nil)) pa_nil))) (fun _ _ => rfl)) pa_nil)))) pa_nil)))))))
        (C8.pss_cut (ps_if (pt_cmpR op_eq (pe_call G_l_draw (hr.mono (by decide)) rfl T.m_l_draw T.F_l_draw.kp T.b_l_draw .nil pass0 (pa_cons (pv 0) (pa_cons pe_int pa_nil))) pe_int (nomark _)) (pss_one (ps_expr (pe_bm PySem.F.plainAttrs_list PySem.F.slot_list_append PySem.F.type_list_append mt_append (pv 5) (pa_cons (pe_ix (ix_listK (K := K) rfl) (pv 5) (pe_call G_l_draw (hr.mono (by decide)) rfl T.m_l_draw T.F_l_draw.kp T.b_l_draw .nil pass0 (pa_cons (pv 0) (pa_cons (pe_callB (call_len_seqK (K := K) rfl) rfl T.n_len (by decide +kernel) (pa_cons (pv 5) pa_nil)) pa_nil))) (fun _ _ => rfl)) pa_nil)))) pss_nil)
        (pss_one (ps_ret (pe_tup (pa_cons (pv 1) (pa_cons (pv 5) pa_nil)))))))))))))), ?_⟩
    -- the signs
    refine ⟨le_size (by decide), fun D hD => ?_⟩
    have stD := hst.same (Same.new (.lst [.str "a", .str "ab", .str "ab", .str "ab", .str "abc", .str "xz", .str "bdkz", .str "qw"]) hD)
    have nD := hst.ne hD
    refine ⟨_, rfl, p, l, 8, rfl, stD, by decide, by decide, fun H1 r x1 st1 r0 r1 => ?_⟩
    obtain ⟨v, hv, hat⟩ := atI_mem (xs := ([.str "a", .str "ab", .str "ab", .str "ab", .str "abc", .str "xz", .str "bdkz", .str "qw"] : List V)) r0 (by simpa using r1)
    refine ⟨_, _, _, v, rfl, rfl, SqL.of (x1 _ _ nD.1 upd_same), hat, ?_⟩
    obtain ⟨sg, rfl, hsg⟩ := signs_menu hv
    have X1 : Ex p H H1 := (Ex.new _ hD).trans x1
    -- the places
    refine ⟨le_size (by decide), fun l1 h1 => ⟨le_size (by decide), fun l2 h2 => ⟨le_size (by decide), fun l3 h3 => ⟨le_size (by decide), fun l4 h4 => ⟨le_size (by decide), fun l5 h5 => ⟨le_size (by decide), fun l6 h6 => ⟨le_size (by decide), fun l7 h7 => ⟨le_size (by decide), fun l8 h8 => ⟨le_size (show 8 ≤ 100000 by decide), fun l9 h9 => ?_⟩⟩⟩⟩⟩⟩⟩⟩⟩
    have s1 := Same.new (.lst [V.int 0]) h1
    have s2 := Same.new (.lst [V.int 0]) h2
    have s3 := Same.new (.lst [V.int 0, V.int 1]) h3
    have s4 := Same.new (.lst [V.int 0, V.int 1]) h4
    have s5 := Same.new (.lst [V.int 0, V.int 1, V.int 2]) h5
    have s6 := Same.new (.lst [V.int 0, V.int 63]) h6
    have s7 := Same.new (.lst [V.int 0, V.int 7, V.int 12]) h7
    have s8 := Same.new (.lst [V.int 0, V.int 2, V.int 3, V.int 1]) h8
    have s9 := Same.new (.lst [V.ref l1, V.ref l2, V.ref l3, V.ref l4, V.ref l5, V.ref l6, V.ref l7, V.ref l8]) h9
    have t1 := st1.same s1
    have t2 := t1.same s2
    have t3 := t2.same s3
    have t4 := t3.same s4
    have t5 := t4.same s5
    have t6 := t5.same s6
    have t7 := t6.same s7
    have t8 := t7.same s8
    have t9 := t8.same s9
    have hPl : ∀ v ∈ ([V.ref l1, V.ref l2, V.ref l3, V.ref l4, V.ref l5, V.ref l6, V.ref l7, V.ref l8] : List V), Pl p l _ v := fun v hv => by
      simp only [List.mem_cons, List.not_mem_nil, or_false] at hv
      rcases hv with rfl | rfl | rfl | rfl | rfl | rfl | rfl | rfl
      · exact (Pl.new [0] (st1.ne h1) (by decide) (by decide) rfl).same (s2.trans (s3.trans (s4.trans (s5.trans (s6.trans (s7.trans (s8.trans s9)))))))
      · exact (Pl.new [0] (t1.ne h2) (by decide) (by decide) rfl).same (s3.trans (s4.trans (s5.trans (s6.trans (s7.trans (s8.trans s9))))))
      · exact (Pl.new [0, 1] (t2.ne h3) (by decide) (by decide) rfl).same (s4.trans (s5.trans (s6.trans (s7.trans (s8.trans s9)))))
      · exact (Pl.new [0, 1] (t3.ne h4) (by decide) (by decide) rfl).same (s5.trans (s6.trans (s7.trans (s8.trans s9))))
      · exact (Pl.new [0, 1, 2] (t4.ne h5) (by decide) (by decide) rfl).same (s6.trans (s7.trans (s8.trans s9)))
      · exact (Pl.new [0, 63] (t5.ne h6) (by decide) (by decide) rfl).same (s7.trans (s8.trans s9))
      · exact (Pl.new [0, 7, 12] (t6.ne h7) (by decide) (by decide) rfl).same (s8.trans s9)
      · exact (Pl.new [0, 2, 3, 1] (t7.ne h8) (by decide) (by decide) rfl).same s9
    have n9 := t8.ne h9
    refine ⟨_, rfl, p, l, 8, rfl, t9, by decide, by decide, fun H2 r2 x2 st2 r20 r21 => ?_⟩
    obtain ⟨v, hv, hat⟩ := atI_mem (xs := ([V.ref l1, V.ref l2, V.ref l3, V.ref l4, V.ref l5, V.ref l6, V.ref l7, V.ref l8] : List V)) r20 (by simpa using r21)
    refine ⟨_, _, _, v, rfl, rfl, SqL.of (x2 _ _ n9.1 upd_same), hat, ?_⟩
    have pl2 := (hPl v hv).ex x2
    have X2 : Ex p H H2 := X1.trans ((Same.ex (s1.trans (s2.trans (s3.trans (s4.trans (s5.trans (s6.trans (s7.trans (s8.trans s9))))))))).trans x2)
    clear hPl t1 t2 t3 t4 t5 t6 t7 t8 t9 s1 s2 s3 s4 s5 s6 s7 s8 s9
    -- how many
    refine ⟨_, rfl, p, l, 6, rfl, st2, by decide, by decide, fun H3 r3 x3 st3 r30 r31 => ⟨_, _, rfl, rfl, ?_⟩⟩
    refine ⟨fun σ' H' => ∃ m : Int, σ' = [some (.ref p), some (.str (SX.S sg)), some v, some (.int m), none, none, none, none] ∧ 1 ≤ m ∧ m ≤ 12 ∧ Ex p H H' ∧ StAt ns l H' p ∧ Pl p l H' v, ?_, ?_⟩
    · refine ⟨_, rfl, p, l, 12, rfl, st3, by decide, by decide, fun H4 r4 x4 st4 r40 r41 => ⟨rfl, _, rfl, ?_⟩⟩
      refine ite2 (fun c => ?_) (fun c => ?_)
      · refine ⟨_, rfl, p, l, 5, rfl, st4, by decide, by decide, fun H5 r5 x5 st5 r50 r51 => ⟨_, _, rfl, rfl, ?_⟩⟩
        exact ⟨8 + r5, rfl, by omega, by omega, X2.trans (x3.trans (x4.trans x5)), st5, ((pl2.ex x3).ex x4).ex x5⟩
      · exact ⟨1 + r3, rfl, by omega, by omega, X2.trans (x3.trans x4), st4, (pl2.ex x3).ex x4⟩
    · rintro σ3 H3' ⟨many, rfl, m1, m2, X3, st3', pl3⟩
      -- the greatest length
      refine ⟨le_size (by decide), fun D3 hD3 => ?_⟩
      have nD3 := st3'.ne hD3
      have sD3 := Same.new (.lst [V.int 1, V.int 2, V.int 2, V.int 3, V.int 3, V.int 4]) hD3
      refine ⟨_, rfl, p, l, 6, rfl, st3'.same sD3, by decide, by decide, fun H4 r4 x4 st4 r40 r41 => ?_⟩
      obtain ⟨vm, hvm, hat4⟩ := atI_mem (xs := ([V.int 1, V.int 2, V.int 2, V.int 3, V.int 3, V.int 4] : List V)) r40 (by simpa using r41)
      refine ⟨_, _, _, vm, rfl, rfl, SqL.of (x4 _ _ nD3.1 upd_same), hat4, ?_⟩
      obtain ⟨mo, rfl, mo1, mo2⟩ := most_menu hvm
      have X4 : Ex p H H4 := X3.trans ((Same.ex sD3).trans x4)
      have pl4 := (pl3.same sD3).ex x4
      refine ⟨fun σ' H' => ∃ mo : Int, σ' = [some (.ref p), some (.str (SX.S sg)), some v, some (.int many), some (.int mo), none, none, none] ∧ 0 < mo ∧ mo ≤ 12 ∧ Ex p H H' ∧ StAt ns l H' p ∧ Pl p l H' v, ?_, ?_⟩
      · refine ⟨_, rfl, p, l, 16, rfl, st4, by decide, by decide, fun H5 r5 x5 st5 r50 r51 => ⟨rfl, _, rfl, ?_⟩⟩
        refine ite2 (fun c => ?_) (fun c => ?_)
        · exact ⟨12, rfl, by decide, by decide, X4.trans x5, st5, pl4.ex x5⟩
        · exact ⟨mo, rfl, mo1, mo2, X4.trans x5, st5, pl4.ex x5⟩
      · rintro σ5 H5 ⟨mo, rfl, mo1, mo2, X5, st5, pl5⟩
        obtain ⟨pa, xs, rfl, np, nl, hpa5, xl1, xl2, xb⟩ := pl5
        -- the arcs
        refine ⟨Nat.zero_le _, fun Ar hA => ?_⟩
        have nA := st5.ne hA
        have hA0 := X5.free hA nA.1
        have sA := Same.new (.lst []) hA
        refine ⟨_, rfl, _, rfl, by omega, by omega, for_range (lo := 0) (n := many.toNat) (fun i σ H' => ∃ (us : List V) (as : List Arc) (v6 v7 : Option V), σ = [some (.ref p), some (.str (SX.S sg)), some (.ref pa), some (.int many), some (.int mo), some (.ref Ar), v6, v7] ∧
          as.length = i ∧ (∀ a ∈ as, a.2.2 ∈ xs) ∧ (∀ a ∈ as, OkArc sg a) ∧ (0 < i → ∃ a : Arc, as[0]? = some a ∧ a.1 = 0) ∧ H' Ar = some (.lst us) ∧ Arcs H' us as ∧ Ex p H H' ∧ StAt ns l H' p ∧ H' pa = some (.lst (xs.map fun n : Nat => V.int (n : Int)))) ?_ ?_ ?_⟩
        · exact ⟨[], [], none, none, rfl, rfl, fun _ h => (nomatch h), fun _ h => (nomatch h), fun h => absurd h (Nat.lt_irrefl _), upd_same, Arcs.nil _, X5.updNew hA0, st5.upd nA, sA _ _ hpa5⟩
        · rintro i σ H6 hi ⟨us, as, v6, v7, rfl, rfl, hgo, hok, hz, hAr, harc, X6, st6, hpa⟩
          have nApa : Ar ≠ pa := hp_ne hpa5 hA
          -- the start
          refine ⟨_, rfl, _, rfl, _, rfl, pa, _, rfl, .inl (SqL.of hpa), p, l, _, rfl, st6, by rw [List.length_map]; omega, by rw [List.length_map]; omega, fun H7 r7 x7 st7 r70 r71 => ?_⟩
          obtain ⟨vs7, hvs7, hat7⟩ := atI_mem r70 r71
          obtain ⟨s7, hs7, rfl⟩ := List.mem_map.mp hvs7
          refine ⟨_, _, _, _, rfl, rfl, SqL.of (x7 _ _ np hpa), hat7, ?_⟩
          refine ⟨fun σ' H' => ∃ s8 : Nat, σ' = [some (.ref p), some (.str (SX.S sg)), some (.ref pa), some (.int many), some (.int mo), some (.ref Ar), some (.int (0 + (as.length : Int))), some (.int (s8 : Int))] ∧ s8 ≤ 63 ∧ (as.length = 0 → s8 = 0) ∧ H' = H7, ?_, ?_⟩
          · refine ⟨_, rfl, rfl, _, rfl, ?_⟩
            refine ite2 (fun c => ?_) (fun c => ?_)
            · exact ⟨0, rfl, by omega, fun _ => rfl, rfl⟩
            · refine ⟨s7, rfl, xb _ hs7, fun z => absurd ?_ c, rfl⟩
              rw [z]
              decide
          · rintro σ8 H8 ⟨s8, rfl, hs8, hz8, rfl⟩
            have hln : as.length ≤ 100000 := by clear hz; omega
            have hA7 := x7 _ _ nA.1 hAr
            have arc7 := harc.st st6 x7
            refine ⟨_, rfl, .inl ⟨rfl, _, SqL.of hA7⟩, _, rfl, _, rfl, _, rfl, _, rfl, p, l, sg, mo, rfl, st7, hsg, mo1, mo2, fun H9 u9 x9 st9 hw9 => ?_⟩
            have hpa9 := x9 _ _ np (x7 _ _ np hpa)
            refine ⟨_, rfl, _, rfl, _, rfl, pa, _, rfl, .inl (SqL.of hpa9), p, l, _, rfl, st9, by rw [List.length_map]; omega, by rw [List.length_map]; omega, fun H10 r10 x10 st10 r100 r101 => ?_⟩
            obtain ⟨vs10, hvs10, hat10⟩ := atI_mem r100 r101
            obtain ⟨s10, hs10, rfl⟩ := List.mem_map.mp hvs10
            refine ⟨_, _, _, _, rfl, rfl, SqL.of (x10 _ _ np hpa9), hat10, le_size (show 3 ≤ 100000 by decide), fun t ht => ?_⟩
            have nt := st10.ne ht
            have hA10 := x10 _ _ nA.1 (x9 _ _ nA.1 hA7)
            have nAt : t ≠ Ar := hp_ne hA10 ht
            have st := Same.new (arcHO (s8, u9, s10)) ht
            have X11 : Ex p H (upd H10 t (arcHO (s8, u9, s10))) := X6.trans (x7.trans (x9.trans (x10.trans (Same.ex st))))
            refine ⟨Ar, us, _, rfl, rfl, st _ _ hA10, lt_size (by rw [harc.1]; exact hln), ?_⟩
            have arc10 := ((arc7.st st7 x9).st st9 x10).same st
            have nn := (arc10.snoc (t := t) (a := (s8, u9, s10)) upd_same)
            refine ⟨us ++ [.ref t], as ++ [(s8, u9, s10)], _, _, rfl, by simp, (fun a ha => (List.mem_append.mp ha).elim (fun h => hgo a h) fun h => by rw [List.mem_singleton.mp h]; exact hs10), ?_, fun _ => ?_, upd_same, ?_, X11.updNew hA0, (st10.same st).upd nA, ?_⟩
            · intro a ha
              rcases List.mem_append.mp ha with h | h
              · exact hok a h
              · rw [List.mem_singleton.mp h]
                exact ⟨hs8, hw9, xb _ hs10⟩
            · by_cases h0 : as.length = 0
              · have e : as = [] := List.eq_nil_of_length_eq_zero h0
                subst e
                exact ⟨_, rfl, hz8 rfl⟩
              · obtain ⟨a, ha, ha0⟩ := hz (by omega)
                exact ⟨a, by rw [List.getElem?_append_left (by omega)]; exact ha, ha0⟩
            · exact nn.updL (st _ _ hA10)
            · rw [upd_ne nApa.symm]
              exact st _ _ (x10 _ _ np hpa9)
        · rintro σ H6 ⟨us, as, v6, v7, rfl, hl, hgo, hok, hz, hAr, harc, X6, st6, pl6⟩
          have hl1 : 1 ≤ as.length ∧ as.length ≤ 12 := by clear hz; omega
          obtain ⟨a0, ha0, hz0⟩ := hz (by omega)
          refine ⟨fun σ' H' => ∃ (us : List V) (as : List Arc), σ' = [some (.ref p), some (.str (SX.S sg)), some (.ref pa), some (.int many), some (.int mo), some (.ref Ar), v6, v7] ∧ (∀ a ∈ as, a.2.2 ∈ xs) ∧ OkArcs sg as ∧ H' Ar = some (.lst us) ∧ Arcs H' us as ∧ Ex p H H' ∧ StAt ns l H' p, ?_, ?_⟩
          · refine ⟨_, rfl, p, l, 4, rfl, st6, by decide, by decide, fun H7 r7 x7 st7 r70 r71 => ⟨rfl, _, rfl, ?_⟩⟩
            have hA7 := x7 _ _ nA.1 hAr
            have arc7 := harc.st st6 x7
            refine ite2 (fun c => ?_) (fun c => ?_)
            · refine ⟨_, rfl, .inl ⟨rfl, _, SqL.of hA7⟩, _, rfl, _, rfl, _, rfl, Ar, us, rfl, .inl (SqL.of hA7), p, l, _, rfl, st7, by rw [harc.1]; omega, by rw [harc.1]; omega, fun H8 r8 x8 st8 r80 r81 => ?_⟩
              have hA8 := x8 _ _ nA.1 hA7
              have arc8 := arc7.st st7 x8
              obtain ⟨j, rfl⟩ := Int.eq_ofNat_of_zero_le r80
              have hj : j < as.length := by rw [harc.1] at r81; exact_mod_cast r81
              obtain ⟨t, ht1, ht2⟩ := arc8.2 j as[j] (List.getElem?_eq_getElem hj)
              refine ⟨_, _, _, _, rfl, rfl, SqL.of hA8, atI_nat ht1, Ar, us, _, rfl, rfl, hA8, lt_size (by rw [harc.1]; omega), ?_⟩
              refine ⟨us ++ [.ref t], as ++ [as[j]], rfl, (fun a ha => (List.mem_append.mp ha).elim (fun h => hgo a h) fun h => by rw [List.mem_singleton.mp h]; exact hgo _ (List.getElem_mem hj)), ⟨by simp, by simp; omega, ?_, a0, by rw [List.getElem?_append_left (by omega)]; exact ha0, hz0⟩, upd_same, (arc8.snoc ht2).updL hA8, (X6.trans (x7.trans x8)).updNew hA0, st8.upd nA⟩
              intro a ha
              rcases List.mem_append.mp ha with h | h
              · exact hok a h
              · rw [List.mem_singleton.mp h]
                exact hok _ (List.getElem_mem hj)
            · exact ⟨us, as, rfl, hgo, ⟨hl1.1, by omega, hok, a0, ha0, hz0⟩, hA7, arc7, X6.trans x7, st7⟩
          · rintro σ9 H9 ⟨us, as, rfl, hgo, hok, hA9, arc9, X9, st9⟩
            refine ⟨_, rfl, _, rfl, le_size (show 2 ≤ 100000 by decide), fun q hq => ?_⟩
            have sq := Same.new (.tup [.str (SX.S sg), .ref Ar]) hq
            refine k _ q Ar sg us as (X9.trans (Same.ex sq)) (st9.same sq) (X9.free hq (st9.ne hq).1) hA0 upd_same (sq _ _ hA9) (arc9.same sq) hok hsg ⟨xs, xl2, hgo⟩
end
end J


set_option Elab.async false
set_option linter.all false
set_option maxRecDepth 100000
set_option maxHeartbeats 4000000
namespace J
open PySem L2

def spNumber : Sp := fun vs H Q _ => ∃ i lo hi : Int, vs = [.int i, .int lo, .int hi] ∧ ∀ b : Bool, (b = true ↔ lo ≤ i ∧ i ≤ hi) → Q (.bl b) H
def spSequence (K : PySem.W.Frag) : Sp := fun vs H Q _ => ∃ (a : Addr) (xs : List V) (lo hi : Int), vs = [.ref a, .int lo, .int hi] ∧ H a = some (.lst xs) ∧ ∀ (H' : Hp) (b : Bool), Same H H' → (b = true ↔ lo ≤ xs.length ∧ xs.length ≤ hi) → Q (.bl b) H'
def spOver : Sp := fun vs H Q _ => ∃ (sg u : List Nat) (lo hi : Int), vs = [.str (SX.S sg), .str (SX.S u), .int lo, .int hi] ∧ lo ≤ u.length ∧ u.length ≤ hi ∧ hi ≤ 100000 ∧ (∀ c ∈ u, c ∈ sg) ∧ ∀ H' : Hp, Same H H' → Q (.bl true) H'
def spIsWord : Sp := fun vs H Q _ => ∃ (sg u : List Nat), vs = [.str (SX.S sg), .str (SX.S u)] ∧ Word sg u ∧ ∀ H' : Hp, Same H H' → Q (.bl true) H'
def spSigns : Sp := fun vs H Q _ => ∃ sg : List Nat, vs = [.str (SX.S sg)] ∧ Signs sg ∧ ∀ H' : Hp, Same H H' → Q (.bl true) H'
def spArc : Sp := fun vs H Q _ => ∃ (sg : List Nat) (t : Addr) (a : Arc), vs = [.str (SX.S sg), .ref t] ∧ H t = some (arcHO a) ∧ OkArc sg a ∧ ∀ H' : Hp, Same H H' → Q (.bl true) H'
def spState1 : Sp := fun vs H Q _ => ∃ i : Int, vs = [.int i] ∧ 0 ≤ i ∧ i ≤ 63 ∧ Q .non H
def spText1 : Sp := fun vs H Q _ => ∃ (sg u : List Nat), vs = [.str (SX.S sg), .str (SX.S u)] ∧ u.length ≤ 2000 ∧ (∀ c ∈ u, c ∈ sg) ∧ ∀ H' : Hp, Same H H' → Q .non H'
theorem rep_snoc (n : Nat) : (HO.lst ((List.replicate n true).map V.bl ++ [V.bl true])) = HO.lst ((List.replicate (n + 1) true).map V.bl) := by
  congr 1
  rw [List.replicate_succ']
  simp
theorem _root_.L2.Same.updNew {q : Addr} {H H' : Hp} {o : HO} (x : Same H H') (hq : H q = none) : Same H (L2.upd H' q o) := fun b u e => by
  rw [upd_ne (ne_of_none e hq)]; exact x b u e
theorem all_true {n : Nat} : (List.replicate n true).all id = true := by simp
section
variable {P : Program} {w : World} {K : PySem.W.Frag} {mg : Str → Option Value} {base : Heap}

theorem ok_is_number (T : Tx K mg) : FnOk P w K mg base CX0 1 T.f_is_number T.fd_is_number P_is_number spNumber := by
  refine T.F_is_number.ok sc_is_number (fun vs H Q E h => ?_) (fun cdv A outer s H vs Q E hr h => ?_)
  · obtain ⟨i, lo, hi, rfl, _⟩ := h
    rfl
  · obtain ⟨i, lo, hi, rfl, k⟩ := h
    refine ⟨_, (pss_one (ps_ret (pe_and (pe_callB (call_isiK' (K := K) rfl) rfl T.n_isinstance (by decide +kernel) (pa_cons (pv 0) (pa_cons (pe_bltn (v := V.ty "int") (u := .type "int") rfl T.n_int (by decide +kernel) rfl) pa_nil))) (pe_and (pe_not (pe_callB (call_isiK' (K := K) rfl) rfl T.n_isinstance (by decide +kernel) (pa_cons (pv 0) (pa_cons (pe_bltn (v := V.ty "bool") (u := .type "bool") rfl T.n_bool (by decide +kernel) rfl) pa_nil)))) (pe_one (pe_chain op_le op_le (pv 1) (pv 0) (pv 2))))))), ?_⟩
    refine ⟨_, rfl, _, _, _, _, true, rfl, .ty "int", .base (.int i), kit_ty (by decide +kernel), true, rfl, ?_⟩
    refine ⟨_, rfl, _, _, _, _, false, rfl, .ty "bool", .base (.int i), kit_ty (by decide +kernel), false, rfl, true, rfl, ?_⟩
    refine ⟨_, rfl, _, rfl, _, _, rfl, rfl, _, rfl, ?_⟩
    refine ite2 (fun c => ?_) (fun c => ?_)
    · refine ⟨_, rfl, _, _, rfl, rfl, k _ ?_⟩
      have c1 := of_decide_eq_true c
      constructor
      · intro h; exact ⟨c1, of_decide_eq_true h⟩
      · intro h; exact decide_eq_true h.2
    · refine k _ ?_
      constructor
      · intro h; cases h
      · intro h; exact absurd (decide_eq_true h.1) c

theorem ok_is_sequence (T : Tx K mg) : FnOk P w K mg base CX0 1 T.f_is_sequence T.fd_is_sequence P_is_sequence (spSequence K) := by
  refine T.F_is_sequence.ok sc_is_sequence (fun vs H Q E h => ?_) (fun cdv A outer s H vs Q E hr h => ?_)
  · obtain ⟨a, xs, lo, hi, rfl, _⟩ := h
    rfl
  · obtain ⟨a, xs, lo, hi, rfl, ha, k⟩ := h
    refine ⟨_, (pss_one (ps_ret (pe_and (pe_callB (call_isiTK (K := K) rfl) rfl T.n_isinstance (by decide +kernel) (pa_cons (pv 0) (pa_cons (pe_tup (pa_cons (pe_bltn (v := V.ty "list") (u := .type "list") rfl T.n_list (by decide +kernel) rfl) (pa_cons (pe_bltn (v := V.ty "tuple") (u := .type "tuple") rfl T.n_tuple (by decide +kernel) rfl) pa_nil))) pa_nil))) (pe_one (pe_chain op_le op_le (pv 1) (pe_callB (call_len_seqK (K := K) rfl) rfl T.n_len (by decide +kernel) (pa_cons (pv 0) pa_nil)) (pv 2)))))), ?_⟩
    refine ⟨_, rfl, le_size (by decide), fun t ht => ?_⟩
    have st := Same.new (.tup [V.ty "list", V.ty "tuple"]) ht
    refine ⟨_, _, _, _, [.type "list", .type "tuple"], true, rfl, upd_same, .cons (.ty _) (.cons (.ty _) .nil), .base (.lst (st _ _ ha)), kitAny_cons (b := true) (kit_ty (by decide +kernel)) (fun q => nomatch q) (fun _ => rfl), true, rfl, ?_⟩
    refine ⟨_, rfl, _, rfl, a, xs, rfl, .inl (SqL.of (st _ _ ha)), _, _, rfl, rfl, _, rfl, ?_⟩
    refine ite2 (fun c => ?_) (fun c => ?_)
    · refine ⟨_, rfl, _, _, rfl, rfl, k _ _ st ?_⟩
      have c1 := of_decide_eq_true c
      constructor
      · intro h; exact ⟨c1, of_decide_eq_true h⟩
      · intro h; exact decide_eq_true h.2
    · refine k _ _ st ?_
      constructor
      · intro h; cases h
      · intro h; exact absurd (decide_eq_true h.1) c

theorem ok_is_string_over (T : Tx K mg) : FnOk P w K mg base CX0 1 T.f_is_string_over T.fd_is_string_over P_is_string_over spOver := by
  refine T.F_is_string_over.ok sc_is_string_over (fun vs H Q E h => ?_) (fun cdv A outer s H vs Q E hr h => ?_)
  · obtain ⟨sg, u, lo, hi, rfl, _⟩ := h
    rfl
  · obtain ⟨sg, u, lo, hi, rfl, h1, h2, h3, hu, k⟩ := h
    refine ⟨_, (pss_cons (ps_if (PW.pt (pw_or (pt_not (pt_val (pe_callB (call_isiK' (K := K) rfl) rfl T.n_isinstance (by decide +kernel) (pa_cons (pv 1) (pa_cons (pe_bltn (v := V.ty "str") (u := .type "str") rfl T.n_str (by decide +kernel) rfl) pa_nil))))) (pw_or1 (pt_not (pt_chain op_le op_le (pv 2) (pe_callB call_len_str rfl T.n_len (by decide +kernel) (pa_cons (pv 1) pa_nil)) (pv 3)))))) (pss_one (ps_ret pe_bl)) pss_nil)
        (pss_one (ps_ret (pe_callB (cr_allK (K := K) rfl rfl) rfl T.n_all (by decide +kernel) (pa_cons (pe_lc (own := [("sign", 4)]) (g := (gName 4)) rfl sc_is_string_over.nd (pi_str (pv 1)) (blkOk_by (N := N_is_string_over) (sc := defScope s_is_string_over) (by decide +kernel)) (fun _ _ _ _ _ => (pg_name (i := 4) sc_is_string_over.nd rfl (Or.inl rfl))) (fun _ _ _ _ _ => pts_nil) (fun _ _ _ _ _ => (pe_cmpR op_in_sign (pv 4) (pv 0) rfl))) pa_nil))))), ?_⟩
    have hl : (SX.S u).length ≤ sizeLine := le_size (by rw [SX.S_len]; omega)
    refine ⟨_, rfl, _, _, _, _, true, rfl, .ty "str", .base (.str _), kit_ty (by decide +kernel), true, rfl, ?_⟩
    have e : ((SX.S u).length : Int) = u.length := by rw [SX.S_len]
    refine ⟨_, rfl, _, rfl, _, rfl, hl, _, _, rfl, rfl, true, congrArg V.bl (decide_eq_true (by rw [e]; exact h1)), ?_⟩
    refine ⟨_, rfl, _, _, rfl, rfl, true, congrArg V.bl (decide_eq_true (by rw [e]; exact h2)), ?_⟩
    refine ⟨_, rfl, _, rfl, fun D hD => lc_it (walk_str (z := SX.S u)) (fun i H' => H' D = some (.lst ((List.replicate i true).map V.bl)) ∧ Same H H') ⟨upd_same, Same.new _ hD⟩ (fun _ _ _ _ => trivial) ?_ ?_⟩
    · rintro i x H1 H2 hi ⟨hDl, sm⟩ ⟨rfl, c, hc, rfl⟩
      have hcu : c ∈ u := by
        have q : u[i]? = some c := by simpa using hc
        exact List.mem_of_getElem? q
      have hi2 : i ≤ 100000 := by
        have q : i < (SX.S u).length := hi
        rw [SX.S_len] at q
        omega
      refine ⟨rfl, _, rfl, _, rfl, c, _, rfl, rfl, _, hDl, lt_size (by simp; exact hi2), ?_, sm.updNew hD⟩
      rw [upd_same, decide_eq_true (by simpa using hu c hcu), rep_snoc]
    · rintro H1 ⟨hDl, sm⟩
      refine ⟨D, _, rfl, SqL.of hDl, ?_⟩
      rw [all_true]
      exact k _ sm

theorem ok_is_word (T : Tx K mg) : FnOk P w K mg base CX0 2 T.f_is_word T.fd_is_word P_is_word spIsWord := by
  have G_is_string_over : FnOk P w K mg base CX0 1 T.f_is_string_over T.fd_is_string_over P_is_string_over spOver := ok_is_string_over T
  refine T.F_is_word.ok sc_is_word (fun vs H Q E h => ?_) (fun cdv A outer s H vs Q E hr h => ?_)
  · obtain ⟨sg, u, rfl, _⟩ := h
    rfl
  · obtain ⟨sg, u, rfl, ⟨h1, h2, h3⟩, k⟩ := h
    refine ⟨_, (pss_one (ps_ret (pe_call G_is_string_over (hr.mono (by decide)) rfl T.m_is_string_over T.F_is_string_over.kp T.b_is_string_over .nil pass0 (pa_cons (pv 0) (pa_cons (pv 1) (pa_cons pe_int (pa_cons (pe_glob (v := V.int 12) rfl T.g_LONGEST_WORD ⟨_, rfl⟩) pa_nil))))))), ?_⟩
    exact ⟨_, rfl, _, rfl, sg, u, 1, 12, rfl, by omega, by omega, by omega, h3, k⟩
theorem ok_is_arc (T : Tx K mg) : FnOk P w K mg base CX0 3 T.f_is_arc T.fd_is_arc P_is_arc spArc := by
  have G_is_number : FnOk P w K mg base CX0 1 T.f_is_number T.fd_is_number P_is_number spNumber := ok_is_number T
  have G_is_word : FnOk P w K mg base CX0 2 T.f_is_word T.fd_is_word P_is_word spIsWord := ok_is_word T
  refine T.F_is_arc.ok sc_is_arc (fun vs H Q E h => ?_) (fun cdv A outer s H vs Q E hr h => ?_)
  · obtain ⟨sg, t, a, rfl, _⟩ := h
    rfl
  · obtain ⟨sg, t, ⟨s1, u, g1⟩, rfl, ht, ⟨hs, hw, hg⟩, k⟩ := h
    refine ⟨_, (pss_cons (ps_if (PW.pt (pw_or (pt_not (pt_val (pe_callB (call_isiK' (K := K) rfl) rfl T.n_isinstance (by decide +kernel) (pa_cons (pv 1) (pa_cons (pe_bltn (v := V.ty "tuple") (u := .type "tuple") rfl T.n_tuple (by decide +kernel) rfl) pa_nil))))) (pw_or1 (pt_cmpR op_ne (pe_callB (call_len_seqK (K := K) rfl) rfl T.n_len (by decide +kernel) (pa_cons (pv 1) pa_nil)) pe_int (nomark _))))) (pss_one (ps_ret pe_bl)) pss_nil)
        (pss_cons (ps_asg (pv 1) (pg_tup rfl (pgs_cons (pg_name (i := 2) sc_is_arc.nd rfl (Or.inl rfl)) (pgs_cons (pg_name (i := 3) sc_is_arc.nd rfl (Or.inl rfl)) (pgs_cons (pg_name (i := 4) sc_is_arc.nd rfl (Or.inl rfl)) pgs_nil)))))
        (pss_one (ps_ret (pe_and (pe_call G_is_number (hr.mono (by decide)) rfl T.m_is_number T.F_is_number.kp T.b_is_number .nil pass0 (pa_cons (pv 2) (pa_cons pe_int (pa_cons (pe_glob (v := V.int 63) rfl T.g_LAST_STATE ⟨_, rfl⟩) pa_nil)))) (pe_and (pe_call G_is_word (hr.mono (by decide)) rfl T.m_is_word T.F_is_word.kp T.b_is_word .nil pass0 (pa_cons (pv 0) (pa_cons (pv 3) pa_nil))) (pe_one (pe_call G_is_number (hr.mono (by decide)) rfl T.m_is_number T.F_is_number.kp T.b_is_number .nil pass0 (pa_cons (pv 4) (pa_cons pe_int (pa_cons (pe_glob (v := V.int 63) rfl T.g_LAST_STATE ⟨_, rfl⟩) pa_nil))))))))))), ?_⟩
    refine ⟨_, rfl, _, _, _, _, true, rfl, .ty "tuple", .base (.tup ht), kit_ty (by decide +kernel), true, rfl, ?_⟩
    refine ⟨_, rfl, t, _, rfl, .inr (SqT.of ht), rfl, false, rfl, ?_⟩
    refine ⟨_, rfl, t, _, rfl, SqT.of ht, rfl, ?_⟩
    have e1 : (0 : Int) ≤ ((s1 : Nat) : Int) ∧ ((s1 : Nat) : Int) ≤ 63 := by omega
    have e2 : (0 : Int) ≤ ((g1 : Nat) : Int) ∧ ((g1 : Nat) : Int) ≤ 63 := by have hg' : g1 ≤ 63 := hg; omega
    refine ⟨_, _, rfl, _, _, rfl, _, _, rfl, rfl, ?_⟩
    refine ⟨_, rfl, _, 0, 63, rfl, fun b hb => ⟨b, rfl, ?_⟩⟩
    rw [hb.mpr e1]
    refine ⟨_, rfl, _, rfl, sg, u, rfl, hw, fun H' sm => ⟨true, rfl, ?_⟩⟩
    refine ⟨_, rfl, _, 0, 63, rfl, fun b hb => ?_⟩
    rw [hb.mpr e2]
    exact k H' sm
end
end J


set_option Elab.async false
set_option linter.all false
set_option maxRecDepth 100000
set_option maxHeartbeats 4000000
namespace J
open PySem L2

theorem walk_zipS {x y : Str} : Walk (ItzS x y) (min x.cps.size y.cps.size) (fun _ => True) (fun i H v H' => ∃ T c d, v = .ref T ∧ H T = none ∧ H' = upd H T (.tup [.str ⟨#[c]⟩, .str ⟨#[d]⟩]) ∧ x.cps[i]? = some c ∧ y.cps[i]? = some d) :=
  ⟨fun _ _ h _ => h, fun _ _ => rfl, fun _ _ _ _ _ _ h => h⟩
theorem signs_le {sg : List Nat} (h : Signs sg) : ∀ c ∈ sg, (!decide ([c] < ([97] : List Nat))) = true ∧ (!decide (([122] : List Nat) < [c])) = true := by
  revert sg; unfold Signs; decide
theorem signs_up {sg : List Nat} (h : Signs sg) : ∀ p ∈ sg.zip (sg.drop 1), decide ([p.1] < [p.2]) = true := by
  revert sg; unfold Signs; decide
theorem signs_pair {sg : List Nat} (h : Signs sg) {i c d : Nat} (h1 : sg[i]? = some c) (h2 : (sg.drop 1)[i]? = some d) : decide ([c] < [d]) = true :=
  signs_up h (c, d) (List.mem_of_getElem? (i := i) (by rw [List.getElem?_zip_eq_some]; exact ⟨h1, h2⟩))
section
variable {P : Program} {w : World} {K : PySem.W.Frag} {mg : Str → Option Value} {base : Heap}

theorem ok_is_signs (T : Tx K mg) : FnOk P w K mg base CX0 1 T.f_is_signs T.fd_is_signs P_is_signs spSigns := by
  refine T.F_is_signs.ok sc_is_signs (fun vs H Q E h => ?_) (fun cdv A outer s H vs Q E hr h => ?_)
  · obtain ⟨sg, rfl, _⟩ := h
    rfl
  · obtain ⟨sg, rfl, hsg, k⟩ := h
    refine ⟨_, (pss_cons (ps_if (PW.pt (pw_or (pt_not (pt_val (pe_callB (call_isiK' (K := K) rfl) rfl T.n_isinstance (by decide +kernel) (pa_cons (pv 0) (pa_cons (pe_bltn (v := V.ty "str") (u := .type "str") rfl T.n_str (by decide +kernel) rfl) pa_nil))))) (pw_or1 (pt_not (pt_chain op_le op_le pe_int (pe_callB call_len_str rfl T.n_len (by decide +kernel) (pa_cons (pv 0) pa_nil)) (pe_glob (v := V.int 4) rfl T.g_MOST_SIGNS ⟨_, rfl⟩)))))) (pss_one (ps_ret pe_bl)) pss_nil)
        (pss_cons (ps_set (i := 1) sc_is_signs.nd rfl (Or.inl rfl) (pe_callB (cr_allK (K := K) rfl rfl) rfl T.n_all (by decide +kernel) (pa_cons (pe_lc (own := [("sign", 2)]) (g := (gName 2)) rfl sc_is_signs.nd (pi_str (pv 0)) (blkOk_by (N := N_is_signs) (sc := defScope s_is_signs) (by decide +kernel)) (fun _ _ _ _ _ => (pg_name (i := 2) sc_is_signs.nd rfl (Or.inl rfl))) (fun _ _ _ _ _ => pts_nil) (fun _ _ _ _ _ => (pe_chain op_le_str op_le_str pe_str (pv 2) pe_str))) pa_nil)))
        (pss_one (ps_ret (pe_and (pv 1) (pe_one (pe_callB (cr_allK (K := K) rfl rfl) rfl T.n_all (by decide +kernel) (pa_cons (pe_lc (own := [("one", 3), ("other", 4)]) (g := (gTup K 2 (gCons (gName 3) (gCons (gName 4) gNil)))) rfl sc_is_signs.nd (pi_zipS rfl T.n_zip (pa_cons (pv 0) (pa_cons (pe_slice sl_str (pv 0) (po_some pe_int) po_none) pa_nil))) (blkOk_by (N := N_is_signs) (sc := defScope s_is_signs) (by decide +kernel)) (fun _ _ _ _ _ => (pg_tup rfl (pgs_cons (pg_name (i := 3) sc_is_signs.nd rfl (Or.inl rfl)) (pgs_cons (pg_name (i := 4) sc_is_signs.nd rfl (Or.inl rfl)) pgs_nil)))) (fun _ _ _ _ _ => pts_nil) (fun _ _ _ _ _ => (pe_cmpR op_lt_str (pv 3) (pv 4) (nomark _)))) pa_nil)))))))), ?_⟩
    have hlen := hsg.len
    have hl : (SX.S sg).length ≤ sizeLine := le_size (by rw [SX.S_len]; omega)
    have e : ((SX.S sg).length : Int) = sg.length := by rw [SX.S_len]
    refine ⟨_, rfl, _, _, _, _, true, rfl, .ty "str", .base (.str _), kit_ty (by decide +kernel), true, rfl, ?_⟩
    refine ⟨_, rfl, _, rfl, hl, _, _, rfl, rfl, true, congrArg V.bl (decide_eq_true (by rw [e]; omega)), ?_⟩
    refine ⟨_, _, rfl, rfl, true, congrArg V.bl (decide_eq_true (by rw [e]; omega)), ?_⟩
    refine ⟨_, rfl, _, rfl, fun D hD => lc_it (walk_str (z := SX.S sg)) (fun i H' => H' D = some (.lst ((List.replicate i true).map V.bl)) ∧ Same H H') ⟨upd_same, Same.new _ hD⟩ (fun _ _ _ _ => trivial) ?_ ?_⟩
    · rintro i x H1 H2 hi ⟨hDl, sm⟩ ⟨rfl, c, hc, rfl⟩
      have hcu : c ∈ sg := by
        have q : sg[i]? = some c := by simpa using hc
        exact List.mem_of_getElem? q
      have hi2 : i ≤ 100000 := by
        have q : i < (SX.S sg).length := hi
        rw [SX.S_len] at q
        omega
      obtain ⟨l1, l2⟩ := signs_le hsg c hcu
      refine ⟨rfl, _, rfl, _, _, rfl, rfl, true, congrArg V.bl l1, _, _, rfl, rfl, _, hDl, lt_size (by simp; exact hi2), ?_, sm.updNew hD⟩
      rw [upd_same]
      show some (HO.lst (_ ++ [V.bl (!decide (([122] : List Nat) < [c]))])) = _
      rw [l2, rep_snoc]
    · rintro H1 ⟨hDl, sm⟩
      refine ⟨D, _, rfl, SqL.of hDl, ?_⟩
      rw [all_true]
      refine ⟨_, rfl, true, rfl, ?_⟩
      refine ⟨_, rfl, _, rfl, _, rfl, _, rfl, hl, ?_⟩
      rw [C8.cutS_slice, SX.slice_from (by decide)]
      refine ⟨_, _, rfl, fun D2 hD2 => lc_it (walk_zipS (x := SX.S sg) (y := SX.S (sg.drop 1))) (fun i H' => H' D2 = some (.lst ((List.replicate i true).map V.bl)) ∧ Same H H') ⟨upd_same, sm.trans (Same.new _ hD2)⟩ (fun _ _ _ _ => trivial) ?_ ?_⟩
      · rintro i x H2 H3 hi ⟨hDl2, sm2⟩ ⟨t, c, d, rfl, ht, rfl, hc, hd⟩
        have hcu : sg[i]? = some c := by simpa using hc
        have hdu : (sg.drop 1)[i]? = some d := by simpa using hd
        have hi2 : i ≤ 100000 := by
          have q := (List.getElem?_eq_some_iff.mp hcu).1
          omega
        have nt : D2 ≠ t := fun z => hp_ne hDl2 ht z.symm
        refine ⟨t, _, rfl, SqT.of upd_same, rfl, _, _, rfl, _, _, rfl, rfl, rfl, _, rfl, _, rfl, _, _, rfl, rfl, _, by rw [upd_ne nt]; exact hDl2, lt_size (by simp; exact hi2), ?_, (sm2.trans (Same.new _ ht)).updNew (sm.free hD2)⟩
        rw [upd_same]
        show some (HO.lst (_ ++ [V.bl (decide ([c] < [d]))])) = _
        rw [signs_pair hsg hcu hdu, rep_snoc]
      · rintro H2 ⟨hDl2, sm2⟩
        refine ⟨D2, _, rfl, SqL.of hDl2, ?_⟩
        rw [all_true]
        exact k _ sm2
end
end J


set_option Elab.async false
set_option linter.all false
set_option maxRecDepth 100000
set_option maxHeartbeats 4000000
namespace J
open PySem L2
/-- arcs that a loom may have -/
def OkW (sg : List Nat) (as : List Arc) : Prop := 1 ≤ as.length ∧ as.length ≤ 200 ∧ ∀ a ∈ as, OkArc sg a
theorem OkArcs.w {sg : List Nat} {as : List Arc} (h : OkArcs sg as) : OkW sg as := ⟨h.1, by have := h.2.1; omega, h.2.2.1⟩
/-- a loom's fields -/
def lf (sg : List Nat) (T : Addr) : List (Str × V) := putF "arcs" (.ref T) (putF "signs" (.str (SX.S sg)) [])
theorem ne_sa : ¬ (("signs" : Str) = "arcs") := by decide +kernel
theorem lf_signs (sg : List Nat) (T : Addr) : (lf sg T).lookup ("signs" : Str) = some (.str (SX.S sg)) := by
  unfold lf
  rw [lookup_putF, if_neg ne_sa, lookup_putF, if_pos rfl]
theorem lf_arcs (sg : List Nat) (T : Addr) : (lf sg T).lookup ("arcs" : Str) = some (.ref T) := by
  unfold lf
  rw [lookup_putF, if_pos rfl]
/-- a loom stands at p -/
def LoomAt (C : Addr) (H : Hp) (p : Addr) (sg : List Nat) (us : List V) (as : List Arc) : Prop := ∃ dx T, H p = some (.ins C dx (lf sg T)) ∧ H T = some (.tup us) ∧ Arcs H us as ∧ OkW sg as ∧ Signs sg
def spInit (C : Addr) : Sp := fun vs H Q _ => ∃ (p dx a : Addr) (sg : List Nat) (us : List V) (as : List Arc), vs = [.ref p, .str (SX.S sg), .ref a] ∧ H p = some (.ins C dx []) ∧ H a = some (.lst us) ∧ Arcs H us as ∧ OkW sg as ∧ Signs sg ∧
  ∀ (H' : Hp) (T : Addr), Ex p H H' → H T = none → H' T = some (.tup us) → H' p = some (.ins C dx (lf sg T)) → Q .non H'
theorem take_snoc {α : Type} {l : List α} {i : Nat} {x : α} (h : l[i]? = some x) : l.take i ++ [x] = l.take (i + 1) := by
  rw [List.take_add_one, h]
  rfl
def spChkSigns : Sp := fun vs H Q _ => ∃ sg : List Nat, vs = [.str (SX.S sg)] ∧ Signs sg ∧ ∀ H', Same H H' → Q .non H'
section
variable {P : Program} {w : World} {K : PySem.W.Frag} {mg : Str → Option Value} {base : Heap}
theorem ok_check_signs (T : Tx K mg) : FnOk P w K mg base CX0 2 T.f_check_signs T.fd_check_signs P_check_signs spChkSigns := by
  have G_is_signs : FnOk P w K mg base CX0 1 T.f_is_signs T.fd_is_signs P_is_signs spSigns := ok_is_signs T
  refine T.F_check_signs.ok sc_check_signs (fun vs H Q E h => ?_) (fun cdv A outer s H vs Q E hr h => ?_)
  · obtain ⟨sg, rfl, _⟩ := h
    rfl
  · obtain ⟨sg, rfl, hsg, k⟩ := h
    refine ⟨_, (pss_one (ps_if (pt_not (pt_val (pe_call G_is_signs (hr.mono (by decide)) rfl T.m_is_signs T.F_is_signs.kp T.b_is_signs .nil pass0 (pa_cons (pv 0) pa_nil)))) (pss_one ps_never) pss_nil)), ?_⟩
    refine ⟨_, rfl, sg, rfl, hsg, fun H1 s1 => ⟨true, rfl, ?_⟩⟩
    exact k _ s1
theorem ok_Loom_init (T : Tx K mg) : FnOk P w K mg base CX0 4 T.f_Loom_init T.fd_Loom_init P_Loom_init (spInit T.C_Loom) := by
  have G_check_signs : FnOk P w K mg base CX0 2 T.f_check_signs T.fd_check_signs P_check_signs spChkSigns := ok_check_signs T
  have G_is_sequence : FnOk P w K mg base CX0 1 T.f_is_sequence T.fd_is_sequence P_is_sequence (spSequence K) := ok_is_sequence T
  have G_is_arc : FnOk P w K mg base CX0 3 T.f_is_arc T.fd_is_arc P_is_arc spArc := ok_is_arc T
  refine T.F_Loom_init.ok sc_Loom_init (fun vs H Q E h => ?_) (fun cdv A outer s H vs Q E hr h => ?_)
  · obtain ⟨p, dx, a, sg, us, as, rfl, _⟩ := h
    rfl
  · obtain ⟨p, dx, a, sg, us, as, rfl, hp, ha, harc, hok, hsg, k⟩ := h
    refine ⟨_, (pss_cons (ps_expr (pe_call G_check_signs (hr.mono (by decide)) rfl T.m_check_signs T.F_check_signs.kp T.b_check_signs .nil pass0 (pa_cons (pv 1) pa_nil)))
        (pss_cons (ps_if (pt_not (pt_val (pe_call G_is_sequence (hr.mono (by decide)) rfl T.m_is_sequence T.F_is_sequence.kp T.b_is_sequence .nil pass0 (pa_cons (pv 2) (pa_cons pe_int (pa_cons (pe_glob (v := V.int 200) rfl T.g_MOST_ARCS ⟨_, rfl⟩) pa_nil)))))) (pss_one ps_never) pss_nil)
        (pss_cons (ps_for PassesOwn.never rfl (pi_enum rfl T.n_enumerate (pa_cons (pv 2) pa_nil)) (pg_tup rfl (pgs_cons (pg_name (i := 3) sc_Loom_init.nd rfl (Or.inl rfl)) (pgs_cons (pg_name (i := 4) sc_Loom_init.nd rfl (Or.inl rfl)) pgs_nil))) (pss_one (ps_if (pt_not (pt_val (pe_call G_is_arc (hr.mono (by decide)) rfl T.m_is_arc T.F_is_arc.kp T.b_is_arc .nil pass0 (pa_cons (pv 1) (pa_cons (pv 4) pa_nil))))) (pss_one ps_never) pss_nil)))
        (pss_cons (ps_fld (pv 0) (pv 1) rfl)
        (pss_one (ps_fld (pv 0) (pe_callTy (call_tuple_ofK (K := K) rfl) rfl T.n_tuple (by decide +kernel) (pa_cons (pe_lc (own := [("arc", 4)]) (g := (gName 4)) rfl sc_Loom_init.nd (pi_list (pv 2)) (blkOk_by (N := N_Loom_init) (sc := defScope s_Loom_init) (by decide +kernel)) (fun _ _ _ _ _ => (pg_name (i := 4) sc_Loom_init.nd rfl (Or.inl rfl))) (fun _ _ _ _ _ => pts_nil) (fun _ _ _ _ _ => (pe_callTy (call_tuple_ofK (K := K) rfl) rfl T.n_tuple (by decide +kernel) (pa_cons (pv 4) pa_nil)))) pa_nil)) rfl)))))), ?_⟩
    refine ⟨_, rfl, sg, rfl, hsg, fun H1 s1 => ?_⟩
    refine ⟨_, rfl, a, us, 1, 200, rfl, s1 _ _ ha, fun H2 b s2 hb => ⟨b, rfl, ?_⟩⟩
    have hl := hok.2.1
    have hl0 := hok.1
    have hl2 := harc.1
    rw [hb.mpr ⟨by omega, by omega⟩]
    have s12 := s1.trans s2
    refine ⟨_, rfl, a, us, rfl, SqL.of (s12 _ _ ha), for_it walk_enum (fun i σ H' => ∃ v3 v4, σ = [some (.ref p), some (.str (SX.S sg)), some (.ref a), v3, v4] ∧ Same H H') ⟨_, _, rfl, s12⟩ (fun i σ H' _ ⟨_, _, _, sm⟩ => SqL.of (sm _ _ ha)) ?_ ?_⟩
    · rintro i x σ H3 H4 hi ⟨v3, v4, rfl, s3⟩ ⟨tp, x1, y1, rfl, ht, rfl, hx1, hy1⟩
      cases hx1
      have hia : i < as.length := by omega
      obtain ⟨t, hut, htt⟩ := harc.2 i as[i] (List.getElem?_eq_getElem hia)
      replace hy1 : us[i]? = some y1 := hy1
      rw [hut] at hy1
      cases hy1
      have sn := Same.new (.tup [V.int (i : Int), .ref t]) ht
      refine ⟨tp, _, rfl, SqT.of upd_same, rfl, _, _, rfl, _, _, rfl, rfl, ?_⟩
      refine ⟨_, rfl, _, rfl, sg, t, as[i], rfl, sn _ _ (s3 _ _ htt), hok.2.2 _ (List.getElem_mem hia), fun H5 s5 => ⟨true, rfl, ?_⟩⟩
      exact ⟨_, _, rfl, s3.trans (sn.trans s5)⟩
    · rintro σ H3 ⟨v3, v4, rfl, s3⟩
      have hp3 := s3 _ _ hp
      refine ⟨_, rfl, _, rfl, p, _, dx, _, rfl, hp3, T.cl_Loom, T.na_Loom_signs, (by show 0 < 1000; decide), ?_⟩
      have x3 : Ex p H (upd H3 p (.ins T.C_Loom dx (putF "signs" (.str (SX.S sg)) []))) := (Same.ex s3).trans (Ex.upd _)
      have nap : a ≠ p := fun z => by rw [z, hp] at ha; cases ha
      refine ⟨_, rfl, a, rfl, ⟨_, SqL.of (x3 _ _ nap ha)⟩, fun D hD => lc_list (K := K) (a := a) (xs := us) (fun i H' => H' D = some (.lst (us.take i)) ∧ Ex p H H' ∧ H' p = some (.ins T.C_Loom dx (putF "signs" (.str (SX.S sg)) []))) ?_ ?_ ?_ ?_⟩
      · have nDp : D ≠ p := hp_ne upd_same hD
        exact ⟨upd_same, x3.trans (Ex.new _ hD), by rw [upd_ne nDp.symm]; exact upd_same⟩
      · rintro i H4 hi ⟨_, x4, _⟩
        exact SqL.of (x4 _ _ nap ha)
      · rintro i y H4 hy ⟨hDl, x4, hp4⟩
        have hia : i < us.length := (List.getElem?_eq_some_iff.mp hy).1
        obtain ⟨t, hut, htt⟩ := harc.2 i as[i] (List.getElem?_eq_getElem (by omega))
        rw [hut] at hy
        cases hy
        have ntp : t ≠ p := fun z => by rw [z, hp] at htt; cases htt
        have nDp : D ≠ p := hp_ne upd_same hD
        refine ⟨rfl, _, rfl, t, _, rfl, .inr ⟨SqT.of (x4 _ _ ntp htt), _, hDl, lt_size (by simp; omega), ?_, x4.updNew (x3.free hD nDp), by rw [upd_ne nDp.symm]; exact hp4⟩⟩
        rw [upd_same, take_snoc hut]
      · rintro H4 ⟨hDl, x4, hp4⟩
        rw [List.take_length] at hDl
        refine ⟨D, us, rfl, .inl ⟨SqL.of hDl, fun T1 hT1 => ?_⟩⟩
        have nT : T1 ≠ p := hp_ne hp4 hT1
        refine ⟨_, rfl, p, _, dx, _, rfl, by rw [upd_ne nT.symm]; exact hp4, T.cl_Loom, T.na_Loom_arcs, (by show 1 < 1000; decide), ?_⟩
        exact k _ T1 ((x4.trans (Ex.new _ hT1)).trans (Ex.upd _)) (x4.free hT1 nT) (by rw [upd_ne nT]; exact upd_same) upd_same
end
end J


set_option Elab.async false
set_option linter.all false
set_option maxRecDepth 100000
set_option maxHeartbeats 4000000
namespace J
open PySem L2
abbrev nats (l : List Nat) : List V := l.map fun n : Nat => V.int (n : Int)
def leavTo (as : List Arc) (g : Nat) (i : Nat) : List Nat := (List.range i).filter fun j => decide (as[j]?.map (·.1) = some g)
/-- the numbers of the arcs that leave g -/
def leav (as : List Arc) (g : Nat) : List Nat := leavTo as g as.length
theorem leavTo_snoc {as : List Arc} {g i : Nat} {a : Arc} (h : as[i]? = some a) : leavTo as g (i + 1) = leavTo as g i ++ if a.1 = g then [i] else [] := by
  unfold leavTo
  rw [List.range_succ, List.filter_append]
  congr 1
  by_cases c : a.1 = g
  · simp [h, c]
  · simp [h, c]
theorem leavTo_len (as : List Arc) (g : Nat) : ∀ i, (leavTo as g i).length ≤ i := fun i => by
  unfold leavTo
  exact Nat.le_trans (List.length_filter_le _ _) (by simp)
theorem leav_mem {as : List Arc} {g i : Nat} (h : i ∈ leav as g) : ∃ a, as[i]? = some a ∧ a.1 = g := by
  unfold leav leavTo at h
  have q := (List.mem_filter.mp h).2
  rw [decide_eq_true_eq] at q
  cases e : as[i]? with
  | none => rw [e] at q; cases q
  | some a => rw [e] at q; exact ⟨a, rfl, Option.some.inj q⟩
theorem leav_lt {as : List Arc} {g i : Nat} (h : i ∈ leav as g) : i < as.length := by
  obtain ⟨a, ha, _⟩ := leav_mem h
  exact (List.getElem?_eq_some_iff.mp ha).1
/-- a list of arcs stands at a -/
def ArcL (H : Hp) (a : Addr) (as : List Arc) : Prop := ∃ us, H a = some (.lst us) ∧ Arcs H us as
theorem ArcL.same {H H' : Hp} {a : Addr} {as : List Arc} (h : ArcL H a as) (s : Same H H') : ArcL H' a as := by
  obtain ⟨us, h1, h2⟩ := h
  exact ⟨us, s _ _ h1, h2.same s⟩
theorem ArcL.ex {ns : List Int} {l p : Addr} {H H' : Hp} {a : Addr} {as : List Arc} (h : ArcL H a as) (st : StAt ns l H p) (s : Ex p H H') (n : a ≠ p) : ArcL H' a as := by
  obtain ⟨us, h1, h2⟩ := h
  exact ⟨us, s _ _ n h1, h2.st st s⟩
def spLeaving : Sp := fun vs H Q _ => ∃ (a : Addr) (as : List Arc) (g : Nat), vs = [.ref a, .int (g : Int)] ∧ ArcL H a as ∧ as.length ≤ 100000 ∧
  ∀ (H' : Hp) (p : Addr), Same H H' → H p = none → H' p = some (.lst (nats (leav as g))) → Q (.ref p) H'
def spMade (C : Addr) : Sp := fun vs H Q _ => ∃ (q a : Addr) (sg : List Nat) (us : List V) (as : List Arc), vs = [.ref q] ∧ H q = some (.tup [.str (SX.S sg), .ref a]) ∧ H a = some (.lst us) ∧ Arcs H us as ∧ OkW sg as ∧ Signs sg ∧
  ∀ (H' : Hp) (p : Addr), Same H H' → H p = none → LoomAt C H' p sg us as → Q (.ref p) H'
def spInteger : Sp := fun vs H Q _ => ∃ i : Int, vs = [.int i] ∧ Q (.bl true) H
section
variable {P : Program} {w : World} {K : PySem.W.Frag} {mg : Str → Option Value} {base : Heap}
theorem ok_l_leaving (T : Tx K mg) : FnOk P w K mg base CX0 1 T.f_l_leaving T.fd_l_leaving P_l_leaving spLeaving := by
  refine T.F_l_leaving.ok sc_l_leaving (fun vs H Q E h => ?_) (fun cdv A outer s H vs Q E hr h => ?_)
  · obtain ⟨a, as, g, rfl, _⟩ := h
    rfl
  · obtain ⟨a, as, g, rfl, ⟨us, ha, harc⟩, hl, k⟩ := h
    refine ⟨_, (pss_one (ps_ret (pe_lc (own := [("_law_at", 2)]) (g := (gName 2)) rfl sc_l_leaving.nd (pi_range1 rfl T.n_range (pa_cons (pe_callB (call_len_seqK (K := K) rfl) rfl T.n_len (by decide +kernel) (pa_cons (pv 0) pa_nil)) pa_nil)) (blkOk_by (N := N_l_leaving) (sc := defScope s_l_leaving) (by decide +kernel)) (fun _ _ _ _ _ => (pg_name (i := 2) sc_l_leaving.nd rfl (Or.inl rfl))) (fun _ _ _ _ _ => (pts_one (pt_cmpR op_eq (pe_ix (ix_tupK (K := K) rfl) (pe_ix (ix_listK (K := K) rfl) (pv 0) (pv 2) (fun _ _ => rfl)) pe_int (fun _ _ => rfl)) (pv 1) (nomark _)))) (fun _ _ _ _ _ => (pv 2))))), ?_⟩
    have hl2 := harc.1
    refine ⟨_, rfl, a, us, rfl, .inl (SqL.of ha), _, rfl, by omega, by omega, fun D hD => lc_range (lo := 0) (n := us.length) (fun i H' => H' D = some (.lst (nats (leavTo as g i))) ∧ Same H H') ⟨upd_same, Same.new _ hD⟩ ?_ ?_⟩
    · rintro i H2 hi ⟨hDl, sm⟩
      obtain ⟨t, hut, htt⟩ := harc.2 i as[i] (List.getElem?_eq_getElem (by omega))
      have e0 : (0 : Int) + (i : Int) = (i : Int) := by omega
      refine ⟨rfl, _, rfl, _, rfl, a, us, _, _, rfl, rfl, SqL.of (sm _ _ ha), by rw [e0]; exact atI_nat hut, t, _, _, _, rfl, rfl, SqT.of (sm _ _ htt), rfl, _, rfl, rfl, _, rfl, ?_⟩
      have hs := leavTo_snoc (g := g) (List.getElem?_eq_getElem (by omega : i < as.length))
      refine ite2 (fun c => ?_) (fun c => ?_)
      · have c1 : as[i].1 = g := by
          have q := of_decide_eq_true c
          injection q with q
          omega
        rw [if_pos c1] at hs
        refine ⟨_, rfl, _, hDl, lt_size (by rw [List.length_map]; exact Nat.le_trans (leavTo_len _ _ _) (by omega)), ?_, sm.updNew hD⟩
        rw [upd_same, hs, e0]
        simp
      · have c1 : ¬ as[i].1 = g := fun z => c (decide_eq_true (by rw [z]))
        rw [if_neg c1, List.append_nil] at hs
        exact ⟨by rw [hs]; exact hDl, sm⟩
    · rintro H2 ⟨hDl, sm⟩
      rw [hl2] at hDl
      exact k _ D sm hD hDl
theorem ok_l_made (T : Tx K mg) : FnOk P w K mg base CX0 6 T.f_l_made T.fd_l_made P_l_made (spMade T.C_Loom) := by
  have G_Loom_init : FnOk P w K mg base CX0 4 T.f_Loom_init T.fd_Loom_init P_Loom_init (spInit T.C_Loom) := ok_Loom_init T
  refine T.F_l_made.ok sc_l_made (fun vs H Q E h => ?_) (fun cdv A outer s H vs Q E hr h => ?_)
  · obtain ⟨q, a, sg, us, as, rfl, _⟩ := h
    rfl
  · obtain ⟨q, a, sg, us, as, rfl, hq, ha, harc, hok, hsg, k⟩ := h
    refine ⟨_, (pss_one (ps_ret (pe_make T.M_Loom G_Loom_init (hr.mono (by decide)) rfl T.g_Loom T.b_Loom_init .nil pass0 (pa_cons (pe_ix (ix_tupK (K := K) rfl) (pv 0) pe_int (fun _ _ => rfl)) (pa_cons (pe_callTy (call_list_ofK (K := K) rfl) rfl T.n_list (by decide +kernel) (pa_cons (pe_ix (ix_tupK (K := K) rfl) (pv 0) pe_int (fun _ _ => rfl)) pa_nil)) pa_nil))))), ?_⟩
    refine ⟨_, rfl, q, _, _, _, rfl, rfl, SqT.of hq, rfl, _, rfl, q, _, _, _, rfl, rfl, SqT.of hq, rfl, a, us, rfl, .inl (SqL.of ha), fun l hl => ?_⟩
    have s1 := Same.new (.lst us) hl
    intro x dx hx hdx hne
    have s2 : Same H (upd (upd (upd H l (.lst us)) dx (.own x)) x (.ins T.C_Loom dx [])) := (s1.trans (Same.new _ hdx)).trans (Same.new _ (by rw [upd_ne hne.symm]; exact hx))
    have hx0 : H x = none := s1.free hx
    have nlx : l ≠ x := (hp_ne upd_same hx).symm
    have nld : l ≠ dx := (hp_ne upd_same hdx).symm
    refine ⟨x, dx, l, sg, us, as, rfl, upd_same, by rw [upd_ne nlx, upd_ne nld]; exact upd_same, harc.same s2, hok, hsg, fun H' Tp x3 hTp hTus hx3 => ⟨rfl, ?_⟩⟩
    have s3 : Same H H' := fun b o e => x3 _ _ (ne_of_none e hx0) (s2 _ _ e)
    exact k _ x s3 hx0 ⟨dx, Tp, hx3, hTus, harc.same s3, hok, hsg⟩
end
end J


set_option Elab.async false
set_option linter.all false
set_option maxRecDepth 100000
set_option maxHeartbeats 4000000
namespace J
open PySem L2
/-- a row of numbers of arcs, of whatever kind -/
def RowIn (as : List Arc) (row : List Nat) : Prop := ∀ i ∈ row, i < as.length
def wordAt (as : List Arc) (i : Nat) : List Nat := match as[i]? with | some a => a.2.1 | none => []
def goalAt (as : List Arc) (i : Nat) : Nat := match as[i]? with | some a => a.2.2 | none => 0
/-- a row's text -/
def rowText (as : List Arc) (row : List Nat) : List Nat := (row.map (wordAt as)).flatten
/-- where a row ends -/
def rowEnd (as : List Arc) (g : Nat) (row : List Nat) : Nat := match row.getLast? with | some i => goalAt as i | none => g
theorem wordAt_eq {as : List Arc} {i : Nat} {a : Arc} (h : as[i]? = some a) : wordAt as i = a.2.1 := by unfold wordAt; rw [h]
theorem goalAt_eq {as : List Arc} {i : Nat} {a : Arc} (h : as[i]? = some a) : goalAt as i = a.2.2 := by unfold goalAt; rw [h]
def OkAll (as : List Arc) : Prop := as.length ≤ 100000 ∧ ∀ a ∈ as, a.1 ≤ 63 ∧ 1 ≤ a.2.1.length ∧ a.2.1.length ≤ 12 ∧ a.2.2 ≤ 63
theorem OkArcs.all {sg : List Nat} {as : List Arc} (h : OkArcs sg as) : OkAll as := ⟨by have := h.2.1; omega, fun a ha => by
  obtain ⟨h1, ⟨h2, h3, _⟩, h4⟩ := h.2.2.1 a ha
  exact ⟨h1, h2, h3, h4⟩⟩
theorem goalAt_le {as : List Arc} (h : OkAll as) (i : Nat) : goalAt as i ≤ 63 := by
  unfold goalAt
  cases e : as[i]? with
  | none => simp
  | some a => exact (h.2 a (List.mem_of_getElem? e)).2.2.2
theorem wordAt_len {as : List Arc} (h : OkAll as) (i : Nat) : (wordAt as i).length ≤ 12 := by
  unfold wordAt
  cases e : as[i]? with
  | none => simp
  | some a => exact (h.2 a (List.mem_of_getElem? e)).2.2.1
theorem rowText_len {as : List Arc} (h : OkAll as) (row : List Nat) : (rowText as row).length ≤ 12 * row.length := by
  unfold rowText
  induction row with
  | nil => simp
  | cons i r ih =>
    have := wordAt_len h i
    simp only [List.map_cons, List.flatten_cons, List.length_append, List.length_cons] at *
    omega
theorem OkW.all {sg : List Nat} {as : List Arc} (h : OkW sg as) : OkAll as := ⟨by have := h.2.1; omega, fun a ha => by
  obtain ⟨h1, ⟨h2, h3, _⟩, h4⟩ := h.2.2 a ha
  exact ⟨h1, h2, h3, h4⟩⟩
theorem eqv_nil (ns : List Int) : (!PyData.eqv (.list (ns.map PyData.int)) (.list [])) = decide (ns ≠ []) := by
  cases ns with
  | nil => rfl
  | cons a r => rfl
theorem dp_ints {K : PySem.W.Frag} {H : Hp} : ∀ ns : List Int, DpAll K H (ns.map V.int) (ns.map PyData.int)
  | [] => .nil
  | n :: r => .cons (.int n) (dp_ints r)
theorem nats_map (l : List Nat) : nats l = (l.map fun n : Nat => (n : Int)).map V.int := by simp [nats, List.map_map, Function.comp_def]
end J


set_option Elab.async false
set_option linter.all false
set_option maxRecDepth 100000
set_option maxHeartbeats 4000000
namespace J
open PySem L2
/-- the states that can be come to from 0 -/
inductive Reach (as : List Arc) : Nat → Prop
  | zero : Reach as 0
  | step {a : Arc} : a ∈ as → Reach as a.1 → Reach as a.2.2
theorem Reach.le {as : List Arc} (h : OkAll as) {x : Nat} (r : Reach as x) : x ≤ 63 := by
  cases r with
  | zero => decide
  | step ha _ => exact (h.2 _ ha).2.2.2
theorem nodup_le : ∀ (n : Nat) (l : List Nat), l.Nodup → (∀ x ∈ l, x < n) → l.length ≤ n
  | 0, l, _, h => by
    cases l with
    | nil => simp
    | cons a r => exact absurd (h a (by simp)) (Nat.not_lt_zero _)
  | n + 1, l, hn, h => by
    have h1 : (l.erase n).length ≤ n := nodup_le n (l.erase n) (hn.erase n) fun x hx => by
      have q := h x (List.mem_of_mem_erase hx)
      have : x ≠ n := fun z => by
        subst z
        exact (List.Nodup.not_mem_erase hn) hx
      omega
    have h2 : l.length ≤ (l.erase n).length + 1 := by
      by_cases c : n ∈ l
      · rw [List.length_erase_of_mem c]; omega
      · rw [List.erase_of_not_mem c]; omega
    omega
theorem flat_nats (l : List Nat) : (nats l).all flatV = true := by simp [nats, flatV]
theorem inV_nats (x : Nat) (l : List Nat) : inV (V.int (x : Int)) (nats l) = decide (x ∈ l) := by
  unfold inV nats
  rw [List.any_map]
  induction l with
  | nil => rfl
  | cons a r ih =>
    rw [List.any_cons, ih]
    by_cases c : x = a
    · subst c; simp [eqV]
    · have c2 : ¬ a = x := fun z => c z.symm
      simp [eqV, c]
      omega
/-- what stands while met goes -/
structure Going (as : List Arc) (fs : List Nat) (turn : Nat) : Prop where
  nd : fs.Nodup
  zero : 0 ∈ fs
  reach : ∀ x ∈ fs, Reach as x
  le : turn ≤ fs.length
  done : ∀ j g, j < turn → fs[j]? = some g → ∀ a ∈ as, a.1 = g → a.2.2 ∈ fs
theorem Going.all {as : List Arc} {fs : List Nat} (h : Going as fs fs.length) (x : Nat) : x ∈ fs ↔ Reach as x := by
  refine ⟨h.reach x, fun r => ?_⟩
  induction r with
  | zero => exact h.zero
  | step ha _ ih =>
    obtain ⟨j, hj, e⟩ := List.mem_iff_getElem.mp ih
    exact h.done j _ hj (by rw [List.getElem?_eq_getElem hj, e]) _ ha rfl
def spMet : Sp := fun vs H Q _ => ∃ (a : Addr) (as : List Arc), vs = [.ref a] ∧ ArcL H a as ∧ OkAll as ∧
  ∀ (H' : Hp) (p : Addr) (ms : List Nat), Same H H' → H p = none → H' p = some (.lst (nats ms)) → ms.Pairwise (· < ·) → (∀ x, x ∈ ms ↔ Reach as x) → Q (.ref p) H'
theorem sorted_nats {fs : List Nat} {ns : List Int} (h : ns.Perm (fs.map fun n : Nat => (n : Int))) (hs : ns.Pairwise (· ≤ ·)) (hn : fs.Nodup) : ∃ ms : List Nat, ns.map V.int = nats ms ∧ ms.Pairwise (· < ·) ∧ ∀ x, x ∈ ms ↔ x ∈ fs := by
  have e : ns = (ns.map Int.toNat).map fun n : Nat => (n : Int) := by
    rw [List.map_map]
    conv => lhs; rw [← List.map_id ns]
    refine List.map_congr_left fun i hi => ?_
    obtain ⟨n, _, rfl⟩ := List.mem_map.mp (h.mem_iff.mp hi)
    rfl
  have hp : (ns.map Int.toNat).Perm fs := by
    have q := h.map Int.toNat
    rw [List.map_map] at q
    have z : fs.map (Int.toNat ∘ fun n : Nat => (n : Int)) = fs := by
      conv => rhs; rw [← List.map_id fs]
      exact List.map_congr_left fun n _ => by simp
    rwa [z] at q
  refine ⟨ns.map Int.toNat, by rw [nats_map, ← e], ?_, fun x => hp.mem_iff⟩
  have nd := hp.nodup_iff.mpr hn
  have hs2 : (ns.map Int.toNat).Pairwise (· ≤ ·) := by
    rw [List.pairwise_map]
    exact hs.imp fun h => by omega
  exact (hs2.and nd).imp fun ⟨h1, h2⟩ => by omega
section
variable {P : Program} {w : World} {K : PySem.W.Frag} {mg : Str → Option Value} {base : Heap}
theorem ok_l_met (T : Tx K mg) : FnOk P w K mg base CX0 2 T.f_l_met T.fd_l_met P_l_met spMet := by
  have G_l_leaving : FnOk P w K mg base CX0 1 T.f_l_leaving T.fd_l_leaving P_l_leaving spLeaving := ok_l_leaving T
  refine T.F_l_met.ok sc_l_met (fun vs H Q E h => ?_) (fun cdv A outer s H vs Q E hr h => ?_)
  · obtain ⟨a, as, rfl, _⟩ := h
    rfl
  · obtain ⟨a, as, rfl, harc, hok, k⟩ := h
    refine ⟨_, (pss_cons (ps_set (i := 1) sc_l_met.nd rfl (Or.inl rfl) (pe_lst (pa_cons pe_int pa_nil)))
        (pss_cons (ps_set (i := 2) sc_l_met.nd rfl (Or.inl rfl) pe_int)
        (pss_cons (ps_while PassesOwn.never (pt_cmpR op_lt (pv 2) (pe_callB (call_len_seqK (K := K) rfl) rfl T.n_len (by decide +kernel) (pa_cons (pv 1) pa_nil)) (nomark _)) (pss_cons (ps_set (i := 3) sc_l_met.nd rfl (Or.inl rfl) (pe_ix (ix_listK (K := K) rfl) (pv 1) (pv 2) (fun _ _ => rfl)))
        (pss_cons (ps_set (i := 2) sc_l_met.nd rfl (Or.inl rfl) (pe_op op_add (pv 2) pe_int))
        (pss_one (ps_for PassesOwn.never rfl (pi_list (pe_call G_l_leaving (hr.mono (by decide)) rfl T.m_l_leaving T.F_l_leaving.kp T.b_l_leaving .nil pass0 (pa_cons (pv 0) (pa_cons (pv 3) pa_nil)))) (pg_name (i := 4) sc_l_met.nd rfl (Or.inl rfl)) (pss_one (ps_if (pt_cmpR op_notIn_seq (pe_ix (ix_tupK (K := K) rfl) (pe_ix (ix_listK (K := K) rfl) (pv 0) (pv 4) (fun _ _ => rfl)) pe_int (fun _ _ => rfl)) (pv 1) rfl) (pss_one (ps_expr (pe_bm PySem.F.plainAttrs_list PySem.F.slot_list_append PySem.F.type_list_append mt_append (pv 1) (pa_cons (pe_ix (ix_tupK (K := K) rfl) (pe_ix (ix_listK (K := K) rfl) (pv 0) (pv 4) (fun _ _ => rfl)) pe_int (fun _ _ => rfl)) pa_nil)))) pss_nil)))))))
        (pss_one (ps_ret (pe_callB cr_sortedI rfl T.n_sorted (by decide +kernel) (pa_cons (pv 1) pa_nil))))))), ?_⟩
    refine ⟨le_size (by decide), fun F hF => ?_⟩
    have sF := Same.new (.lst [V.int 0]) hF
    have nFa : F ≠ a := by
      obtain ⟨us, h1, _⟩ := harc
      exact hp_ne h1 hF
    refine while_by (fun σ H' => ∃ (fs : List Nat) (turn : Nat) (v3 v4 : Option V), σ = [some (.ref a), some (.ref F), some (.int (turn : Int)), v3, v4] ∧ H' F = some (.lst (nats fs)) ∧ Same H H' ∧ Going as fs turn)
      (fun σ H' => match σ with | [_, _, some (.int t), _, _] => 64 - t.toNat | _ => 0) ?_ ?_ ?_
    · exact ⟨[0], 0, none, none, rfl, upd_same, sF, by simp, by simp, fun x hx => by rw [List.mem_singleton.mp hx]; exact .zero, by simp, fun j g hj => absurd hj (Nat.not_lt_zero _)⟩
    · rintro σ H1 ⟨fs, turn, v3, v4, rfl, hfs, sm, G⟩
      have arc1 := harc.same sm
      have hlen : fs.length ≤ 64 := nodup_le 64 fs G.nd fun x hx => by have := (G.reach x hx).le hok; omega
      refine ⟨_, rfl, _, rfl, F, _, rfl, .inl (SqL.of hfs), _, _, rfl, rfl, _, rfl, ?_⟩
      refine ite2 (fun c => ?_) (fun c => ?_)
      · have c1 : turn < fs.length := by
          have q := of_decide_eq_true c
          simp [nats] at q
          exact q
        refine ⟨_, rfl, _, rfl, F, _, _, _, rfl, rfl, SqL.of hfs, atI_nat (by rw [List.getElem?_map, List.getElem?_eq_getElem c1]; rfl), ?_⟩
        refine ⟨_, rfl, _, _, rfl, rfl, ?_⟩
        refine ⟨_, rfl, _, rfl, a, as, fs[turn], rfl, arc1, hok.1, fun H2 L s2 hL hLs => ?_⟩
        have nLF : L ≠ F := hp_ne hfs hL
        have hL0 : H L = none := sm.free hL
        have ett : ((turn : Nat) : Int) + 1 = ((turn + 1 : Nat) : Int) := by omega
        refine ⟨L, rfl, ⟨_, SqL.of hLs⟩, for_list (K := K) (a := L) (xs := nats (leav as fs[turn])) (fun i σ H' => ∃ (gs : List Nat) (v4 : Option V), σ = [some (.ref a), some (.ref F), some (.int ((turn + 1 : Nat) : Int)), some (.int (fs[turn] : Int)), v4] ∧ H' F = some (.lst (nats gs)) ∧ H' L = some (.lst (nats (leav as fs[turn]))) ∧ Same H H' ∧
          gs.Nodup ∧ (∃ suf, gs = fs ++ suf) ∧ (∀ x ∈ gs, Reach as x) ∧ ∀ j n, j < i → (leav as fs[turn])[j]? = some n → goalAt as n ∈ gs) ?_ ?_ ?_ ?_⟩
        · exact ⟨fs, v4, by rw [← ett]; rfl, s2 _ _ hfs, hLs, sm.trans s2, G.nd, ⟨[], by simp⟩, G.reach, fun j n hj => absurd hj (Nat.not_lt_zero _)⟩
        · rintro i σ H3 _ ⟨gs, v4, rfl, hgs, hL3, s3, _⟩
          exact SqL.of hL3
        · rintro i y σ H3 hy ⟨gs, v4, rfl, hgs, hL3, s3, nd, ⟨suf, hsuf⟩, hreach, hdone⟩
          rw [List.getElem?_map] at hy
          cases en : (leav as fs[turn])[i]? with
          | none => rw [en] at hy; cases hy
          | some n =>
            rw [en] at hy
            cases hy
            obtain ⟨b, hb, hbg⟩ := leav_mem (List.mem_of_getElem? en)
            have hn : n < as.length := (List.getElem?_eq_some_iff.mp hb).1
            obtain ⟨us, ha, hus⟩ := harc
            obtain ⟨t, hut, htt⟩ := hus.2 n b hb
            have hg := goalAt_eq hb
            have hrb : Reach as b.2.2 := .step (List.mem_of_getElem? hb) (by rw [hbg]; exact G.reach _ (List.getElem_mem c1))
            have hlen2 : gs.length ≤ 64 := nodup_le 64 gs nd fun x hx => by have := (hreach x hx).le hok; omega
            refine ⟨_, rfl, _, rfl, a, us, _, _, rfl, rfl, SqL.of (s3 _ _ ha), atI_nat hut, t, _, _, _, rfl, rfl, SqT.of (s3 _ _ htt), rfl, _, rfl, F, _, rfl, .inl (SqL.of hgs), rfl, flat_nats _, _, rfl, ?_⟩
            rw [if_pos rfl, inV_nats]
            refine ite2 (fun c => ?_) (fun c => ?_)
            · have cn : b.2.2 ∉ gs := by simpa using c
              refine ⟨_, rfl, .inl ⟨rfl, _, SqL.of hgs⟩, _, rfl, _, rfl, a, us, _, _, rfl, rfl, SqL.of (s3 _ _ ha), atI_nat hut, t, _, _, _, rfl, rfl, SqT.of (s3 _ _ htt), rfl, F, _, _, rfl, rfl, hgs, lt_size (by rw [List.length_map]; omega), ?_⟩
              refine ⟨gs ++ [b.2.2], _, rfl, by rw [upd_same]; simp [nats], by rw [upd_ne nLF]; exact hL3, s3.updNew hF, ?_, ⟨suf ++ [b.2.2], by rw [hsuf]; simp⟩, ?_, ?_⟩
              · rw [List.nodup_append]
                exact ⟨nd, by simp, fun x hx y hy => by rw [List.mem_singleton.mp hy]; exact fun z => cn (z ▸ hx)⟩
              · intro x hx
                rcases List.mem_append.mp hx with h | h
                · exact hreach x h
                · rw [List.mem_singleton.mp h]; exact hrb
              · intro j m hj hm
                by_cases cj : j < i
                · exact List.mem_append_left _ (hdone j m cj hm)
                · have : j = i := by omega
                  subst this
                  rw [en] at hm
                  cases hm
                  rw [hg]
                  simp
            · have cn : b.2.2 ∈ gs := by simpa using c
              refine ⟨gs, _, rfl, hgs, hL3, s3, nd, ⟨suf, hsuf⟩, hreach, fun j m hj hm => ?_⟩
              by_cases cj : j < i
              · exact hdone j m cj hm
              · have : j = i := by omega
                subst this
                rw [en] at hm
                cases hm
                rw [hg]
                exact cn
        · rintro σ H3 ⟨gs, v4, rfl, hgs, hL3, s3, nd, ⟨suf, hsuf⟩, hreach, hdone⟩
          refine ⟨⟨gs, turn + 1, _, v4, rfl, hgs, s3, nd, by rw [hsuf]; exact List.mem_append_left _ G.zero, hreach, by rw [hsuf, List.length_append]; omega, fun j g hj hg b hb hbg => ?_⟩, ?_⟩
          · by_cases cj : j < turn
            · rw [hsuf] at hg
              rw [List.getElem?_append_left (by omega)] at hg
              rw [hsuf]
              exact List.mem_append_left _ (G.done j g cj hg b hb hbg)
            · have : j = turn := by omega
              subst this
              rw [hsuf, List.getElem?_append_left c1, List.getElem?_eq_getElem c1] at hg
              cases hg
              obtain ⟨n, hn, e⟩ := List.mem_iff_getElem.mp hb
              have hnb : as[n]? = some b := by rw [List.getElem?_eq_getElem hn, e]
              have hmem : n ∈ leav as fs[j] := by
                unfold leav leavTo
                exact List.mem_filter.mpr ⟨List.mem_range.mpr hn, by rw [hnb]; simp [hbg]⟩
              obtain ⟨q, hq, eq⟩ := List.mem_iff_getElem.mp hmem
              have := hdone q n (by simpa [nats] using hq) (by rw [List.getElem?_eq_getElem hq, eq])
              rwa [goalAt_eq hnb] at this
          · show 64 - (((turn + 1 : Nat) : Int)).toNat < 64 - ((turn : Nat) : Int).toNat
            omega
      · have c1 : turn = fs.length := by
          have q : ¬ ((turn : Int) < ((nats fs).length : Nat)) := fun z => c (decide_eq_true z)
          simp [nats] at q
          have := G.le
          omega
        subst c1
        refine ⟨_, rfl, F, fs.map fun n : Nat => (n : Int), rfl, by rw [← nats_map]; exact SqL.of hfs, fun ns' p hperm hpw hp => ?_⟩
        obtain ⟨ms, e, hlt, hmem⟩ := sorted_nats hperm hpw G.nd
        exact k _ p ms (sm.trans (Same.new _ hp)) (sm.free hp) (by rw [upd_same, e]) hlt fun x => (hmem x).trans (G.all x)
    · rintro σ H1 Q1 Q2 hq h
      obtain ⟨v, e1, w1, e2, p1, ys, e3, e4, i, j, e5, e6, b, e7, h⟩ := h
      exact ⟨v, e1, w1, e2, p1, ys, e3, e4, i, j, e5, e6, b, e7, hq _ _ h⟩
end
end J


set_option Elab.async false
set_option linter.all false
set_option maxRecDepth 100000
set_option maxHeartbeats 4000000
namespace J
open PySem L2
/-- what stands while the program's met goes: what was seen, what waits, what is at hand -/
structure MetG (as : List Arc) (fs ws : List Nat) : Prop where
  nd : fs.Nodup
  zero : 0 ∈ fs
  reach : ∀ x ∈ fs, Reach as x
  sub : ∀ x ∈ ws, x ∈ fs
  len : ws.length ≤ fs.length
  done : ∀ g ∈ fs, g ∉ ws → ∀ a ∈ as, a.1 = g → a.2.2 ∈ fs
theorem MetG.all {as : List Arc} {fs : List Nat} (h : MetG as fs []) (x : Nat) : x ∈ fs ↔ Reach as x := by
  refine ⟨h.reach x, fun r => ?_⟩
  induction r with
  | zero => exact h.zero
  | step ha _ ih => exact h.done _ ih (by simp) _ ha rfl
def setOf (fs : List Nat) : Int → Bool := fun k => decide (k ∈ fs.map fun n : Nat => (n : Int))
theorem setOf_nat (fs : List Nat) (n : Nat) : setOf fs (n : Int) = decide (n ∈ fs) := by
  unfold setOf
  congr 1
  simp only [List.mem_map, eq_iff_iff]
  constructor
  · rintro ⟨m, h, e⟩
    have : m = n := by omega
    exact this ▸ h
  · intro h
    exact ⟨n, h, rfl⟩
theorem setOf_zero : setOf [0] = fun j : Int => decide (j = 0) := by
  funext j
  unfold setOf
  simp
theorem setOf_add {fs : List Nat} {n : Nat} : (fun j : Int => setOf fs j || decide (j = (n : Int))) = setOf (fs ++ [n]) := by
  funext j
  unfold setOf
  rw [List.map_append, ← Bool.decide_or]
  congr 1
  simp [List.mem_append]
theorem nats_isEmpty (l : List Nat) : (nats l).isEmpty = l.isEmpty := by cases l <;> rfl
theorem nats_append (a b : List Nat) : nats (a ++ b) = nats a ++ nats b := by simp [nats]
theorem snoc_of {l : List Nat} (h : l ≠ []) : ∃ r x, l = r ++ [x] := ⟨l.dropLast, l.getLast h, (List.dropLast_concat_getLast h).symm⟩
/-- the same in the middle of a turn: place is at hand, the arcs before i are done -/
structure MetI (as : List Arc) (fs ws : List Nat) (place i : Nat) : Prop where
  nd : fs.Nodup
  zero : 0 ∈ fs
  here : place ∈ fs
  reach : ∀ x ∈ fs, Reach as x
  sub : ∀ x ∈ ws, x ∈ fs
  len : ws.length + 1 ≤ fs.length
  done : ∀ g ∈ fs, g ∉ ws → g ≠ place → ∀ a ∈ as, a.1 = g → a.2.2 ∈ fs
  turn : ∀ j a, j < i → as[j]? = some a → a.1 = place → a.2.2 ∈ fs
theorem MetG.begin {as : List Arc} {fs r : List Nat} {p : Nat} (h : MetG as fs (r ++ [p])) : MetI as fs r p 0 :=
  ⟨h.nd, h.zero, h.sub p (by simp), h.reach, fun x hx => h.sub x (by simp [hx]), by have := h.len; simp at this; omega,
    fun g hg hn hp => h.done g hg (by simp [hn, hp]), fun j a hj => absurd hj (Nat.not_lt_zero _)⟩
theorem MetI.end {as : List Arc} {fs ws : List Nat} {p : Nat} (h : MetI as fs ws p as.length) : MetG as fs ws :=
  ⟨h.nd, h.zero, h.reach, h.sub, by have := h.len; omega, fun g hg hn a ha e => by
    by_cases c : g = p
    · obtain ⟨j, hj, q⟩ := List.mem_iff_getElem.mp ha
      exact h.turn j a hj (by rw [List.getElem?_eq_getElem hj, q]) (e.trans c)
    · exact h.done g hg hn c a ha e⟩
theorem MetI.skip {as : List Arc} {fs ws : List Nat} {p i : Nat} (h : MetI as fs ws p i) (q : ∀ a, as[i]? = some a → a.1 = p → a.2.2 ∈ fs) : MetI as fs ws p (i + 1) :=
  ⟨h.nd, h.zero, h.here, h.reach, h.sub, h.len, h.done, fun j a hj ha e => by
    by_cases c : j < i
    · exact h.turn j a c ha e
    · have : j = i := by omega
      subst this
      exact q a ha e⟩
theorem MetI.more {as : List Arc} {fs ws : List Nat} {p i : Nat} {b : Arc} (h : MetI as fs ws p i) (hb : as[i]? = some b) (e : b.1 = p) (n : b.2.2 ∉ fs) : MetI as (fs ++ [b.2.2]) (ws ++ [b.2.2]) p (i + 1) := by
  have hm : b ∈ as := List.mem_of_getElem? hb
  have hr : Reach as b.2.2 := .step hm (by rw [e]; exact h.reach _ h.here)
  refine ⟨?_, by simp [h.zero], by simp [h.here], ?_, ?_, ?_, ?_, ?_⟩
  · rw [List.nodup_append]
    exact ⟨h.nd, by simp, fun x hx y hy => by rw [List.mem_singleton.mp hy]; exact fun z => n (z ▸ hx)⟩
  · intro x hx
    rcases List.mem_append.mp hx with q | q
    · exact h.reach x q
    · rw [List.mem_singleton.mp q]; exact hr
  · intro x hx
    rcases List.mem_append.mp hx with q | q
    · exact List.mem_append_left _ (h.sub x q)
    · exact List.mem_append_right _ q
  · have := h.len
    simp
    omega
  · intro g hg hn hp a ha q
    rcases List.mem_append.mp hg with z | z
    · exact List.mem_append_left _ (h.done g z (fun y => hn (List.mem_append_left _ y)) hp a ha q)
    · exact absurd (List.mem_append_right _ z) hn
  · intro j a hj ha q
    by_cases c : j < i
    · exact List.mem_append_left _ (h.turn j a c ha q)
    · have : j = i := by omega
      subst this
      rw [hb] at ha
      cases ha
      simp
/-- the sorted ints of a set of naturals -/
theorem set_nats {fs : List Nat} {ns : List Int} (h : ns.Pairwise (· < ·)) (hm : ∀ k : Int, k ∈ ns ↔ setOf fs k = true) : ∃ ms : List Nat, ns.map V.int = nats ms ∧ ms.Pairwise (· < ·) ∧ ∀ x, x ∈ ms ↔ x ∈ fs := by
  have hnn : ∀ i ∈ ns, ∃ n : Nat, i = (n : Int) := fun i hi => by
    have q := (hm i).mp hi
    unfold setOf at q
    obtain ⟨n, _, e⟩ := List.mem_map.mp (of_decide_eq_true q)
    exact ⟨n, e.symm⟩
  have e : ns = (ns.map Int.toNat).map fun n : Nat => (n : Int) := by
    rw [List.map_map]
    conv => lhs; rw [← List.map_id ns]
    refine List.map_congr_left fun i hi => ?_
    obtain ⟨n, rfl⟩ := hnn i hi
    rfl
  refine ⟨ns.map Int.toNat, by rw [nats_map, ← e], ?_, fun x => ?_⟩
  · rw [List.pairwise_map]
    refine List.Pairwise.imp_of_mem (fun {a b} ha hb h => ?_) h
    obtain ⟨n, rfl⟩ := hnn a ha
    obtain ⟨m, rfl⟩ := hnn b hb
    omega
  · rw [List.mem_map]
    constructor
    · rintro ⟨i, hi, rfl⟩
      obtain ⟨n, rfl⟩ := hnn i hi
      have q := (hm n).mp hi
      rw [setOf_nat] at q
      exact of_decide_eq_true q
    · intro hx
      exact ⟨(x : Int), (hm x).mpr (by rw [setOf_nat]; exact decide_eq_true hx), by simp⟩
def spPMet (C : Addr) : Sp := fun vs H Q _ => ∃ (q : Addr) (sg : List Nat) (us : List V) (as : List Arc), vs = [.ref q] ∧ LoomAt C H q sg us as ∧
  ∀ (H' : Hp) (p : Addr) (ms : List Nat), Same H H' → H p = none → H' p = some (.lst (nats ms)) → ms.Pairwise (· < ·) → (∀ x, x ∈ ms ↔ Reach as x) → Q (.ref p) H'
section
variable {P : Program} {w : World} {K : PySem.W.Frag} {mg : Str → Option Value} {base : Heap}
theorem ok_met (T : Tx K mg) : FnOk P w K mg base CX0 1 T.f_met T.fd_met P_met (spPMet T.C_Loom) := by
  refine T.F_met.okC sc_met (fun vs H Q E h => ?_) (fun cdv A outer s H vs Q E hcd hr h => ?_)
  · obtain ⟨q, sg, us, as, rfl, _⟩ := h
    rfl
  · obtain ⟨q, sg, us, as, rfl, ⟨dx, TT, hq, hT, harc, hok, hsg⟩, k⟩ := h
    refine ⟨_, (pss_cons (ps_set (i := 1) sc_met.nd rfl (Or.inl rfl) (pe_set1 (kdsCode_of hcd) pe_int))
        (pss_cons (ps_set (i := 2) sc_met.nd rfl (Or.inl rfl) (pe_lst (pa_cons pe_int pa_nil)))
        (pss_cons (ps_while PassesOwn.never (pt_truth (pv 2) (by intro _; rfl)) (pss_cons (ps_set (i := 3) sc_met.nd rfl (Or.inl rfl) (pe_bm0 PySem.F.plainAttrs_list PySem.F.slot_list_pop PySem.F.type_list_pop mt_pop (pv 2)))
        (pss_one (ps_for PassesOwn.never rfl (pi_tup (pe_fld (pv 0) rfl)) (pg_tup rfl (pgs_cons (pg_name (i := 4) sc_met.nd rfl (Or.inl rfl)) (pgs_cons (pg_name (i := 5) sc_met.nd rfl (Or.inl rfl)) (pgs_cons (pg_name (i := 6) sc_met.nd rfl (Or.inl rfl)) pgs_nil)))) (pss_one (ps_if (PW.pt (pw_and (pt_cmpR op_eq (pv 4) (pv 3) (nomark _)) (pw_and1 (pt_cmpR or_snotin (pv 6) (pv 1) rfl)))) (pss_cons (ps_expr (pe_sadd (pv 1) (pa_cons (pv 6) pa_nil)))
        (pss_one (ps_expr (pe_bm PySem.F.plainAttrs_list PySem.F.slot_list_append PySem.F.type_list_append mt_append (pv 2) (pa_cons (pv 6) pa_nil))))) pss_nil))))))
        (pss_one (ps_ret (pe_callB (cr_sortedSetN rfl) rfl T.n_sorted (by decide +kernel) (pa_cons (pv 1) pa_nil))))))), ?_⟩
    intro S hS
    refine ⟨_, rfl, upd_same, le_size (by decide), fun F hF0 => ?_⟩
    rw [upd_upd] at hF0 ⊢
    have nFS : F ≠ S := hp_ne upd_same hF0
    have hF : H F = none := by rw [upd_ne nFS] at hF0; exact hF0
    have oka := hok.all
    have s0 : Same H (upd (upd H S (SetO w S (fun j : Int => decide (j = 0)) 1)) F (.lst [V.int 0])) := (Same.new _ hS).trans (Same.new _ hF0)
    refine ⟨fun m σ H' => ∃ (fs ws : List Nat) (v3 v4 v5 v6 : Option V), m = 2 * (64 - fs.length) + ws.length ∧ σ = [some (.ref q), some (.ref S), some (.ref F), v3, v4, v5, v6] ∧ H' S = some (SetO w S (setOf fs) fs.length) ∧ H' F = some (.lst (nats ws)) ∧ Same H H' ∧ MetG as fs ws, ⟨_, [0], [0], none, none, none, none, rfl, rfl, ?_, upd_same, s0, ?_⟩, ?_⟩
    · rw [upd_ne nFS.symm, upd_same, setOf_zero]; rfl
    · exact ⟨by simp, by simp, fun x hx => by rw [List.mem_singleton.mp hx]; exact .zero, fun x hx => hx, Nat.le_refl _, fun g hg hn => absurd hg hn⟩
    · rintro m σ H1 ⟨fs, ws, v3, v4, v5, v6, rfl, rfl, hS1, hF1, sm, G⟩
      have hlen : fs.length ≤ 64 := nodup_le 64 fs G.nd fun x hx => by have := (G.reach x hx).le oka; omega
      refine ⟨_, rfl, !(nats ws).isEmpty, .inl ⟨_, SqL.of hF1, rfl⟩, ?_⟩
      rw [nats_isEmpty]
      refine ite2 (fun c => ?_) (fun c => ?_)
      · have wne : ws ≠ [] := fun z => by rw [z] at c; cases c
        obtain ⟨r, x, rfl⟩ := snoc_of wne
        refine ⟨fun σ' H' => ∃ (fs' ws' : List Nat) (v3 v4 v5 v6 : Option V), 2 * (64 - fs'.length) + ws'.length < 2 * (64 - fs.length) + (r ++ [x]).length ∧ σ' = [some (.ref q), some (.ref S), some (.ref F), v3, v4, v5, v6] ∧ H' S = some (SetO w S (setOf fs') fs'.length) ∧ H' F = some (.lst (nats ws')) ∧ Same H H' ∧ MetG as fs' ws', ?_, ?_⟩
        · rintro σ' H' ⟨fs', ws', w3, w4, w5, w6, lt, r1, r2, r3, r4, r5⟩
          exact ⟨_, lt, fs', ws', w3, w4, w5, w6, rfl, r1, r2, r3, r4, r5⟩
        refine ⟨_, rfl, .inl ⟨rfl, _, SqL.of hF1⟩, F, _, V.int (x : Int), rfl, rfl, hF1, by rw [nats_append]; simp [nats], ?_⟩
        have hdl : (nats (r ++ [x])).dropLast = nats r := by rw [nats_append]; simp [nats]
        rw [hdl]
        have sm2 : Same H (upd H1 F (.lst (nats r))) := sm.updNew hF
        refine ⟨_, rfl, q, _, dx, _, _, rfl, sm2 _ _ hq, T.cl_Loom, T.na_Loom_arcs, lf_arcs _ _, TT, rfl, ⟨_, SqT.of (sm2 _ _ hT)⟩, for_tup (K := K) (a := TT) (xs := us) (fun i σ H' => ∃ (gs vs : List Nat) (v4 v5 v6 : Option V), σ = [some (.ref q), some (.ref S), some (.ref F), some (.int (x : Int)), v4, v5, v6] ∧ 2 * (64 - gs.length) + vs.length < 2 * (64 - fs.length) + (r ++ [x]).length ∧ H' S = some (SetO w S (setOf gs) gs.length) ∧ H' F = some (.lst (nats vs)) ∧ Same H H' ∧ MetI as gs vs x i) ?_ ?_ ?_ ?_⟩
        · exact ⟨fs, r, v4, v5, v6, rfl, by simp, by rw [upd_ne nFS.symm]; exact hS1, upd_same, sm2, G.begin⟩
        · rintro i σ H' _ ⟨_, _, _, _, _, _, _, _, _, sm3, _⟩
          exact SqT.of (sm3 _ _ hT)
        · rintro i y σ H3 hy ⟨gs, vs, u4, u5, u6, rfl, lt, hS3, hF3, sm3, M⟩
          have hi : i < as.length := by
            have z := (List.getElem?_eq_some_iff.mp hy).1
            have := harc.1
            omega
          have hai : as[i]? = some as[i] := List.getElem?_eq_getElem hi
          obtain ⟨t, hut, htt⟩ := harc.2 i as[i] hai
          rw [hut] at hy
          cases hy
          have hg64 : gs.length ≤ 64 := nodup_le 64 gs M.nd fun z hz => by have := (M.reach z hz).le oka; omega
          refine ⟨t, _, rfl, SqT.of (sm3 _ _ htt), rfl, _, _, rfl, _, _, rfl, _, _, rfl, rfl, _, rfl, _, rfl, rfl, _, rfl, ?_⟩
          have skip : ∀ (u4 u5 u6 : Option V), MetI as gs vs x (i + 1) → ∃ (gs' vs' : List Nat) (w4 w5 w6 : Option V), [some (V.ref q), some (.ref S), some (.ref F), some (.int (x : Int)), u4, u5, u6] = [some (V.ref q), some (.ref S), some (.ref F), some (.int (x : Int)), w4, w5, w6] ∧ 2 * (64 - gs'.length) + vs'.length < 2 * (64 - fs.length) + (r ++ [x]).length ∧ H3 S = some (SetO w S (setOf gs') gs'.length) ∧ H3 F = some (.lst (nats vs')) ∧ Same H H3 ∧ MetI as gs' vs' x (i + 1) :=
            fun u4 u5 u6 m => ⟨gs, vs, u4, u5, u6, rfl, lt, hS3, hF3, sm3, m⟩
          refine ite2 (fun c => ?_) (fun c => ?_)
          · have c1 : as[i].1 = x := by
              have q := of_decide_eq_true c
              injection q with q
              omega
            refine ⟨_, rfl, _, rfl, _, S, _, _, rfl, rfl, hS3, _, rfl, ?_⟩
            rw [setOf_nat]
            refine ite2 (fun c2 => ?_) (fun c2 => ?_)
            · have cn : as[i].2.2 ∉ gs := by simpa using c2
              have M2 := M.more hai c1 cn
              have hS0 : setOf gs (as[i].2.2 : Int) = false := by rw [setOf_nat]; simpa using cn
              have g65 : (gs ++ [as[i].2.2]).length ≤ 64 := nodup_le 64 _ M2.nd fun z hz => by have := (M2.reach z hz).le oka; omega
              simp at g65
              refine ⟨_, rfl, ⟨S, _, _, rfl, hS3⟩, _, rfl, S, _, _, _, rfl, rfl, hS3, Nat.lt_of_le_of_lt (m := 64) (by omega) (by decide), ?_⟩
              rw [setOf_add, hS0]
              have hF4 : ∀ o, upd H3 S o F = some (.lst (nats vs)) := fun o => (upd_ne nFS).trans hF3
              refine ⟨_, rfl, .inl ⟨rfl, _, SqL.of (hF4 _)⟩, _, rfl, F, _, _, rfl, rfl, hF4 _, lt_size (by have := M.len; simp [nats]; omega), ?_⟩
              refine ⟨gs ++ [as[i].2.2], vs ++ [as[i].2.2], _, _, _, rfl, ?_, by rw [upd_ne nFS.symm, upd_same, List.length_append]; rfl, by rw [upd_same, nats_append]; rfl, (sm3.updNew hS).updNew hF, M2⟩
              simp at lt ⊢
              omega
            · have cn : as[i].2.2 ∈ gs := by simpa using c2
              exact skip _ _ _ (M.skip fun a ha _ => by rw [hai] at ha; cases ha; exact cn)
          · have c1 : ¬ as[i].1 = x := fun z => c (decide_eq_true (by rw [z]))
            exact skip _ _ _ (M.skip fun a ha e => by rw [hai] at ha; cases ha; exact absurd e c1)
        · rintro σ H3 ⟨gs, vs, u4, u5, u6, rfl, lt, hS3, hF3, sm3, M⟩
          rw [harc.1] at M
          exact ⟨gs, vs, _, u4, u5, u6, lt, rfl, hS3, hF3, sm3, M.end⟩
      · have wn : ws = [] := by
          cases ws with
          | nil => rfl
          | cons a r => exact absurd rfl c
        subst wn
        refine ⟨_, rfl, S, _, _, rfl, hS1, Nat.le_trans hlen (by decide), fun ns p hpw hmem hl hp => ?_⟩
        obtain ⟨ms, e, hlt, hms⟩ := set_nats hpw hmem
        exact k _ p ms (sm.trans (Same.new _ hp)) (sm.free hp) (by rw [upd_same, e]) hlt fun x => (hms x).trans (G.all x)
end
end J


set_option Elab.async false
set_option linter.all false
set_option maxRecDepth 100000
set_option maxHeartbeats 4000000
namespace J
open PySem L2
theorem LoomAt.same {C : Addr} {H H' : Hp} {p : Addr} {sg : List Nat} {us : List V} {as : List Arc} (h : LoomAt C H p sg us as) (s : Same H H') : LoomAt C H' p sg us as := by
  obtain ⟨dx, T, h1, h2, h3, h4, h5⟩ := h
  exact ⟨dx, T, s _ _ h1, s _ _ h2, h3.same s, h4, h5⟩
theorem S_inj {u v : List Nat} (h : SX.S u = SX.S v) : u = v := by
  unfold SX.S at h
  injection h with h
  simpa using h
end J


set_option Elab.async false
set_option linter.all false
set_option maxRecDepth 100000
set_option maxHeartbeats 4000000
namespace J
open PySem L2
/-! ### arcs by their states -/
def lvs (g : Nat) : Nat → List Arc → List (Nat × List Nat × Nat)
  | _, [] => []
  | n, a :: r => if a.1 = g then (n, a.2.1, a.2.2) :: lvs g (n + 1) r else lvs g (n + 1) r
theorem lvs_snoc (g : Nat) (b : Arc) : ∀ (as : List Arc) (n : Nat), lvs g n (as ++ [b]) = lvs g n as ++ (if b.1 = g then [(n + as.length, b.2.1, b.2.2)] else [])
  | [], n => by
    by_cases c : b.1 = g
    · simp [lvs, c]
    · simp [lvs, c]
  | a :: r, n => by
    have ih := lvs_snoc g b r (n + 1)
    have e : n + 1 + r.length = n + (a :: r).length := by rw [List.length_cons]; omega
    rw [e] at ih
    show (if a.1 = g then (n, a.2.1, a.2.2) :: lvs g (n + 1) (r ++ [b]) else lvs g (n + 1) (r ++ [b])) = (if a.1 = g then (n, a.2.1, a.2.2) :: lvs g (n + 1) r else lvs g (n + 1) r) ++ _
    rw [ih]
    by_cases c : a.1 = g
    · rw [if_pos c, if_pos c]; rfl
    · rw [if_neg c, if_neg c]
theorem lvs_len (g : Nat) : ∀ (as : List Arc) (n : Nat), (lvs g n as).length ≤ as.length
  | [], _ => Nat.zero_le _
  | a :: r, n => by
    have ih := lvs_len g r (n + 1)
    show (if a.1 = g then (n, a.2.1, a.2.2) :: lvs g (n + 1) r else lvs g (n + 1) r).length ≤ r.length + 1
    by_cases c : a.1 = g
    · rw [if_pos c, List.length_cons]; omega
    · rw [if_neg c]; omega
def entHO (e : Nat × List Nat × Nat) : HO := .tup [.int (e.1 : Nat), .str (SX.S e.2.1), .int (e.2.2 : Nat)]
def Lv (H : Hp) (us : List V) (ls : List (Nat × List Nat × Nat)) : Prop := us.length = ls.length ∧ ∀ (i : Nat) e, ls[i]? = some e → ∃ t, us[i]? = some (.ref t) ∧ H t = some (entHO e)
theorem Lv.same {H H' : Hp} {us : List V} {ls : List (Nat × List Nat × Nat)} (h : Lv H us ls) (s : Same H H') : Lv H' us ls := ⟨h.1, fun i e he => by
  obtain ⟨t, h1, h2⟩ := h.2 i e he
  exact ⟨t, h1, s _ _ h2⟩⟩
/-- what is no tuple may change -/
theorem Lv.to {H H' : Hp} {us : List V} {ls : List (Nat × List Nat × Nat)} (h : Lv H us ls) (s : ∀ t xs, H t = some (.tup xs) → H' t = some (.tup xs)) : Lv H' us ls := ⟨h.1, fun i e he => by
  obtain ⟨t, h1, h2⟩ := h.2 i e he
  exact ⟨t, h1, s _ _ h2⟩⟩
theorem Lv.snoc {H : Hp} {us : List V} {ls : List (Nat × List Nat × Nat)} (h : Lv H us ls) {t : Addr} {e : Nat × List Nat × Nat} (ht : H t = some (entHO e)) : Lv H (us ++ [.ref t]) (ls ++ [e]) := by
  refine ⟨by rw [List.length_append, List.length_append, h.1]; rfl, fun i f hf => ?_⟩
  by_cases c : i < ls.length
  · rw [List.getElem?_append_left c] at hf
    obtain ⟨u, h1, h2⟩ := h.2 i f hf
    exact ⟨u, by rw [List.getElem?_append_left (by rw [h.1]; exact c)]; exact h1, h2⟩
  · have hi : i = ls.length := by
      have := (List.getElem?_eq_some_iff.mp hf).1
      rw [List.length_append, List.length_singleton] at this
      omega
    subst hi
    rw [List.getElem?_append_right (Nat.le_refl _)] at hf
    simp at hf
    subst hf
    exact ⟨t, by rw [List.getElem?_append_right (by rw [h.1]; exact Nat.le_refl _), h.1]; simp, ht⟩
/-- the table of the arcs at d; all of it is new since H0 -/
def TabS (H0 H : Hp) (d : Addr) (as : List Arc) : Prop := ∃ (kvs : List (Key × V)) (at_ : Nat → Addr), H0 d = none ∧ H d = some (.dK kvs) ∧ kvs.length ≤ as.length ∧
  (∀ g, lvs g 0 as = [] → valV kvs (.inl (g : Int)) = none) ∧
  (∀ g, lvs g 0 as ≠ [] → valV kvs (.inl (g : Int)) = some (.ref (at_ g)) ∧ H0 (at_ g) = none ∧ ∃ us, H (at_ g) = some (.lst us) ∧ Lv H us (lvs g 0 as)) ∧
  (∀ g g', lvs g 0 as ≠ [] → lvs g' 0 as ≠ [] → at_ g = at_ g' → g = g')
theorem TabS.same {H0 H H' : Hp} {d : Addr} {as : List Arc} (h : TabS H0 H d as) (s : Same H H') : TabS H0 H' d as := by
  obtain ⟨kvs, at_, h0, h1, h2, h3, h4, h5⟩ := h
  refine ⟨kvs, at_, h0, s _ _ h1, h2, h3, fun g hg => ?_, h5⟩
  obtain ⟨e1, e2, us, e3, e4⟩ := h4 g hg
  exact ⟨e1, e2, us, s _ _ e3, e4.same s⟩
def spArcsBy (C : Addr) : Sp := fun vs H Q _ => ∃ (q : Addr) (sg : List Nat) (us : List V) (as : List Arc), vs = [.ref q] ∧ LoomAt C H q sg us as ∧ ∀ (H' : Hp) (d : Addr), Same H H' → TabS H H' d as → Q (.ref d) H'
section
variable {P : Program} {w : World} {K : PySem.W.Frag} {mg : Str → Option Value} {base : Heap}
theorem ok_arcs_by_state (T : Tx K mg) : FnOk P w K mg base CX0 1 T.f_arcs_by_state T.fd_arcs_by_state P_arcs_by_state (spArcsBy T.C_Loom) := by
  refine T.F_arcs_by_state.ok sc_arcs_by_state (fun vs H Q E h => ?_) (fun cdv A outer s H vs Q E hr h => ?_)
  · obtain ⟨q, sg, us, as, rfl, _⟩ := h
    rfl
  · obtain ⟨q, sg, us, as, rfl, ⟨dx, TT, hq, hT, harc, hok, hsg⟩, k⟩ := h
    refine ⟨_, (pss_cons (ps_set (i := 1) sc_arcs_by_state.nd rfl (Or.inl rfl) pe_dnewK)
        (pss_cons (ps_for PassesOwn.never rfl (pi_enumT rfl T.n_enumerate (pa_cons (pe_fld (pv 0) rfl) pa_nil)) (pg_tup rfl (pgs_cons (pg_name (i := 2) sc_arcs_by_state.nd rfl (Or.inl rfl)) (pgs_cons (pg_tup rfl (pgs_cons (pg_name (i := 3) sc_arcs_by_state.nd rfl (Or.inl rfl)) (pgs_cons (pg_name (i := 4) sc_arcs_by_state.nd rfl (Or.inl rfl)) (pgs_cons (pg_name (i := 5) sc_arcs_by_state.nd rfl (Or.inl rfl)) pgs_nil)))) pgs_nil))) (pss_one (ps_expr (pe_bm PySem.F.plainAttrs_list PySem.F.slot_list_append PySem.F.type_list_append mt_append (pe_dsetd (pv 1) (pv 3) (pe_lst pa_nil) ⟨rfl, rfl, rfl, rfl⟩) (pa_cons (pe_tup (pa_cons (pv 2) (pa_cons (pv 4) (pa_cons (pv 5) pa_nil)))) pa_nil)))))
        (pss_one (ps_ret (pv 1))))), ?_⟩
    intro d hd
    have s1 : Same H (upd H d (.dK [])) := Same.new _ hd
    have g1 : upd H d (.dK []) d = some (.dK []) := upd_same
    generalize upd H d (.dK []) = H1 at *
    have hl := hok.2.1
    refine ⟨_, rfl, q, _, dx, _, _, rfl, s1 _ _ hq, T.cl_Loom, T.na_Loom_arcs, lf_arcs _ _, TT, us, rfl, SqT.of (s1 _ _ hT), for_it (walk_enumT (K := K) (a := TT) (xs := us)) (fun i σ H' => ∃ v2 v3 v4 v5 : Option V, σ = [some (.ref q), some (.ref d), v2, v3, v4, v5] ∧ Same H H' ∧ TabS H H' d (as.take i)) ?_ ?_ ?_ ?_⟩
    · exact ⟨none, none, none, none, rfl, s1, [], fun _ => 0, hd, g1, Nat.zero_le _, fun g _ => rfl, fun g h => absurd rfl h, fun g g' h => absurd rfl h⟩
    · rintro i σ H' _ ⟨_, _, _, _, _, sm, _⟩
      exact SqT.of (sm _ _ hT)
    · rintro i x σ H3 H4 hi ⟨v2, v3, v4, v5, rfl, s3, tab⟩ ⟨tp, x1, y1, rfl, ht, rfl, hx1, hy1⟩
      cases hx1
      have hia : i < as.length := by rw [← harc.1]; exact hi
      obtain ⟨t, hut, htt⟩ := harc.2 i as[i] (List.getElem?_eq_getElem hia)
      replace hy1 : us[i]? = some y1 := hy1
      rw [hut] at hy1
      cases hy1
      have sn := Same.new (.tup [V.int (i : Int), .ref t]) ht
      have tab4 := tab.same sn
      have s4 := s3.trans sn
      refine ⟨tp, _, rfl, SqT.of upd_same, rfl, _, _, rfl, _, _, rfl, t, _, rfl, SqT.of (s4 _ _ htt), rfl, _, _, rfl, _, _, rfl, _, _, rfl, rfl, rfl, ?_⟩
      generalize upd H3 tp (.tup [V.int (i : Int), .ref t]) = H4 at *
      clear s3 sn ht hut
      have hai : as[i]? = some as[i] := List.getElem?_eq_getElem hia
      obtain ⟨kvs, at_, h0, hd4, hkl, hnone, hsome, hinj⟩ := tab4
      have hal : (as.take i).length ≤ 200 := by rw [List.length_take]; omega
      refine ⟨_, rfl, d, rfl, .inl ⟨kvs, .inl hd4⟩, _, rfl, le_size (by simp), fun l' hl' => ?_⟩
      have s5 : Same H4 (upd H4 l' (.lst [])) := Same.new _ hl'
      have gl' : upd H4 l' (.lst []) l' = some (.lst []) := upd_same
      have hd5 := s5 _ _ hd4
      have nl'd : l' ≠ d := hp_ne hd4 hl'
      refine ⟨kvs, .inl (as[i].1 : Int), hd5, rfl, lt_size (by omega), fun v hv => ?_, fun hn => ?_⟩
      · have hne : lvs as[i].1 0 (as.take i) ≠ [] := fun z => by rw [hnone _ z] at hv; cases hv
        obtain ⟨e1, e2, us', e3, e4⟩ := hsome _ hne
        rw [e1] at hv
        cases hv
        have hnd : at_ as[i].1 ≠ d := fun z => by rw [z, hd4] at e3; cases e3
        refine ⟨.inl ⟨rfl, _, SqL.of (s5 _ _ e3)⟩, _, rfl, _, rfl, _, rfl, le_size (by simp), fun t2 ht2 => ?_⟩
        have s6 : Same _ (upd (upd H4 l' (.lst [])) t2 (.tup [.int (i : Nat), .str (SX.S as[i].2.1), .int (as[i].2.2 : Nat)])) := s5.trans (Same.new _ ht2)
        have g6 : upd (upd H4 l' (.lst [])) t2 (.tup [.int (i : Nat), .str (SX.S as[i].2.1), .int (as[i].2.2 : Nat)]) t2 = some (entHO (i, as[i].2.1, as[i].2.2)) := upd_same
        refine ⟨at_ as[i].1, us', _, rfl, rfl, s6 _ _ e3, lt_size (by rw [e4.1]; exact Nat.le_trans (lvs_len _ _ _) (by omega)), ?_⟩
        generalize upd (upd H4 l' (.lst [])) t2 (.tup [.int (i : Nat), .str (SX.S as[i].2.1), .int (as[i].2.2 : Nat)]) = H6 at *
        have tk : ∀ t xs, H6 t = some (.tup xs) → upd H6 (at_ as[i].1) (.lst (us' ++ [.ref t2])) t = some (.tup xs) := fun t xs h => by
          rw [upd_ne (fun z => by rw [z, s6 _ _ e3] at h; cases h)]
          exact h
        refine ⟨_, _, _, _, rfl, (s4.trans s6).updNew e2, kvs, at_, h0, by rw [upd_ne hnd.symm]; exact s6 _ _ hd4, by rw [← take_snoc hai, List.length_append]; omega, fun g hg => ?_, fun g hg => ?_, fun g g' hg hg' => ?_⟩
        · rw [← take_snoc hai, lvs_snoc] at hg
          exact hnone g (List.append_eq_nil_iff.mp hg).1
        · rw [← take_snoc hai, lvs_snoc] at hg ⊢
          by_cases c : as[i].1 = g
          · subst c
            rw [if_pos rfl]
            refine ⟨e1, e2, _, upd_same, ?_⟩
            have q := ((e4.same s6).to tk).snoc (tk _ _ g6)
            rw [List.length_take, Nat.min_eq_left (by omega), Nat.zero_add]
            exact q
          · rw [if_neg c, List.append_nil] at hg ⊢
            obtain ⟨f1, f2, us2, f3, f4⟩ := hsome g hg
            refine ⟨f1, f2, us2, ?_, (f4.same s6).to tk⟩
            rw [upd_ne (fun z => c (hinj _ _ hg hne z).symm)]
            exact s6 _ _ f3
        · have back : ∀ g, lvs g 0 (as.take (i + 1)) ≠ [] → lvs g 0 (as.take i) ≠ [] := fun g hg => by
            rw [← take_snoc hai, lvs_snoc] at hg
            by_cases c : as[i].1 = g
            · subst c; exact hne
            · rw [if_neg c, List.append_nil] at hg
              exact hg
          exact hinj g g' (back g hg) (back g' hg')
      · have hemp : lvs as[i].1 0 (as.take i) = [] := by
          by_cases z : lvs as[i].1 0 (as.take i) = []
          · exact z
          · rw [(hsome _ z).1] at hn
            cases hn
        have hHl' : H l' = none := s4.free hl'
        have s6 : Same H (upd (upd H4 l' (.lst [])) d (.dK (putK kvs (.inl (as[i].1 : Int)) (.ref l')))) := (s4.trans s5).updNew h0
        have gd6 : upd (upd H4 l' (.lst [])) d (.dK (putK kvs (.inl (as[i].1 : Int)) (.ref l'))) d = some (.dK (putK kvs (.inl (as[i].1 : Int)) (.ref l'))) := upd_same
        have gl6 : upd (upd H4 l' (.lst [])) d (.dK (putK kvs (.inl (as[i].1 : Int)) (.ref l'))) l' = some (.lst []) := by rw [upd_ne nl'd]; exact gl'
        have k6 : ∀ b o, b ≠ d → H4 b = some o → upd (upd H4 l' (.lst [])) d (.dK (putK kvs (.inl (as[i].1 : Int)) (.ref l'))) b = some o := fun b o n h => by rw [upd_ne n]; exact s5 _ _ h
        generalize upd (upd H4 l' (.lst [])) d (.dK (putK kvs (.inl (as[i].1 : Int)) (.ref l'))) = H6 at *
        refine ⟨.inl ⟨rfl, _, SqL.of gl6⟩, _, rfl, _, rfl, _, rfl, le_size (by simp), fun t2 ht2 => ?_⟩
        have s7 : Same H6 (upd H6 t2 (.tup [.int (i : Nat), .str (SX.S as[i].2.1), .int (as[i].2.2 : Nat)])) := Same.new _ ht2
        have g7 : upd H6 t2 (.tup [.int (i : Nat), .str (SX.S as[i].2.1), .int (as[i].2.2 : Nat)]) t2 = some (entHO (i, as[i].2.1, as[i].2.2)) := upd_same
        generalize upd H6 t2 (.tup [.int (i : Nat), .str (SX.S as[i].2.1), .int (as[i].2.2 : Nat)]) = H7 at *
        refine ⟨l', [], _, rfl, rfl, s7 _ _ gl6, by decide, ?_⟩
        have k8 : ∀ b o, b ≠ d → b ≠ l' → H4 b = some o → upd H7 l' (.lst ([] ++ [.ref t2])) b = some o := fun b o n1 n2 h => by rw [upd_ne n2]; exact s7 _ _ (k6 b o n1 h)
        have old : ∀ g, as[i].1 ≠ g → lvs g 0 (as.take (i + 1)) = lvs g 0 (as.take i) := fun g c => by rw [← take_snoc hai, lvs_snoc, if_neg c, List.append_nil]
        have own : lvs as[i].1 0 (as.take (i + 1)) = [(i, as[i].2.1, as[i].2.2)] := by
          rw [← take_snoc hai, lvs_snoc, if_pos rfl, hemp, List.length_take, Nat.min_eq_left (by omega), Nat.zero_add]
          rfl
        have kne : ∀ g, as[i].1 ≠ g → ¬ ((Sum.inl (g : Int) : Key) = Sum.inl (as[i].1 : Int)) := fun g c z => by
          injection z with z
          exact c (by omega)
        obtain ⟨f, fown, fne⟩ : ∃ f : Nat → Addr, f as[i].1 = l' ∧ ∀ g, as[i].1 ≠ g → f g = at_ g := ⟨fun g => if g = as[i].1 then l' else at_ g, if_pos rfl, fun g c => if_neg fun z => c z.symm⟩
        refine ⟨_, _, _, _, rfl, (s6.trans s7).updNew hHl', putK kvs (.inl (as[i].1 : Int)) (.ref l'), f, h0, by rw [upd_ne nl'd.symm]; exact s7 _ _ gd6, ?_, fun g hg => ?_, fun g hg => ?_, fun g g' hg hg' e => ?_⟩
        · have := length_putK kvs (.inl (as[i].1 : Int)) (.ref l')
          rw [← take_snoc hai, List.length_append, List.length_singleton]
          omega
        · by_cases c : as[i].1 = g
          · subst c; rw [own] at hg; cases hg
          · rw [valV_put, if_neg (kne g c)]
            rw [old g c] at hg
            exact hnone g hg
        · by_cases c : as[i].1 = g
          · subst c
            rw [own, valV_put, if_pos rfl, fown]
            refine ⟨rfl, hHl', [.ref t2], upd_same, rfl, fun j e hj => ?_⟩
            cases j with
            | zero =>
              simp at hj
              subst hj
              exact ⟨t2, rfl, by rw [upd_ne (fun z => by rw [z, s7 _ _ gl6] at g7; cases g7)]; exact g7⟩
            | succ j => simp at hj
          · rw [old g c] at hg ⊢
            rw [valV_put, if_neg (kne g c), fne g c]
            obtain ⟨f1, f2, us2, f3, f4⟩ := hsome g hg
            refine ⟨f1, f2, us2, k8 _ _ (fun z => by rw [z, hd4] at f3; cases f3) (fun z => by rw [z, hl'] at f3; cases f3) f3, f4.to fun t xs h => k8 _ _ (fun z => by rw [z, hd4] at h; cases h) (fun z => by rw [z, hl'] at h; cases h) h⟩
        · have far : ∀ g, as[i].1 ≠ g → lvs g 0 (as.take (i + 1)) ≠ [] → at_ g ≠ l' := fun g c h z => by
            rw [old g c] at h
            obtain ⟨_, _, us2, f3, _⟩ := hsome g h
            rw [z, hl'] at f3
            cases f3
          by_cases c : as[i].1 = g
          · by_cases c' : as[i].1 = g'
            · exact c.symm.trans c'
            · subst c
              have e' : l' = at_ g' := by rw [← fown, ← fne g' c']; exact e
              exact absurd e'.symm (far g' c' hg')
          · by_cases c' : as[i].1 = g'
            · subst c'
              have e' : at_ g = l' := by rw [← fown, ← fne g c]; exact e
              exact absurd e' (far g c hg)
            · have e' : at_ g = at_ g' := by rw [← fne g c, ← fne g' c']; exact e
              rw [old g c] at hg
              rw [old g' c'] at hg'
              exact hinj g g' hg hg' e'
    · rintro σ H' ⟨v2, v3, v4, v5, rfl, sm, tab⟩
      have e : as.take us.length = as := by rw [harc.1, List.take_length]
      rw [e] at tab
      exact ⟨_, rfl, k H' d sm tab⟩
end
end J


set_option Elab.async false
set_option linter.all false
set_option maxRecDepth 100000
set_option maxHeartbeats 4000000
namespace J
open PySem L2
/-- w stands at the front of x -/
def pre (x w : List Nat) : Bool := x.take w.length == w
theorem starts0_S (x w : List Nat) : Txt.startswith (SX.S x) (SX.S w) = pre x w := by
  unfold Txt.startswith pre
  rw [PySem.StrLaws.subAt_eq, SX.S_len, SX.S_len]
  show (decide (0 + w.length ≤ x.length) && ((x.drop 0).take w.length == w)) = _
  rw [List.drop_zero]
  cases c : (x.take w.length == w) with
  | false => simp
  | true =>
    have e := congrArg List.length (eq_of_beq c)
    rw [List.length_take] at e
    simp
    omega
theorem cutS_from (x : List Nat) (k : Nat) : cutS (SX.S x) (some (k : Int)) none = SX.S (x.drop k) := by
  unfold cutS
  rw [HT.sIx_nat, HT.sIx_none, SX.S_len]
  show SX.S ((x.drop (min k x.length)).take (x.length - min k x.length)) = _
  congr 1
  by_cases c : k ≤ x.length
  · rw [Nat.min_eq_left c, List.take_of_length_le (by rw [List.length_drop]; exact Nat.le_refl _)]
  · rw [Nat.min_eq_right (by omega), List.drop_eq_nil_of_le (Nat.le_refl _), List.drop_eq_nil_of_le (by omega), List.take_nil]
/-- what is left between two rows: the state behind, the state ahead, the signs between -/
abbrev Rest := Nat × Nat × List Nat
def restHO (r : Rest) : HO := .tup [.int (r.1 : Nat), .int (r.2.1 : Nat), .str (SX.S r.2.2)]
abbrev Step := Rest × Nat × Nat
def stepOf (r : Rest) (e : Nat × List Nat × Nat) : List Step :=
  if pre r.2.2 e.2.1 = true then [((e.2.2, r.2.1, r.2.2.drop e.2.1.length), e.1, 0)] else if pre e.2.1 r.2.2 = true then [((r.2.1, e.2.2, e.2.1.drop r.2.2.length), e.1, 1)] else []
def stepsL (as : List Arc) (r : Rest) : List Step := (lvs r.1 0 as).flatMap (stepOf r)
def StepsAt (H : Hp) (us : List V) (ss : List Step) : Prop := us.length = ss.length ∧ ∀ (i : Nat) s, ss[i]? = some s → ∃ t rt, us[i]? = some (.ref t) ∧ H t = some (.tup [.ref rt, .int (s.2.1 : Nat), .int (s.2.2 : Nat)]) ∧ H rt = some (restHO s.1)
theorem StepsAt.to {H H' : Hp} {us : List V} {ss : List Step} (h : StepsAt H us ss) (s : ∀ t xs, H t = some (.tup xs) → H' t = some (.tup xs)) : StepsAt H' us ss := ⟨h.1, fun i e he => by
  obtain ⟨t, rt, h1, h2, h3⟩ := h.2 i e he
  exact ⟨t, rt, h1, s _ _ h2, s _ _ h3⟩⟩
theorem StepsAt.same {H H' : Hp} {us : List V} {ss : List Step} (h : StepsAt H us ss) (s : Same H H') : StepsAt H' us ss := h.to fun _ _ e => s _ _ e
theorem StepsAt.nil (H : Hp) : StepsAt H [] [] := ⟨rfl, fun i s h => by simp at h⟩
theorem StepsAt.snoc {H : Hp} {us : List V} {ss : List Step} (h : StepsAt H us ss) {t rt : Addr} {s : Step} (ht : H t = some (.tup [.ref rt, .int (s.2.1 : Nat), .int (s.2.2 : Nat)])) (hr : H rt = some (restHO s.1)) : StepsAt H (us ++ [.ref t]) (ss ++ [s]) := by
  refine ⟨by rw [List.length_append, List.length_append, h.1]; rfl, fun i f hf => ?_⟩
  by_cases c : i < ss.length
  · rw [List.getElem?_append_left c] at hf
    obtain ⟨u, ru, h1, h2, h3⟩ := h.2 i f hf
    exact ⟨u, ru, by rw [List.getElem?_append_left (by rw [h.1]; exact c)]; exact h1, h2, h3⟩
  · have hi : i = ss.length := by
      have := (List.getElem?_eq_some_iff.mp hf).1
      rw [List.length_append, List.length_singleton] at this
      omega
    subst hi
    rw [List.getElem?_append_right (Nat.le_refl _)] at hf
    simp at hf
    subst hf
    exact ⟨t, rt, by rw [List.getElem?_append_right (by rw [h.1]; exact Nat.le_refl _), h.1]; simp, ht, hr⟩
theorem step_one (r : Rest) (e : Nat × List Nat × Nat) : (stepOf r e).length ≤ 1 := by
  unfold stepOf
  split
  · simp
  · split <;> simp
theorem flat_take {α β : Type} (f : α → List β) {l : List α} {i : Nat} {x : α} (h : l[i]? = some x) : (l.take (i + 1)).flatMap f = (l.take i).flatMap f ++ f x := by
  rw [← take_snoc h, List.flatMap_append]
  simp
theorem flat_len1 {α β : Type} (f : α → List β) (h : ∀ x, (f x).length ≤ 1) : ∀ l : List α, (l.flatMap f).length ≤ l.length
  | [] => Nat.zero_le _
  | a :: r => by
    have := flat_len1 f h r
    have := h a
    rw [List.flatMap_cons, List.length_append, List.length_cons]
    omega
theorem lvs_all (g : Nat) {as : List Arc} (h : ∀ a ∈ as, a.2.1.length ≤ 12) : ∀ (n : Nat), ∀ e ∈ lvs g n as, e.2.1.length ≤ 12 := by
  induction as with
  | nil => intro n e he; cases he
  | cons a r ih =>
    intro n e he
    have ih' := ih fun b hb => h b (List.mem_cons_of_mem _ hb)
    have he' : e ∈ (if a.1 = g then (n, a.2.1, a.2.2) :: lvs g (n + 1) r else lvs g (n + 1) r) := he
    by_cases c : a.1 = g
    · rw [if_pos c] at he'
      rcases List.mem_cons.mp he' with z | z
      · rw [z]; exact h a (by simp)
      · exact ih' _ e z
    · rw [if_neg c] at he'
      exact ih' _ e he'
def spSteps (_K : PySem.W.Frag) : Sp := fun vs H Q _ => ∃ (d rp : Addr) (H0 : Hp) (as : List Arc) (r : Rest), vs = [.ref d, .ref rp] ∧ TabS H0 H d as ∧ as.length ≤ 200 ∧ (∀ a ∈ as, a.2.1.length ≤ 12) ∧ r.2.2.length ≤ 1000 ∧ H rp = some (restHO r) ∧
  ∀ (H' : Hp) (q : Addr) us, Same H H' → H q = none → H' q = some (.lst us) → StepsAt H' us (stepsL as r) → Q (.ref q) H'
section
variable {P : Program} {w : World} {K : PySem.W.Frag} {mg : Str → Option Value} {base : Heap}
theorem ok_steps (T : Tx K mg) : FnOk P w K mg base CX0 1 T.f_steps T.fd_steps P_steps (spSteps K) := by
  refine T.F_steps.ok sc_steps (fun vs H Q E h => ?_) (fun cdv A outer s H vs Q E hr h => ?_)
  · obtain ⟨d, rp, H0, as, r, rfl, _⟩ := h
    rfl
  · obtain ⟨d, rp, H0, as, r, rfl, tab, hal, haw, hrl, hrp, k⟩ := h
    refine ⟨_, (pss_cons (ps_asg (pv 1) (pg_tup rfl (pgs_cons (pg_name (i := 2) sc_steps.nd rfl (Or.inl rfl)) (pgs_cons (pg_name (i := 3) sc_steps.nd rfl (Or.inl rfl)) (pgs_cons (pg_name (i := 4) sc_steps.nd rfl (Or.inl rfl)) pgs_nil)))))
        (pss_cons (ps_set (i := 5) sc_steps.nd rfl (Or.inl rfl) (pe_lst pa_nil))
        (pss_cons (ps_for PassesOwn.never rfl (pi_list (pe_dget2 (hu_of hr) (pv 0) (pv 2) (pe_lst pa_nil) ⟨rfl, rfl, rfl, rfl⟩)) (pg_tup rfl (pgs_cons (pg_name (i := 6) sc_steps.nd rfl (Or.inl rfl)) (pgs_cons (pg_name (i := 7) sc_steps.nd rfl (Or.inl rfl)) (pgs_cons (pg_name (i := 8) sc_steps.nd rfl (Or.inl rfl)) pgs_nil)))) (pss_one (ps_if (pt_val (pe_bm PySem.F.plainAttrs_str PySem.F.slot_str_startswith PySem.F.type_str_startswith mt_startswith (pv 4) (pa_cons (pv 7) pa_nil))) (pss_one (ps_expr (pe_bm PySem.F.plainAttrs_list PySem.F.slot_list_append PySem.F.type_list_append mt_append (pv 5) (pa_cons (pe_tup (pa_cons (pe_tup (pa_cons (pv 8) (pa_cons (pv 3) (pa_cons (pe_slice sl_str (pv 4) (po_some (pe_callB call_len_str rfl T.n_len (by decide +kernel) (pa_cons (pv 7) pa_nil))) po_none) pa_nil)))) (pa_cons (pv 6) (pa_cons pe_int pa_nil)))) pa_nil)))) (pss_one (ps_if (pt_val (pe_bm PySem.F.plainAttrs_str PySem.F.slot_str_startswith PySem.F.type_str_startswith mt_startswith (pv 7) (pa_cons (pv 4) pa_nil))) (pss_one (ps_expr (pe_bm PySem.F.plainAttrs_list PySem.F.slot_list_append PySem.F.type_list_append mt_append (pv 5) (pa_cons (pe_tup (pa_cons (pe_tup (pa_cons (pv 3) (pa_cons (pv 8) (pa_cons (pe_slice sl_str (pv 7) (po_some (pe_callB call_len_str rfl T.n_len (by decide +kernel) (pa_cons (pv 4) pa_nil))) po_none) pa_nil)))) (pa_cons (pv 6) (pa_cons pe_int pa_nil)))) pa_nil)))) pss_nil)))))
        (pss_one (ps_ret (pv 5)))))), ?_⟩
    refine ⟨_, rfl, rp, _, rfl, SqT.of hrp, rfl, _, _, rfl, _, _, rfl, _, _, rfl, rfl, ?_⟩
    refine ⟨le_size (by simp), fun q hq => ?_⟩
    have s1 : Same H (upd H q (.lst [])) := Same.new _ hq
    have g1 : upd H q (.lst []) q = some (.lst []) := upd_same
    generalize upd H q (.lst []) = H1 at *
    obtain ⟨kvs, at_, h0, hd0, hkl, hnone, hsome, hinj⟩ := tab
    have hd1 := s1 _ _ hd0
    refine ⟨_, rfl, d, rfl, .inl ⟨kvs, .inl hd1⟩, _, rfl, le_size (by simp), fun l' hl' => ?_⟩
    have s2 : Same H1 (upd H1 l' (.lst [])) := Same.new _ hl'
    have g2 : upd H1 l' (.lst []) l' = some (.lst []) := upd_same
    have nl'q := hp_ne g1 hl'
    generalize upd H1 l' (.lst []) = H2 at *
    have hsrc : ∃ (ll : Addr) (us : List V), (valV kvs (.inl (r.1 : Int))).getD (.ref l') = .ref ll ∧ ll ≠ q ∧ H2 ll = some (.lst us) ∧ Lv H2 us (lvs r.1 0 as) := by
      by_cases z : lvs r.1 0 as = []
      · rw [hnone _ z, z]
        exact ⟨l', [], rfl, nl'q, g2, rfl, fun i e h => by simp at h⟩
      · obtain ⟨e1, e2, us, e3, e4⟩ := hsome _ z
        rw [e1]
        refine ⟨at_ r.1, us, rfl, ?_, s2 _ _ (s1 _ _ e3), (e4.same s1).same s2⟩
        intro z
        rw [z, hq] at e3
        cases e3
    obtain ⟨ll, us, ell, nll, hll, hlv⟩ := hsrc
    refine ⟨_, .inl ⟨kvs, .inl (r.1 : Int), .inl (s2 _ _ hd1), rfl, rfl⟩, ?_⟩
    rw [ell]
    have hlen : (lvs r.1 0 as).length ≤ 200 := Nat.le_trans (lvs_len _ _ _) hal
    have s02 := s1.trans s2
    have hwl : ∀ e ∈ lvs r.1 0 as, e.2.1.length ≤ 12 := lvs_all _ haw _
    refine ⟨ll, rfl, ⟨_, SqL.of hll⟩, for_list (K := K) (a := ll) (xs := us) (fun i σ H' => ∃ v6 v7 v8 : Option V, σ = [some (.ref d), some (.ref rp), some (.int (r.1 : Nat)), some (.int (r.2.1 : Nat)), some (.str (SX.S r.2.2)), some (.ref q), v6, v7, v8] ∧
      (∃ os, H' q = some (.lst os) ∧ StepsAt H' os (((lvs r.1 0 as).take i).flatMap (stepOf r))) ∧ Same H H' ∧ Ex q H2 H') ?_ ?_ ?_ ?_⟩
    · exact ⟨none, none, none, rfl, ⟨[], s2 _ _ g1, StepsAt.nil _⟩, s02, Ex.refl _ _⟩
    · rintro i σ H' _ ⟨_, _, _, _, _, _, x⟩
      exact SqL.of (x _ _ nll hll)
    · rintro i y σ H3 hy ⟨v6, v7, v8, rfl, ⟨os, hos, hst⟩, s3, x3⟩
      have hil : i < (lvs r.1 0 as).length := by rw [← hlv.1]; exact (List.getElem?_eq_some_iff.mp hy).1
      obtain ⟨e, he⟩ : ∃ e, (lvs r.1 0 as)[i]? = some e := ⟨_, List.getElem?_eq_getElem hil⟩
      obtain ⟨t, hut, htt⟩ := hlv.2 i e he
      rw [hut] at hy
      cases hy
      have h12 := hwl e (List.mem_of_getElem? he)
      have htq : t ≠ q := fun z => by rw [z, s2 _ _ g1] at htt; cases htt
      have htt3 := x3 _ _ htq htt
      have hosl : os.length ≤ 200 := by
        have h1 := flat_len1 (stepOf r) (step_one r) ((lvs r.1 0 as).take i)
        rw [List.length_take] at h1
        rw [hst.1]
        omega
      rw [flat_take _ he]
      have fin : ∀ (s : Step), stepOf r e = [s] → ∀ rt, H3 rt = none → ∀ t2, upd H3 rt (restHO s.1) t2 = none →
          upd (upd H3 rt (restHO s.1)) t2 (.tup [.ref rt, .int (s.2.1 : Nat), .int (s.2.2 : Nat)]) q = some (.lst os) ∧
          (∃ os', upd (upd (upd H3 rt (restHO s.1)) t2 (.tup [.ref rt, .int (s.2.1 : Nat), .int (s.2.2 : Nat)])) q (.lst (os ++ [.ref t2])) q = some (.lst os') ∧
            StepsAt (upd (upd (upd H3 rt (restHO s.1)) t2 (.tup [.ref rt, .int (s.2.1 : Nat), .int (s.2.2 : Nat)])) q (.lst (os ++ [.ref t2]))) os' (((lvs r.1 0 as).take i).flatMap (stepOf r) ++ stepOf r e)) ∧
          Same H (upd (upd (upd H3 rt (restHO s.1)) t2 (.tup [.ref rt, .int (s.2.1 : Nat), .int (s.2.2 : Nat)])) q (.lst (os ++ [.ref t2]))) ∧
          Ex q H2 (upd (upd (upd H3 rt (restHO s.1)) t2 (.tup [.ref rt, .int (s.2.1 : Nat), .int (s.2.2 : Nat)])) q (.lst (os ++ [.ref t2]))) := by
        intro s es rt hrt t2 ht2
        have a1 : Same H3 (upd H3 rt (restHO s.1)) := Same.new _ hrt
        have b1 : upd H3 rt (restHO s.1) rt = some (restHO s.1) := upd_same
        generalize upd H3 rt (restHO s.1) = H4 at *
        have a2 : Same H4 (upd H4 t2 (.tup [.ref rt, .int (s.2.1 : Nat), .int (s.2.2 : Nat)])) := Same.new _ ht2
        have b2 : upd H4 t2 (.tup [.ref rt, .int (s.2.1 : Nat), .int (s.2.2 : Nat)]) t2 = some (.tup [.ref rt, .int (s.2.1 : Nat), .int (s.2.2 : Nat)]) := upd_same
        generalize upd H4 t2 (.tup [.ref rt, .int (s.2.1 : Nat), .int (s.2.2 : Nat)]) = H5 at *
        have a3 := a1.trans a2
        have hos5 := a3 _ _ hos
        have tk : ∀ t xs, H5 t = some (.tup xs) → upd H5 q (.lst (os ++ [.ref t2])) t = some (.tup xs) := fun t xs h => by
          rw [upd_ne (fun z => by rw [z, hos5] at h; cases h)]
          exact h
        refine ⟨hos5, ⟨_, upd_same, ?_⟩, (s3.trans a3).updNew hq, (x3.trans (Same.ex a3)).trans (Ex.upd _)⟩
        rw [es]
        exact ((hst.same a3).to tk).snoc (tk _ _ b2) (tk _ _ (a2 _ _ b1))
      refine ⟨t, _, rfl, SqT.of htt3, rfl, _, _, rfl, _, _, rfl, _, _, rfl, rfl, ?_⟩
      refine ⟨_, rfl, rfl, _, rfl, _, _, rfl, rfl, _, rfl, ?_⟩
      rw [starts0_S]
      refine ite2 (fun c => ?_) (fun c => ?_)
      · refine ⟨_, rfl, .inl ⟨rfl, _, SqL.of hos⟩, _, rfl, _, rfl, _, rfl, _, rfl, _, rfl, le_size (by rw [SX.S_len]; omega), _, rfl, _, rfl, le_size (by rw [SX.S_len]; omega), ?_⟩
        rw [SX.S_len, cutS_from]
        refine ⟨le_size (by simp), fun rt hrt => ?_⟩
        refine ⟨_, rfl, le_size (by simp), fun t2 ht2 => ?_⟩
        obtain ⟨f1, f2, f3, f4⟩ := fin ((e.2.2, r.2.1, r.2.2.drop e.2.1.length), e.1, 0) (by unfold stepOf; rw [if_pos c]) rt hrt t2 ht2
        exact ⟨q, os, _, rfl, rfl, f1, lt_size (by omega), _, _, _, rfl, f2, f3, f4⟩
      · refine ⟨_, rfl, rfl, _, rfl, _, _, rfl, rfl, _, rfl, ?_⟩
        rw [starts0_S]
        refine ite2 (fun c2 => ?_) (fun c2 => ?_)
        · refine ⟨_, rfl, .inl ⟨rfl, _, SqL.of hos⟩, _, rfl, _, rfl, _, rfl, _, rfl, _, rfl, le_size (by rw [SX.S_len]; omega), _, rfl, _, rfl, le_size (by rw [SX.S_len]; omega), ?_⟩
          rw [SX.S_len, cutS_from]
          refine ⟨le_size (by simp), fun rt hrt => ?_⟩
          refine ⟨_, rfl, le_size (by simp), fun t2 ht2 => ?_⟩
          obtain ⟨f1, f2, f3, f4⟩ := fin ((r.2.1, e.2.2, e.2.1.drop r.2.2.length), e.1, 1) (by unfold stepOf; rw [if_neg c, if_pos c2]) rt hrt t2 ht2
          exact ⟨q, os, _, rfl, rfl, f1, lt_size (by omega), _, _, _, rfl, f2, f3, f4⟩
        · have z : stepOf r e = [] := by unfold stepOf; rw [if_neg c, if_neg c2]
          rw [z, List.append_nil]
          exact ⟨_, _, _, rfl, ⟨os, hos, hst⟩, s3, x3⟩
    · rintro σ H' ⟨v6, v7, v8, rfl, ⟨os, hos, hst⟩, sm, _⟩
      have e : (lvs r.1 0 as).take us.length = lvs r.1 0 as := by rw [hlv.1, List.take_length]
      rw [e] at hst
      exact ⟨_, rfl, k H' q os sm hq hos hst⟩
end
end J


set_option Elab.async false
set_option linter.all false
set_option maxRecDepth 100000
set_option maxHeartbeats 4000000
namespace J
open PySem L2
abbrev Start := Rest × Nat × Nat × Nat
def startHO (rt : Addr) (s : Start) : HO := .tup [.ref rt, .int (s.2.1 : Nat), .int (s.2.2.1 : Nat), .int (s.2.2.2 : Nat)]
def StartsAt (H : Hp) (us : List V) (ss : List Start) : Prop := us.length = ss.length ∧ ∀ (i : Nat) s, ss[i]? = some s → ∃ t rt, us[i]? = some (.ref t) ∧ H t = some (startHO rt s) ∧ H rt = some (restHO s.1)
theorem StartsAt.to {H H' : Hp} {us : List V} {ss : List Start} (h : StartsAt H us ss) (s : ∀ t xs, H t = some (.tup xs) → H' t = some (.tup xs)) : StartsAt H' us ss := ⟨h.1, fun i e he => by
  obtain ⟨t, rt, h1, h2, h3⟩ := h.2 i e he
  exact ⟨t, rt, h1, s _ _ h2, s _ _ h3⟩⟩
theorem StartsAt.same {H H' : Hp} {us : List V} {ss : List Start} (h : StartsAt H us ss) (s : Same H H') : StartsAt H' us ss := h.to fun _ _ e => s _ _ e
theorem StartsAt.nil (H : Hp) : StartsAt H [] [] := ⟨rfl, fun i s h => by simp at h⟩
theorem StartsAt.snoc {H : Hp} {us : List V} {ss : List Start} (h : StartsAt H us ss) {t rt : Addr} {s : Start} (ht : H t = some (startHO rt s)) (hr : H rt = some (restHO s.1)) : StartsAt H (us ++ [.ref t]) (ss ++ [s]) := by
  refine ⟨by rw [List.length_append, List.length_append, h.1]; rfl, fun i f hf => ?_⟩
  by_cases c : i < ss.length
  · rw [List.getElem?_append_left c] at hf
    obtain ⟨u, ru, h1, h2, h3⟩ := h.2 i f hf
    exact ⟨u, ru, by rw [List.getElem?_append_left (by rw [h.1]; exact c)]; exact h1, h2, h3⟩
  · have hi : i = ss.length := by
      have := (List.getElem?_eq_some_iff.mp hf).1
      rw [List.length_append, List.length_singleton] at this
      omega
    subst hi
    rw [List.getElem?_append_right (Nat.le_refl _)] at hf
    simp at hf
    subst hf
    exact ⟨t, rt, by rw [List.getElem?_append_right (by rw [h.1]; exact Nat.le_refl _), h.1]; simp, ht, hr⟩
/-- what two arcs that leave g give -/
def cell (g : Nat) (e f : Nat × List Nat × Nat) : List Start := if e.1 ≠ f.1 ∧ pre f.2.1 e.2.1 = true then [((e.2.2, f.2.2, f.2.1.drop e.2.1.length), g, e.1, f.1)] else []
def startsOf (as : List Arc) (g : Nat) : List Start := (lvs g 0 as).flatMap fun e => (lvs g 0 as).flatMap (cell g e)
def startsL (as : List Arc) (ms : List Nat) : List Start := ms.flatMap (startsOf as)
theorem cell_one (g : Nat) (e f : Nat × List Nat × Nat) : (cell g e f).length ≤ 1 := by
  unfold cell
  split <;> simp
theorem flat_lenk {α β : Type} (f : α → List β) (k : Nat) (h : ∀ x, (f x).length ≤ k) : ∀ l : List α, (l.flatMap f).length ≤ k * l.length
  | [] => Nat.zero_le _
  | a :: r => by
    have h1 := flat_lenk f k h r
    have h2 := h a
    rw [List.flatMap_cons, List.length_append, List.length_cons, Nat.mul_add]
    omega
def spStarts (C : Addr) : Sp := fun vs H Q _ => ∃ (q : Addr) (sg : List Nat) (us : List V) (as : List Arc), vs = [.ref q] ∧ LoomAt C H q sg us as ∧
  ∀ (H' : Hp) (p : Addr) (os : List V) (ms : List Nat), Same H H' → H p = none → H' p = some (.lst os) → ms.Pairwise (· < ·) → (∀ x, x ∈ ms ↔ Reach as x) → StartsAt H' os (startsL as ms) → Q (.ref p) H'
section
variable {P : Program} {w : World} {K : PySem.W.Frag} {mg : Str → Option Value} {base : Heap}
theorem ok_starts (T : Tx K mg) : FnOk P w K mg base CX0 2 T.f_starts T.fd_starts P_starts (spStarts T.C_Loom) := by
  have G_arcs_by_state : FnOk P w K mg base CX0 1 T.f_arcs_by_state T.fd_arcs_by_state P_arcs_by_state (spArcsBy T.C_Loom) := ok_arcs_by_state T
  have G_met : FnOk P w K mg base CX0 1 T.f_met T.fd_met P_met (spPMet T.C_Loom) := ok_met T
  refine T.F_starts.ok sc_starts (fun vs H Q E h => ?_) (fun cdv A outer s H vs Q E hr h => ?_)
  · obtain ⟨q, sg, us, as, rfl, _⟩ := h
    rfl
  · obtain ⟨q, sg, us, as, rfl, hL, k⟩ := h
    refine ⟨_, (pss_cons (ps_set (i := 1) sc_starts.nd rfl (Or.inl rfl) (pe_call G_arcs_by_state (hr.mono (by decide)) rfl T.m_arcs_by_state T.F_arcs_by_state.kp T.b_arcs_by_state .nil pass0 (pa_cons (pv 0) pa_nil)))
        (pss_cons (ps_set (i := 2) sc_starts.nd rfl (Or.inl rfl) (pe_lst pa_nil))
        (pss_cons (ps_for PassesOwn.never rfl (pi_list (pe_call G_met (hr.mono (by decide)) rfl T.m_met T.F_met.kp T.b_met .nil pass0 (pa_cons (pv 0) pa_nil))) (pg_name (i := 3) sc_starts.nd rfl (Or.inl rfl)) (pss_cons (ps_set (i := 4) sc_starts.nd rfl (Or.inl rfl) (pe_dget2 (hu_of hr) (pv 1) (pv 3) (pe_lst pa_nil) ⟨rfl, rfl, rfl, rfl⟩))
        (pss_one (ps_for PassesOwn.never rfl (pi_list (pv 4)) (pg_tup rfl (pgs_cons (pg_name (i := 5) sc_starts.nd rfl (Or.inl rfl)) (pgs_cons (pg_name (i := 6) sc_starts.nd rfl (Or.inl rfl)) (pgs_cons (pg_name (i := 7) sc_starts.nd rfl (Or.inl rfl)) pgs_nil)))) (pss_one (ps_for PassesOwn.never rfl (pi_list (pv 4)) (pg_tup rfl (pgs_cons (pg_name (i := 8) sc_starts.nd rfl (Or.inl rfl)) (pgs_cons (pg_name (i := 9) sc_starts.nd rfl (Or.inl rfl)) (pgs_cons (pg_name (i := 10) sc_starts.nd rfl (Or.inl rfl)) pgs_nil)))) (pss_one (ps_if (PW.pt (pw_and (pt_cmpR op_ne (pv 5) (pv 8) (nomark _)) (pw_and1 (pt_val (pe_bm PySem.F.plainAttrs_str PySem.F.slot_str_startswith PySem.F.type_str_startswith mt_startswith (pv 9) (pa_cons (pv 6) pa_nil)))))) (pss_one (ps_expr (pe_bm PySem.F.plainAttrs_list PySem.F.slot_list_append PySem.F.type_list_append mt_append (pv 2) (pa_cons (pe_tup (pa_cons (pe_tup (pa_cons (pv 7) (pa_cons (pv 10) (pa_cons (pe_slice sl_str (pv 9) (po_some (pe_callB call_len_str rfl T.n_len (by decide +kernel) (pa_cons (pv 6) pa_nil))) po_none) pa_nil)))) (pa_cons (pv 3) (pa_cons (pv 5) (pa_cons (pv 8) pa_nil))))) pa_nil)))) pss_nil))))))))
        (pss_one (ps_ret (pv 2)))))), ?_⟩
    obtain ⟨_, _, _, _, _, hok, _⟩ := id hL
    have oka := hok.all
    have hal := hok.2.1
    have haw : ∀ a ∈ as, a.2.1.length ≤ 12 := fun a ha => (oka.2 a ha).2.2.1
    refine ⟨_, rfl, q, sg, us, as, rfl, hL, fun H1 d s1 tab1 => ?_⟩
    refine ⟨le_size (by simp), fun F hF => ?_⟩
    have s2 : Same H1 (upd H1 F (.lst [])) := Same.new _ hF
    have g2 : upd H1 F (.lst []) F = some (.lst []) := upd_same
    have hF0 : H F = none := s1.free hF
    obtain ⟨kvs, at_, h0, hd1, hkl, hnone, hsome, hinj⟩ := tab1
    have nFd : F ≠ d := hp_ne hd1 hF
    have farF : ∀ g, lvs g 0 as ≠ [] → at_ g ≠ F := fun g hg z => by
      obtain ⟨_, _, us2, e3, _⟩ := hsome g hg
      rw [z, hF] at e3
      cases e3
    generalize upd H1 F (.lst []) = H2 at *
    have s02 := s1.trans s2
    refine ⟨_, rfl, q, sg, us, as, rfl, hL.same s02, fun H3 mp ms s3 hm0 hm hms hreach => ?_⟩
    have s03 := s02.trans s3
    have hml : ms.length ≤ 64 := nodup_le 64 ms (hms.imp fun h => Nat.ne_of_lt h) fun x hx => by have := ((hreach x).mp hx).le oka; omega
    have nmF : mp ≠ F := fun z => by rw [z, g2] at hm0; cases hm0
    refine ⟨mp, rfl, ⟨_, SqL.of hm⟩, for_list (K := K) (a := mp) (xs := nats ms) (fun i σ H' => ∃ v3 v4 v5 v6 v7 v8 v9 v10 : Option V, σ = [some (.ref q), some (.ref d), some (.ref F), v3, v4, v5, v6, v7, v8, v9, v10] ∧
      (∃ os, H' F = some (.lst os) ∧ StartsAt H' os ((ms.take i).flatMap (startsOf as))) ∧ Same H H' ∧ Ex F H3 H') ?_ ?_ ?_ ?_⟩
    · exact ⟨none, none, none, none, none, none, none, none, rfl, ⟨[], s3 _ _ g2, StartsAt.nil _⟩, s03, Ex.refl _ _⟩
    · rintro i σ H' _ ⟨_, _, _, _, _, _, _, _, _, _, _, x⟩
      exact SqL.of (x _ _ nmF hm)
    · rintro i y σ H4 hy ⟨v3, v4, v5, v6, v7, v8, v9, v10, rfl, ⟨os, hos, hst⟩, s4, x4⟩
      rw [List.getElem?_map] at hy
      obtain ⟨g, hg, rfl⟩ := Option.map_eq_some_iff.mp hy
      rw [flat_take _ hg]
      have hd4 := x4 _ _ nFd.symm (s3 _ _ (s2 _ _ hd1))
      refine ⟨_, rfl, d, rfl, .inl ⟨kvs, .inl hd4⟩, _, rfl, le_size (by simp), fun l' hl' => ?_⟩
      have s5 : Same H4 (upd H4 l' (.lst [])) := Same.new _ hl'
      have g5 : upd H4 l' (.lst []) l' = some (.lst []) := upd_same
      have nl'F := hp_ne hos hl'
      generalize upd H4 l' (.lst []) = H5 at *
      have hsrc : ∃ (ll : Addr) (us : List V), (valV kvs (.inl (g : Int))).getD (.ref l') = .ref ll ∧ ll ≠ F ∧ H5 ll = some (.lst us) ∧ Lv H5 us (lvs g 0 as) := by
        by_cases z : lvs g 0 as = []
        · rw [hnone _ z, z]
          exact ⟨l', [], rfl, nl'F, g5, rfl, fun i e h => by simp at h⟩
        · obtain ⟨e1, e2, us, e3, e4⟩ := hsome _ z
          rw [e1]
          have e5 := s3 _ _ (s2 _ _ e3)
          refine ⟨at_ g, us, rfl, farF g z, s5 _ _ (x4 _ _ (farF g z) e5), (((e4.same s2).same s3).to fun t xs h => x4 _ _ (fun z => ?_) h).same s5⟩
          rw [z, s3 _ _ g2] at h
          cases h
      obtain ⟨ll, lus, ell, nll, hll, hlv⟩ := hsrc
      refine ⟨_, .inl ⟨kvs, .inl (g : Int), .inl (s5 _ _ hd4), rfl, rfl⟩, ?_⟩
      rw [ell]
      have hlen : (lvs g 0 as).length ≤ 200 := Nat.le_trans (lvs_len _ _ _) hal
      have hwl : ∀ e ∈ lvs g 0 as, e.2.1.length ≤ 12 := lvs_all _ haw _
      have s45 := s4.trans s5
      have x45 := x4.trans (Same.ex s5)
      have hF5 := s5 _ _ hos
      have hst5 := hst.same s5
      have bound1 : ∀ (gg : Nat) (e : Nat × List Nat × Nat) (n : Nat), (((lvs gg 0 as).take n).flatMap (cell gg e)).length ≤ 200 := fun gg e n => by
        have h1 := flat_len1 (cell gg e) (cell_one gg e) ((lvs gg 0 as).take n)
        have h2 := lvs_len gg as 0
        rw [List.length_take] at h1
        omega
      have bound2 : ∀ (gg n : Nat), (((lvs gg 0 as).take n).flatMap fun e => (lvs gg 0 as).flatMap (cell gg e)).length ≤ 200 * 200 := fun gg n => by
        have h1 := flat_lenk (fun e => (lvs gg 0 as).flatMap (cell gg e)) 200 (fun e => by
          have := bound1 gg e (lvs gg 0 as).length
          rwa [List.take_length] at this) ((lvs gg 0 as).take n)
        have h2 := lvs_len gg as 0
        rw [List.length_take] at h1
        have h3 : min n (lvs gg 0 as).length ≤ 200 := by omega
        exact Nat.le_trans h1 (Nat.mul_le_mul_left _ h3)
      have bound3 : ((ms.take i).flatMap (startsOf as)).length ≤ 40000 * 64 := by
        have h1 := flat_lenk (startsOf as) 40000 (fun gg => by
          have := bound2 gg (lvs gg 0 as).length
          rw [List.take_length] at this
          exact this) (ms.take i)
        rw [List.length_take] at h1
        have h3 : min i ms.length ≤ 64 := by omega
        exact Nat.le_trans h1 (Nat.mul_le_mul_left _ h3)
      refine ⟨_, rfl, ll, rfl, ⟨_, SqL.of hll⟩, for_list (K := K) (a := ll) (xs := lus) (fun j σ H' => ∃ v5 v6 v7 v8 v9 v10 : Option V, σ = [some (.ref q), some (.ref d), some (.ref F), some (.int (g : Nat)), some (.ref ll), v5, v6, v7, v8, v9, v10] ∧
        (∃ os, H' F = some (.lst os) ∧ StartsAt H' os ((ms.take i).flatMap (startsOf as) ++ ((lvs g 0 as).take j).flatMap fun e => (lvs g 0 as).flatMap (cell g e))) ∧ Same H H' ∧ Ex F H5 H') ?_ ?_ ?_ ?_⟩
      · exact ⟨_, _, _, _, _, _, rfl, ⟨os, hF5, by rw [List.take_zero, List.flatMap_nil, List.append_nil]; exact hst5⟩, s45, Ex.refl _ _⟩
      · rintro j σ H' _ ⟨_, _, _, _, _, _, _, _, _, x⟩
        exact SqL.of (x _ _ nll hll)
      · rintro j y σ H6 hy ⟨v5, v6, v7, v8, v9, v10, rfl, ⟨os6, hos6, hst6⟩, s6, x6⟩
        have hjl : j < (lvs g 0 as).length := by rw [← hlv.1]; exact (List.getElem?_eq_some_iff.mp hy).1
        obtain ⟨e, he⟩ : ∃ e, (lvs g 0 as)[j]? = some e := ⟨_, List.getElem?_eq_getElem hjl⟩
        obtain ⟨t, hut, htt⟩ := hlv.2 j e he
        rw [hut] at hy
        cases hy
        have htF : ∀ {t : Addr} {xs : List V}, H5 t = some (.tup xs) → t ≠ F := fun h z => by rw [z, hF5] at h; cases h
        have e12 := hwl e (List.mem_of_getElem? he)
        rw [flat_take _ he]
        refine ⟨t, _, rfl, SqT.of (x6 _ _ (htF htt) htt), rfl, _, _, rfl, _, _, rfl, _, _, rfl, rfl, ?_⟩
        refine ⟨_, rfl, ll, rfl, ⟨_, SqL.of (x6 _ _ nll hll)⟩, for_list (K := K) (a := ll) (xs := lus) (fun n σ H' => ∃ v8 v9 v10 : Option V, σ = [some (.ref q), some (.ref d), some (.ref F), some (.int (g : Nat)), some (.ref ll), some (.int (e.1 : Nat)), some (.str (SX.S e.2.1)), some (.int (e.2.2 : Nat)), v8, v9, v10] ∧
          (∃ os, H' F = some (.lst os) ∧ StartsAt H' os ((ms.take i).flatMap (startsOf as) ++ (((lvs g 0 as).take j).flatMap fun e => (lvs g 0 as).flatMap (cell g e)) ++ ((lvs g 0 as).take n).flatMap (cell g e))) ∧ Same H H' ∧ Ex F H5 H') ?_ ?_ ?_ ?_⟩
        · exact ⟨_, _, _, rfl, ⟨os6, hos6, by rw [List.take_zero, List.flatMap_nil, List.append_nil]; exact hst6⟩, s6, x6⟩
        · rintro n σ H' _ ⟨_, _, _, _, _, _, x⟩
          exact SqL.of (x _ _ nll hll)
        · rintro n y σ H7 hy ⟨v8, v9, v10, rfl, ⟨os7, hos7, hst7⟩, s7, x7⟩
          have hnl : n < (lvs g 0 as).length := by rw [← hlv.1]; exact (List.getElem?_eq_some_iff.mp hy).1
          obtain ⟨f, hf⟩ : ∃ f, (lvs g 0 as)[n]? = some f := ⟨_, List.getElem?_eq_getElem hnl⟩
          obtain ⟨t', hut', htt'⟩ := hlv.2 n f hf
          rw [hut'] at hy
          cases hy
          have f12 := hwl f (List.mem_of_getElem? hf)
          have hosl : os7.length ≤ 3000000 := by
            have h1 := bound1 g e n
            have h2 := bound2 g j
            rw [hst7.1, List.length_append, List.length_append]
            omega
          rw [flat_take _ hf, ← List.append_assoc]
          have skip : cell g e f = [] → ∃ w8 w9 w10 : Option V, [some (V.ref q), some (.ref d), some (.ref F), some (.int (g : Nat)), some (.ref ll), some (.int (e.1 : Nat)), some (.str (SX.S e.2.1)), some (.int (e.2.2 : Nat)), some (.int (f.1 : Nat)), some (.str (SX.S f.2.1)), some (.int (f.2.2 : Nat))] = [some (V.ref q), some (.ref d), some (.ref F), some (.int (g : Nat)), some (.ref ll), some (.int (e.1 : Nat)), some (.str (SX.S e.2.1)), some (.int (e.2.2 : Nat)), w8, w9, w10] ∧
              (∃ os, H7 F = some (.lst os) ∧ StartsAt H7 os ((ms.take i).flatMap (startsOf as) ++ (((lvs g 0 as).take j).flatMap fun e => (lvs g 0 as).flatMap (cell g e)) ++ ((lvs g 0 as).take n).flatMap (cell g e) ++ cell g e f)) ∧ Same H H7 ∧ Ex F H5 H7 := fun z => by
            rw [z, List.append_nil]
            exact ⟨_, _, _, rfl, ⟨os7, hos7, hst7⟩, s7, x7⟩
          refine ⟨t', _, rfl, SqT.of (x7 _ _ (htF htt') htt'), rfl, _, _, rfl, _, _, rfl, _, _, rfl, rfl, ?_⟩
          refine ⟨_, rfl, _, rfl, rfl, _, rfl, ?_⟩
          refine ite2 (fun c => ?_) (fun c => skip ?_)
          · have cne : e.1 ≠ f.1 := fun z => by rw [z] at c; simp at c
            refine ⟨_, rfl, rfl, _, rfl, _, _, rfl, rfl, _, rfl, ?_⟩
            rw [starts0_S]
            refine ite2 (fun c2 => ?_) (fun c2 => skip ?_)
            · refine ⟨_, rfl, .inl ⟨rfl, _, SqL.of hos7⟩, _, rfl, _, rfl, _, rfl, _, rfl, _, rfl, le_size (by rw [SX.S_len]; omega), _, rfl, _, rfl, le_size (by rw [SX.S_len]; omega), ?_⟩
              rw [SX.S_len, cutS_from]
              refine ⟨le_size (by simp), fun rt hrt => ?_⟩
              refine ⟨_, rfl, _, rfl, _, rfl, le_size (by simp), fun t2 ht2 => ?_⟩
              have ec : cell g e f = [((e.2.2, f.2.2, f.2.1.drop e.2.1.length), g, e.1, f.1)] := by unfold cell; rw [if_pos ⟨cne, c2⟩]
              rw [ec]
              have a1 : Same H7 (upd H7 rt (restHO (e.2.2, f.2.2, f.2.1.drop e.2.1.length))) := Same.new _ hrt
              have b1 : upd H7 rt (restHO (e.2.2, f.2.2, f.2.1.drop e.2.1.length)) rt = some (restHO (e.2.2, f.2.2, f.2.1.drop e.2.1.length)) := upd_same
              change upd H7 rt (restHO (e.2.2, f.2.2, f.2.1.drop e.2.1.length)) t2 = none at ht2
              have a2 : Same (upd H7 rt (restHO (e.2.2, f.2.2, f.2.1.drop e.2.1.length))) (upd (upd H7 rt (restHO (e.2.2, f.2.2, f.2.1.drop e.2.1.length))) t2 (startHO rt ((e.2.2, f.2.2, f.2.1.drop e.2.1.length), g, e.1, f.1))) := Same.new _ ht2
              have b2 : upd (upd H7 rt (restHO (e.2.2, f.2.2, f.2.1.drop e.2.1.length))) t2 (startHO rt ((e.2.2, f.2.2, f.2.1.drop e.2.1.length), g, e.1, f.1)) t2 = some (startHO rt ((e.2.2, f.2.2, f.2.1.drop e.2.1.length), g, e.1, f.1)) := upd_same
              have fin : ∀ H9 : Hp, Same H7 H9 → H9 rt = some (restHO (e.2.2, f.2.2, f.2.1.drop e.2.1.length)) → H9 t2 = some (startHO rt ((e.2.2, f.2.2, f.2.1.drop e.2.1.length), g, e.1, f.1)) →
                  H9 F = some (.lst os7) ∧ (∃ os, upd H9 F (.lst (os7 ++ [.ref t2])) F = some (.lst os) ∧ StartsAt (upd H9 F (.lst (os7 ++ [.ref t2]))) os ((ms.take i).flatMap (startsOf as) ++ (((lvs g 0 as).take j).flatMap fun e => (lvs g 0 as).flatMap (cell g e)) ++ ((lvs g 0 as).take n).flatMap (cell g e) ++ [((e.2.2, f.2.2, f.2.1.drop e.2.1.length), g, e.1, f.1)])) ∧ Same H (upd H9 F (.lst (os7 ++ [.ref t2]))) ∧ Ex F H5 (upd H9 F (.lst (os7 ++ [.ref t2]))) := fun H9 a3 d1 d2 => by
                have hos9 := a3 _ _ hos7
                have tk : ∀ t xs, H9 t = some (.tup xs) → upd H9 F (.lst (os7 ++ [.ref t2])) t = some (.tup xs) := fun t xs h => by
                  rw [upd_ne (fun z => by rw [z, hos9] at h; cases h)]
                  exact h
                exact ⟨hos9, ⟨_, upd_same, ((hst7.same a3).to tk).snoc (tk _ _ d2) (tk _ _ d1)⟩, (s7.trans a3).updNew hF0, (x7.trans (Same.ex a3)).trans (Ex.upd _)⟩
              obtain ⟨f1, f2, f3, f4⟩ := fin _ (a1.trans a2) (a2 _ _ b1) b2
              exact ⟨F, os7, _, rfl, rfl, f1, Nat.lt_of_le_of_lt hosl (by decide), _, _, _, rfl, f2, f3, f4⟩
            · unfold cell
              rw [if_neg (fun z => c2 z.2)]
          · have ce : e.1 = f.1 := by
              by_cases z : e.1 = f.1
              · exact z
              · exact absurd (by
                  have n : ¬ ((e.1 : Int) = (f.1 : Int)) := fun y => z (by omega)
                  simp [n]) c
            unfold cell
            rw [if_neg (fun z => z.1 ce)]
        · rintro σ H7 ⟨v8, v9, v10, rfl, ⟨os7, hos7, hst7⟩, s7, x7⟩
          have el : (lvs g 0 as).take lus.length = lvs g 0 as := by rw [hlv.1, List.take_length]
          rw [el, List.append_assoc] at hst7
          exact ⟨_, _, _, _, _, _, rfl, ⟨os7, hos7, hst7⟩, s7, x7⟩
      · rintro σ H6 ⟨v5, v6, v7, v8, v9, v10, rfl, ⟨os6, hos6, hst6⟩, s6, x6⟩
        have el : (lvs g 0 as).take lus.length = lvs g 0 as := by rw [hlv.1, List.take_length]
        rw [el] at hst6
        exact ⟨_, _, _, _, _, _, _, _, rfl, ⟨os6, hos6, hst6⟩, s6, x45.trans x6⟩
    · rintro σ H' ⟨v3, v4, v5, v6, v7, v8, v9, v10, rfl, ⟨os, hos, hst⟩, sm, _⟩
      rw [List.length_map, List.take_length] at hst
      exact ⟨_, rfl, k H' F os ms sm hF0 hos hms hreach hst⟩
end
end J


set_option Elab.async false
set_option linter.all false
set_option maxRecDepth 100000
set_option maxHeartbeats 4000000
namespace J
open PySem L2
/-- a rest as a key -/
def rk (r : Rest) : List Key := [.inl (r.1 : Int), .inl (r.2.1 : Int), .inr (SX.S r.2.2)]
theorem rk_HO (r : Rest) : restHO r = .tup ((rk r).map kV) := rfl
theorem strS_inj {u v : List Nat} (h : SX.S u = SX.S v) : u = v := by
  unfold SX.S at h
  injection h with h
  simpa using h
theorem rk_inj {r r' : Rest} (h : rk r = rk r') : r = r' := by
  obtain ⟨a, b, c⟩ := r
  obtain ⟨a', b', c'⟩ := r'
  unfold rk at h
  injection h with h1 h
  injection h with h2 h
  injection h with h3 _
  injection h1 with h1
  injection h2 with h2
  injection h3 with h3
  have h1 : (a : Int) = a' := h1
  have h2 : (b : Int) = b' := h2
  have h3 : SX.S c = SX.S c' := h3
  have e1 : a = a' := by omega
  have e2 : b = b' := by omega
  rw [e1, e2, strS_inj h3]
/-- the rests that come up -/
inductive Rch (as : List Arc) (ms : List Nat) : Rest → Prop
  | start {s : Start} : s ∈ startsL as ms → Rch as ms s.1
  | step {r : Rest} {s : Step} : Rch as ms r → s ∈ stepsL as r → Rch as ms s.1
theorem nodup_sub {α : Type} [DecidableEq α] : ∀ (l m : List α), l.Nodup → (∀ x ∈ l, x ∈ m) → l.length ≤ m.length
  | [], m, _, _ => Nat.zero_le _
  | a :: r, m, hn, hs => by
    rw [List.nodup_cons] at hn
    have ha : a ∈ m := hs a (by simp)
    have ih := nodup_sub r (m.erase a) hn.2 fun x hx => (List.mem_erase_of_ne (fun z => hn.1 (by rw [← z]; exact hx))).mpr (hs x (List.mem_cons_of_mem _ hx))
    rw [List.length_erase_of_mem ha] at ih
    have : 0 < m.length := List.length_pos_of_mem ha
    rw [List.length_cons]
    omega
/-- all rests that may come up -/
def univ (as : List Arc) : List Rest := (List.range 64).flatMap fun b => (List.range 64).flatMap fun a => as.flatMap fun c => (List.range 13).map fun k => (b, a, c.2.1.drop k)
theorem univ_len (as : List Arc) (h : as.length ≤ 200) : (univ as).length ≤ 10649600 := by
  have h1 : ∀ (b a : Nat), (as.flatMap fun c => (List.range 13).map fun k => ((b, a, c.2.1.drop k) : Rest)).length ≤ 2600 := fun b a => by
    have q := flat_lenk (fun c : Arc => (List.range 13).map fun k => ((b, a, c.2.1.drop k) : Rest)) 13 (fun c => by simp) as
    omega
  have h2 : ∀ b : Nat, ((List.range 64).flatMap fun a => as.flatMap fun c => (List.range 13).map fun k => ((b, a, c.2.1.drop k) : Rest)).length ≤ 166400 := fun b => by
    have q := flat_lenk (fun a => as.flatMap fun c => (List.range 13).map fun k => ((b, a, c.2.1.drop k) : Rest)) 2600 (h1 b) (List.range 64)
    rw [List.length_range] at q
    exact q
  have q := flat_lenk (fun b => (List.range 64).flatMap fun a => as.flatMap fun c => (List.range 13).map fun k => ((b, a, c.2.1.drop k) : Rest)) 166400 h2 (List.range 64)
  rw [List.length_range] at q
  exact q
theorem univ_mem {as : List Arc} {b a k : Nat} {c : Arc} (hb : b ≤ 63) (ha : a ≤ 63) (hc : c ∈ as) (hk : k ≤ 12) : (b, a, c.2.1.drop k) ∈ univ as := by
  unfold univ
  refine List.mem_flatMap.mpr ⟨b, List.mem_range.mpr (by omega), List.mem_flatMap.mpr ⟨a, List.mem_range.mpr (by omega), List.mem_flatMap.mpr ⟨c, hc, List.mem_map.mpr ⟨k, List.mem_range.mpr (by omega), rfl⟩⟩⟩⟩
/-- an entry of the table is an arc -/
theorem lvs_arc {g : Nat} : ∀ {as : List Arc} {n : Nat} {e : Nat × List Nat × Nat}, e ∈ lvs g n as → ∃ c ∈ as, c.2.1 = e.2.1 ∧ c.2.2 = e.2.2
  | [], _, _, h => by cases h
  | a :: r, n, e, h => by
    have h' : e ∈ (if a.1 = g then (n, a.2.1, a.2.2) :: lvs g (n + 1) r else lvs g (n + 1) r) := h
    by_cases c : a.1 = g
    · rw [if_pos c] at h'
      rcases List.mem_cons.mp h' with z | z
      · exact ⟨a, by simp, by rw [z], by rw [z]⟩
      · obtain ⟨b, hb, q⟩ := lvs_arc z
        exact ⟨b, List.mem_cons_of_mem _ hb, q⟩
    · rw [if_neg c] at h'
      obtain ⟨b, hb, q⟩ := lvs_arc h'
      exact ⟨b, List.mem_cons_of_mem _ hb, q⟩
/-- a rest of the universe, told by its parts -/
def InU (as : List Arc) (r : Rest) : Prop := r.1 ≤ 63 ∧ r.2.1 ≤ 63 ∧ ∃ c ∈ as, ∃ k, k ≤ 12 ∧ r.2.2 = c.2.1.drop k
theorem InU.mem {as : List Arc} {r : Rest} (h : InU as r) : r ∈ univ as := by
  obtain ⟨h1, h2, c, hc, k, hk, e⟩ := h
  obtain ⟨b, a, l⟩ := r
  rw [show l = c.2.1.drop k from e]
  exact univ_mem h1 h2 hc hk
theorem rch_in {as : List Arc} {ms : List Nat} (h : OkAll as) {r : Rest} (q : Rch as ms r) : InU as r := by
  induction q with
  | @start s hs =>
    obtain ⟨g, _, hg⟩ := List.mem_flatMap.mp hs
    obtain ⟨e, he, h1⟩ := List.mem_flatMap.mp hg
    obtain ⟨f, hf, h2⟩ := List.mem_flatMap.mp h1
    unfold cell at h2
    split at h2
    · rw [List.mem_singleton] at h2
      obtain ⟨c1, hc1, _, g1⟩ := lvs_arc he
      obtain ⟨c2, hc2, w2, g2⟩ := lvs_arc hf
      obtain ⟨c3, hc3, w3, _⟩ := lvs_arc he
      subst h2
      refine ⟨by rw [← g1]; exact (h.2 _ hc1).2.2.2, by rw [← g2]; exact (h.2 _ hc2).2.2.2, c2, hc2, e.2.1.length, by rw [← w3]; exact (h.2 _ hc3).2.2.1, by rw [w2]⟩
    · cases h2
  | @step r s _ hs ih =>
    obtain ⟨e, he, h1⟩ := List.mem_flatMap.mp hs
    obtain ⟨c, hc, w1, g1⟩ := lvs_arc he
    obtain ⟨i1, i2, b, hb, k, hk, ek⟩ := ih
    have hbl := (h.2 _ hb).2.2.1
    have hwl := (h.2 _ hc).2.2.1
    unfold stepOf at h1
    split at h1
    · rw [List.mem_singleton] at h1
      subst h1
      refine ⟨by rw [← g1]; exact (h.2 _ hc).2.2.2, i2, b, hb, min 12 (k + e.2.1.length), Nat.min_le_left _ _, ?_⟩
      show r.2.2.drop e.2.1.length = b.2.1.drop _
      rw [ek, List.drop_drop]
      by_cases z : k + e.2.1.length ≤ 12
      · rw [Nat.min_eq_right z]
      · rw [Nat.min_eq_left (by omega), List.drop_eq_nil_of_le (by omega), List.drop_eq_nil_of_le (by omega)]
    · split at h1
      · rw [List.mem_singleton] at h1
        subst h1
        refine ⟨i2, by rw [← g1]; exact (h.2 _ hc).2.2.2, c, hc, min 12 r.2.2.length, Nat.min_le_left _ _, ?_⟩
        show e.2.1.drop r.2.2.length = c.2.1.drop _
        rw [w1]
        rw [w1] at hwl
        by_cases z : r.2.2.length ≤ 12
        · rw [Nat.min_eq_right z]
        · rw [Nat.min_eq_left (by omega), List.drop_eq_nil_of_le (by omega), List.drop_eq_nil_of_le (by omega)]
      · cases h1
end J


set_option Elab.async false
set_option linter.all false
set_option maxRecDepth 100000
set_option maxHeartbeats 4000000
namespace J
open PySem L2
theorem putK_new {κ : Type} [DecidableEq κ] {kvs : List (κ × V)} {k : κ} {y : V} (h : valV kvs k = none) : putK kvs k y = kvs ++ [(k, y)] := by
  have e := valV_any k kvs
  rw [h] at e
  unfold putK
  rw [e]
  rfl
/-- all but three objects stay -/
def Ex3 (a b c : Addr) (H H' : Hp) : Prop := ∀ x o, x ≠ a → x ≠ b → x ≠ c → H x = some o → H' x = some o
theorem Ex3.refl (a b c : Addr) (H : Hp) : Ex3 a b c H H := fun _ _ _ _ _ h => h
theorem Ex3.same {a b c : Addr} {H H' : Hp} (s : Same H H') : Ex3 a b c H H' := fun x o _ _ _ h => s x o h
theorem Ex3.trans {a b c : Addr} {H H1 H2 : Hp} (x : Ex3 a b c H H1) (y : Ex3 a b c H1 H2) : Ex3 a b c H H2 := fun z o n1 n2 n3 h => y z o n1 n2 n3 (x z o n1 n2 n3 h)
/-- the keys of O in their order are the rests rs -/
structure KeysAt (H : Hp) (O : Addr) (rs : List Rest) : Prop where
  kv : ∃ ko : List (List Key × V), H O = some (.dT ko) ∧ ko.map (·.1) = rs.map rk
theorem keys_none {ko : List (List Key × V)} {rs : List Rest} (h : ko.map (·.1) = rs.map rk) {r : Rest} (e : valV ko (rk r) = none) : r ∉ rs := fun z => valV_not e (by rw [h]; exact List.mem_map.mpr ⟨r, z, rfl⟩)
theorem keys_some {ko : List (List Key × V)} {rs : List Rest} (h : ko.map (·.1) = rs.map rk) {r : Rest} {v : V} (e : valV ko (rk r) = some v) : r ∈ rs := by
  have q := valV_in e
  rw [h] at q
  obtain ⟨r', h1, h2⟩ := List.mem_map.mp q
  rw [← rk_inj h2]
  exact h1
theorem keys_len {ko : List (List Key × V)} {rs : List Rest} (h : ko.map (·.1) = rs.map rk) : ko.length = rs.length := by
  have := congrArg List.length h
  simpa using this
theorem keys_bs : ∀ {ko : List (List Key × V)} {rs : List Rest} {bs : List Addr} {H H' : Hp}, ko.map (·.1) = rs.map rk → IsKeys H ko bs → Same H H' → ∀ (i : Nat) r, rs[i]? = some r → ∃ b, bs[i]? = some b ∧ H' b = some (restHO r)
  | _, [], _, _, _, _, _, _, i, r, h => by simp at h
  | [], r0 :: rs, _, _, _, e, _, _, _, _, _ => by simp at e
  | p :: ko, r0 :: rs, _, H, H', e, .cons hb hk, s, i, r, h => by
    rw [List.map_cons, List.map_cons] at e
    injection e with e1 e2
    cases i with
    | zero =>
      simp at h
      subst h
      refine ⟨_, rfl, s _ _ ?_⟩
      rw [rk_HO, ← e1]
      exact hb
    | succ i => exact keys_bs e2 hk s i r (by simpa using h)
def Cov (as : List Arc) (ms : List Nat) (rs : List Rest) : Prop := rs.Nodup ∧ ∀ r ∈ rs, Rch as ms r
theorem Cov.len {as : List Arc} {ms : List Nat} {rs : List Rest} (h : Cov as ms rs) (oka : OkAll as) (hl : as.length ≤ 200) : rs.length ≤ 10649600 :=
  Nat.le_trans (nodup_sub rs (univ as) h.1 fun r hr => (rch_in oka (h.2 r hr)).mem) (univ_len as hl)
theorem Cov.add {as : List Arc} {ms : List Nat} {rs : List Rest} (h : Cov as ms rs) {r : Rest} (hr : Rch as ms r) (hn : r ∉ rs) : Cov as ms (rs ++ [r]) := by
  refine ⟨?_, fun x hx => ?_⟩
  · rw [List.nodup_append]
    exact ⟨h.1, by simp, fun a ha b hb => by rw [List.mem_singleton.mp hb]; exact fun z => hn (z ▸ ha)⟩
  · rcases List.mem_append.mp hx with z | z
    · exact h.2 x z
    · rw [List.mem_singleton.mp z]; exact hr
/-- what explored gives: the dict at W holds all rests that come up, and they alone -/
def WaysAt (H : Hp) (W : Addr) (as : List Arc) (ms : List Nat) : Prop := ∃ (kw : List (List Key × V)) (rs : List Rest), H W = some (.dT kw) ∧ kw.map (·.1) = rs.map rk ∧ Cov as ms rs ∧ ∀ r, Rch as ms r → r ∈ rs
/-- what stands while explored goes: n rests have their steps, the steps of c of them are met -/
structure Wst (as : List Arc) (ms : List Nat) (Hx H : Hp) (O L W : Addr) (rs : List Rest) (n c : Nat) : Prop where
  le : n ≤ rs.length
  o : ∃ ko : List (List Key × V), H O = some (.dT ko) ∧ ko.map (·.1) = rs.map rk
  l : ∃ bs : List Addr, H L = some (.lst (bs.map V.ref)) ∧ bs.length = rs.length ∧ ∀ (i : Nat) r, rs[i]? = some r → ∃ b, bs[i]? = some b ∧ H b = some (restHO r)
  w : ∃ kw : List (List Key × V), H W = some (.dT kw) ∧ kw.map (·.1) = (rs.take n).map rk
  cov : Cov as ms rs
  st : ∀ s ∈ startsL as ms, s.1 ∈ rs
  cl : ∀ (j : Nat) r, j < c → rs[j]? = some r → ∀ s ∈ stepsL as r, s.1 ∈ rs
  sm : Same Hx H
def spExplored (C : Addr) : Sp := fun vs H Q _ => ∃ (q : Addr) (sg : List Nat) (us : List V) (as : List Arc), vs = [.ref q] ∧ LoomAt C H q sg us as ∧
  ∀ (H' : Hp) (t W O : Addr) (ms : List Nat), Same H H' → H' t = some (.tup [.ref W, .ref O]) → (∀ x, x ∈ ms ↔ Reach as x) → ms.Pairwise (· < ·) → WaysAt H' W as ms → Q (.ref t) H'
section
variable {P : Program} {w : World} {K : PySem.W.Frag} {mg : Str → Option Value} {base : Heap}
theorem ok_explored (T : Tx K mg) : FnOk P w K mg base CX0 3 T.f_explored T.fd_explored P_explored (spExplored T.C_Loom) := by
  have G_arcs_by_state : FnOk P w K mg base CX0 1 T.f_arcs_by_state T.fd_arcs_by_state P_arcs_by_state (spArcsBy T.C_Loom) := ok_arcs_by_state T
  have G_starts : FnOk P w K mg base CX0 2 T.f_starts T.fd_starts P_starts (spStarts T.C_Loom) := ok_starts T
  have G_steps : FnOk P w K mg base CX0 1 T.f_steps T.fd_steps P_steps (spSteps K) := ok_steps T
  refine T.F_explored.ok sc_explored (fun vs H Q E h => ?_) (fun cdv A outer s H vs Q E hr h => ?_)
  · obtain ⟨q, sg, us, as, rfl, _⟩ := h
    rfl
  · obtain ⟨q, sg, us, as, rfl, hL, k⟩ := h
    refine ⟨_, (pss_cons (ps_set (i := 1) sc_explored.nd rfl (Or.inl rfl) (pe_call G_arcs_by_state (hr.mono (by decide)) rfl T.m_arcs_by_state T.F_arcs_by_state.kp T.b_arcs_by_state .nil pass0 (pa_cons (pv 0) pa_nil)))
        (pss_cons (ps_set (i := 2) sc_explored.nd rfl (Or.inl rfl) pe_dnewT)
        (pss_cons (ps_for PassesOwn.never rfl (pi_list (pe_call G_starts (hr.mono (by decide)) rfl T.m_starts T.F_starts.kp T.b_starts .nil pass0 (pa_cons (pv 0) pa_nil))) (pg_name (i := 3) sc_explored.nd rfl (Or.inl rfl)) (pss_one (ps_expr (pe_dsetdT (hu_of hr) (pv 2) (pe_ix (ix_tupK (K := K) rfl) (pv 3) pe_int (fun _ _ => rfl)) (pe_tup (pa_cons pe_non (pa_cons (pv 3) pa_nil))) ⟨rfl, rfl, rfl, rfl⟩))))
        (pss_cons (ps_set (i := 4) sc_explored.nd rfl (Or.inl rfl) (pe_callTy (call_list_dT rfl) rfl T.n_list (by decide +kernel) (pa_cons (pv 2) pa_nil)))
        (pss_cons (ps_set (i := 5) sc_explored.nd rfl (Or.inl rfl) pe_dnewT)
        (pss_cons (ps_while PassesOwn.never (pt_cmpR op_lt (pe_callB call_len_dT rfl T.n_len (by decide +kernel) (pa_cons (pv 5) pa_nil)) (pe_callB (call_len_seqK (K := K) rfl) rfl T.n_len (by decide +kernel) (pa_cons (pv 4) pa_nil)) (nomark _)) (pss_cons (ps_set (i := 6) sc_explored.nd rfl (Or.inl rfl) (pe_ix (ix_listK (K := K) rfl) (pv 4) (pe_callB call_len_dT rfl T.n_len (by decide +kernel) (pa_cons (pv 5) pa_nil)) (fun _ _ => rfl)))
        (pss_cons (ps_dput (hu_of hr) (pv 5) (pv 6) (pe_call G_steps (hr.mono (by decide)) rfl T.m_steps T.F_steps.kp T.b_steps .nil pass0 (pa_cons (pv 1) (pa_cons (pv 6) pa_nil))) rfl)
        (pss_one (ps_for PassesOwn.never rfl (pi_list (pe_dget (hu_of hr) (pv 5) (pv 6) (fun _ _ => rfl))) (pg_name (i := 7) sc_explored.nd rfl (Or.inl rfl)) (pss_one (ps_if (pt_cmp (pc_dnotin (hu_of hr) (pe_ix (ix_tupK (K := K) rfl) (pv 7) pe_int (fun _ _ => rfl)) (pv 2))) (pss_cons (ps_dput (hu_of hr) (pv 2) (pe_ix (ix_tupK (K := K) rfl) (pv 7) pe_int (fun _ _ => rfl)) (pe_tup (pa_cons (pv 6) (pa_cons (pv 7) pa_nil))) rfl)
        (pss_one (ps_expr (pe_bm PySem.F.plainAttrs_list PySem.F.slot_list_append PySem.F.type_list_append mt_append (pv 4) (pa_cons (pe_ix (ix_tupK (K := K) rfl) (pv 7) pe_int (fun _ _ => rfl)) pa_nil))))) pss_nil)))))))
        (pss_one (ps_ret (pe_tup (pa_cons (pv 5) (pa_cons (pv 2) pa_nil))))))))))), ?_⟩
    obtain ⟨_, _, _, _, _, hok, _⟩ := id hL
    have oka := hok.all
    have hal := hok.2.1
    have haw : ∀ a ∈ as, a.2.1.length ≤ 12 := fun a ha => (oka.2 a ha).2.2.1
    refine ⟨_, rfl, q, sg, us, as, rfl, hL, fun Hx d sx tab => ?_⟩
    intro O hO
    have s1 : Same Hx (upd Hx O (.dT [])) := Same.new _ hO
    have g1 : upd Hx O (.dT []) O = some (.dT []) := upd_same
    generalize upd Hx O (.dT []) = H1 at *
    refine ⟨_, rfl, q, sg, us, as, rfl, (hL.same sx).same s1, fun H2 sp os ms s2 hsp0 hsp hms hreach hst => ?_⟩
    have g2 := s2 _ _ g1
    have s12 := s1.trans s2
    have nspO : sp ≠ O := fun z => by rw [z, g1] at hsp0; cases hsp0
    refine ⟨sp, rfl, ⟨_, SqL.of hsp⟩, for_list (K := K) (a := sp) (xs := os) (fun i σ H' => ∃ (v3 : Option V) (rs : List Rest), σ = [some (.ref q), some (.ref d), some (.ref O), v3, none, none, none, none] ∧ (∃ ko : List (List Key × V), H' O = some (.dT ko) ∧ ko.map (·.1) = rs.map rk) ∧
      Cov as ms rs ∧ (∀ (j : Nat) s, j < i → (startsL as ms)[j]? = some s → s.1 ∈ rs) ∧ Same Hx H' ∧ Ex O H2 H') ?_ ?_ ?_ ?_⟩
    · exact ⟨none, [], rfl, ⟨[], g2, rfl⟩, ⟨by simp, fun r h => (nomatch h)⟩, fun j s h => absurd h (Nat.not_lt_zero _), s12, Ex.refl _ _⟩
    · rintro i σ H' _ ⟨_, _, _, _, _, _, _, x⟩
      exact SqL.of (x _ _ nspO hsp)
    · rintro i y σ H3 hy ⟨v3, rs, rfl, ⟨ko, hko, hkeys⟩, cov, hcov, s3, x3⟩
      have hil : i < (startsL as ms).length := by rw [← hst.1]; exact (List.getElem?_eq_some_iff.mp hy).1
      obtain ⟨st, hs⟩ : ∃ st, (startsL as ms)[i]? = some st := ⟨_, List.getElem?_eq_getElem hil⟩
      obtain ⟨t, rt, hut, ht, hrt⟩ := hst.2 i st hs
      rw [hut] at hy
      cases hy
      have tO : ∀ {t : Addr} {xs : List V}, H2 t = some (.tup xs) → t ≠ O := fun h z => by rw [z, g2] at h; cases h
      have ht3 := x3 _ _ (tO ht) ht
      have hrt3 := x3 _ _ (tO hrt) hrt
      have hlen := cov.len oka hal
      have hkl := keys_len hkeys
      refine ⟨_, rfl, O, rfl, .inr ⟨ko, .inl hko⟩, _, rfl, t, _, _, _, rfl, rfl, SqT.of ht3, rfl, ?_⟩
      refine ⟨_, rfl, le_size (by simp), fun t3 ht3' => ?_⟩
      have s4 : Same H3 (upd H3 t3 (.tup [.non, .ref t])) := Same.new _ ht3'
      have hko4 := s4 _ _ hko
      have hrt4 := s4 _ _ hrt3
      have x4 := x3.trans (Same.ex s4)
      have s34 := s3.trans s4
      generalize upd H3 t3 (.tup [.non, .ref t]) = H4 at *
      have cover : ∀ rs' : List Rest, (∀ r ∈ rs, r ∈ rs') → st.1 ∈ rs' → ∀ (j : Nat) s, j < i + 1 → (startsL as ms)[j]? = some s → s.1 ∈ rs' := fun rs' h1 h2 j s hj hjs => by
        by_cases c : j < i
        · exact h1 _ (hcov j s c hjs)
        · have : j = i := by omega
          subst this
          rw [hs] at hjs
          cases hjs
          exact h2
      refine ⟨ko, rk st.1, rt, hko4, rfl, by rw [← rk_HO]; exact hrt4, Nat.lt_of_le_of_lt (m := 10649600) (by omega) (by decide), fun v hv => ?_, fun hn => ?_⟩
      · exact ⟨_, rs, rfl, ⟨ko, hko4, hkeys⟩, cov, cover rs (fun _ h => h) (keys_some hkeys hv), s34, x4⟩
      · have hnr := keys_none hkeys hn
        have hR : Rch as ms st.1 := .start (List.mem_of_getElem? hs)
        refine ⟨_, rs ++ [st.1], rfl, ⟨_, upd_same, ?_⟩, cov.add hR hnr, cover _ (fun r h => List.mem_append_left _ h) (List.mem_append_right _ (by simp)), s34.updNew hO, x4.trans (Ex.upd _)⟩
        rw [putK_new hn, List.map_append, List.map_append, hkeys]
        rfl
    · rintro σ H3 ⟨v3, rs0, rfl, ⟨ko0, hko0, hkeys0⟩, cov0, hcov0, s3, x3⟩
      have hcovA : ∀ s ∈ startsL as ms, s.1 ∈ rs0 := fun s hs => by
        obtain ⟨j, hj, e⟩ := List.mem_iff_getElem.mp hs
        exact hcov0 j s (by rw [hst.1]; exact hj) (by rw [List.getElem?_eq_getElem hj, e])
      clear hcov0 hst hsp hsp0 nspO x3 s12 s2 s1 g1 g2
      refine ⟨_, rfl, O, ko0, rfl, .inl hko0, fun L bs hL0 hkb => ?_⟩
      have s4 : Same H3 (upd H3 L (.lst (bs.map V.ref))) := Same.new _ hL0
      have gL : upd H3 L (.lst (bs.map V.ref)) L = some (.lst (bs.map V.ref)) := upd_same
      have nLO : L ≠ O := hp_ne hko0 hL0
      have hLx : Hx L = none := s3.free hL0
      have hko4 := s4 _ _ hko0
      have s34 := s3.trans s4
      have hkb4 : ∀ (i : Nat) r, rs0[i]? = some r → ∃ b, bs[i]? = some b ∧ upd H3 L (.lst (bs.map V.ref)) b = some (restHO r) := keys_bs hkeys0 hkb s4
      have hbl : bs.length = rs0.length := by rw [← keys_len hkeys0]; exact (Paired.length hkb).symm
      generalize upd H3 L (.lst (bs.map V.ref)) = H4 at *
      intro W hW0
      have s5 : Same H4 (upd H4 W (.dT [])) := Same.new _ hW0
      have gW : upd H4 W (.dT []) W = some (.dT []) := upd_same
      have nWO : W ≠ O := hp_ne hko4 hW0
      have nWL : W ≠ L := hp_ne gL hW0
      have hWx : Hx W = none := s34.free hW0
      have s35 := s34.trans s5
      have hko5 := s5 _ _ hko4
      have gL5 := s5 _ _ gL
      have hkb5 : ∀ (i : Nat) r, rs0[i]? = some r → ∃ b, bs[i]? = some b ∧ upd H4 W (.dT []) b = some (restHO r) := fun i r h => by
        obtain ⟨b, h1, h2⟩ := hkb4 i r h
        exact ⟨b, h1, s5 _ _ h2⟩
      generalize upd H4 W (.dT []) = H5 at *
      have w0 : Wst as ms Hx H5 O L W rs0 0 0 := ⟨Nat.zero_le _, ⟨ko0, hko5, hkeys0⟩, ⟨bs, gL5, hbl, hkb5⟩, ⟨[], gW, rfl⟩, cov0, hcovA, fun j r h => absurd h (Nat.not_lt_zero _), s35⟩
      clear hkb hkb4 hkb5 hbl gL gL5 gW hko4 hko5 hko0 hkeys0 cov0 hcovA s34 s35 s4 s5 s3 hL0 hW0
      refine ⟨fun m σ H' => ∃ (n : Nat) (rs : List Rest) (v3 v6 v7 : Option V), m = 10649601 - n ∧ σ = [some (.ref q), some (.ref d), some (.ref O), v3, some (.ref L), some (.ref W), v6, v7] ∧ Wst as ms Hx H' O L W rs n n, ⟨_, 0, rs0, _, _, _, rfl, rfl, w0⟩, ?_⟩
      rintro m σ H6 ⟨n, rs, w3, v6, v7, rfl, rfl, ⟨hn, ⟨ko, hko, hkeys⟩, ⟨bs', hLl, hbl', hbs⟩, ⟨kw, hkw, hkwk⟩, cov, hcA, hcl, s6⟩⟩
      have hrl := cov.len oka hal
      have hkwl : kw.length = n := by
        have := congrArg List.length hkwk
        rw [List.length_map, List.length_map, List.length_take] at this
        omega
      refine ⟨_, rfl, W, kw, rfl, hkw, _, rfl, L, _, rfl, .inl (SqL.of hLl), _, _, rfl, rfl, _, rfl, ?_⟩
      rw [hkwl, List.length_map, hbl']
      refine ite2 (fun c => ?_) (fun c => ?_)
      · have hnl : n < rs.length := by have := of_decide_eq_true c; omega
        refine ⟨fun σ' H' => ∃ (rs : List Rest) (v3 v6 v7 : Option V), σ' = [some (.ref q), some (.ref d), some (.ref O), v3, some (.ref L), some (.ref W), v6, v7] ∧ Wst as ms Hx H' O L W rs (n + 1) (n + 1), ?_, ?_⟩
        · rintro σ' H' ⟨rs', u3, u6, u7, rfl, hw'⟩
          exact ⟨10649601 - (n + 1), by omega, n + 1, rs', u3, u6, u7, rfl, rfl, hw'⟩
        obtain ⟨r, hr⟩ : ∃ r, rs[n]? = some r := ⟨_, List.getElem?_eq_getElem hnl⟩
        obtain ⟨b, hb1, hb⟩ := hbs n r hr
        have hU := rch_in oka (cov.2 r (List.mem_of_getElem? hr))
        have hr12 : r.2.2.length ≤ 1000 := by
          obtain ⟨_, _, c, hc, kk, _, e⟩ := hU
          rw [e, List.length_drop]
          have := (oka.2 c hc).2.2.1
          omega
        refine ⟨_, rfl, _, rfl, W, kw, rfl, hkw, L, _, _, _, rfl, rfl, SqL.of hLl, by rw [hkwl]; exact atI_nat (by rw [List.getElem?_map, hb1]; rfl), ?_⟩
        refine ⟨_, rfl, _, rfl, d, b, H, as, r, rfl, tab.same s6, hal, haw, hr12, hb, fun H7 sl sus s7 hsl0 hsl hss => ?_⟩
        have hkw7 := s7 _ _ hkw
        have hb7 := s7 _ _ hb
        have hko7 := s7 _ _ hko
        have hL7 := s7 _ _ hLl
        have nslO : sl ≠ O := fun z => by rw [z, hko] at hsl0; cases hsl0
        have nslL : sl ≠ L := fun z => by rw [z, hLl] at hsl0; cases hsl0
        have nslW : sl ≠ W := fun z => by rw [z, hkw] at hsl0; cases hsl0
        have hnew : valV kw (rk r) = none := by
          cases z : valV kw (rk r) with
          | none => rfl
          | some v =>
            have q := keys_some hkwk z
            obtain ⟨j, hj, ej⟩ := List.mem_iff_getElem.mp q
            rw [List.length_take] at hj
            rw [List.getElem_take] at ej
            have e2 : rs[n] = r := by
              have := List.getElem?_eq_getElem hnl
              rw [hr] at this
              exact (Option.some.inj this).symm
            have := (List.getElem_inj cov.1).mp (ej.trans e2.symm)
            omega
        refine ⟨_, rfl, _, rfl, W, _, rfl, DPut.t hkw7 (by rw [← rk_HO]; exact hb7) (Nat.lt_of_le_of_lt (m := 10649600) (by omega) (by decide)), ?_⟩
        have k8 : ∀ x o, x ≠ W → H7 x = some o → upd H7 W (.dT (putK kw (rk r) (.ref sl))) x = some o := fun x o nx h => by rw [upd_ne nx]; exact h
        have g8 : upd H7 W (.dT (putK kw (rk r) (.ref sl))) W = some (.dT (putK kw (rk r) (.ref sl))) := upd_same
        have s8 : Same Hx (upd H7 W (.dT (putK kw (rk r) (.ref sl)))) := (s6.trans s7).updNew hWx
        generalize upd H7 W (.dT (putK kw (rk r) (.ref sl))) = H8 at *
        have tW : ∀ {t : Addr} {xs : List V}, H7 t = some (.tup xs) → t ≠ W := fun h z => by rw [z, hkw7] at h; cases h
        have hss8 : StepsAt H8 sus (stepsL as r) := hss.to fun t xs h => k8 _ _ (tW h) h
        have hsl8 := k8 _ _ nslW hsl
        have hb8 : H8 b = some (restHO r) := k8 _ _ (tW hb7) hb7
        have hko8 := k8 _ _ nWO.symm hko7
        have hL8 := k8 _ _ nWL.symm hL7
        have hbs8 : ∀ (i : Nat) r, rs[i]? = some r → ∃ b, bs'[i]? = some b ∧ H8 b = some (restHO r) := fun i r h => by
          obtain ⟨b, h1, h2⟩ := hbs i r h
          have h3 := s7 _ _ h2
          exact ⟨b, h1, k8 _ _ (tW h3) h3⟩
        have hkw8 : (putK kw (rk r) (.ref sl)).map (·.1) = (rs.take (n + 1)).map rk := by
          rw [putK_new hnew, List.map_append, hkwk, ← take_snoc hr, List.map_append]
          rfl
        refine ⟨_, rfl, _, rfl, W, .ref sl, rfl, .inr ⟨_, rk r, b, .inl g8, rfl, by rw [← rk_HO]; exact hb8, by rw [valV_put, if_pos rfl]⟩, sl, rfl, ⟨_, SqL.of hsl8⟩, for_list (K := K) (a := sl) (xs := sus) (fun i σ H' => ∃ (rs' ex : List Rest) (v7 : Option V), σ = [some (.ref q), some (.ref d), some (.ref O), w3, some (.ref L), some (.ref W), some (.ref b), v7] ∧
          rs' = rs ++ ex ∧ Wst as ms Hx H' O L W rs' (n + 1) n ∧ (∀ (j : Nat) s, j < i → (stepsL as r)[j]? = some s → s.1 ∈ rs') ∧ Ex3 O L W H8 H') ?_ ?_ ?_ ?_⟩
        · exact ⟨rs, [], _, rfl, by rw [List.append_nil], ⟨hnl, ⟨ko, hko8, hkeys⟩, ⟨bs', hL8, hbl', hbs8⟩, ⟨_, g8, hkw8⟩, cov, hcA, hcl, s8⟩, fun j s h => absurd h (Nat.not_lt_zero _), Ex3.refl _ _ _ _⟩
        · rintro i σ H' _ ⟨_, _, _, _, _, _, _, x⟩
          exact SqL.of (x _ _ nslO nslL nslW hsl8)
        · rintro i y σ H9 hy ⟨rs', ex, u7, rfl, hrs', w9, part, x9⟩
          have hil : i < (stepsL as r).length := by rw [← hss.1]; exact (List.getElem?_eq_some_iff.mp hy).1
          obtain ⟨st, hs⟩ : ∃ st, (stepsL as r)[i]? = some st := ⟨_, List.getElem?_eq_getElem hil⟩
          obtain ⟨t, rt, hut, ht, hrt⟩ := hss8.2 i st hs
          rw [hut] at hy
          cases hy
          have keep9 : ∀ {t : Addr} {xs : List V}, H8 t = some (.tup xs) → H9 t = some (.tup xs) := fun h => x9 _ _ (fun z => by rw [z, hko8] at h; cases h) (fun z => by rw [z, hL8] at h; cases h) (fun z => by rw [z, g8] at h; cases h) h
          have ht9 := keep9 ht
          have hrt9 : H9 rt = some (restHO st.1) := keep9 hrt
          have hb9 : H9 b = some (restHO r) := keep9 hb8
          obtain ⟨hn9, ⟨ko9, hko9, hkeys9⟩, ⟨bs9, hL9, hbl9, hbs9⟩, ⟨kw9, hkw9, hkwk9⟩, cov9, st9, cl9, sm9⟩ := w9
          have hrl9 := cov9.len oka hal
          have hkl9 := keys_len hkeys9
          have cover : ∀ rs'' : List Rest, (∀ r ∈ rs', r ∈ rs'') → st.1 ∈ rs'' → ∀ (j : Nat) s, j < i + 1 → (stepsL as r)[j]? = some s → s.1 ∈ rs'' := fun rs'' h1 h2 j s hj hjs => by
            by_cases cj : j < i
            · exact h1 _ (part j s cj hjs)
            · have : j = i := by omega
              subst this
              rw [hs] at hjs
              cases hjs
              exact h2
          refine ⟨_, rfl, t, _, _, _, rfl, rfl, SqT.of ht9, rfl, _, rfl, O, _, rfl, .inr ⟨ko9, rk st.1, rt, .inl hko9, rfl, by rw [← rk_HO]; exact hrt9, rfl⟩, ?_⟩
          cases hval : valV ko9 (rk st.1) with
          | some v =>
            refine ⟨_, rfl, iteF ?_⟩
            exact ⟨rs', ex, _, rfl, hrs', ⟨hn9, ⟨ko9, hko9, hkeys9⟩, ⟨bs9, hL9, hbl9, hbs9⟩, ⟨kw9, hkw9, hkwk9⟩, cov9, st9, cl9, sm9⟩, cover rs' (fun _ h => h) (keys_some hkeys9 hval), x9⟩
          | none =>
            have hnr := keys_none hkeys9 hval
            have hR : Rch as ms st.1 := .step (cov.2 r (List.mem_of_getElem? hr)) (List.mem_of_getElem? hs)
            refine ⟨_, rfl, iteT ?_⟩
            refine ⟨_, rfl, _, rfl, le_size (by simp), fun t3 ht3 => ?_⟩
            have s10 : Same H9 (upd H9 t3 (.tup [.ref b, .ref t])) := Same.new _ ht3
            have hko10 := s10 _ _ hko9
            have hL10 := s10 _ _ hL9
            have hkw10 := s10 _ _ hkw9
            have ht10 := s10 _ _ ht9
            have hrt10 := s10 _ _ hrt9
            have hbs10' : ∀ (i : Nat) r, rs'[i]? = some r → ∃ b', bs9[i]? = some b' ∧ upd H9 t3 (.tup [.ref b, .ref t]) b' = some (restHO r) := fun i r h => by
              obtain ⟨b', h1, h2⟩ := hbs9 i r h
              exact ⟨b', h1, s10 _ _ h2⟩
            have sm10 := sm9.trans s10
            have x10 := x9.trans (Ex3.same s10)
            generalize upd H9 t3 (.tup [.ref b, .ref t]) = H10 at *
            refine ⟨_, rfl, _, rfl, t, _, _, _, rfl, rfl, SqT.of ht10, rfl, O, _, rfl, DPut.t hko10 (by rw [← rk_HO]; exact hrt10) (Nat.lt_of_le_of_lt (m := 10649600) (by omega) (by decide)), ?_⟩
            have k11 : ∀ x o, x ≠ O → H10 x = some o → upd H10 O (.dT (putK ko9 (rk st.1) (.ref t3))) x = some o := fun x o nx h => by rw [upd_ne nx]; exact h
            have g11 : upd H10 O (.dT (putK ko9 (rk st.1) (.ref t3))) O = some (.dT (putK ko9 (rk st.1) (.ref t3))) := upd_same
            have sm11 : Same Hx (upd H10 O (.dT (putK ko9 (rk st.1) (.ref t3)))) := sm10.updNew hO
            have x11 : Ex3 O L W H8 (upd H10 O (.dT (putK ko9 (rk st.1) (.ref t3)))) := fun z o n1 n2 n3 h => k11 _ _ n1 (x10 z o n1 n2 n3 h)
            have tO : ∀ {t : Addr} {xs : List V}, H10 t = some (.tup xs) → t ≠ O := fun h z => by rw [z, hko10] at h; cases h
            generalize upd H10 O (.dT (putK ko9 (rk st.1) (.ref t3))) = H11 at *
            have hL11 := k11 _ _ nLO hL10
            have ht11 := k11 _ _ (tO ht10) ht10
            have hrt11 : H11 rt = some (restHO st.1) := k11 _ _ (tO hrt10) hrt10
            have hkw11 := k11 _ _ nWO hkw10
            refine ⟨_, rfl, .inl ⟨rfl, _, SqL.of hL11⟩, _, rfl, t, _, _, _, rfl, rfl, SqT.of ht11, rfl, L, _, _, rfl, rfl, hL11, Nat.lt_of_le_of_lt (m := 10649600) (by rw [List.length_map]; omega) (by decide), ?_⟩
            have k12 : ∀ x o, x ≠ L → H11 x = some o → upd H11 L (.lst (bs9.map V.ref ++ [.ref rt])) x = some o := fun x o nx h => by rw [upd_ne nx]; exact h
            have tL : ∀ {t : Addr} {xs : List V}, H11 t = some (.tup xs) → t ≠ L := fun h z => by rw [z, hL11] at h; cases h
            refine ⟨rs' ++ [st.1], ex ++ [st.1], _, rfl, by rw [hrs', List.append_assoc], ⟨by rw [List.length_append]; omega, ⟨_, k12 _ _ nLO.symm g11, ?_⟩, ⟨bs9 ++ [rt], by rw [upd_same, List.map_append]; rfl, by rw [List.length_append, List.length_append, hbl9]; rfl, fun i' r' h => ?_⟩, ⟨kw9, k12 _ _ nWL hkw11, ?_⟩, cov9.add hR hnr, fun s hs => List.mem_append_left _ (st9 s hs), fun j r' hj hjr s hs' => ?_, sm11.updNew hLx⟩, cover _ (fun r h => List.mem_append_left _ h) (List.mem_append_right _ (by simp)), fun z o n1 n2 n3 h => k12 _ _ n2 (x11 z o n1 n2 n3 h)⟩
            · rw [putK_new hval, List.map_append, List.map_append, hkeys9]
              rfl
            · by_cases ci : i' < rs'.length
              · rw [List.getElem?_append_left ci] at h
                obtain ⟨b', h1, h2⟩ := hbs10' i' r' h
                have h3 := k11 _ _ (tO h2) h2
                exact ⟨b', by rw [List.getElem?_append_left (by rw [hbl9]; exact ci)]; exact h1, k12 _ _ (tL h3) h3⟩
              · have hi' : i' = rs'.length := by
                  have := (List.getElem?_eq_some_iff.mp h).1
                  rw [List.length_append, List.length_singleton] at this
                  omega
                subst hi'
                rw [List.getElem?_append_right (Nat.le_refl _)] at h
                simp at h
                subst h
                exact ⟨rt, by rw [List.getElem?_append_right (by rw [hbl9]; exact Nat.le_refl _), hbl9]; simp, k12 _ _ (tL hrt11) hrt11⟩
            · rw [hkwk9, List.take_append_of_le_length hn9]
            · have hjl : j < rs'.length := by omega
              rw [List.getElem?_append_left hjl] at hjr
              exact List.mem_append_left _ (cl9 j r' hj hjr s hs')
        · rintro σ H9 ⟨rs', ex, u7, rfl, hrs', w9, part, x9⟩
          refine ⟨rs', _, _, _, rfl, w9.le, w9.o, w9.l, w9.w, w9.cov, w9.st, fun j r' hj hjr s hs => ?_, w9.sm⟩
          by_cases cj : j < n
          · exact w9.cl j r' cj hjr s hs
          · have : j = n := by omega
            subst this
            rw [hrs', List.getElem?_append_left hnl, hr] at hjr
            cases hjr
            obtain ⟨i, hi, e⟩ := List.mem_iff_getElem.mp hs
            exact part i s (by rw [hss.1]; exact hi) (by rw [List.getElem?_eq_getElem hi, e])
      · have hnl : n = rs.length := by
          have : ¬ ((n : Int) < (rs.length : Nat)) := fun z => c (decide_eq_true z)
          omega
        refine ⟨_, rfl, _, rfl, le_size (by simp), fun t ht => ?_⟩
        have s7 : Same H6 (upd H6 t (.tup [.ref W, .ref O])) := Same.new _ ht
        refine k _ t W O ms (sx.trans (s6.trans s7)) upd_same hreach hms ⟨kw, rs, s7 _ _ hkw, ?_, cov, fun r hr => ?_⟩
        · rw [hkwk, hnl, List.take_length]
        · induction hr with
          | @start s hs => exact hcA s hs
          | @step r s _ hs ih =>
            obtain ⟨j, hj, e⟩ := List.mem_iff_getElem.mp ih
            exact hcl j r (by omega) (by rw [List.getElem?_eq_getElem hj, e]) s hs
end
end J


set_option Elab.async false
set_option linter.all false
set_option maxRecDepth 100000
set_option maxHeartbeats 4000000
namespace J
open PySem L2
def evenB (r : Rest) : Bool := r.1 == r.2.1 && r.2.2 == []
def spEven (K : PySem.W.Frag) : Sp := fun vs H Q _ => ∃ (rp : Addr) (r : Rest), vs = [.ref rp] ∧ H rp = some (restHO r) ∧ Q (.bl (evenB r)) H
def spOneWay (C : Addr) : Sp := fun vs H Q _ => ∃ (q : Addr) (sg : List Nat) (us : List V) (as : List Arc), vs = [.ref q] ∧ LoomAt C H q sg us as ∧
  ∀ (H' : Hp) (b : Bool) (ms : List Nat), Same H H' → (∀ x, x ∈ ms ↔ Reach as x) → ms.Pairwise (· < ·) → (b = true ↔ ∀ r, Rch as ms r → evenB r = false) → Q (.bl b) H'
section
variable {P : Program} {w : World} {K : PySem.W.Frag} {mg : Str → Option Value} {base : Heap}
theorem ok_is_even (T : Tx K mg) : FnOk P w K mg base CX0 1 T.f_is_even T.fd_is_even P_is_even (spEven K) := by
  refine T.F_is_even.ok sc_is_even (fun vs H Q E h => ?_) (fun cdv A outer s H vs Q E hr h => ?_)
  · obtain ⟨rp, r, rfl, _⟩ := h
    rfl
  · obtain ⟨rp, r, rfl, hrp, k⟩ := h
    refine ⟨_, (pss_one (ps_ret (pe_and (pe_cmpR op_eq (pe_ix (ix_tupK (K := K) rfl) (pv 0) pe_int (fun _ _ => rfl)) (pe_ix (ix_tupK (K := K) rfl) (pv 0) pe_int (fun _ _ => rfl)) (nomark _)) (pe_one (pe_cmpR op_eq (pe_ix (ix_tupK (K := K) rfl) (pv 0) pe_int (fun _ _ => rfl)) pe_str (nomark _)))))), ?_⟩
    refine ⟨_, rfl, rp, _, _, _, rfl, rfl, SqT.of hrp, rfl, _, rfl, rp, _, _, _, rfl, rfl, SqT.of hrp, rfl, rfl, _, rfl, ?_⟩
    have e0 : (V.int (r.1 : Int) = V.int (r.2.1 : Int)) ↔ r.1 = r.2.1 := by
      constructor
      · intro z
        injection z with z
        omega
      · intro z; rw [z]
    refine ite2 (fun c => ?_) (fun c => ?_)
    · have h1 := e0.mp (of_decide_eq_true c)
      refine ⟨_, rfl, rp, _, _, _, rfl, rfl, SqT.of hrp, rfl, rfl, ?_⟩
      have e1 : decide (V.str (SX.S r.2.2) = V.str (Str.ofString "")) = evenB r := by
        unfold evenB
        rw [h1]
        by_cases z : r.2.2 = []
        · rw [z, decide_eq_true (show V.str (SX.S []) = V.str (Str.ofString "") from rfl)]
          simp
        · have n : ¬ (V.str (SX.S r.2.2) = V.str (Str.ofString "")) := fun y => by
            injection y with y
            exact z (strS_inj (v := []) y)
          rw [decide_eq_false n]
          cases hq : r.2.2 with
          | nil => exact absurd hq z
          | cons a l => simp
      rw [e1]
      exact k
    · have h1 : ¬ r.1 = r.2.1 := fun z => c (decide_eq_true (e0.mpr z))
      have e1 : evenB r = false := by
        unfold evenB
        simp [h1]
      rw [e1] at k
      exact k
theorem ok_one_way (T : Tx K mg) : FnOk P w K mg base CX0 4 T.f_one_way T.fd_one_way P_one_way (spOneWay T.C_Loom) := by
  have G_explored : FnOk P w K mg base CX0 3 T.f_explored T.fd_explored P_explored (spExplored T.C_Loom) := ok_explored T
  have G_is_even : FnOk P w K mg base CX0 1 T.f_is_even T.fd_is_even P_is_even (spEven K) := ok_is_even T
  refine T.F_one_way.ok sc_one_way (fun vs H Q E h => ?_) (fun cdv A outer s H vs Q E hr h => ?_)
  · obtain ⟨q, sg, us, as, rfl, _⟩ := h
    rfl
  · obtain ⟨q, sg, us, as, rfl, hL, k⟩ := h
    refine ⟨_, (pss_cons (ps_asg (pe_call G_explored (hr.mono (by decide)) rfl T.m_explored T.F_explored.kp T.b_explored .nil pass0 (pa_cons (pv 0) pa_nil)) (pg_tup rfl (pgs_cons (pg_name (i := 1) sc_one_way.nd rfl (Or.inl rfl)) (pgs_cons (pg_name (i := 2) sc_one_way.nd rfl (Or.inl rfl)) pgs_nil))))
        (pss_one (ps_ret (pe_not (pe_callB (cr_anyK (K := K) rfl rfl) rfl T.n_any (by decide +kernel) (pa_cons (pe_lock (pe_lc (own := [("rest", 3)]) (g := (gName 3)) rfl sc_one_way.nd (pi_keys (pv 1)) (blkOk_by (N := N_one_way) (sc := defScope s_one_way) (by decide +kernel)) (fun _ _ _ _ _ => (pg_name (i := 3) sc_one_way.nd rfl (Or.inl rfl))) (fun _ _ _ _ _ => pts_nil) (fun _ _ _ _ _ => (pe_call G_is_even (hr.mono (by decide)) rfl T.m_is_even T.F_is_even.kp T.b_is_even .nil pass0 (pa_cons (pv 3) pa_nil))))) pa_nil)))))), ?_⟩
    refine ⟨_, rfl, q, sg, us, as, rfl, hL, fun H1 t W O ms s1 ht hreach hms hw => ?_⟩
    refine ⟨t, _, rfl, SqT.of ht, rfl, _, _, rfl, _, _, rfl, rfl, ?_⟩
    obtain ⟨kw, rs, hkw, hkeys, cov, hall⟩ := hw
    have hrl : rs.length ≤ 10649600 := by
      obtain ⟨_, _, _, _, _, hok, _⟩ := id hL
      exact cov.len hok.all hok.2.1
    have hkl := keys_len hkeys
    refine ⟨W, .dT kw, hkw, trivial, fun od => ?_⟩
    have gf : upd H1 W (.frz od (.dT kw)) W = some (.frz od (.dT kw)) := upd_same
    have kf : ∀ x o, x ≠ W → H1 x = some o → upd H1 W (.frz od (.dT kw)) x = some o := fun x o n h => by rw [upd_ne n]; exact h
    generalize upd H1 W (.frz od (.dT kw)) = Hf at *
    refine ⟨_, rfl, W, od, rfl, .inr ⟨kw, gf, fun D hD => lc_it walk_keysT (fun i H' => H' D = some (.lst (((rs.take i).map evenB).map V.bl)) ∧ Same Hf H') ⟨upd_same, Same.new _ hD⟩ (fun i H' _ ⟨_, sm⟩ => sm _ _ gf) ?_ ?_⟩⟩
    · rintro i x H2 H3 hi ⟨hDl, sm⟩ ⟨rfl, kk, v, qq, hkv, rfl, hqq⟩
      obtain ⟨r, hr⟩ : ∃ r, rs[i]? = some r := ⟨_, List.getElem?_eq_getElem (by rw [← hkl]; exact hi)⟩
      have ek : kk = rk r := by
        have e1 : (kw.map (·.1))[i]? = some kk := by rw [List.getElem?_map, hkv]; rfl
        rw [hkeys, List.getElem?_map, hr] at e1
        exact (Option.some.inj e1).symm
      subst ek
      refine ⟨rfl, _, rfl, qq, r, rfl, by rw [rk_HO]; exact hqq, ?_⟩
      refine ⟨_, hDl, Nat.lt_of_le_of_lt (m := 10649600) (by rw [List.length_map, List.length_map, List.length_take]; omega) (by decide), ?_, sm.updNew hD⟩
      rw [upd_same, ← take_snoc hr, List.map_append, List.map_append]
      rfl
    · rintro H2 ⟨hDl, sm⟩
      rw [hkl, List.take_length] at hDl
      have nDW : D ≠ W := hp_ne gf hD
      have s2 : Same H1 (upd H2 W (.dT kw)) := fun b o h => by
        by_cases c : b = W
        · subst c
          rw [upd_same, ← h, hkw]
        · rw [upd_ne c]
          exact sm _ _ (kf _ _ c h)
      refine ⟨sm _ _ gf, D, _, rfl, SqL.of (by rw [upd_ne nDW]; exact hDl), _, rfl, ?_⟩
      refine k _ _ ms (s1.trans s2) hreach hms ?_
      rw [List.any_map]
      constructor
      · intro h r hr
        have h' : (rs.any (id ∘ evenB)) = false := by simpa using h
        rw [List.any_eq_false] at h'
        simpa using h' r (hall r hr)
      · intro h
        have h' : (rs.any (id ∘ evenB)) = false := by
          rw [List.any_eq_false]
          intro r hr
          simp [h r (cov.2 r hr)]
        rw [h']
        rfl
end
end J


set_option Elab.async false
set_option linter.all false
set_option maxRecDepth 100000
set_option maxHeartbeats 4000000
namespace J
open PySem L2
/-- the values of the dict: the steps of the rests -/
def StepsIn (H : Hp) (kw : List (List Key × V)) (as : List Arc) : Prop := ∀ (i : Nat) k v, kw[i]? = some (k, v) → ∃ (r : Rest) (sl : Addr) (us : List V), k = rk r ∧ v = .ref sl ∧ H sl = some (.lst us) ∧ StepsAt H us (stepsL as r)
def LvW (as : List Arc) (O L W : Addr) (H : Hp) (kw : List (List Key × V)) : Prop := ∀ (i : Nat) k v, kw[i]? = some (k, v) → ∃ (r : Rest) (sl : Addr) (us : List V), k = rk r ∧ v = .ref sl ∧ H sl = some (.lst us) ∧ StepsAt H us (stepsL as r) ∧ sl ≠ O ∧ sl ≠ L ∧ sl ≠ W
theorem LvW.to {as : List Arc} {O L W : Addr} {H H' : Hp} {kw : List (List Key × V)} (h : LvW as O L W H kw) (x : Ex3 O L W H H') {ko kv : List (List Key × V)} {ls : List V} (hO : H O = some (.dT ko)) (hL : H L = some (.lst ls)) (hW : H W = some (.dT kv)) : LvW as O L W H' kw := fun i k v e => by
  obtain ⟨r, sl, us, h1, h2, h3, h4, h5, h6, h7⟩ := h i k v e
  exact ⟨r, sl, us, h1, h2, x _ _ h5 h6 h7 h3, h4.to fun t xs q => x _ _ (fun z => by rw [z, hO] at q; cases q) (fun z => by rw [z, hL] at q; cases q) (fun z => by rw [z, hW] at q; cases q) q, h5, h6, h7⟩
theorem LvW.same {as : List Arc} {O L W : Addr} {H H' : Hp} {kw : List (List Key × V)} (h : LvW as O L W H kw) (s : Same H H') : LvW as O L W H' kw := fun i k v e => by
  obtain ⟨r, sl, us, h1, h2, h3, h4, h5⟩ := h i k v e
  exact ⟨r, sl, us, h1, h2, s _ _ h3, h4.same s, h5⟩
theorem LvW.snoc {as : List Arc} {O L W : Addr} {H : Hp} {kw : List (List Key × V)} (h : LvW as O L W H kw) {r : Rest} {sl : Addr} {us : List V} (h3 : H sl = some (.lst us)) (h4 : StepsAt H us (stepsL as r)) (h5 : sl ≠ O ∧ sl ≠ L ∧ sl ≠ W) : LvW as O L W H (kw ++ [(rk r, .ref sl)]) := fun i k v e => by
  by_cases c : i < kw.length
  · rw [List.getElem?_append_left c] at e
    exact h i k v e
  · rw [List.getElem?_append_right (by omega)] at e
    have hi := (List.getElem?_eq_some_iff.mp e).1
    rw [List.length_singleton] at hi
    have hz : i - kw.length = 0 := by omega
    rw [hz] at e
    cases e
    exact ⟨r, sl, us, rfl, rfl, h3, h4, h5⟩
theorem LvW.stepsIn {as : List Arc} {O L W : Addr} {H : Hp} {kw : List (List Key × V)} (h : LvW as O L W H kw) : StepsIn H kw as := fun i k v e => by
  obtain ⟨r, sl, us, h1, h2, h3, h4, _⟩ := h i k v e
  exact ⟨r, sl, us, h1, h2, h3, h4⟩
/-- what explored gives: the dict at W holds all rests that come up, and they alone -/
def WaysX (H : Hp) (W : Addr) (as : List Arc) (ms : List Nat) : Prop := ∃ (kw : List (List Key × V)) (rs : List Rest), H W = some (.dT kw) ∧ kw.map (·.1) = rs.map rk ∧ Cov as ms rs ∧ (∀ r, Rch as ms r → r ∈ rs) ∧ StepsIn H kw as
/-- what stands while explored goes: n rests have their steps, the steps of c of them are met -/
structure Wsx (as : List Arc) (ms : List Nat) (Hx H : Hp) (O L W : Addr) (rs : List Rest) (n c : Nat) : Prop where
  le : n ≤ rs.length
  o : ∃ ko : List (List Key × V), H O = some (.dT ko) ∧ ko.map (·.1) = rs.map rk
  l : ∃ bs : List Addr, H L = some (.lst (bs.map V.ref)) ∧ bs.length = rs.length ∧ ∀ (i : Nat) r, rs[i]? = some r → ∃ b, bs[i]? = some b ∧ H b = some (restHO r)
  w : ∃ kw : List (List Key × V), H W = some (.dT kw) ∧ kw.map (·.1) = (rs.take n).map rk ∧ LvW as O L W H kw
  cov : Cov as ms rs
  st : ∀ s ∈ startsL as ms, s.1 ∈ rs
  cl : ∀ (j : Nat) r, j < c → rs[j]? = some r → ∀ s ∈ stepsL as r, s.1 ∈ rs
  sm : Same Hx H
def spExploredX (C : Addr) : Sp := fun vs H Q _ => ∃ (q : Addr) (sg : List Nat) (us : List V) (as : List Arc), vs = [.ref q] ∧ LoomAt C H q sg us as ∧
  ∀ (H' : Hp) (t W O : Addr) (ms : List Nat), Same H H' → H' t = some (.tup [.ref W, .ref O]) → (∀ x, x ∈ ms ↔ Reach as x) → ms.Pairwise (· < ·) → WaysX H' W as ms → Q (.ref t) H'
section
variable {P : Program} {w : World} {K : PySem.W.Frag} {mg : Str → Option Value} {base : Heap}
theorem ok_exploredX (T : Tx K mg) : FnOk P w K mg base CX0 3 T.f_explored T.fd_explored P_explored (spExploredX T.C_Loom) := by
  have G_arcs_by_state : FnOk P w K mg base CX0 1 T.f_arcs_by_state T.fd_arcs_by_state P_arcs_by_state (spArcsBy T.C_Loom) := ok_arcs_by_state T
  have G_starts : FnOk P w K mg base CX0 2 T.f_starts T.fd_starts P_starts (spStarts T.C_Loom) := ok_starts T
  have G_steps : FnOk P w K mg base CX0 1 T.f_steps T.fd_steps P_steps (spSteps K) := ok_steps T
  refine T.F_explored.ok sc_explored (fun vs H Q E h => ?_) (fun cdv A outer s H vs Q E hr h => ?_)
  · obtain ⟨q, sg, us, as, rfl, _⟩ := h
    rfl
  · obtain ⟨q, sg, us, as, rfl, hL, k⟩ := h
    refine ⟨_, (pss_cons (ps_set (i := 1) sc_explored.nd rfl (Or.inl rfl) (pe_call G_arcs_by_state (hr.mono (by decide)) rfl T.m_arcs_by_state T.F_arcs_by_state.kp T.b_arcs_by_state .nil pass0 (pa_cons (pv 0) pa_nil)))
        (pss_cons (ps_set (i := 2) sc_explored.nd rfl (Or.inl rfl) pe_dnewT)
        (pss_cons (ps_for PassesOwn.never rfl (pi_list (pe_call G_starts (hr.mono (by decide)) rfl T.m_starts T.F_starts.kp T.b_starts .nil pass0 (pa_cons (pv 0) pa_nil))) (pg_name (i := 3) sc_explored.nd rfl (Or.inl rfl)) (pss_one (ps_expr (pe_dsetdT (hu_of hr) (pv 2) (pe_ix (ix_tupK (K := K) rfl) (pv 3) pe_int (fun _ _ => rfl)) (pe_tup (pa_cons pe_non (pa_cons (pv 3) pa_nil))) ⟨rfl, rfl, rfl, rfl⟩))))
        (pss_cons (ps_set (i := 4) sc_explored.nd rfl (Or.inl rfl) (pe_callTy (call_list_dT rfl) rfl T.n_list (by decide +kernel) (pa_cons (pv 2) pa_nil)))
        (pss_cons (ps_set (i := 5) sc_explored.nd rfl (Or.inl rfl) pe_dnewT)
        (pss_cons (ps_while PassesOwn.never (pt_cmpR op_lt (pe_callB call_len_dT rfl T.n_len (by decide +kernel) (pa_cons (pv 5) pa_nil)) (pe_callB (call_len_seqK (K := K) rfl) rfl T.n_len (by decide +kernel) (pa_cons (pv 4) pa_nil)) (nomark _)) (pss_cons (ps_set (i := 6) sc_explored.nd rfl (Or.inl rfl) (pe_ix (ix_listK (K := K) rfl) (pv 4) (pe_callB call_len_dT rfl T.n_len (by decide +kernel) (pa_cons (pv 5) pa_nil)) (fun _ _ => rfl)))
        (pss_cons (ps_dput (hu_of hr) (pv 5) (pv 6) (pe_call G_steps (hr.mono (by decide)) rfl T.m_steps T.F_steps.kp T.b_steps .nil pass0 (pa_cons (pv 1) (pa_cons (pv 6) pa_nil))) rfl)
        (pss_one (ps_for PassesOwn.never rfl (pi_list (pe_dget (hu_of hr) (pv 5) (pv 6) (fun _ _ => rfl))) (pg_name (i := 7) sc_explored.nd rfl (Or.inl rfl)) (pss_one (ps_if (pt_cmp (pc_dnotin (hu_of hr) (pe_ix (ix_tupK (K := K) rfl) (pv 7) pe_int (fun _ _ => rfl)) (pv 2))) (pss_cons (ps_dput (hu_of hr) (pv 2) (pe_ix (ix_tupK (K := K) rfl) (pv 7) pe_int (fun _ _ => rfl)) (pe_tup (pa_cons (pv 6) (pa_cons (pv 7) pa_nil))) rfl)
        (pss_one (ps_expr (pe_bm PySem.F.plainAttrs_list PySem.F.slot_list_append PySem.F.type_list_append mt_append (pv 4) (pa_cons (pe_ix (ix_tupK (K := K) rfl) (pv 7) pe_int (fun _ _ => rfl)) pa_nil))))) pss_nil)))))))
        (pss_one (ps_ret (pe_tup (pa_cons (pv 5) (pa_cons (pv 2) pa_nil))))))))))), ?_⟩
    obtain ⟨_, _, _, _, _, hok, _⟩ := id hL
    have oka := hok.all
    have hal := hok.2.1
    have haw : ∀ a ∈ as, a.2.1.length ≤ 12 := fun a ha => (oka.2 a ha).2.2.1
    refine ⟨_, rfl, q, sg, us, as, rfl, hL, fun Hx d sx tab => ?_⟩
    intro O hO
    have s1 : Same Hx (upd Hx O (.dT [])) := Same.new _ hO
    have g1 : upd Hx O (.dT []) O = some (.dT []) := upd_same
    generalize upd Hx O (.dT []) = H1 at *
    refine ⟨_, rfl, q, sg, us, as, rfl, (hL.same sx).same s1, fun H2 sp os ms s2 hsp0 hsp hms hreach hst => ?_⟩
    have g2 := s2 _ _ g1
    have s12 := s1.trans s2
    have nspO : sp ≠ O := fun z => by rw [z, g1] at hsp0; cases hsp0
    refine ⟨sp, rfl, ⟨_, SqL.of hsp⟩, for_list (K := K) (a := sp) (xs := os) (fun i σ H' => ∃ (v3 : Option V) (rs : List Rest), σ = [some (.ref q), some (.ref d), some (.ref O), v3, none, none, none, none] ∧ (∃ ko : List (List Key × V), H' O = some (.dT ko) ∧ ko.map (·.1) = rs.map rk) ∧
      Cov as ms rs ∧ (∀ (j : Nat) s, j < i → (startsL as ms)[j]? = some s → s.1 ∈ rs) ∧ Same Hx H' ∧ Ex O H2 H') ?_ ?_ ?_ ?_⟩
    · exact ⟨none, [], rfl, ⟨[], g2, rfl⟩, ⟨by simp, fun r h => (nomatch h)⟩, fun j s h => absurd h (Nat.not_lt_zero _), s12, Ex.refl _ _⟩
    · rintro i σ H' _ ⟨_, _, _, _, _, _, _, x⟩
      exact SqL.of (x _ _ nspO hsp)
    · rintro i y σ H3 hy ⟨v3, rs, rfl, ⟨ko, hko, hkeys⟩, cov, hcov, s3, x3⟩
      have hil : i < (startsL as ms).length := by rw [← hst.1]; exact (List.getElem?_eq_some_iff.mp hy).1
      obtain ⟨st, hs⟩ : ∃ st, (startsL as ms)[i]? = some st := ⟨_, List.getElem?_eq_getElem hil⟩
      obtain ⟨t, rt, hut, ht, hrt⟩ := hst.2 i st hs
      rw [hut] at hy
      cases hy
      have tO : ∀ {t : Addr} {xs : List V}, H2 t = some (.tup xs) → t ≠ O := fun h z => by rw [z, g2] at h; cases h
      have ht3 := x3 _ _ (tO ht) ht
      have hrt3 := x3 _ _ (tO hrt) hrt
      have hlen := cov.len oka hal
      have hkl := keys_len hkeys
      refine ⟨_, rfl, O, rfl, .inr ⟨ko, .inl hko⟩, _, rfl, t, _, _, _, rfl, rfl, SqT.of ht3, rfl, ?_⟩
      refine ⟨_, rfl, le_size (by simp), fun t3 ht3' => ?_⟩
      have s4 : Same H3 (upd H3 t3 (.tup [.non, .ref t])) := Same.new _ ht3'
      have hko4 := s4 _ _ hko
      have hrt4 := s4 _ _ hrt3
      have x4 := x3.trans (Same.ex s4)
      have s34 := s3.trans s4
      generalize upd H3 t3 (.tup [.non, .ref t]) = H4 at *
      have cover : ∀ rs' : List Rest, (∀ r ∈ rs, r ∈ rs') → st.1 ∈ rs' → ∀ (j : Nat) s, j < i + 1 → (startsL as ms)[j]? = some s → s.1 ∈ rs' := fun rs' h1 h2 j s hj hjs => by
        by_cases c : j < i
        · exact h1 _ (hcov j s c hjs)
        · have : j = i := by omega
          subst this
          rw [hs] at hjs
          cases hjs
          exact h2
      refine ⟨ko, rk st.1, rt, hko4, rfl, by rw [← rk_HO]; exact hrt4, Nat.lt_of_le_of_lt (m := 10649600) (by omega) (by decide), fun v hv => ?_, fun hn => ?_⟩
      · exact ⟨_, rs, rfl, ⟨ko, hko4, hkeys⟩, cov, cover rs (fun _ h => h) (keys_some hkeys hv), s34, x4⟩
      · have hnr := keys_none hkeys hn
        have hR : Rch as ms st.1 := .start (List.mem_of_getElem? hs)
        refine ⟨_, rs ++ [st.1], rfl, ⟨_, upd_same, ?_⟩, cov.add hR hnr, cover _ (fun r h => List.mem_append_left _ h) (List.mem_append_right _ (by simp)), s34.updNew hO, x4.trans (Ex.upd _)⟩
        rw [putK_new hn, List.map_append, List.map_append, hkeys]
        rfl
    · rintro σ H3 ⟨v3, rs0, rfl, ⟨ko0, hko0, hkeys0⟩, cov0, hcov0, s3, x3⟩
      have hcovA : ∀ s ∈ startsL as ms, s.1 ∈ rs0 := fun s hs => by
        obtain ⟨j, hj, e⟩ := List.mem_iff_getElem.mp hs
        exact hcov0 j s (by rw [hst.1]; exact hj) (by rw [List.getElem?_eq_getElem hj, e])
      clear hcov0 hst hsp hsp0 nspO x3 s12 s2 s1 g1 g2
      refine ⟨_, rfl, O, ko0, rfl, .inl hko0, fun L bs hL0 hkb => ?_⟩
      have s4 : Same H3 (upd H3 L (.lst (bs.map V.ref))) := Same.new _ hL0
      have gL : upd H3 L (.lst (bs.map V.ref)) L = some (.lst (bs.map V.ref)) := upd_same
      have nLO : L ≠ O := hp_ne hko0 hL0
      have hLx : Hx L = none := s3.free hL0
      have hko4 := s4 _ _ hko0
      have s34 := s3.trans s4
      have hkb4 : ∀ (i : Nat) r, rs0[i]? = some r → ∃ b, bs[i]? = some b ∧ upd H3 L (.lst (bs.map V.ref)) b = some (restHO r) := keys_bs hkeys0 hkb s4
      have hbl : bs.length = rs0.length := by rw [← keys_len hkeys0]; exact (Paired.length hkb).symm
      generalize upd H3 L (.lst (bs.map V.ref)) = H4 at *
      intro W hW0
      have s5 : Same H4 (upd H4 W (.dT [])) := Same.new _ hW0
      have gW : upd H4 W (.dT []) W = some (.dT []) := upd_same
      have nWO : W ≠ O := hp_ne hko4 hW0
      have nWL : W ≠ L := hp_ne gL hW0
      have hWx : Hx W = none := s34.free hW0
      have s35 := s34.trans s5
      have hko5 := s5 _ _ hko4
      have gL5 := s5 _ _ gL
      have hkb5 : ∀ (i : Nat) r, rs0[i]? = some r → ∃ b, bs[i]? = some b ∧ upd H4 W (.dT []) b = some (restHO r) := fun i r h => by
        obtain ⟨b, h1, h2⟩ := hkb4 i r h
        exact ⟨b, h1, s5 _ _ h2⟩
      generalize upd H4 W (.dT []) = H5 at *
      have w0 : Wsx as ms Hx H5 O L W rs0 0 0 := ⟨Nat.zero_le _, ⟨ko0, hko5, hkeys0⟩, ⟨bs, gL5, hbl, hkb5⟩, ⟨[], gW, rfl, fun i k v e => by simp at e⟩, cov0, hcovA, fun j r h => absurd h (Nat.not_lt_zero _), s35⟩
      clear hkb hkb4 hkb5 hbl gL gL5 gW hko4 hko5 hko0 hkeys0 cov0 hcovA s34 s35 s4 s5 s3 hL0 hW0
      refine ⟨fun m σ H' => ∃ (n : Nat) (rs : List Rest) (v3 v6 v7 : Option V), m = 10649601 - n ∧ σ = [some (.ref q), some (.ref d), some (.ref O), v3, some (.ref L), some (.ref W), v6, v7] ∧ Wsx as ms Hx H' O L W rs n n, ⟨_, 0, rs0, _, _, _, rfl, rfl, w0⟩, ?_⟩
      rintro m σ H6 ⟨n, rs, w3, v6, v7, rfl, rfl, ⟨hn, ⟨ko, hko, hkeys⟩, ⟨bs', hLl, hbl', hbs⟩, ⟨kw, hkw, hkwk, hlv⟩, cov, hcA, hcl, s6⟩⟩
      have hrl := cov.len oka hal
      have hkwl : kw.length = n := by
        have := congrArg List.length hkwk
        rw [List.length_map, List.length_map, List.length_take] at this
        omega
      refine ⟨_, rfl, W, kw, rfl, hkw, _, rfl, L, _, rfl, .inl (SqL.of hLl), _, _, rfl, rfl, _, rfl, ?_⟩
      rw [hkwl, List.length_map, hbl']
      refine ite2 (fun c => ?_) (fun c => ?_)
      · have hnl : n < rs.length := by have := of_decide_eq_true c; omega
        refine ⟨fun σ' H' => ∃ (rs : List Rest) (v3 v6 v7 : Option V), σ' = [some (.ref q), some (.ref d), some (.ref O), v3, some (.ref L), some (.ref W), v6, v7] ∧ Wsx as ms Hx H' O L W rs (n + 1) (n + 1), ?_, ?_⟩
        · rintro σ' H' ⟨rs', u3, u6, u7, rfl, hw'⟩
          exact ⟨10649601 - (n + 1), by omega, n + 1, rs', u3, u6, u7, rfl, rfl, hw'⟩
        obtain ⟨r, hr⟩ : ∃ r, rs[n]? = some r := ⟨_, List.getElem?_eq_getElem hnl⟩
        obtain ⟨b, hb1, hb⟩ := hbs n r hr
        have hU := rch_in oka (cov.2 r (List.mem_of_getElem? hr))
        have hr12 : r.2.2.length ≤ 1000 := by
          obtain ⟨_, _, c, hc, kk, _, e⟩ := hU
          rw [e, List.length_drop]
          have := (oka.2 c hc).2.2.1
          omega
        refine ⟨_, rfl, _, rfl, W, kw, rfl, hkw, L, _, _, _, rfl, rfl, SqL.of hLl, by rw [hkwl]; exact atI_nat (by rw [List.getElem?_map, hb1]; rfl), ?_⟩
        refine ⟨_, rfl, _, rfl, d, b, H, as, r, rfl, tab.same s6, hal, haw, hr12, hb, fun H7 sl sus s7 hsl0 hsl hss => ?_⟩
        have hkw7 := s7 _ _ hkw
        have hb7 := s7 _ _ hb
        have hko7 := s7 _ _ hko
        have hL7 := s7 _ _ hLl
        have nslO : sl ≠ O := fun z => by rw [z, hko] at hsl0; cases hsl0
        have nslL : sl ≠ L := fun z => by rw [z, hLl] at hsl0; cases hsl0
        have nslW : sl ≠ W := fun z => by rw [z, hkw] at hsl0; cases hsl0
        have hnew : valV kw (rk r) = none := by
          cases z : valV kw (rk r) with
          | none => rfl
          | some v =>
            have q := keys_some hkwk z
            obtain ⟨j, hj, ej⟩ := List.mem_iff_getElem.mp q
            rw [List.length_take] at hj
            rw [List.getElem_take] at ej
            have e2 : rs[n] = r := by
              have := List.getElem?_eq_getElem hnl
              rw [hr] at this
              exact (Option.some.inj this).symm
            have := (List.getElem_inj cov.1).mp (ej.trans e2.symm)
            omega
        refine ⟨_, rfl, _, rfl, W, _, rfl, DPut.t hkw7 (by rw [← rk_HO]; exact hb7) (Nat.lt_of_le_of_lt (m := 10649600) (by omega) (by decide)), ?_⟩
        have k8 : ∀ x o, x ≠ W → H7 x = some o → upd H7 W (.dT (putK kw (rk r) (.ref sl))) x = some o := fun x o nx h => by rw [upd_ne nx]; exact h
        have g8 : upd H7 W (.dT (putK kw (rk r) (.ref sl))) W = some (.dT (putK kw (rk r) (.ref sl))) := upd_same
        have s8 : Same Hx (upd H7 W (.dT (putK kw (rk r) (.ref sl)))) := (s6.trans s7).updNew hWx
        generalize upd H7 W (.dT (putK kw (rk r) (.ref sl))) = H8 at *
        have tW : ∀ {t : Addr} {xs : List V}, H7 t = some (.tup xs) → t ≠ W := fun h z => by rw [z, hkw7] at h; cases h
        have hss8 : StepsAt H8 sus (stepsL as r) := hss.to fun t xs h => k8 _ _ (tW h) h
        have hsl8 := k8 _ _ nslW hsl
        have hb8 : H8 b = some (restHO r) := k8 _ _ (tW hb7) hb7
        have hko8 := k8 _ _ nWO.symm hko7
        have hL8 := k8 _ _ nWL.symm hL7
        have hbs8 : ∀ (i : Nat) r, rs[i]? = some r → ∃ b, bs'[i]? = some b ∧ H8 b = some (restHO r) := fun i r h => by
          obtain ⟨b, h1, h2⟩ := hbs i r h
          have h3 := s7 _ _ h2
          exact ⟨b, h1, k8 _ _ (tW h3) h3⟩
        have hlv8 : LvW as O L W H8 (putK kw (rk r) (.ref sl)) := by
          rw [putK_new hnew]
          exact ((hlv.same s7).to (fun x o n1 n2 n3 h => k8 _ _ n3 h) hko7 hL7 hkw7).snoc hsl8 hss8 ⟨nslO, nslL, nslW⟩
        have hkw8 : (putK kw (rk r) (.ref sl)).map (·.1) = (rs.take (n + 1)).map rk := by
          rw [putK_new hnew, List.map_append, hkwk, ← take_snoc hr, List.map_append]
          rfl
        refine ⟨_, rfl, _, rfl, W, .ref sl, rfl, .inr ⟨_, rk r, b, .inl g8, rfl, by rw [← rk_HO]; exact hb8, by rw [valV_put, if_pos rfl]⟩, sl, rfl, ⟨_, SqL.of hsl8⟩, for_list (K := K) (a := sl) (xs := sus) (fun i σ H' => ∃ (rs' ex : List Rest) (v7 : Option V), σ = [some (.ref q), some (.ref d), some (.ref O), w3, some (.ref L), some (.ref W), some (.ref b), v7] ∧
          rs' = rs ++ ex ∧ Wsx as ms Hx H' O L W rs' (n + 1) n ∧ (∀ (j : Nat) s, j < i → (stepsL as r)[j]? = some s → s.1 ∈ rs') ∧ Ex3 O L W H8 H') ?_ ?_ ?_ ?_⟩
        · exact ⟨rs, [], _, rfl, by rw [List.append_nil], ⟨hnl, ⟨ko, hko8, hkeys⟩, ⟨bs', hL8, hbl', hbs8⟩, ⟨_, g8, hkw8, hlv8⟩, cov, hcA, hcl, s8⟩, fun j s h => absurd h (Nat.not_lt_zero _), Ex3.refl _ _ _ _⟩
        · rintro i σ H' _ ⟨_, _, _, _, _, _, _, x⟩
          exact SqL.of (x _ _ nslO nslL nslW hsl8)
        · rintro i y σ H9 hy ⟨rs', ex, u7, rfl, hrs', w9, part, x9⟩
          have hil : i < (stepsL as r).length := by rw [← hss.1]; exact (List.getElem?_eq_some_iff.mp hy).1
          obtain ⟨st, hs⟩ : ∃ st, (stepsL as r)[i]? = some st := ⟨_, List.getElem?_eq_getElem hil⟩
          obtain ⟨t, rt, hut, ht, hrt⟩ := hss8.2 i st hs
          rw [hut] at hy
          cases hy
          have keep9 : ∀ {t : Addr} {xs : List V}, H8 t = some (.tup xs) → H9 t = some (.tup xs) := fun h => x9 _ _ (fun z => by rw [z, hko8] at h; cases h) (fun z => by rw [z, hL8] at h; cases h) (fun z => by rw [z, g8] at h; cases h) h
          have ht9 := keep9 ht
          have hrt9 : H9 rt = some (restHO st.1) := keep9 hrt
          have hb9 : H9 b = some (restHO r) := keep9 hb8
          obtain ⟨hn9, ⟨ko9, hko9, hkeys9⟩, ⟨bs9, hL9, hbl9, hbs9⟩, ⟨kw9, hkw9, hkwk9, hlv9⟩, cov9, st9, cl9, sm9⟩ := w9
          have hrl9 := cov9.len oka hal
          have hkl9 := keys_len hkeys9
          have cover : ∀ rs'' : List Rest, (∀ r ∈ rs', r ∈ rs'') → st.1 ∈ rs'' → ∀ (j : Nat) s, j < i + 1 → (stepsL as r)[j]? = some s → s.1 ∈ rs'' := fun rs'' h1 h2 j s hj hjs => by
            by_cases cj : j < i
            · exact h1 _ (part j s cj hjs)
            · have : j = i := by omega
              subst this
              rw [hs] at hjs
              cases hjs
              exact h2
          refine ⟨_, rfl, t, _, _, _, rfl, rfl, SqT.of ht9, rfl, _, rfl, O, _, rfl, .inr ⟨ko9, rk st.1, rt, .inl hko9, rfl, by rw [← rk_HO]; exact hrt9, rfl⟩, ?_⟩
          cases hval : valV ko9 (rk st.1) with
          | some v =>
            refine ⟨_, rfl, iteF ?_⟩
            exact ⟨rs', ex, _, rfl, hrs', ⟨hn9, ⟨ko9, hko9, hkeys9⟩, ⟨bs9, hL9, hbl9, hbs9⟩, ⟨kw9, hkw9, hkwk9, hlv9⟩, cov9, st9, cl9, sm9⟩, cover rs' (fun _ h => h) (keys_some hkeys9 hval), x9⟩
          | none =>
            have hnr := keys_none hkeys9 hval
            have hR : Rch as ms st.1 := .step (cov.2 r (List.mem_of_getElem? hr)) (List.mem_of_getElem? hs)
            refine ⟨_, rfl, iteT ?_⟩
            refine ⟨_, rfl, _, rfl, le_size (by simp), fun t3 ht3 => ?_⟩
            have s10 : Same H9 (upd H9 t3 (.tup [.ref b, .ref t])) := Same.new _ ht3
            have hko10 := s10 _ _ hko9
            have hL10 := s10 _ _ hL9
            have hkw10 := s10 _ _ hkw9
            have ht10 := s10 _ _ ht9
            have hrt10 := s10 _ _ hrt9
            have hbs10' : ∀ (i : Nat) r, rs'[i]? = some r → ∃ b', bs9[i]? = some b' ∧ upd H9 t3 (.tup [.ref b, .ref t]) b' = some (restHO r) := fun i r h => by
              obtain ⟨b', h1, h2⟩ := hbs9 i r h
              exact ⟨b', h1, s10 _ _ h2⟩
            have hlv10 := hlv9.same s10
            have sm10 := sm9.trans s10
            have x10 := x9.trans (Ex3.same s10)
            generalize upd H9 t3 (.tup [.ref b, .ref t]) = H10 at *
            refine ⟨_, rfl, _, rfl, t, _, _, _, rfl, rfl, SqT.of ht10, rfl, O, _, rfl, DPut.t hko10 (by rw [← rk_HO]; exact hrt10) (Nat.lt_of_le_of_lt (m := 10649600) (by omega) (by decide)), ?_⟩
            have k11 : ∀ x o, x ≠ O → H10 x = some o → upd H10 O (.dT (putK ko9 (rk st.1) (.ref t3))) x = some o := fun x o nx h => by rw [upd_ne nx]; exact h
            have g11 : upd H10 O (.dT (putK ko9 (rk st.1) (.ref t3))) O = some (.dT (putK ko9 (rk st.1) (.ref t3))) := upd_same
            have sm11 : Same Hx (upd H10 O (.dT (putK ko9 (rk st.1) (.ref t3)))) := sm10.updNew hO
            have x11 : Ex3 O L W H8 (upd H10 O (.dT (putK ko9 (rk st.1) (.ref t3)))) := fun z o n1 n2 n3 h => k11 _ _ n1 (x10 z o n1 n2 n3 h)
            have tO : ∀ {t : Addr} {xs : List V}, H10 t = some (.tup xs) → t ≠ O := fun h z => by rw [z, hko10] at h; cases h
            generalize upd H10 O (.dT (putK ko9 (rk st.1) (.ref t3))) = H11 at *
            have hlv11 := hlv10.to (fun x o n1 n2 n3 h => k11 _ _ n1 h) hko10 hL10 hkw10
            have hL11 := k11 _ _ nLO hL10
            have ht11 := k11 _ _ (tO ht10) ht10
            have hrt11 : H11 rt = some (restHO st.1) := k11 _ _ (tO hrt10) hrt10
            have hkw11 := k11 _ _ nWO hkw10
            refine ⟨_, rfl, .inl ⟨rfl, _, SqL.of hL11⟩, _, rfl, t, _, _, _, rfl, rfl, SqT.of ht11, rfl, L, _, _, rfl, rfl, hL11, Nat.lt_of_le_of_lt (m := 10649600) (by rw [List.length_map]; omega) (by decide), ?_⟩
            have k12 : ∀ x o, x ≠ L → H11 x = some o → upd H11 L (.lst (bs9.map V.ref ++ [.ref rt])) x = some o := fun x o nx h => by rw [upd_ne nx]; exact h
            have tL : ∀ {t : Addr} {xs : List V}, H11 t = some (.tup xs) → t ≠ L := fun h z => by rw [z, hL11] at h; cases h
            refine ⟨rs' ++ [st.1], ex ++ [st.1], _, rfl, by rw [hrs', List.append_assoc], ⟨by rw [List.length_append]; omega, ⟨_, k12 _ _ nLO.symm g11, ?_⟩, ⟨bs9 ++ [rt], by rw [upd_same, List.map_append]; rfl, by rw [List.length_append, List.length_append, hbl9]; rfl, fun i' r' h => ?_⟩, ⟨kw9, k12 _ _ nWL hkw11, ?_, hlv11.to (fun x o n1 n2 n3 h => k12 _ _ n2 h) g11 hL11 hkw11⟩, cov9.add hR hnr, fun s hs => List.mem_append_left _ (st9 s hs), fun j r' hj hjr s hs' => ?_, sm11.updNew hLx⟩, cover _ (fun r h => List.mem_append_left _ h) (List.mem_append_right _ (by simp)), fun z o n1 n2 n3 h => k12 _ _ n2 (x11 z o n1 n2 n3 h)⟩
            · rw [putK_new hval, List.map_append, List.map_append, hkeys9]
              rfl
            · by_cases ci : i' < rs'.length
              · rw [List.getElem?_append_left ci] at h
                obtain ⟨b', h1, h2⟩ := hbs10' i' r' h
                have h3 := k11 _ _ (tO h2) h2
                exact ⟨b', by rw [List.getElem?_append_left (by rw [hbl9]; exact ci)]; exact h1, k12 _ _ (tL h3) h3⟩
              · have hi' : i' = rs'.length := by
                  have := (List.getElem?_eq_some_iff.mp h).1
                  rw [List.length_append, List.length_singleton] at this
                  omega
                subst hi'
                rw [List.getElem?_append_right (Nat.le_refl _)] at h
                simp at h
                subst h
                exact ⟨rt, by rw [List.getElem?_append_right (by rw [hbl9]; exact Nat.le_refl _), hbl9]; simp, k12 _ _ (tL hrt11) hrt11⟩
            · rw [hkwk9, List.take_append_of_le_length hn9]
            · have hjl : j < rs'.length := by omega
              rw [List.getElem?_append_left hjl] at hjr
              exact List.mem_append_left _ (cl9 j r' hj hjr s hs')
        · rintro σ H9 ⟨rs', ex, u7, rfl, hrs', w9, part, x9⟩
          refine ⟨rs', _, _, _, rfl, w9.le, w9.o, w9.l, w9.w, w9.cov, w9.st, fun j r' hj hjr s hs => ?_, w9.sm⟩
          by_cases cj : j < n
          · exact w9.cl j r' cj hjr s hs
          · have : j = n := by omega
            subst this
            rw [hrs', List.getElem?_append_left hnl, hr] at hjr
            cases hjr
            obtain ⟨i, hi, e⟩ := List.mem_iff_getElem.mp hs
            exact part i s (by rw [hss.1]; exact hi) (by rw [List.getElem?_eq_getElem hi, e])
      · have hnl : n = rs.length := by
          have : ¬ ((n : Int) < (rs.length : Nat)) := fun z => c (decide_eq_true z)
          omega
        refine ⟨_, rfl, _, rfl, le_size (by simp), fun t ht => ?_⟩
        have s7 : Same H6 (upd H6 t (.tup [.ref W, .ref O])) := Same.new _ ht
        refine k _ t W O ms (sx.trans (s6.trans s7)) upd_same hreach hms ⟨kw, rs, s7 _ _ hkw, ?_, cov, fun r hr => ?_, (hlv.same s7).stepsIn⟩
        · rw [hkwk, hnl, List.take_length]
        · induction hr with
          | @start s hs => exact hcA s hs
          | @step r s _ hs ih =>
            obtain ⟨j, hj, e⟩ := List.mem_iff_getElem.mp ih
            exact hcl j r (by omega) (by rw [List.getElem?_eq_getElem hj, e]) s hs
end
end J


set_option Elab.async false
set_option linter.all false
set_option maxRecDepth 100000
set_option maxHeartbeats 4000000
/-! a dict comprehension that is put into a name at once -/
namespace L2
open PySem PySem.Spec PyProof.Rows
theorem sw_dict {kx vx : Expr} {gs : List Comprehension} {scope : Scope} {pos py : Pos} {y : Str} {l : Nat} {env : Env} (hk : env.scope.kind = .function) (hy : env.scope.names.lookup y = some .local) (hl : (py.line == pos.line) = true)
    (ha : (scope.names.any fun e => e.1 == y && (e.2 == .local || e.2 == .cell)) = false) : swapsWith (.DictComp kx vx gs scope pos) (some (.Name y py)) l env = pure true := by
  have a : env.blockKind = .function := by rw [Env.blockKind, hk]; rfl
  have b : env.kindOf y = some .local := hy
  simp only [swapsWith, a, b, ha, Expr.pos, hl]
  rfl
section
variable {X : Cx}
theorem ps_setDc {i : Nat} {y : Str} {py : Pos} {kx vx tg iter : Expr} {ifs : List Expr} {scope : Scope} {own : List (Str × Nat)} {pos spos : Pos} {wi : TI} {g : TG} {tt : TT} {tk tv : TE} (hc : X.calm = true) (hN : X.N.Nodup) (hy : X.N[i]? = some y) (hyl : X.env.scope.names.lookup y = some .local)
    (hsw : swapsWith (.DictComp kx vx [⟨tg, iter, ifs, 0⟩] scope pos) (some (.Name y py)) spos.line X.env = pure true) (hi : PI X tg iter wi) (ok : BlkOk X.N X.env.scope scope own)
    (hg : ∀ (s : Shared) (H : Hp) (C : Addr) (cl : List (Str × Addr)) (fp : List Addr), PG (X.blk s H scope (compEnvC scope cl C X.env) fp) tg g) (ht : ∀ (s : Shared) (H : Hp) (C : Addr) (cl : List (Str × Addr)) (fp : List Addr), PTs (X.blk s H scope (compEnvC scope cl C X.env) fp) ifs tt)
    (hk : ∀ (s : Shared) (H : Hp) (C : Addr) (cl : List (Str × Addr)) (fp : List Addr), PE (X.blk s H scope (compEnvC scope cl C X.env) fp) kx tk)
    (he : ∀ (s : Shared) (H : Hp) (C : Addr) (cl : List (Str × Addr)) (fp : List Addr), PE (X.blk s H scope (compEnvC scope cl C X.env) fp) vx tv) (hs : ∀ x, foldedSetIterable iter X.env x = pure x := by intro _; rfl) :
    PS X (.Assign [.Name y py] (.DictComp kx vx [⟨tg, iter, ifs, 0⟩] scope pos) spos) (tAsg (tDc wi g tt tk tv (own.map (·.2))) (gName i)) := by
  constructor
  intro pins s σ H Z I h
  replace h : tDc wi g tt tk tv (own.map (·.2)) σ H (fun x H1 => gName i x σ H1 Z.nx) := h
  rw [exec_Assign_Name_used _ _ _ _ hsw]
  refine wpAny_bind (wpAny_standAt (wpAny_bind ?_))
  show wpAny _ X.A (do let _ ← comprehension (.DictComp kx vx [⟨tg, iter, ifs, 0⟩] scope pos) scope X.env (firstIterPos [⟨tg, iter, ifs, 0⟩] pos) newDict false (eval iter X.env) (some (assign (.Name y py) X.env))) _ _ s
  have core := dc_core (use := some (assign (.Name y py) X.env)) (pos := pos) (pos' := firstIterPos [⟨tg, iter, ifs, 0⟩] pos) (Qf := fun _ s' => SP X pins Z .next s') hc hN I hi ok hg ht hk he hs h fun D C s1 m H1 I1 q hn f => by
    show wpAny _ _ (assign (.Name y py) X.env (.ref D)) _ _ _
    refine wpAny_assign_Name (store_ok2 (v := V.ref D) I1 hN hy (.inl hyl) rfl (fun s2 I2 ⟨a, sb, ha⟩ => ?_) (.inr hyl))
    have ne : C ≠ a := ha.elim (fun z => by rw [z]; exact f.2.1) fun z => fun e => f.2.2.2.2.1 y a z e.symm
    exact ⟨m, hn.sameBut sb ne, fun h3 sb3 => ⟨_, H1, I2.turned (t' := s2.toks) (fun b o hb e => (sb3.2 b hb).trans e) f.1 f.2.1 f.2.2.2.1 f.2.2.2.2.1 f.2.2.2.2.2, q⟩⟩
  exact wpAny_bind (thn core fun _ s' hq => wpAny_pure (wpAny_pure hq))
end
end L2

set_option Elab.async false
set_option linter.all false
set_option maxRecDepth 100000
set_option maxHeartbeats 4000000
namespace J
open PySem L2
theorem whole_walk {J : It} {n : Nat} {G : Hp → Prop} {Y : Nat → Hp → V → Hp → Prop} (w : Walk J n G Y) {H : Hp} {fin : Hp → Prop} {B : V → Hp → (Hp → Prop) → Prop} (Pv : Nat → Hp → Prop) (h0 : Pv 0 H) (hG : ∀ i H, Pv i H → G H)
    (hs : ∀ i x H H', i < n → Pv i H → Y i H x H' → B x H' (Pv (i + 1))) (hd : ∀ H, Pv n H → fin H) : SetC2.Whole J H fin B := by
  refine ⟨fun i m H => i ≤ n ∧ m = n - i ∧ Pv i H, ⟨n, Nat.zero_le _, by simp, h0⟩, ?_⟩
  rintro i m H ⟨hi, rfl, p⟩
  rcases Nat.lt_or_ge i n with c | c
  · exact .inr ⟨w.goes i H c (hG i H p), Pv (i + 1), fun H' p' => ⟨n - (i + 1), by omega, by omega, rfl, p'⟩, fun x H' y => hs i x H H' c p (w.yields i H x H' c (hG i H p) y)⟩
  · have e : i = n := Nat.le_antisymm hi c
    subst e
    exact .inl ⟨w.stops H (hG _ H p), hd H p⟩
/-- a list of rests, told by tuples -/
def RsL (H : Hp) (us : List V) (rs : List Rest) : Prop := us.length = rs.length ∧ ∀ (i : Nat) r, rs[i]? = some r → ∃ t, us[i]? = some (.ref t) ∧ H t = some (restHO r)
def TP (H H' : Hp) : Prop := ∀ t xs, H t = some (.tup xs) → H' t = some (.tup xs)
theorem TP.refl (H : Hp) : TP H H := fun _ _ h => h
theorem TP.trans {H H1 H2 : Hp} (a : TP H H1) (b : TP H1 H2) : TP H H2 := fun t xs h => b t xs (a t xs h)
theorem TP.same {H H' : Hp} (s : Same H H') : TP H H' := fun _ _ h => s _ _ h
theorem TP.upd {H : Hp} {a : Addr} {o o' : HO} (h : H a = some o) (n : ∀ xs, o ≠ .tup xs) : TP H (upd H a o') := fun t xs e => by
  rw [upd_ne (fun z => by rw [z, h] at e; exact n _ (Option.some.inj e))]
  exact e
theorem RsL.to {H H' : Hp} {us : List V} {rs : List Rest} (h : RsL H us rs) (s : TP H H') : RsL H' us rs := ⟨h.1, fun i r e => by
  obtain ⟨t, h1, h2⟩ := h.2 i r e
  exact ⟨t, h1, s _ _ h2⟩⟩
theorem RsL.nil (H : Hp) : RsL H [] [] := ⟨rfl, fun i r h => by simp at h⟩
theorem RsL.snoc {H : Hp} {us : List V} {rs : List Rest} (h : RsL H us rs) {t : Addr} {r : Rest} (ht : H t = some (restHO r)) : RsL H (us ++ [.ref t]) (rs ++ [r]) := by
  refine ⟨by rw [List.length_append, List.length_append, h.1]; rfl, fun i f hf => ?_⟩
  by_cases c : i < rs.length
  · rw [List.getElem?_append_left c] at hf
    obtain ⟨u, h1, h2⟩ := h.2 i f hf
    exact ⟨u, by rw [List.getElem?_append_left (by rw [h.1]; exact c)]; exact h1, h2⟩
  · have hi : i = rs.length := by
      have := (List.getElem?_eq_some_iff.mp hf).1
      rw [List.length_append, List.length_singleton] at this
      omega
    subst hi
    rw [List.getElem?_append_right (Nat.le_refl _)] at hf
    simp at hf
    subst hf
    exact ⟨t, by rw [List.getElem?_append_right (by rw [h.1]; exact Nat.le_refl _), h.1]; simp, ht⟩
/-- the steps of p that come to r -/
def cnt (as : List Arc) (p r : Rest) : Nat := (stepsL as p).countP fun s => decide (s.1 = r)
/-- the steps of p that come to none of these -/
def opn (as : List Arc) (done : List Rest) (p : Rest) : Nat := (stepsL as p).countP fun s => decide (s.1 ∉ done)
theorem opn_nil (as : List Arc) (p : Rest) : opn as [] p = (stepsL as p).length := by
  unfold opn
  rw [List.countP_eq_length]
  intro s _
  simp
theorem opn_zero {as : List Arc} {done : List Rest} {p : Rest} : opn as done p = 0 ↔ ∀ s ∈ stepsL as p, s.1 ∈ done := by
  unfold opn
  rw [List.countP_eq_zero]
  constructor
  · intro h s hs
    have := h s hs
    simpa using this
  · intro h s hs
    simpa using h s hs
theorem opn_snoc {as : List Arc} {done : List Rest} {r : Rest} (h : r ∉ done) (p : Rest) : opn as (done ++ [r]) p + cnt as p r = opn as done p := by
  unfold opn cnt
  induction stepsL as p with
  | nil => rfl
  | cons s l ih =>
    rw [List.countP_cons, List.countP_cons, List.countP_cons]
    simp only [List.mem_append, List.mem_singleton] at ih ⊢
    by_cases c : s.1 = r
    · have e1 : s.1 ∉ done := by rw [c]; exact h
      simp only [c, h, List.mem_append, List.mem_singleton, or_true, not_true_eq_false, decide_false, decide_true, not_false_eq_true, if_true, Bool.false_eq_true, if_false]
      omega
    · by_cases d : s.1 ∈ done
      · simp only [c, d, List.mem_append, List.mem_singleton, or_false, true_or, not_true_eq_false, decide_false, Bool.false_eq_true, if_false]
        omega
      · simp only [c, d, List.mem_append, List.mem_singleton, or_false, not_false_eq_true, decide_true, if_true, decide_false, Bool.false_eq_true, if_false]
        omega
/-- the rests whose steps come to r, in their order -/
def bef1 (as : List Arc) (p r : Rest) (l : List Step) : List Rest := l.filterMap fun s => if s.1 = r then some p else none
def bef (as : List Arc) (rs : List Rest) (r : Rest) : List Rest := rs.flatMap fun p => bef1 as p r (stepsL as p)
theorem bef1_count (as : List Arc) (p r q : Rest) : ∀ l : List Step, (bef1 as p r l).count q = if p = q then l.countP (fun s => decide (s.1 = r)) else 0
  | [] => by simp [bef1]
  | s :: l => by
    have ih := bef1_count as p r q l
    unfold bef1 at ih ⊢
    rw [List.filterMap_cons, List.countP_cons]
    by_cases c : s.1 = r
    · simp only [c, if_true, decide_true]
      rw [List.count_cons, ih]
      by_cases d : p = q
      · simp [d]
      · simp [d]
    · simp only [c, if_false, decide_false, Bool.false_eq_true]
      rw [ih]
      simp
theorem bef_count {as : List Arc} {rs : List Rest} (nd : rs.Nodup) (r q : Rest) : (bef as rs r).count q = if q ∈ rs then cnt as q r else 0 := by
  induction rs with
  | nil => simp [bef]
  | cons p rs ih =>
    obtain ⟨n1, n2⟩ := List.nodup_cons.mp nd
    have ih := ih n2
    unfold bef at ih ⊢
    rw [List.flatMap_cons, List.count_append, ih, bef1_count]
    by_cases d : p = q
    · subst d
      simp [n1, cnt]
    · have d' : ¬ q = p := fun z => d z.symm
      simp [d, d']
theorem bef_mem {as : List Arc} {rs : List Rest} {r q : Rest} (h : q ∈ bef as rs r) : q ∈ rs := by
  obtain ⟨p, hp, h1⟩ := List.mem_flatMap.mp h
  obtain ⟨s, _, h2⟩ := List.mem_filterMap.mp h1
  by_cases c : s.1 = r
  · rw [if_pos c] at h2
    cases h2
    exact hp
  · rw [if_neg c] at h2
    cases h2
theorem bef_len {as : List Arc} {rs : List Rest} (r : Rest) : (bef as rs r).length ≤ as.length * rs.length := by
  refine flat_lenk _ as.length (fun p => ?_) rs
  have h1 : (bef1 as p r (stepsL as p)).length ≤ (stepsL as p).length := List.length_filterMap_le _ _
  have one : ∀ e, (stepOf p e).length ≤ 1 := fun e => by
    unfold stepOf
    split
    · simp
    · split <;> simp
  have h2 := flat_lenk (stepOf p) 1 one (lvs p.1 0 as)
  have h3 := lvs_len p.1 as 0
  have h4 : (stepsL as p).length = ((lvs p.1 0 as).flatMap (stepOf p)).length := rfl
  omega
/-- each behind all that its steps come to -/
structure Topo (as : List Arc) (rs fs : List Rest) : Prop where
  nd : fs.Nodup
  sub : ∀ r ∈ fs, r ∈ rs
  ord : ∀ (i : Nat) r, fs[i]? = some r → ∀ s ∈ stepsL as r, s.1 ∈ fs.take i
end J


set_option Elab.async false
set_option linter.all false
set_option maxRecDepth 100000
set_option maxHeartbeats 4000000
namespace J
open PySem L2
theorem ltG {n : Nat} (h : n ≤ 16000000) : n < sizeLine := Nat.lt_of_le_of_lt h (by decide)
theorem leG {n : Nat} (h : n ≤ 16000000) : n ≤ sizeLine := Nat.le_trans h (by decide)
theorem valG {kvs : List (List Key × V)} {k j : List Key} {v : V} : valV (putK kvs k v) j = if j = k then some v else valV kvs j := valV_put kvs k j v
theorem valG_new {ko : List (List Key × V)} {rs : List Rest} (h : ko.map (·.1) = rs.map rk) {r : Rest} (n : r ∉ rs) : valV ko (rk r) = none := by
  cases e : valV ko (rk r) with
  | none => rfl
  | some v => exact absurd (keys_some h e) n
theorem nodup_at {rs : List Rest} (nd : rs.Nodup) {i : Nat} {r : Rest} (h : rs[i]? = some r) : r ∉ rs.take i := by
  have e : rs = rs.take i ++ [r] ++ rs.drop (i + 1) := by rw [take_snoc h, List.take_append_drop]
  rw [e, List.nodup_append, List.nodup_append] at nd
  exact fun z => nd.1.2.2 r z r (by simp) rfl
theorem steps_len (as : List Arc) (p : Rest) : (stepsL as p).length ≤ as.length := by
  have one : ∀ e, (stepOf p e).length ≤ 1 := fun e => by
    unfold stepOf
    split
    · simp
    · split <;> simp
  have h2 := flat_lenk (stepOf p) 1 one (lvs p.1 0 as)
  have h3 := lvs_len p.1 as 0
  have h4 : (stepsL as p).length = ((lvs p.1 0 as).flatMap (stepOf p)).length := rfl
  omega
theorem put_same {kvs : List (List Key × V)} {k : List Key} {v : V} (h : k ∈ kvs.map Prod.fst) : (putK kvs k v).map Prod.fst = kvs.map Prod.fst := by
  obtain ⟨p, hp, e⟩ := List.mem_map.mp h
  unfold putK
  rw [if_pos (List.any_eq_true.mpr ⟨p, hp, decide_eq_true e⟩), List.map_map]
  refine List.map_congr_left fun q _ => ?_
  show (if q.1 = k then (q.1, v) else q).1 = q.1
  split <;> rfl
theorem RsL.unsnoc {H : Hp} {us : List V} {rs : List Rest} {r : Rest} (h : RsL H us (rs ++ [r])) : ∃ us' t, us = us' ++ [.ref t] ∧ RsL H us' rs ∧ H t = some (restHO r) := by
  have hl := h.1
  rw [List.length_append, List.length_singleton] at hl
  obtain ⟨t, h1, h2⟩ := h.2 rs.length r (by rw [List.getElem?_append_right (Nat.le_refl _)]; simp)
  refine ⟨us.take rs.length, t, ?_, ⟨by rw [List.length_take]; omega, fun i q e => ?_⟩, h2⟩
  · rw [take_snoc h1, List.take_of_length_le (by omega)]
  · have hi := (List.getElem?_eq_some_iff.mp e).1
    obtain ⟨t', q1, q2⟩ := h.2 i q (by rw [List.getElem?_append_left hi]; exact e)
    exact ⟨t', by rw [List.getElem?_take, if_pos hi]; exact q1, q2⟩
theorem RsL.at {H : Hp} {us : List V} {rs : List Rest} (h : RsL H us rs) {i : Nat} {y : V} (hy : us[i]? = some y) : ∃ r t, rs[i]? = some r ∧ y = .ref t ∧ H t = some (restHO r) := by
  have hi : i < rs.length := by rw [← h.1]; exact (List.getElem?_eq_some_iff.mp hy).1
  obtain ⟨t, h1, h2⟩ := h.2 i _ (List.getElem?_eq_getElem hi)
  rw [hy] at h1
  exact ⟨_, t, List.getElem?_eq_getElem hi, Option.some.inj h1, h2⟩
theorem snoc_rs {ws : List Rest} (h : ws ≠ []) : ∃ w r, ws = w ++ [r] := ⟨ws.dropLast, ws.getLast h, (List.dropLast_concat_getLast h).symm⟩
/-- before: a list for each rest -/
structure BefAt (H : Hp) (B : Addr) (rs : List Rest) (al : List Addr) (c : Rest → List Rest) : Prop where
  d : ∃ kb : List (List Key × V), H B = some (.dT kb) ∧ kb.map (·.1) = rs.map rk ∧ ∀ (i : Nat) r l, rs[i]? = some r → al[i]? = some l → valV kb (rk r) = some (.ref l)
  len : al.length = rs.length
  nd : al.Nodup
  con : ∀ (i : Nat) r l, rs[i]? = some r → al[i]? = some l → ∃ vs, H l = some (.lst vs) ∧ RsL H vs (c r)
theorem BefAt.to {H H' : Hp} {B : Addr} {rs : List Rest} {al : List Addr} {c : Rest → List Rest} (h : BefAt H B rs al c) (kB : ∀ o, H B = some o → H' B = some o) (kl : ∀ l ∈ al, ∀ o, H l = some o → H' l = some o) (tp : TP H H') : BefAt H' B rs al c := by
  obtain ⟨⟨kb, h1, h2, h3⟩, h4, h5, h6⟩ := h
  refine ⟨⟨kb, kB _ h1, h2, h3⟩, h4, h5, fun i r l e1 e2 => ?_⟩
  obtain ⟨vs, q1, q2⟩ := h6 i r l e1 e2
  exact ⟨vs, kl l (List.mem_of_getElem? e2) _ q1, q2.to tp⟩
theorem BefAt.same {H H' : Hp} {B : Addr} {rs : List Rest} {al : List Addr} {c : Rest → List Rest} (h : BefAt H B rs al c) (s : Same H H') : BefAt H' B rs al c := h.to (fun o e => s _ _ e) (fun l _ o e => s _ _ e) (TP.same s)
theorem BefAt.put {H : Hp} {B : Addr} {rs : List Rest} {al : List Addr} {c : Rest → List Rest} (h : BefAt H B rs al c) (nd : rs.Nodup) {i : Nat} {r p : Rest} {l t : Addr} {vs : List V} (e1 : rs[i]? = some r) (e2 : al[i]? = some l) (hl : H l = some (.lst vs)) (hv : RsL H vs (c r)) (ht : H t = some (restHO p)) :
    BefAt (upd H l (.lst (vs ++ [.ref t]))) B rs al (fun x => if x = r then c r ++ [p] else c x) := by
  obtain ⟨⟨kb, h1, h2, h3⟩, h4, h5, h6⟩ := h
  have tp : TP H (upd H l (.lst (vs ++ [.ref t]))) := TP.upd hl (fun _ => nofun)
  have nB : B ≠ l := fun z => by rw [← z, h1] at hl; cases hl
  refine ⟨⟨kb, by rw [upd_ne nB]; exact h1, h2, h3⟩, h4, h5, fun j r' l' q1 q2 => ?_⟩
  by_cases c1 : l' = l
  · subst c1
    have hij : j = i := by
      have a1 := (List.getElem?_eq_some_iff.mp q2)
      have a2 := (List.getElem?_eq_some_iff.mp e2)
      obtain ⟨b1, a1⟩ := a1
      obtain ⟨b2, a2⟩ := a2
      exact (List.getElem_inj h5).mp (a1.trans a2.symm)
    subst hij
    rw [e1] at q1
    cases q1
    refine ⟨_, upd_same, ?_⟩
    rw [if_pos rfl]
    exact (hv.to tp).snoc (tp _ _ ht)
  · have nr : r' ≠ r := fun z => by
      subst z
      obtain ⟨b1, a1⟩ := List.getElem?_eq_some_iff.mp q1
      obtain ⟨b2, a2⟩ := List.getElem?_eq_some_iff.mp e1
      have := (List.getElem_inj nd).mp (a1.trans a2.symm)
      subst this
      rw [e2] at q2
      exact c1 (Option.some.inj q2).symm
    obtain ⟨vs', a1, a2⟩ := h6 j r' l' q1 q2
    refine ⟨vs', by rw [upd_ne c1]; exact a1, ?_⟩
    rw [if_neg nr]
    exact a2.to tp
theorem BefAt.congr {H : Hp} {B : Addr} {rs : List Rest} {al : List Addr} {c c' : Rest → List Rest} (h : BefAt H B rs al c) (e : ∀ r, c' r = c r) : BefAt H B rs al c' := by
  have : c' = c := funext e
  rw [this]; exact h
theorem StepsIn.ex {W : Addr} {H H' : Hp} {kw : List (List Key × V)} {as : List Arc} (h : StepsIn H kw as) (x : Ex W H H') {k : List (List Key × V)} (hW : H W = some (.dT k)) : StepsIn H' kw as := fun i q v e => by
  obtain ⟨r, sl, us, h1, h2, h3, h4⟩ := h i q v e
  exact ⟨r, sl, us, h1, h2, x _ _ (fun z => by rw [z, hW] at h3; cases h3) h3, h4.to fun t xs q => x _ _ (fun z => by rw [z, hW] at q; cases q) q⟩
def spEnding : Sp := fun vs H Q _ => ∃ (W : Addr) (kw : List (List Key × V)) (rs : List Rest) (as : List Arc), vs = [.ref W] ∧ H W = some (.dT kw) ∧ kw.map (·.1) = rs.map rk ∧ rs.Nodup ∧ (∀ r ∈ rs, ∀ s ∈ stepsL as r, s.1 ∈ rs) ∧ StepsIn H kw as ∧ as.length * rs.length ≤ 9000000 ∧ rs.length ≤ 1000000 ∧ as.length ≤ 200 ∧
  ∀ (H' : Hp) (F : Addr) (fv : List V) (fs : List Rest), Same H H' → H F = none → H' F = some (.lst fv) → RsL H' fv fs → Topo as rs fs → (∀ r ∈ rs, (∀ s ∈ stepsL as r, s.1 ∈ fs) ↔ r ∈ fs) → Q (.ref F) H'
section
variable {P : Program} {w : World} {K : PySem.W.Frag} {mg : Str → Option Value} {base : Heap}
end
end J


set_option Elab.async false
set_option linter.all false
set_option maxRecDepth 100000
set_option maxHeartbeats 4000000
namespace J
open PySem L2
/-- what most_arcs tells: of each rest the two numbers -/
def few (role : Nat) (r : Rest) : Int := if role = 0 ∨ r.2.2 = [] then 0 else -1
def gn (role : Nat) : Int := if role = 0 then 1 else 0
def flip (role turned : Nat) : Nat := if turned = 0 then role else 1 - role
def IsMax (l : List Int) (m : Int) : Prop := m ∈ l ∧ ∀ y ∈ l, y ≤ m
def line (as : List Arc) (mv : Nat → Rest → Int) (role : Nat) (r : Rest) : List Int := few role r :: (stepsL as r).map fun s => gn role + mv (flip role s.2.2) s.1
/-- right for the first n rests, and for the next one in the roles below c -/
structure MostIs (as : List Arc) (fs : List Rest) (n c : Nat) (mv : Nat → Rest → Int) : Prop where
  eq : ∀ (i : Nat) r role, fs[i]? = some r → role < 2 → (i < n ∨ i = n ∧ role < c) → IsMax (line as mv role r) (mv role r)
  hi : ∀ (i : Nat) r role, fs[i]? = some r → role < 2 → (i < n ∨ i = n ∧ role < c) → mv role r ≤ (i : Int) + 1
theorem MostIs.lo {as : List Arc} {fs : List Rest} {n c : Nat} {mv : Nat → Rest → Int} (h : MostIs as fs n c mv) {i : Nat} {r : Rest} {role : Nat} (e : fs[i]? = some r) (h2 : role < 2) (hp : i < n ∨ i = n ∧ role < c) : few role r ≤ mv role r := (h.eq i r role e h2 hp).2 _ (by simp [line])
theorem turn_two {as : List Arc} {r : Rest} {s : Step} (h : s ∈ stepsL as r) : s.2.2 = 0 ∨ s.2.2 = 1 := by
  obtain ⟨e, _, h1⟩ := List.mem_flatMap.mp h
  unfold stepOf at h1
  split at h1
  · rw [List.mem_singleton] at h1; subst h1; exact .inl rfl
  · split at h1
    · rw [List.mem_singleton] at h1; subst h1; exact .inr rfl
    · cases h1
theorem xor_flip {role t : Nat} (h : role < 2) (g : t = 0 ∨ t = 1) : Builtin.bitXor (role : Int) (t : Int) = ((flip role t : Nat) : Int) ∧ flip role t < 2 := by
  have hr : role = 0 ∨ role = 1 := by omega
  rcases hr with rfl | rfl <;> rcases g with rfl | rfl <;> exact ⟨by decide, by decide⟩
/-- one of the two dicts: these rests have their numbers -/
def NumAt (H : Hp) (m : Addr) (ks : List Rest) (f : Rest → Int) : Prop := ∃ km : List (List Key × V), H m = some (.dT km) ∧ km.length ≤ ks.length ∧ ∀ r ∈ ks, valV km (rk r) = some (.int (f r))
theorem NumAt.to {H H' : Hp} {m : Addr} {ks : List Rest} {f : Rest → Int} (h : NumAt H m ks f) (k : ∀ o, H m = some o → H' m = some o) : NumAt H' m ks f := by
  obtain ⟨km, h1, h2⟩ := h
  exact ⟨km, k _ h1, h2⟩
theorem valV_nodup : ∀ {kw : List (List Key × V)}, (kw.map Prod.fst).Nodup → ∀ {k : List Key} {v : V}, (k, v) ∈ kw → valV kw k = some v
  | [], _, _, _, h => nomatch h
  | (k0, v0) :: kw, nd, k, v, h => by
    obtain ⟨n1, n2⟩ := List.nodup_cons.mp nd
    rcases List.mem_cons.mp h with e | h
    · cases e
      unfold valV
      rw [List.find?_cons]
      simp
    · have ih := valV_nodup n2 h
      have ne : k0 ≠ k := fun z => n1 (by rw [z]; exact List.mem_map.mpr ⟨_, h, rfl⟩)
      unfold valV at ih ⊢
      rw [List.find?_cons]
      simp only [ne, decide_false]
      exact ih
theorem rk_nodup {rs : List Rest} (h : rs.Nodup) : (rs.map rk).Nodup := List.Pairwise.map rk (fun _ _ ne e => ne (rk_inj e)) h
/-- the steps of a rest, looked up -/
theorem ways_get {H : Hp} {kw : List (List Key × V)} {rs : List Rest} {as : List Arc} (hk : kw.map (·.1) = rs.map rk) (nd : rs.Nodup) (hs : StepsIn H kw as) {r : Rest} (hr : r ∈ rs) : ∃ sl us, valV kw (rk r) = some (.ref sl) ∧ H sl = some (.lst us) ∧ StepsAt H us (stepsL as r) := by
  obtain ⟨i, hi, e⟩ := List.mem_iff_getElem.mp hr
  have hil : i < kw.length := by rw [keys_len hk]; exact hi
  have e1 : kw[i].1 = rk r := by
    have q : (kw.map (·.1))[i]? = some kw[i].1 := by rw [List.getElem?_map, List.getElem?_eq_getElem hil]; rfl
    rw [hk, List.getElem?_map, List.getElem?_eq_getElem hi, e] at q
    exact (Option.some.inj q).symm
  have e2 : kw[i]? = some (rk r, kw[i].2) := by rw [List.getElem?_eq_getElem hil, ← e1]
  obtain ⟨r', sl, us, a1, a2, a3, a4⟩ := hs i _ _ e2
  have := rk_inj a1
  subst this
  refine ⟨sl, us, ?_, a3, a4⟩
  rw [← a2]
  have hnd : (kw.map Prod.fst).Nodup := by
    have q : kw.map Prod.fst = rs.map rk := hk
    rw [q]
    exact rk_nodup nd
  exact valV_nodup hnd (List.mem_of_getElem? e2)
theorem steps_atG {H : Hp} {us : List V} {ss : List Step} (h : StepsAt H us ss) {i : Nat} {y : V} (hy : us[i]? = some y) : ∃ s t rt, ss[i]? = some s ∧ y = .ref t ∧ H t = some (.tup [.ref rt, .int (s.2.1 : Nat), .int (s.2.2 : Nat)]) ∧ H rt = some (restHO s.1) := by
  have hi : i < ss.length := by rw [← h.1]; exact (List.getElem?_eq_some_iff.mp hy).1
  obtain ⟨t, rt, h1, h2, h3⟩ := h.2 i _ (List.getElem?_eq_getElem hi)
  rw [hy] at h1
  exact ⟨_, t, rt, List.getElem?_eq_getElem hi, Option.some.inj h1, h2, h3⟩
theorem take_le {fs : List Rest} {i k : Nat} (h : i ≤ k) {x : Rest} (hx : x ∈ fs.take i) : x ∈ fs.take k := by
  have e : fs.take i = (fs.take k).take i := by rw [List.take_take, Nat.min_eq_left h]
  rw [e] at hx
  exact List.mem_of_mem_take hx
def mR (m0 m1 : Addr) (role : Nat) : Addr := if role = 0 then m0 else m1
theorem mR_at (m0 m1 : Addr) {role : Nat} (h : role < 2) : ([V.ref m0, V.ref m1] : List V)[role]? = some (.ref (mR m0 m1 role)) := by
  have hr : role = 0 ∨ role = 1 := by omega
  rcases hr with rfl | rfl <;> rfl
def upto (n c role : Nat) : Nat := if role < c then n + 1 else n
theorem upto_ge (n c role : Nat) : n ≤ upto n c role := by
  unfold upto
  split <;> omega
theorem gn_le (c : Nat) : gn c ≤ 1 ∧ 0 ≤ gn c := by
  unfold gn
  split <;> omega
theorem few_le (c : Nat) (r : Rest) : few c r ≤ 0 := by
  unfold few
  split <;> omega
/-- the number of one rest, put in -/
def putM (mv : Nat → Rest → Int) (c : Nat) (r : Rest) (m : Int) : Nat → Rest → Int := fun ro x => if ro = c ∧ x = r then m else mv ro x
theorem putM_ne {mv : Nat → Rest → Int} {c : Nat} {r : Rest} {m : Int} {ro : Nat} {x : Rest} (h : x ≠ r) : putM mv c r m ro x = mv ro x := by
  unfold putM
  rw [if_neg (fun z => h z.2)]
theorem putM_ro {mv : Nat → Rest → Int} {c : Nat} {r : Rest} {m : Int} {ro : Nat} {x : Rest} (h : ro ≠ c) : putM mv c r m ro x = mv ro x := by
  unfold putM
  rw [if_neg (fun z => h z.1)]
theorem putM_self {mv : Nat → Rest → Int} {c : Nat} {r : Rest} {m : Int} : putM mv c r m c r = m := by
  unfold putM
  rw [if_pos ⟨rfl, rfl⟩]
theorem line_put {as : List Arc} {mv : Nat → Rest → Int} {c : Nat} {r : Rest} {m : Int} {ro : Nat} {x : Rest} (h : ∀ s ∈ stepsL as x, s.1 ≠ r) : line as (putM mv c r m) ro x = line as mv ro x := by
  unfold line
  congr 1
  exact List.map_congr_left fun s hs => by rw [putM_ne (h s hs)]
theorem MostIs.put {as : List Arc} {rs fs : List Rest} {i c : Nat} {mv : Nat → Rest → Int} (h : MostIs as fs i c mv) (topo : Topo as rs fs) {r : Rest} (hr : fs[i]? = some r) (hc : c < 2) {m : Int} (hm : m ∈ line as mv c r) (hx : ∀ y ∈ line as mv c r, y ≤ m) : MostIs as fs i (c + 1) (putM mv c r m) := by
  have hnr : ∀ s, s ∈ fs.take i → s ≠ r := fun s hs z => nodup_at topo.nd hr (z ▸ hs)
  have hst : ∀ (j : Nat) x, fs[j]? = some x → j ≤ i → ∀ s ∈ stepsL as x, s.1 ≠ r := fun j x e hj s hs => hnr _ (take_le hj (topo.ord j x e s hs))
  have same : ∀ (j : Nat) x ro, fs[j]? = some x → (j < i ∨ j = i ∧ ro < c) → putM mv c r m ro x = mv ro x := fun j x ro e hp => by
    rcases hp with hp | hp
    · refine putM_ne fun z => ?_
      subst z
      obtain ⟨a1, a2⟩ := List.getElem?_eq_some_iff.mp e
      obtain ⟨b1, b2⟩ := List.getElem?_eq_some_iff.mp hr
      have := (List.getElem_inj topo.nd).mp (a2.trans b2.symm)
      omega
    · exact putM_ro (by omega)
  have split3 : ∀ j ro, (j < i ∨ j = i ∧ ro < c + 1) → (j < i ∨ j = i ∧ ro < c) ∨ (j = i ∧ ro = c) := fun j ro hp => by omega
  refine ⟨fun j x ro e h2 hp => ?_, fun j x ro e h2 hp => ?_⟩
  · rcases split3 j ro hp with q | ⟨rfl, rfl⟩
    · rw [line_put (hst j x e (by omega)), same j x ro e q]
      exact h.eq j x ro e h2 q
    · rw [hr] at e
      cases e
      rw [line_put (hst j r hr (Nat.le_refl _)), putM_self]
      exact ⟨hm, hx⟩
  · rcases split3 j ro hp with q | ⟨rfl, rfl⟩
    · rw [same j x ro e q]
      exact h.hi j x ro e h2 q
    · rw [hr] at e
      cases e
      rw [putM_self]
      rcases List.mem_cons.mp hm with z | z
      · have := few_le ro r
        omega
      · obtain ⟨s, hs, rfl⟩ := List.mem_map.mp z
        have hs1 := topo.ord j r hr s hs
        obtain ⟨j', hj', e'⟩ := List.mem_iff_getElem.mp hs1
        rw [List.length_take] at hj'
        rw [List.getElem_take] at e'
        have hft := (xor_flip h2 (turn_two hs)).2
        have := h.hi j' s.1 (flip ro s.2.2) (by rw [List.getElem?_eq_getElem (by omega), e']) hft (.inl (by omega))
        have := (gn_le ro).1
        omega
def spMost : Sp := fun vs H Q _ => ∃ (W F : Addr) (kw : List (List Key × V)) (rs fs : List Rest) (as : List Arc) (fv : List V), vs = [.ref W, .ref F] ∧ H W = some (.dT kw) ∧ kw.map (·.1) = rs.map rk ∧ rs.Nodup ∧ StepsIn H kw as ∧ rs.length ≤ 1000000 ∧ as.length ≤ 200 ∧ H F = some (.lst fv) ∧ RsL H fv fs ∧ Topo as rs fs ∧
  ∀ (H' : Hp) (M m0 m1 : Addr) (mv : Nat → Rest → Int), Same H H' → H M = none → H' M = some (.lst [.ref m0, .ref m1]) → NumAt H' m0 fs (mv 0) → NumAt H' m1 fs (mv 1) → MostIs as fs fs.length 0 mv → Q (.ref M) H'
section
variable {P : Program} {w : World} {K : PySem.W.Frag} {mg : Str → Option Value} {base : Heap}
end
end J


set_option Elab.async false
set_option linter.all false
set_option maxRecDepth 100000
set_option maxHeartbeats 4000000
namespace J
open PySem L2
/-- looms whose rests the law can list -/
structure Fw (as : List Arc) : Prop where
  len : as.length ≤ 28
  few : ∀ (ms : List Nat) (rs : List Rest), Cov as ms rs → as.length * rs.length ≤ 9000000 ∧ rs.length ≤ 1000000
theorem lvs_goal {g : Nat} {as : List Arc} {n : Nat} {e : Nat × List Nat × Nat} (h : e ∈ lvs g n as) : ∃ a ∈ as, e.2.2 = a.2.2 := by
  obtain ⟨c, hc, _, q⟩ := lvs_arc h
  exact ⟨c, hc, q.symm⟩
theorem rch_goal {as : List Arc} {ms : List Nat} {r : Rest} (q : Rch as ms r) : (∃ a ∈ as, r.1 = a.2.2) ∧ ∃ b ∈ as, r.2.1 = b.2.2 := by
  induction q with
  | @start s hs =>
    obtain ⟨g, _, hg⟩ := List.mem_flatMap.mp hs
    obtain ⟨e, he, h1⟩ := List.mem_flatMap.mp hg
    obtain ⟨f, hf, h2⟩ := List.mem_flatMap.mp h1
    unfold cell at h2
    split at h2
    · rw [List.mem_singleton] at h2
      subst h2
      exact ⟨lvs_goal he, lvs_goal hf⟩
    · cases h2
  | @step r s _ hs ih =>
    obtain ⟨e, he, h1⟩ := List.mem_flatMap.mp hs
    unfold stepOf at h1
    split at h1
    · rw [List.mem_singleton] at h1
      subst h1
      exact ⟨lvs_goal he, ih.2⟩
    · split at h1
      · rw [List.mem_singleton] at h1
        subst h1
        exact ⟨ih.2, lvs_goal he⟩
      · cases h1
def univG (as : List Arc) : List Rest := as.flatMap fun b => as.flatMap fun a => as.flatMap fun c => (List.range 13).map fun k => (b.2.2, a.2.2, c.2.1.drop k)
theorem univG_len (as : List Arc) (h : as.length ≤ 28) : (univG as).length ≤ 285376 := by
  have h1 : ∀ (b a : Arc), (as.flatMap fun c => (List.range 13).map fun k => ((b.2.2, a.2.2, c.2.1.drop k) : Rest)).length ≤ 364 := fun b a => by
    have q := flat_lenk (fun c : Arc => (List.range 13).map fun k => ((b.2.2, a.2.2, c.2.1.drop k) : Rest)) 13 (fun c => by simp) as
    omega
  have h2 : ∀ b : Arc, (as.flatMap fun a => as.flatMap fun c => (List.range 13).map fun k => ((b.2.2, a.2.2, c.2.1.drop k) : Rest)).length ≤ 10192 := fun b => by
    have q := flat_lenk (fun a : Arc => as.flatMap fun c => (List.range 13).map fun k => ((b.2.2, a.2.2, c.2.1.drop k) : Rest)) 364 (h1 b) as
    omega
  have q := flat_lenk (fun b : Arc => as.flatMap fun a => as.flatMap fun c => (List.range 13).map fun k => ((b.2.2, a.2.2, c.2.1.drop k) : Rest)) 10192 h2 as
  unfold univG
  omega
theorem Cov.len28 {as : List Arc} {ms : List Nat} {rs : List Rest} (h : Cov as ms rs) (oka : OkAll as) (hl : as.length ≤ 28) : rs.length ≤ 285376 := by
  refine Nat.le_trans (nodup_sub rs (univG as) h.1 fun r hr => ?_) (univG_len as hl)
  obtain ⟨⟨b, hb, e1⟩, a, ha, e2⟩ := rch_goal (h.2 r hr)
  obtain ⟨_, _, c, hc, k, hk, e3⟩ := rch_in oka (h.2 r hr)
  have e : r = (b.2.2, a.2.2, c.2.1.drop k) := by rw [← e1, ← e2, ← e3]
  rw [e]
  unfold univG
  exact List.mem_flatMap.mpr ⟨b, hb, List.mem_flatMap.mpr ⟨a, ha, List.mem_flatMap.mpr ⟨c, hc, List.mem_map.mpr ⟨k, List.mem_range.mpr (by omega), rfl⟩⟩⟩⟩
theorem Fw.of {as : List Arc} (oka : OkAll as) (h : as.length ≤ 28) : Fw as := ⟨h, fun ms rs c => by
  have q := c.len28 oka h
  have m : as.length * rs.length ≤ 28 * 285376 := Nat.mul_le_mul h q
  omega⟩
/-- none: some rest is ended by none -/
def spCounted (C : Addr) : Sp := fun vs H Q _ => ∃ (q : Addr) (sg : List Nat) (us : List V) (as : List Arc), vs = [.ref q] ∧ LoomAt C H q sg us as ∧ as.length ≤ 28 ∧
  (∀ (H' : Hp) (ms : List Nat) (fs : List Rest), Same H H' → (∀ x, x ∈ ms ↔ Reach as x) → ms.Pairwise (· < ·) → (∃ r, Rch as ms r ∧ r ∉ fs) → (∀ r, Rch as ms r → ((∀ s ∈ stepsL as r, s.1 ∈ fs) ↔ r ∈ fs)) → Q .non H') ∧
  ∀ (H' : Hp) (t W M m0 m1 : Addr) (ms : List Nat) (fs : List Rest) (mv : Nat → Rest → Int), Same H H' → (∀ x, x ∈ ms ↔ Reach as x) → ms.Pairwise (· < ·) → H' t = some (.tup [.ref W, .ref M]) → H' M = some (.lst [.ref m0, .ref m1]) → NumAt H' m0 fs (mv 0) → NumAt H' m1 fs (mv 1) → (∀ r, Rch as ms r ↔ r ∈ fs) → fs.length ≤ 1000000 → (∃ rs, Topo as rs fs) → MostIs as fs fs.length 0 mv → Q (.ref t) H'
section
variable {P : Program} {w : World} {K : PySem.W.Frag} {mg : Str → Option Value} {base : Heap}
end
end J


set_option Elab.async false
set_option linter.all false
set_option maxRecDepth 100000
set_option maxHeartbeats 4000000
namespace J
open PySem L2
theorem pi_listB {X : Cx} {K : PySem.W.Frag} {tg e : Expr} {t : TE} (hK : X.K = K) (h : PE X e t) : PI X tg e (iList K t) := by
  subst hK
  exact pi_list h
theorem lc2_it {J : It} {n : Nat} {G : Hp → Prop} {Y : Nat → Hp → V → Hp → Prop} (w : Walk J n G Y) {H0 : Hp} {fin : Hp → Prop} {body : V → Hp → (Hp → Prop) → Prop} (Pv : Nat → Hp → Prop) (h0 : Pv 0 H0) (hG : ∀ i H, Pv i H → G H)
    (hs : ∀ i x H H', i < n → Pv i H → Y i H x H' → body x H' (Pv (i + 1))) (hd : ∀ H, Pv n H → fin H) :
    ∃ W : Nat → Nat → Hp → Prop, (∃ m, W 0 m H0) ∧ ∀ i m H, W i m H → (J.stop i H ∧ fin H) ∨ (J.go i H ∧ ∃ Nx : Hp → Prop, (∀ H', Nx H' → ∃ m', m' < m ∧ W (i + 1) m' H') ∧ ∀ x H', J.yld i H x H' → body x H' Nx) := by
  refine ⟨fun i m H => i ≤ n ∧ m = n - i ∧ Pv i H, ⟨n, Nat.zero_le _, by simp, h0⟩, ?_⟩
  rintro i m H ⟨hi, rfl, p⟩
  rcases Nat.lt_or_ge i n with c | c
  · exact .inr ⟨w.goes i H c (hG i H p), Pv (i + 1), fun H' p' => ⟨n - (i + 1), by omega, by omega, rfl, p'⟩, fun x H' y => hs i x H H' c p (w.yields i H x H' c (hG i H p) y)⟩
  · have e : i = n := Nat.le_antisymm hi c
    subst e
    exact .inl ⟨w.stops H (hG _ H p), hd H p⟩
theorem startsOf_len (as : List Arc) (h : as.length ≤ 200) (g : Nat) : (startsOf as g).length ≤ 40000 := by
  have h0 := lvs_len g as 0
  have h1 := flat_lenk (fun e => (lvs g 0 as).flatMap (cell g e)) 200 (fun e => by
    have := flat_len1 (cell g e) (cell_one g e) (lvs g 0 as)
    omega) (lvs g 0 as)
  have h2 : 200 * (lvs g 0 as).length ≤ 200 * 200 := Nat.mul_le_mul_left _ (by omega)
  exact Nat.le_trans h1 h2
theorem startsL_lenG {as : List Arc} {ms : List Nat} (hal : as.length ≤ 200) (hms : ms.Pairwise (· < ·)) (hreach : ∀ x, x ∈ ms ↔ Reach as x) (oka : OkAll as) : (startsL as ms).length ≤ 2560000 := by
  have hml : ms.length ≤ 64 := nodup_le 64 ms (hms.imp fun h => Nat.ne_of_lt h) fun x hx => by have := ((hreach x).mp hx).le oka; omega
  have h1 := flat_lenk (startsOf as) 40000 (startsOf_len as hal) ms
  unfold startsL
  omega
theorem met_uniq {as : List Arc} {ms ms' : List Nat} (h1 : ms.Pairwise (· < ·)) (h2 : ms'.Pairwise (· < ·)) (g1 : ∀ x, x ∈ ms ↔ Reach as x) (g2 : ∀ x, x ∈ ms' ↔ Reach as x) : ms = ms' :=
  List.Perm.eq_of_pairwise (fun a b _ _ x y => absurd (Nat.lt_trans x y) (Nat.lt_irrefl _)) h1 h2 ((List.perm_ext_iff_of_nodup (h1.imp Nat.ne_of_lt) (h2.imp Nat.ne_of_lt)).mpr fun x => (g1 x).trans (g2 x).symm)
theorem starts_atG {H : Hp} {us : List V} {ss : List Start} (h : StartsAt H us ss) {i : Nat} {y : V} (hy : us[i]? = some y) : ∃ s t rt, ss[i]? = some s ∧ y = .ref t ∧ H t = some (startHO rt s) ∧ H rt = some (restHO s.1) := by
  have hi : i < ss.length := by rw [← h.1]; exact (List.getElem?_eq_some_iff.mp hy).1
  obtain ⟨t, rt, h1, h2, h3⟩ := h.2 i _ (List.getElem?_eq_getElem hi)
  rw [hy] at h1
  exact ⟨_, t, rt, List.getElem?_eq_getElem hi, Option.some.inj h1, h2, h3⟩
def looks (mv : Nat → Rest → Int) (ss : List Start) : List Int := ss.flatMap fun s => [1 + mv 0 s.1, 1 + mv 1 s.1]
theorem looks_len (mv : Nat → Rest → Int) (ss : List Start) : (looks mv ss).length ≤ 2 * ss.length := flat_lenk _ 2 (fun s => by simp) ss
/-- what look tells -/
def spLook (C : Addr) : Sp := fun vs H Q _ => ∃ (q : Addr) (sg : List Nat) (us : List V) (as : List Arc), vs = [.ref q] ∧ LoomAt C H q sg us as ∧ as.length ≤ 28 ∧
  (∀ (H' : Hp) (ms : List Nat) (fs : List Rest), Same H H' → (∀ x, x ∈ ms ↔ Reach as x) → ms.Pairwise (· < ·) → (∃ r, Rch as ms r ∧ r ∉ fs) → (∀ r, Rch as ms r → ((∀ s ∈ stepsL as r, s.1 ∈ fs) ↔ r ∈ fs)) → Q .non H') ∧
  ∀ (H' : Hp) (ms : List Nat) (fs : List Rest) (mv : Nat → Rest → Int) (m : Int), Same H H' → (∀ x, x ∈ ms ↔ Reach as x) → ms.Pairwise (· < ·) → (∀ r, Rch as ms r ↔ r ∈ fs) → (∃ rs, Topo as rs fs) → MostIs as fs fs.length 0 mv → IsMax (0 :: looks mv (startsL as ms)) m → Q (.int m) H'
section
variable {P : Program} {w : World} {K : PySem.W.Frag} {mg : Str → Option Value} {base : Heap}
end
end J


set_option Elab.async false
set_option linter.all false
set_option maxRecDepth 100000
set_option maxHeartbeats 4000000
namespace J
open PySem L2
/-! ### rows that another row covers: what the numbers of look are -/
theorem preG {x w : List Nat} : pre x w = true ↔ w <+: x := by
  unfold pre
  rw [beq_iff_eq]
  exact ⟨fun h => List.prefix_iff_eq_take.mpr h.symm, fun h => (List.prefix_iff_eq_take.mp h).symm⟩
theorem lvs_atG {g : Nat} : ∀ {as : List Arc} {n : Nat} {e : Nat × List Nat × Nat}, e ∈ lvs g n as → n ≤ e.1 ∧ as[e.1 - n]? = some (g, e.2.1, e.2.2)
  | [], _, _, h => by cases h
  | a :: r, n, e, h => by
    have h' : e ∈ (if a.1 = g then (n, a.2.1, a.2.2) :: lvs g (n + 1) r else lvs g (n + 1) r) := h
    have tl : e ∈ lvs g (n + 1) r → n ≤ e.1 ∧ (a :: r)[e.1 - n]? = some (g, e.2.1, e.2.2) := fun z => by
      obtain ⟨h1, h2⟩ := lvs_atG z
      refine ⟨by omega, ?_⟩
      have : e.1 - n = (e.1 - (n + 1)) + 1 := by omega
      rw [this, List.getElem?_cons_succ]
      exact h2
    by_cases c : a.1 = g
    · rw [if_pos c] at h'
      rcases List.mem_cons.mp h' with z | z
      · refine ⟨by rw [z]; exact Nat.le_refl _, ?_⟩
        rw [z]
        show (a :: r)[n - n]? = _
        rw [Nat.sub_self]
        show some a = _
        rw [← c]
      · exact tl z
    · rw [if_neg c] at h'
      exact tl h'
theorem mem_lvsG {g : Nat} : ∀ {as : List Arc} {n i : Nat} {u : List Nat} {b : Nat}, as[i]? = some (g, u, b) → (n + i, u, b) ∈ lvs g n as
  | [], _, _, _, _, h => by simp at h
  | a :: r, n, 0, u, b, h => by
    have e : a = (g, u, b) := by simpa using h
    subst e
    show _ ∈ (if g = g then (n, u, b) :: lvs g (n + 1) r else lvs g (n + 1) r)
    rw [if_pos rfl]
    exact List.mem_cons_self
  | a :: r, n, i + 1, u, b, h => by
    have h2 : r[i]? = some (g, u, b) := by simpa using h
    have ih := mem_lvsG (n := n + 1) h2
    rw [show n + 1 + i = n + (i + 1) by omega] at ih
    show _ ∈ (if a.1 = g then (n, a.2.1, a.2.2) :: lvs g (n + 1) r else lvs g (n + 1) r)
    split
    · exact List.mem_cons_of_mem _ ih
    · exact ih
def wdA (as : List Arc) (i : Nat) : List Nat := (as.getD i (0, [], 0)).2.1
def txA (as : List Arc) (r : List Nat) : List Nat := (r.map (wdA as)).flatten
theorem txA_nil (as : List Arc) : txA as [] = [] := rfl
theorem txA_cons (as : List Arc) (i : Nat) (r : List Nat) : txA as (i :: r) = wdA as i ++ txA as r := by
  unfold txA
  rw [List.map_cons, List.flatten_cons]
theorem wdA_at {as : List Arc} {i : Nat} {a : Arc} (h : as[i]? = some a) : wdA as i = a.2.1 := by
  unfold wdA
  rw [List.getD_eq_getElem?_getD, h]
  rfl
/-- rows of arcs from a state on -/
inductive Rw (as : List Arc) : Nat → List Nat → Prop
  | nil (g : Nat) : Rw as g []
  | cons {i : Nat} {a : Arc} {r : List Nat} : as[i]? = some a → Rw as a.2.2 r → Rw as a.1 (i :: r)
theorem Rw.of {as : List Arc} {g i : Nat} {r : List Nat} (h : Rw as g (i :: r)) : ∃ a, as[i]? = some a ∧ a.1 = g ∧ Rw as a.2.2 r := by
  cases h with
  | cons h t => exact ⟨_, h, rfl, t⟩
theorem Rw.mk {as : List Arc} {g i : Nat} {a : Arc} {r : List Nat} (h : as[i]? = some a) (e : a.1 = g) (t : Rw as a.2.2 r) : Rw as g (i :: r) := e ▸ Rw.cons h t
theorem Rw.drop {as : List Arc} : ∀ {r : List Nat} {g : Nat}, Rw as g r → Rw as g r.dropLast
  | [], _, h => h
  | [i], g, _ => Rw.nil g
  | i :: j :: r, g, h => by
    obtain ⟨a, h1, h2, h3⟩ := h.of
    exact Rw.mk h1 h2 (Rw.drop h3)
/-- the arcs of nonempty words -/
def WdA (as : List Arc) : Prop := ∀ a ∈ as, 1 ≤ a.2.1.length
theorem txA_nil_of {as : List Arc} (hw : WdA as) {g : Nat} {r : List Nat} (h : Rw as g r) (e : txA as r = []) : r = [] := by
  cases h with
  | nil => rfl
  | cons h t =>
    rw [txA_cons, wdA_at h] at e
    have h1 := hw _ (List.mem_of_getElem? h)
    rw [(List.append_eq_nil_iff.mp e).1] at h1
    exact absurd h1 (by decide)
theorem step_of {as : List Arc} {r : Rest} {s : Step} (h : s ∈ stepsL as r) : ∃ (i : Nat) (a : Arc), as[i]? = some a ∧ a.1 = r.1 ∧
    ((a.2.1 <+: r.2.2 ∧ s.1 = (a.2.2, r.2.1, r.2.2.drop a.2.1.length) ∧ s.2.2 = 0) ∨ (r.2.2 <+: a.2.1 ∧ s.1 = (r.2.1, a.2.2, a.2.1.drop r.2.2.length) ∧ s.2.2 = 1)) := by
  obtain ⟨e, he, h1⟩ := List.mem_flatMap.mp h
  have ha := (lvs_atG he).2
  rw [Nat.sub_zero] at ha
  refine ⟨e.1, _, ha, rfl, ?_⟩
  unfold stepOf at h1
  split at h1
  · rename_i c
    rw [List.mem_singleton] at h1
    subst h1
    exact .inl ⟨preG.mp c, rfl, rfl⟩
  · split at h1
    · rename_i c
      rw [List.mem_singleton] at h1
      subst h1
      exact .inr ⟨preG.mp c, rfl, rfl⟩
    · cases h1
theorem step_0 {as : List Arc} {r : Rest} {i : Nat} {a : Arc} (h : as[i]? = some a) (e : a.1 = r.1) (p : a.2.1 <+: r.2.2) : ((a.2.2, r.2.1, r.2.2.drop a.2.1.length), i, 0) ∈ stepsL as r := by
  have hm := mem_lvsG (n := 0) (g := r.1) (i := i) (u := a.2.1) (b := a.2.2) (by rw [h, ← e])
  rw [Nat.zero_add] at hm
  refine List.mem_flatMap.mpr ⟨_, hm, ?_⟩
  unfold stepOf
  rw [if_pos (preG.mpr p)]
  exact List.mem_cons_self
theorem step_1 {as : List Arc} {r : Rest} {i : Nat} {a : Arc} (h : as[i]? = some a) (e : a.1 = r.1) (n : ¬ a.2.1 <+: r.2.2) (p : r.2.2 <+: a.2.1) : ((r.2.1, a.2.2, a.2.1.drop r.2.2.length), i, 1) ∈ stepsL as r := by
  have hm := mem_lvsG (n := 0) (g := r.1) (i := i) (u := a.2.1) (b := a.2.2) (by rw [h, ← e])
  rw [Nat.zero_add] at hm
  refine List.mem_flatMap.mpr ⟨_, hm, ?_⟩
  unfold stepOf
  rw [if_neg (fun z => n (preG.mp z)), if_pos (preG.mpr p)]
  exact List.mem_cons_self
/-- the counted row goes on behind (role 0) or ahead (role 1) -/
def Cvs (as : List Arc) (role : Nat) (r : Rest) (x y : List Nat) : Prop :=
  if role = 0 then Rw as r.1 x ∧ Rw as r.2.1 y ∧ txA as x <+: r.2.2 ++ txA as y else Rw as r.2.1 x ∧ Rw as r.1 y ∧ r.2.2 ++ txA as x <+: txA as y
theorem pre_app {u v w : List Nat} : u ++ v <+: u ++ w ↔ v <+: w := List.prefix_append_right_inj u
theorem pre_two {u v x y : List Nat} (h : u ++ x <+: v ++ y) : u <+: v ∨ v <+: u :=
  List.prefix_or_prefix_of_prefix ((List.prefix_append u x).trans h) (List.prefix_append v y)
theorem cat_drop {u v : List Nat} (h : u <+: v) : u ++ v.drop u.length = v := by
  obtain ⟨t, rfl⟩ := h
  rw [List.drop_left]
theorem MostIs.le_of {as : List Arc} {fs : List Rest} {mv : Nat → Rest → Int} (h : MostIs as fs fs.length 0 mv) {i : Nat} {r : Rest} (hi : fs[i]? = some r) {role : Nat} (h2 : role < 2) {s : Step} (hs : s ∈ stepsL as r) : gn role + mv (flip role s.2.2) s.1 ≤ mv role r :=
  (h.eq i r role hi h2 (.inl (List.getElem?_eq_some_iff.mp hi).1)).2 _ (List.mem_cons_of_mem _ (List.mem_map.mpr ⟨s, hs, rfl⟩))
theorem topo_idx {as : List Arc} {rs fs : List Rest} (topo : Topo as rs fs) {i : Nat} {r : Rest} (hi : fs[i]? = some r) {s : Step} (hs : s ∈ stepsL as r) : ∃ j, j < i ∧ fs[j]? = some s.1 := by
  obtain ⟨j, hj, e⟩ := List.mem_iff_getElem.mp (topo.ord i r hi s hs)
  rw [List.length_take] at hj
  refine ⟨j, by omega, ?_⟩
  rw [List.getElem_take] at e
  rw [List.getElem?_eq_getElem (by omega), e]
/-- no covered row is longer than the number -/
theorem most_hi {as : List Arc} (hw : WdA as) {rs fs : List Rest} {mv : Nat → Rest → Int} (topo : Topo as rs fs) (h : MostIs as fs fs.length 0 mv) : ∀ (n i : Nat) (r : Rest), i < n → fs[i]? = some r → ∀ role, role < 2 → ∀ x y, Cvs as role r x y → (x.length : Int) ≤ mv role r := by
  intro n
  induction n with
  | zero => intro i r hi; exact absurd hi (Nat.not_lt_zero _)
  | succ n ih =>
    intro i r hin hi role h2 x y hc
    have hlo := h.lo hi h2 (.inl (List.getElem?_eq_some_iff.mp hi).1)
    have next : ∀ {s : Step}, s ∈ stepsL as r → ∀ ro, ro < 2 → ∀ x y, Cvs as ro s.1 x y → (x.length : Int) ≤ mv ro s.1 := fun {s} hs => by
      obtain ⟨j, hj, hjs⟩ := topo_idx topo hi hs
      exact ih j s.1 (by omega) hjs
    have hr : role = 0 ∨ role = 1 := by omega
    rcases hr with rfl | rfl
    · obtain ⟨h1, h3, h4⟩ : Rw as r.1 x ∧ Rw as r.2.1 y ∧ txA as x <+: r.2.2 ++ txA as y := hc
      cases x with
      | nil => exact hlo
      | cons e x =>
        obtain ⟨a, ha, ea, hx⟩ := h1.of
        rw [txA_cons, wdA_at ha] at h4
        by_cases c : a.2.1 <+: r.2.2
        · have hs := step_0 ha ea c
          have q : Cvs as 0 (a.2.2, r.2.1, r.2.2.drop a.2.1.length) x y := ⟨hx, h3, by
            rw [← cat_drop c, List.append_assoc, pre_app] at h4
            exact h4⟩
          have l1 := next hs 0 (by decide) x y q
          have l2 := h.le_of hi h2 hs
          have e1 : gn 0 = 1 := rfl
          have e2 : flip 0 0 = 0 := rfl
          simp only [e1, e2] at l2
          simp only at l1
          rw [List.length_cons]
          omega
        · have p : r.2.2 <+: a.2.1 := (pre_two h4).resolve_left c
          have hs := step_1 ha ea c p
          have q : Cvs as 1 (r.2.1, a.2.2, a.2.1.drop r.2.2.length) x y := ⟨hx, h3, by
            rw [← cat_drop p, List.append_assoc, pre_app] at h4
            exact h4⟩
          have l1 := next hs 1 (by decide) x y q
          have l2 := h.le_of hi h2 hs
          have e1 : gn 0 = 1 := rfl
          have e2 : flip 0 1 = 1 := rfl
          simp only [e1, e2] at l2
          simp only at l1
          rw [List.length_cons]
          omega
    · obtain ⟨h1, h3, h4⟩ : Rw as r.2.1 x ∧ Rw as r.1 y ∧ r.2.2 ++ txA as x <+: txA as y := hc
      cases y with
      | nil =>
        rw [txA_nil, List.prefix_nil, List.append_eq_nil_iff] at h4
        have hx := txA_nil_of hw h1 h4.2
        subst hx
        unfold few at hlo
        rw [if_pos (.inr h4.1)] at hlo
        exact hlo
      | cons f y =>
        obtain ⟨a, ha, ea, hy⟩ := h3.of
        rw [txA_cons, wdA_at ha] at h4
        by_cases c : a.2.1 <+: r.2.2
        · have hs := step_0 ha ea c
          have q : Cvs as 1 (a.2.2, r.2.1, r.2.2.drop a.2.1.length) x y := ⟨h1, hy, by
            rw [← pre_app (u := a.2.1), ← List.append_assoc, cat_drop c]
            exact h4⟩
          have l1 := next hs 1 (by decide) x y q
          have l2 := h.le_of hi h2 hs
          have e1 : gn 1 = 0 := rfl
          have e2 : flip 1 0 = 1 := rfl
          simp only [e1, e2] at l2
          simp only at l1
          omega
        · have p : r.2.2 <+: a.2.1 := (pre_two h4).resolve_right c
          have hs := step_1 ha ea c p
          have q : Cvs as 0 (r.2.1, a.2.2, a.2.1.drop r.2.2.length) x y := ⟨h1, hy, by
            rw [← pre_app (u := r.2.2), ← List.append_assoc, cat_drop p]
            exact h4⟩
          have l1 := next hs 0 (by decide) x y q
          have l2 := h.le_of hi h2 hs
          have e1 : gn 1 = 0 := rfl
          have e2 : flip 1 1 = 0 := rfl
          simp only [e1, e2] at l2
          simp only at l1
          omega
/-- some covered row is as long as the number -/
theorem most_lo {as : List Arc} {rs fs : List Rest} {mv : Nat → Rest → Int} (topo : Topo as rs fs) (h : MostIs as fs fs.length 0 mv) : ∀ (n i : Nat) (r : Rest), i < n → fs[i]? = some r → ∀ role, role < 2 → 0 ≤ mv role r → ∃ x y, Cvs as role r x y ∧ (x.length : Int) = mv role r := by
  intro n
  induction n with
  | zero => intro i r hi; exact absurd hi (Nat.not_lt_zero _)
  | succ n ih =>
    intro i r hin hi role h2 h0
    have hm := (h.eq i r role hi h2 (.inl (List.getElem?_eq_some_iff.mp hi).1)).1
    unfold line at hm
    have hr : role = 0 ∨ role = 1 := by omega
    rcases List.mem_cons.mp hm with z | z
    · rcases hr with rfl | rfl
      · exact ⟨[], [], ⟨Rw.nil _, Rw.nil _, List.nil_prefix⟩, by rw [z]; rfl⟩
      · unfold few at z
        by_cases c : r.2.2 = []
        · rw [if_pos (.inr c)] at z
          exact ⟨[], [], ⟨Rw.nil _, Rw.nil _, by rw [c]; exact List.nil_prefix⟩, by rw [z]; rfl⟩
        · rw [if_neg (fun q => q.elim (by decide) c)] at z
          omega
    · obtain ⟨s, hs, e⟩ := List.mem_map.mp z
      obtain ⟨j, hj, hjs⟩ := topo_idx topo hi hs
      have next := ih j s.1 (by omega) hjs
      have low : ∀ ro, ro < 2 → -1 ≤ mv ro s.1 := fun ro hro => by
        have := h.lo hjs hro (.inl (List.getElem?_eq_some_iff.mp hjs).1)
        unfold few at this
        split at this <;> omega
      obtain ⟨a0, a, ha, ea, hq⟩ := step_of hs
      rcases hq with ⟨p, es, et⟩ | ⟨p, es, et⟩
      · rw [et] at e
        rcases hr with rfl | rfl
        · have e1 : gn 0 + mv (flip 0 0) s.1 = 1 + mv 0 s.1 := rfl
          have q0 : 0 ≤ mv 0 s.1 := by
            have := h.lo hjs (role := 0) (by decide) (.inl (List.getElem?_eq_some_iff.mp hjs).1)
            exact this
          obtain ⟨x, y, hc, hl⟩ := next 0 (by decide) q0
          rw [es] at hc
          obtain ⟨c1, c2, c3⟩ : Rw as a.2.2 x ∧ Rw as r.2.1 y ∧ txA as x <+: r.2.2.drop a.2.1.length ++ txA as y := hc
          refine ⟨a0 :: x, y, ⟨Rw.mk ha ea c1, c2, ?_⟩, by rw [List.length_cons]; omega⟩
          rw [txA_cons, wdA_at ha, ← cat_drop p, List.append_assoc, pre_app]
          exact c3
        · have e1 : gn 1 + mv (flip 1 0) s.1 = 0 + mv 1 s.1 := rfl
          obtain ⟨x, y, hc, hl⟩ := next 1 (by decide) (by omega)
          rw [es] at hc
          obtain ⟨c1, c2, c3⟩ : Rw as r.2.1 x ∧ Rw as a.2.2 y ∧ r.2.2.drop a.2.1.length ++ txA as x <+: txA as y := hc
          refine ⟨x, a0 :: y, ⟨c1, Rw.mk ha ea c2, ?_⟩, by omega⟩
          rw [txA_cons, wdA_at ha, ← cat_drop p, List.append_assoc, pre_app]
          exact c3
      · rw [et] at e
        rcases hr with rfl | rfl
        · have e1 : gn 0 + mv (flip 0 1) s.1 = 1 + mv 1 s.1 := rfl
          by_cases q0 : 0 ≤ mv 1 s.1
          · obtain ⟨x, y, hc, hl⟩ := next 1 (by decide) q0
            rw [es] at hc
            obtain ⟨c1, c2, c3⟩ : Rw as a.2.2 x ∧ Rw as r.2.1 y ∧ a.2.1.drop r.2.2.length ++ txA as x <+: txA as y := hc
            refine ⟨a0 :: x, y, ⟨Rw.mk ha ea c1, c2, ?_⟩, by rw [List.length_cons]; omega⟩
            rw [txA_cons, wdA_at ha, ← cat_drop p, List.append_assoc, pre_app]
            exact c3
          · have := low 1 (by decide)
            exact ⟨[], [], ⟨Rw.nil _, Rw.nil _, List.nil_prefix⟩, by rw [List.length_nil]; omega⟩
        · have e1 : gn 1 + mv (flip 1 1) s.1 = 0 + mv 0 s.1 := rfl
          obtain ⟨x, y, hc, hl⟩ := next 0 (by decide) (by omega)
          rw [es] at hc
          obtain ⟨c1, c2, c3⟩ : Rw as r.2.1 x ∧ Rw as a.2.2 y ∧ txA as x <+: a.2.1.drop r.2.2.length ++ txA as y := hc
          refine ⟨x, a0 :: y, ⟨c1, Rw.mk ha ea c2, ?_⟩, by omega⟩
          rw [txA_cons, wdA_at ha, ← cat_drop p, List.append_assoc, pre_app]
          exact c3
end J


set_option Elab.async false
set_option linter.all false
set_option maxRecDepth 100000
set_option maxHeartbeats 4000000
namespace J
open PySem L2
/-! ### covered rows from the states that are met -/
def CovRow (as : List Arc) (ms : List Nat) (X : List Nat) : Prop := ∃ (g i j : Nat) (x y : List Nat), X = i :: x ∧ g ∈ ms ∧ i ≠ j ∧ Rw as g (i :: x) ∧ Rw as g (j :: y) ∧ txA as (i :: x) <+: txA as (j :: y)
theorem txA_drop (as : List Arc) : ∀ r : List Nat, txA as r.dropLast <+: txA as r
  | [] => List.prefix_refl _
  | [i] => List.nil_prefix
  | i :: j :: r => by
    rw [List.dropLast_cons_of_ne_nil (by simp), txA_cons, txA_cons as i, pre_app]
    exact txA_drop as (j :: r)
/-- the first arcs of a covered row are covered -/
theorem CovRow.drop {as : List Arc} {ms : List Nat} {X : List Nat} (h : CovRow as ms X) (h2 : 2 ≤ X.length) : CovRow as ms X.dropLast := by
  obtain ⟨g, i, j, x, y, rfl, hg, hij, hx, hy, hp⟩ := h
  have hxn : x ≠ [] := fun z => by subst z; simp at h2
  refine ⟨g, i, j, x.dropLast, y, ?_, hg, hij, ?_, hy, ?_⟩
  · rw [List.dropLast_cons_of_ne_nil hxn]
  · have := hx.drop
    rwa [List.dropLast_cons_of_ne_nil hxn] at this
  · have := txA_drop as (i :: x)
    rw [List.dropLast_cons_of_ne_nil hxn] at this
    exact this.trans hp
theorem start_of {as : List Arc} {ms : List Nat} {s : Start} (h : s ∈ startsL as ms) : ∃ (g i j : Nat) (a b : Arc), g ∈ ms ∧ i ≠ j ∧ as[i]? = some a ∧ as[j]? = some b ∧ a.1 = g ∧ b.1 = g ∧ a.2.1 <+: b.2.1 ∧ s = ((a.2.2, b.2.2, b.2.1.drop a.2.1.length), g, i, j) := by
  obtain ⟨g, hg, h1⟩ := List.mem_flatMap.mp h
  obtain ⟨e, he, h2⟩ := List.mem_flatMap.mp h1
  obtain ⟨f, hf, h3⟩ := List.mem_flatMap.mp h2
  have ha := (lvs_atG he).2
  have hb := (lvs_atG hf).2
  rw [Nat.sub_zero] at ha hb
  unfold cell at h3
  split at h3
  · rename_i c
    rw [List.mem_singleton] at h3
    subst h3
    exact ⟨g, e.1, f.1, _, _, hg, c.1, ha, hb, rfl, rfl, preG.mp c.2, rfl⟩
  · cases h3
theorem start_mk {as : List Arc} {ms : List Nat} {g i j : Nat} {a b : Arc} (hg : g ∈ ms) (hij : i ≠ j) (ha : as[i]? = some a) (hb : as[j]? = some b) (ea : a.1 = g) (eb : b.1 = g) (p : a.2.1 <+: b.2.1) : ((a.2.2, b.2.2, b.2.1.drop a.2.1.length), g, i, j) ∈ startsL as ms := by
  have h1 := mem_lvsG (n := 0) (g := g) (i := i) (u := a.2.1) (b := a.2.2) (by rw [ha, ← ea])
  have h2 := mem_lvsG (n := 0) (g := g) (i := j) (u := b.2.1) (b := b.2.2) (by rw [hb, ← eb])
  rw [Nat.zero_add] at h1 h2
  refine List.mem_flatMap.mpr ⟨g, hg, List.mem_flatMap.mpr ⟨_, h1, List.mem_flatMap.mpr ⟨_, h2, ?_⟩⟩⟩
  unfold cell
  rw [if_pos ⟨hij, preG.mpr p⟩]
  exact List.mem_cons_self
/-- two rows from a start: the shorter first word's row behind -/
theorem start_rows {as : List Arc} {g i j : Nat} {a b : Arc} {x y : List Nat} (ha : as[i]? = some a) (hb : as[j]? = some b) (p : a.2.1 <+: b.2.1) :
    (txA as (i :: x) <+: txA as (j :: y) ↔ txA as x <+: b.2.1.drop a.2.1.length ++ txA as y) ∧ (txA as (j :: y) <+: txA as (i :: x) ↔ b.2.1.drop a.2.1.length ++ txA as y <+: txA as x) := by
  have e : txA as (j :: y) = a.2.1 ++ (b.2.1.drop a.2.1.length ++ txA as y) := by
    rw [txA_cons, wdA_at hb, ← List.append_assoc, cat_drop p]
  rw [e, txA_cons, wdA_at ha, pre_app, pre_app]
  exact ⟨Iff.rfl, Iff.rfl⟩
theorem look_hi {as : List Arc} (hw : WdA as) {ms : List Nat} {rs fs : List Rest} {mv : Nat → Rest → Int} {m : Int} (topo : Topo as rs fs) (h : MostIs as fs fs.length 0 mv) (hR : ∀ r, Rch as ms r ↔ r ∈ fs) (hm : IsMax (0 :: looks mv (startsL as ms)) m) {X : List Nat} (hX : CovRow as ms X) : (X.length : Int) ≤ m := by
  obtain ⟨g, i, j, x, y, rfl, hg, hij, hx, hy, hp⟩ := hX
  obtain ⟨a, ha, ea, hx2⟩ := hx.of
  obtain ⟨b, hb, eb, hy2⟩ := hy.of
  have hi := fun {s : Start} (hs : s ∈ startsL as ms) => List.mem_iff_getElem?.mp ((hR _).mp (Rch.start hs))
  have lk : ∀ {s : Start}, s ∈ startsL as ms → 1 + mv 0 s.1 ≤ m ∧ 1 + mv 1 s.1 ≤ m := fun {s} hs =>
    ⟨hm.2 _ (List.mem_cons_of_mem _ (List.mem_flatMap.mpr ⟨s, hs, by simp⟩)), hm.2 _ (List.mem_cons_of_mem _ (List.mem_flatMap.mpr ⟨s, hs, by simp⟩))⟩
  have hp2 := hp
  rw [txA_cons, txA_cons as j, wdA_at ha, wdA_at hb] at hp2
  rcases pre_two hp2 with p | p
  · have hs := start_mk hg hij ha hb ea eb p
    obtain ⟨n, hn⟩ := hi hs
    have q : Cvs as 0 (a.2.2, b.2.2, b.2.1.drop a.2.1.length) x y := ⟨hx2, hy2, (start_rows (g := g) ha hb p).1.mp hp⟩
    have l1 := most_hi hw topo h (n + 1) n _ (Nat.lt_succ_self n) hn 0 (by decide) x y q
    have l2 := (lk hs).1
    simp only at l1 l2
    rw [List.length_cons]
    omega
  · have hs := start_mk hg (Ne.symm hij) hb ha eb ea p
    obtain ⟨n, hn⟩ := hi hs
    have q : Cvs as 1 (b.2.2, a.2.2, a.2.1.drop b.2.1.length) x y := ⟨hx2, hy2, (start_rows (g := g) hb ha p).2.mp hp⟩
    have l1 := most_hi hw topo h (n + 1) n _ (Nat.lt_succ_self n) hn 1 (by decide) x y q
    have l2 := (lk hs).2
    simp only at l1 l2
    rw [List.length_cons]
    omega
theorem look_lo {as : List Arc} {ms : List Nat} {rs fs : List Rest} {mv : Nat → Rest → Int} {m : Int} (topo : Topo as rs fs) (h : MostIs as fs fs.length 0 mv) (hR : ∀ r, Rch as ms r ↔ r ∈ fs) (hm : IsMax (0 :: looks mv (startsL as ms)) m) : 0 ≤ m ∧ (0 < m → ∃ X, CovRow as ms X ∧ (X.length : Int) = m) := by
  refine ⟨hm.2 0 List.mem_cons_self, fun h0 => ?_⟩
  rcases List.mem_cons.mp hm.1 with z | z
  · omega
  obtain ⟨s, hs, hz⟩ := List.mem_flatMap.mp z
  obtain ⟨n, hn⟩ := List.mem_iff_getElem?.mp ((hR _).mp (Rch.start hs))
  obtain ⟨g, i, j, a, b, hg, hij, ha, hb, ea, eb, p, rfl⟩ := start_of hs
  simp only [List.mem_cons, List.not_mem_nil, or_false] at hz
  dsimp only at hn
  rcases hz with hz | hz
  · obtain ⟨x, y, hc, hl⟩ := most_lo topo h (n + 1) n _ (Nat.lt_succ_self n) hn 0 (by decide) (by omega)
    obtain ⟨c1, c2, c3⟩ : Rw as a.2.2 x ∧ Rw as b.2.2 y ∧ txA as x <+: b.2.1.drop a.2.1.length ++ txA as y := hc
    refine ⟨i :: x, ⟨g, i, j, x, y, rfl, hg, hij, Rw.mk ha ea c1, Rw.mk hb eb c2, (start_rows (g := g) ha hb p).1.mpr c3⟩, ?_⟩
    rw [List.length_cons]
    omega
  · obtain ⟨x, y, hc, hl⟩ := most_lo topo h (n + 1) n _ (Nat.lt_succ_self n) hn 1 (by decide) (by omega)
    obtain ⟨c1, c2, c3⟩ : Rw as b.2.2 x ∧ Rw as a.2.2 y ∧ b.2.1.drop a.2.1.length ++ txA as x <+: txA as y := hc
    refine ⟨j :: x, ⟨g, j, i, x, y, rfl, hg, Ne.symm hij, Rw.mk hb eb c1, Rw.mk ha ea c2, (start_rows (g := g) ha hb p).2.mpr c3⟩, ?_⟩
    rw [List.length_cons]
    omega
/-- where the steps come to no end, two rows of as many arcs as one likes go along, and without its last arc each is covered by the other -/
theorem endless {as : List Arc} {ms : List Nat} {fs : List Rest} (hf : ∀ r, Rch as ms r → ((∀ s ∈ stepsL as r, s.1 ∈ fs) ↔ r ∈ fs)) : ∀ (N : Nat) (r : Rest), Rch as ms r → r ∉ fs → ∃ x y, Rw as r.1 x ∧ Rw as r.2.1 y ∧ x.length + y.length = N ∧
    ((txA as x <+: r.2.2 ++ txA as y ∧ (y ≠ [] → r.2.2 ++ txA as y.dropLast <+: txA as x)) ∨ (r.2.2 ++ txA as y <+: txA as x ∧ x ≠ [] ∧ txA as x.dropLast <+: r.2.2 ++ txA as y)) := by
  intro N
  induction N with
  | zero => exact fun r _ _ => ⟨[], [], Rw.nil _, Rw.nil _, rfl, .inl ⟨List.nil_prefix, fun z => absurd rfl z⟩⟩
  | succ N ih =>
    intro r hr hn
    obtain ⟨s, hs, hsn⟩ : ∃ s, s ∈ stepsL as r ∧ s.1 ∉ fs := by
      apply Classical.byContradiction
      intro z
      exact hn ((hf r hr).mp fun s hs => Classical.byContradiction fun q => z ⟨s, hs, q⟩)
    obtain ⟨x, y, hx, hy, hl, hq⟩ := ih s.1 (Rch.step hr hs) hsn
    obtain ⟨i, a, ha, ea, hst⟩ := step_of hs
    rcases hst with ⟨p, es, _⟩ | ⟨p, es, _⟩
    · rw [es] at hx hy hq
      have e1 : ∀ z : List Nat, r.2.2 ++ z = a.2.1 ++ (r.2.2.drop a.2.1.length ++ z) := fun z => by rw [← List.append_assoc, cat_drop p]
      have e2 : txA as (i :: x) = a.2.1 ++ txA as x := by rw [txA_cons, wdA_at ha]
      refine ⟨i :: x, y, Rw.mk ha ea hx, hy, by rw [List.length_cons]; omega, ?_⟩
      rcases hq with ⟨q1, q2⟩ | ⟨q1, q2, q3⟩
      · left
        rw [e1, e2, pre_app]
        exact ⟨q1, fun z => by rw [e1, pre_app]; exact q2 z⟩
      · right
        rw [e1, e2, pre_app, List.dropLast_cons_of_ne_nil q2, txA_cons, wdA_at ha, pre_app]
        exact ⟨q1, by simp, q3⟩
    · rw [es] at hx hy hq
      have e2 : ∀ z : List Nat, txA as (i :: z) = r.2.2 ++ (a.2.1.drop r.2.2.length ++ txA as z) := fun z => by rw [txA_cons, wdA_at ha, ← List.append_assoc, cat_drop p]
      refine ⟨i :: y, x, Rw.mk ha ea hy, hx, by rw [List.length_cons]; omega, ?_⟩
      rcases hq with ⟨q1, q2⟩ | ⟨q1, q2, q3⟩
      · right
        rw [e2, pre_app]
        refine ⟨q1, by simp, ?_⟩
        cases y with
        | nil => exact List.nil_prefix
        | cons k y =>
          rw [List.dropLast_cons_of_ne_nil (by simp), e2, pre_app]
          exact q2 (by simp)
      · left
        rw [e2, pre_app]
        exact ⟨q1, fun _ => by rw [pre_app]; exact q3⟩
/-- then some covered row is as long as one likes -/
theorem endless_cov {as : List Arc} {ms : List Nat} {fs : List Rest} (hf : ∀ r, Rch as ms r → ((∀ s ∈ stepsL as r, s.1 ∈ fs) ↔ r ∈ fs)) (h : ∃ r, Rch as ms r ∧ r ∉ fs) (n : Nat) : ∃ X, CovRow as ms X ∧ n ≤ X.length := by
  have st : ∃ s, s ∈ startsL as ms ∧ s.1 ∉ fs := by
    obtain ⟨r, hr, hn⟩ := h
    induction hr with
    | start hs => exact ⟨_, hs, hn⟩
    | step hr hs ih => exact ih fun z => hn (((hf _ hr).mpr z) _ hs)
  obtain ⟨s, hs, hsn⟩ := st
  obtain ⟨x, y, hx, hy, hl, hq⟩ := endless hf (2 * n) s.1 (Rch.start hs) hsn
  obtain ⟨g, i, j, a, b, hg, hij, ha, hb, ea, eb, p, rfl⟩ := start_of hs
  have two : ∀ {x y : List Nat}, (txA as (i :: x) <+: txA as (j :: y) ↔ txA as x <+: b.2.1.drop a.2.1.length ++ txA as y) ∧ (txA as (j :: y) <+: txA as (i :: x) ↔ b.2.1.drop a.2.1.length ++ txA as y <+: txA as x) := fun {x y} => start_rows (g := g) ha hb p
  have hxr : Rw as g (i :: x) := Rw.mk ha ea hx
  have hyr : Rw as g (j :: y) := Rw.mk hb eb hy
  rcases hq with ⟨q1, q2⟩ | ⟨q1, q2, q3⟩
  · by_cases c : n ≤ x.length + 1
    · exact ⟨i :: x, ⟨g, i, j, x, y, rfl, hg, hij, hxr, hyr, two.1.mpr q1⟩, by rw [List.length_cons]; exact c⟩
    · have hyn : y ≠ [] := fun z => by subst z; simp at hl; omega
      refine ⟨j :: y.dropLast, ⟨g, j, i, y.dropLast, x, rfl, hg, Ne.symm hij, Rw.mk hb eb hy.drop, hxr, two.2.mpr (q2 hyn)⟩, ?_⟩
      rw [List.length_cons, List.length_dropLast]
      omega
  · by_cases c : n ≤ y.length + 1
    · exact ⟨j :: y, ⟨g, j, i, y, x, rfl, hg, Ne.symm hij, hyr, hxr, two.2.mpr q1⟩, by rw [List.length_cons]; exact c⟩
    · refine ⟨i :: x.dropLast, ⟨g, i, j, x.dropLast, y, rfl, hg, hij, Rw.mk ha ea hx.drop, hyr, two.1.mpr q3⟩, ?_⟩
      rw [List.length_cons, List.length_dropLast]
      omega
end J


set_option Elab.async false
set_option linter.all false
set_option maxRecDepth 100000
set_option maxHeartbeats 4000000
namespace J
open PySem L2
/-! ### the longest covered row, step by step -/
theorem step_ofN {as : List Arc} {r : Rest} {s : Step} (h : s ∈ stepsL as r) : ∃ (a : Arc), as[s.2.1]? = some a ∧ a.1 = r.1 ∧
    ((a.2.1 <+: r.2.2 ∧ s.1 = (a.2.2, r.2.1, r.2.2.drop a.2.1.length) ∧ s.2.2 = 0) ∨ (r.2.2 <+: a.2.1 ∧ s.1 = (r.2.1, a.2.2, a.2.1.drop r.2.2.length) ∧ s.2.2 = 1)) := by
  obtain ⟨e, he, h1⟩ := List.mem_flatMap.mp h
  have ha := (lvs_atG he).2
  rw [Nat.sub_zero] at ha
  unfold stepOf at h1
  split at h1
  · rename_i c
    rw [List.mem_singleton] at h1
    subst h1
    exact ⟨_, ha, rfl, .inl ⟨preG.mp c, rfl, rfl⟩⟩
  · split at h1
    · rename_i c
      rw [List.mem_singleton] at h1
      subst h1
      exact ⟨_, ha, rfl, .inr ⟨preG.mp c, rfl, rfl⟩⟩
    · cases h1
/-- where the line goes on -/
def GoL (mv : Nat → Rest → Int) (r : Rest) (role : Nat) : Prop := 0 < mv role r ∨ role = 1 ∧ r.2.2 ≠ []
/-- there is a best step -/
theorem best_ex {as : List Arc} {fs : List Rest} {mv : Nat → Rest → Int} (h : MostIs as fs fs.length 0 mv) {r : Rest} (hr : r ∈ fs) {role : Nat} (h2 : role < 2) (h0 : 0 ≤ mv role r) (hg : GoL mv r role) : ∃ s ∈ stepsL as r, mv (flip role s.2.2) s.1 = mv role r - gn role := by
  obtain ⟨i, hi⟩ := List.mem_iff_getElem?.mp hr
  have hm := (h.eq i r role hi h2 (.inl (List.getElem?_eq_some_iff.mp hi).1)).1
  unfold line at hm
  rcases List.mem_cons.mp hm with z | z
  · exfalso
    unfold few at z
    rcases hg with g | ⟨g1, g2⟩
    · split at z <;> omega
    · rw [if_neg (fun q => q.elim (by omega) g2)] at z
      omega
  · obtain ⟨s, hs, e⟩ := List.mem_map.mp z
    exact ⟨s, hs, by omega⟩
/-- what stays at each best step -/
theorem best_low {mv : Nat → Rest → Int} {r : Rest} {role : Nat} (h2 : role < 2) (h0 : 0 ≤ mv role r) (hg : GoL mv r role) : 0 ≤ mv role r - gn role ∨ role = 0 ∧ mv role r = 0 := by
  unfold gn
  have : role = 0 ∨ role = 1 := by omega
  rcases this with rfl | rfl
  · rcases hg with g | ⟨g, _⟩
    · left; simp; omega
    · cases g
  · left; simp; exact h0
/-- the rows grown along a line -/
def grw : List Nat × List Nat → List Step → List Nat × List Nat
  | p, [] => p
  | p, s :: l => if s.2.2 = 1 then grw (p.2, p.1 ++ [s.2.1]) l else grw (p.1 ++ [s.2.1], p.2) l
inductive Lin (as : List Arc) (mv : Nat → Rest → Int) : Rest → Nat → List Step → Nat → Prop
  | nil {r : Rest} {role : Nat} : ¬ GoL mv r role → Lin as mv r role [] role
  | cons {r : Rest} {role role' : Nat} {s : Step} {l : List Step} : GoL mv r role → s ∈ stepsL as r → mv (flip role s.2.2) s.1 = mv role r - gn role → Lin as mv s.1 (flip role s.2.2) l role' → Lin as mv r role (s :: l) role'
def cnt0 (role : Nat) (p : List Nat × List Nat) : List Nat := if role = 0 then p.1 else p.2
def oth0 (role : Nat) (p : List Nat × List Nat) : List Nat := if role = 0 then p.2 else p.1
/-- along a line the counted row grows to as many arcs as the number says, and stays covered -/
theorem lin_rows {as : List Arc} {mv : Nat → Rest → Int} {r : Rest} {role role' : Nat} {l : List Step} (h : Lin as mv r role l role') : role < 2 → 0 ≤ mv role r → role' < 2 ∧ ∃ x y, Cvs as role r x y ∧ (x.length : Int) = mv role r ∧ ∀ p, cnt0 role' (grw p l) = cnt0 role p ++ x ∧ oth0 role' (grw p l) = oth0 role p ++ y := by
  induction h with
  | @nil r role hn =>
    intro h2 h0
    have hz : mv role r = 0 := by
      have : ¬ 0 < mv role r := fun z => hn (.inl z)
      omega
    refine ⟨h2, [], [], ?_, by rw [hz]; rfl, fun p => ⟨by simp [grw], by simp [grw]⟩⟩
    have : role = 0 ∨ role = 1 := by omega
    rcases this with rfl | rfl
    · exact ⟨Rw.nil _, Rw.nil _, List.nil_prefix⟩
    · have hl : r.2.2 = [] := Classical.byContradiction fun z => hn (.inr ⟨rfl, z⟩)
      exact ⟨Rw.nil _, Rw.nil _, by rw [hl]; exact List.nil_prefix⟩
  | @cons r role role' s l hg hs e _ ih =>
    intro h2 h0
    have hlow : 0 ≤ mv role r - gn role := by
      rcases best_low h2 h0 hg with q | ⟨q1, q2⟩
      · exact q
      · subst q1
        rcases hg with g | ⟨g, _⟩
        · omega
        · cases g
    obtain ⟨a, ha, ea, hq⟩ := step_ofN hs
    have hr : role = 0 ∨ role = 1 := by omega
    rcases hq with ⟨p, es, et⟩ | ⟨p, es, et⟩
    · rw [et] at e ih
      rcases hr with rfl | rfl
      · obtain ⟨r1, x, y, hc, hl, hgr⟩ := ih (by decide) (by omega)
        rw [es] at hc
        obtain ⟨c1, c2, c3⟩ : Rw as a.2.2 x ∧ Rw as r.2.1 y ∧ txA as x <+: r.2.2.drop a.2.1.length ++ txA as y := hc
        have e1 : mv (flip 0 0) s.1 = mv 0 r - 1 := e
        refine ⟨r1, s.2.1 :: x, y, ⟨Rw.mk ha ea c1, c2, ?_⟩, by rw [List.length_cons]; omega, fun p2 => ?_⟩
        · rw [txA_cons, wdA_at ha, ← cat_drop p, List.append_assoc, pre_app]
          exact c3
        · obtain ⟨g1, g2⟩ := hgr (p2.1 ++ [s.2.1], p2.2)
          have eg : grw p2 (s :: l) = grw (p2.1 ++ [s.2.1], p2.2) l := by show (if s.2.2 = 1 then _ else _) = _; rw [et]; rfl
          rw [eg, g1, g2]
          exact ⟨by show (p2.1 ++ [s.2.1]) ++ x = p2.1 ++ (s.2.1 :: x); simp, rfl⟩
      · obtain ⟨r1, x, y, hc, hl, hgr⟩ := ih (by decide) (by omega)
        rw [es] at hc
        obtain ⟨c1, c2, c3⟩ : Rw as r.2.1 x ∧ Rw as a.2.2 y ∧ r.2.2.drop a.2.1.length ++ txA as x <+: txA as y := hc
        have e1 : mv (flip 1 0) s.1 = mv 1 r - 0 := e
        refine ⟨r1, x, s.2.1 :: y, ⟨c1, Rw.mk ha ea c2, ?_⟩, by omega, fun p2 => ?_⟩
        · rw [txA_cons, wdA_at ha, ← cat_drop p, List.append_assoc, pre_app]
          exact c3
        · obtain ⟨g1, g2⟩ := hgr (p2.1 ++ [s.2.1], p2.2)
          have eg : grw p2 (s :: l) = grw (p2.1 ++ [s.2.1], p2.2) l := by show (if s.2.2 = 1 then _ else _) = _; rw [et]; rfl
          rw [eg, g1, g2]
          exact ⟨rfl, by show (p2.1 ++ [s.2.1]) ++ y = p2.1 ++ (s.2.1 :: y); simp⟩
    · rw [et] at e ih
      rcases hr with rfl | rfl
      · obtain ⟨r1, x, y, hc, hl, hgr⟩ := ih (by decide) (by omega)
        rw [es] at hc
        obtain ⟨c1, c2, c3⟩ : Rw as a.2.2 x ∧ Rw as r.2.1 y ∧ a.2.1.drop r.2.2.length ++ txA as x <+: txA as y := hc
        have e1 : mv (flip 0 1) s.1 = mv 0 r - 1 := e
        refine ⟨r1, s.2.1 :: x, y, ⟨Rw.mk ha ea c1, c2, ?_⟩, by rw [List.length_cons]; omega, fun p2 => ?_⟩
        · rw [txA_cons, wdA_at ha, ← cat_drop p, List.append_assoc, pre_app]
          exact c3
        · obtain ⟨g1, g2⟩ := hgr (p2.2, p2.1 ++ [s.2.1])
          have eg : grw p2 (s :: l) = grw (p2.2, p2.1 ++ [s.2.1]) l := by show (if s.2.2 = 1 then _ else _) = _; rw [et]; rfl
          rw [eg, g1, g2]
          exact ⟨by show (p2.1 ++ [s.2.1]) ++ x = p2.1 ++ (s.2.1 :: x); simp, rfl⟩
      · obtain ⟨r1, x, y, hc, hl, hgr⟩ := ih (by decide) (by omega)
        rw [es] at hc
        obtain ⟨c1, c2, c3⟩ : Rw as r.2.1 x ∧ Rw as a.2.2 y ∧ txA as x <+: a.2.1.drop r.2.2.length ++ txA as y := hc
        have e1 : mv (flip 1 1) s.1 = mv 1 r - 0 := e
        refine ⟨r1, x, s.2.1 :: y, ⟨c1, Rw.mk ha ea c2, ?_⟩, by omega, fun p2 => ?_⟩
        · rw [txA_cons, wdA_at ha, ← cat_drop p, List.append_assoc, pre_app]
          exact c3
        · obtain ⟨g1, g2⟩ := hgr (p2.2, p2.1 ++ [s.2.1])
          have eg : grw p2 (s :: l) = grw (p2.2, p2.1 ++ [s.2.1]) l := by show (if s.2.2 = 1 then _ else _) = _; rw [et]; rfl
          rw [eg, g1, g2]
          exact ⟨rfl, by show (p2.1 ++ [s.2.1]) ++ y = p2.1 ++ (s.2.1 :: y); simp⟩
end J


set_option Elab.async false
set_option linter.all false
set_option maxRecDepth 100000
set_option maxHeartbeats 4000000
namespace J
open PySem L2
theorem mem_leav {as : List Arc} {g i : Nat} : i ∈ leav as g ↔ ∃ a, as[i]? = some a ∧ a.1 = g := by
  refine ⟨leav_mem, fun ⟨a, ha, e⟩ => ?_⟩
  unfold leav leavTo
  exact List.mem_filter.mpr ⟨List.mem_range.mpr (List.getElem?_eq_some_iff.mp ha).1, by rw [ha, decide_eq_true_eq]; exact congrArg some e⟩

def spJoined : Sp := fun vs H Q _ => ∃ (a r : Addr) (as : List Arc) (row : List Nat), vs = [.ref a, .ref r] ∧ ArcL H a as ∧ OkAll as ∧ H r = some (.lst (nats row)) ∧ RowIn as row ∧ row.length ≤ 10000 ∧
  ∀ H' : Hp, Same H H' → Q (.str (SX.S (rowText as row))) H'
def spEnd : Sp := fun vs H Q _ => ∃ (a r : Addr) (as : List Arc) (g : Nat) (row : List Nat), vs = [.ref a, .int (g : Int), .ref r] ∧ ArcL H a as ∧ H r = some (.lst (nats row)) ∧ RowIn as row ∧
  Q (.int (rowEnd as g row : Nat)) H

theorem wordAt_wdA (as : List Arc) : wordAt as = wdA as := by
  funext i
  unfold wordAt wdA
  rw [List.getD_eq_getElem?_getD]
  cases as[i]? <;> rfl
theorem rowText_txA (as : List Arc) (r : List Nat) : rowText as r = txA as r := by
  unfold rowText txA
  rw [wordAt_wdA]
theorem Rw.rowIn {as : List Arc} {g : Nat} {r : List Nat} (h : Rw as g r) : RowIn as r := by
  induction h with
  | nil => exact fun i hi => (nomatch hi)
  | cons h _ ih =>
    intro i hi
    rcases List.mem_cons.mp hi with rfl | q
    · exact (List.getElem?_eq_some_iff.mp h).1
    · exact ih i q
theorem rowEnd_cons {as : List Arc} {g i : Nat} {a : Arc} (h : as[i]? = some a) (r : List Nat) : rowEnd as g (i :: r) = rowEnd as a.2.2 r := by
  unfold rowEnd
  cases r with
  | nil => exact goalAt_eq h
  | cons j r =>
    rw [List.getLast?_cons_cons]
    cases e : (j :: r).getLast? with
    | none => simp at e
    | some k => rfl
theorem Rw.snoc_iff {as : List Arc} {j : Nat} : ∀ {r : List Nat} {g : Nat}, Rw as g (r ++ [j]) ↔ Rw as g r ∧ j ∈ leav as (rowEnd as g r)
  | [], g => by
    rw [mem_leav]
    constructor
    · intro h
      obtain ⟨a, h1, h2, _⟩ := Rw.of (i := j) (r := []) h
      exact ⟨Rw.nil g, a, h1, h2⟩
    · rintro ⟨_, a, h1, h2⟩
      exact Rw.mk h1 h2 (Rw.nil _)
  | i :: r, g => by
    constructor
    · intro h
      obtain ⟨a, h1, h2, h3⟩ := Rw.of (i := i) (r := r ++ [j]) h
      obtain ⟨h4, h5⟩ := Rw.snoc_iff.mp h3
      exact ⟨Rw.mk h1 h2 h4, by rw [rowEnd_cons h1]; exact h5⟩
    · rintro ⟨h, h5⟩
      obtain ⟨a, h1, h2, h3⟩ := h.of
      rw [rowEnd_cons h1] at h5
      exact Rw.mk (r := r ++ [j]) h1 h2 (Rw.snoc_iff.mpr ⟨h3, h5⟩)

theorem ok_l_end (T : Tx K mg) : FnOk P w K mg base CX0 1 T.f_l_end T.fd_l_end P_l_end spEnd := by
  refine T.F_l_end.ok sc_l_end (fun vs H Q E h => ?_) (fun cdv A outer s H vs Q E hr h => ?_)
  · obtain ⟨a, r, as, g, row, rfl, _⟩ := h
    rfl
  · obtain ⟨a, r, as, g, row, rfl, ⟨us, ha, harc⟩, hrow, hin, k⟩ := h
    refine ⟨_, (pss_one (ps_ret (pe_ifExp (pt_cmpR op_gt (pe_callB (call_len_seqK (K := K) rfl) rfl T.n_len (by decide +kernel) (pa_cons (pv 2) pa_nil)) pe_int (nomark _)) (pe_ix (ix_tupK (K := K) rfl) (pe_ix (ix_listK (K := K) rfl) (pv 0) (pe_ix (ix_listK (K := K) rfl) (pv 2) (pe_un un_neg pe_int) (fun _ _ => rfl)) (fun _ _ => rfl)) pe_int (fun _ _ => rfl)) (pv 1)))), ?_⟩
    refine ⟨_, rfl, r, _, rfl, .inl (SqL.of hrow), _, _, rfl, rfl, _, rfl, ?_⟩
    refine ite2 (fun c => ?_) (fun c => ?_)
    · have c1 := of_decide_eq_true c
      have hne : row ≠ [] := fun z => by rw [z] at c1; simp [nats] at c1
      obtain ⟨r0, j, rfl⟩ : ∃ r0 j, row = r0 ++ [j] := ⟨row.dropLast, row.getLast hne, (List.dropLast_concat_getLast hne).symm⟩
      have hj : j < as.length := hin j (by simp)
      obtain ⟨t, hut, htt⟩ := harc.2 j as[j] (List.getElem?_eq_getElem hj)
      refine ⟨_, rfl, _, rfl, _, rfl, r, _, _, _, rfl, rfl, SqL.of hrow, by rw [show nats (r0 ++ [j]) = nats r0 ++ [V.int (j : Int)] by simp [nats]]; exact atI_last _ _, a, us, _, _, rfl, rfl, SqL.of ha, atI_nat hut, t, _, _, _, rfl, rfl, SqT.of htt, rfl, ?_⟩
      have e : rowEnd as g (r0 ++ [j]) = as[j].2.2 := by
        unfold rowEnd
        rw [List.getLast?_concat]
        exact goalAt_eq (List.getElem?_eq_getElem hj)
      rw [e] at k
      exact k
    · have e : row = [] := by
        cases row with
        | nil => rfl
        | cons i r => exact absurd (decide_eq_true (by simp [nats])) c
      subst e
      exact ⟨_, rfl, k⟩

end J


set_option Elab.async false
set_option linter.all false
set_option maxRecDepth 100000
set_option maxHeartbeats 4000000
namespace J
open PySem L2
/-! ### rows that read, rows of arcs -/
theorem Rw.same {as : List Arc} {g g' i : Nat} {r : List Nat} (h : Rw as g (i :: r)) (h' : Rw as g' (i :: r)) : g = g' := by
  obtain ⟨a, h1, h2, _⟩ := h.of
  obtain ⟨b, e1, e2, _⟩ := h'.of
  rw [h1] at e1
  cases e1
  rw [← h2, ← e2]
theorem end_nil (as : List Arc) (g : Nat) : rowEnd as g [] = g := rfl
/-- rows of one text that come together: an even rest comes up -/
theorem two_even {as : List Arc} {ms : List Nat} (hw : WdA as) : ∀ (n : Nat) (r : Rest) (x y : List Nat), x.length + y.length ≤ n → Rch as ms r → Rw as r.1 x → Rw as r.2.1 y → txA as x = r.2.2 ++ txA as y → rowEnd as r.1 x = rowEnd as r.2.1 y → ∃ r, Rch as ms r ∧ evenB r = true := by
  intro n
  induction n with
  | zero =>
    intro r x y hn hr hx hy ht he
    obtain rfl : x = [] := List.length_eq_zero_iff.mp (by omega)
    obtain rfl : y = [] := List.length_eq_zero_iff.mp (by omega)
    refine ⟨r, hr, ?_⟩
    rw [end_nil, end_nil] at he
    rw [txA_nil, List.append_nil] at ht
    unfold evenB
    rw [← ht, he]
    simp
  | succ n ih =>
    intro r x y hn hr hx hy ht he
    cases x with
    | nil =>
      rw [txA_nil] at ht
      obtain ⟨h1, h2⟩ := List.append_eq_nil_iff.mp ht.symm
      obtain rfl := txA_nil_of hw hy h2
      refine ⟨r, hr, ?_⟩
      rw [end_nil, end_nil] at he
      unfold evenB
      rw [h1, he]
      simp
    | cons i x =>
      obtain ⟨a, ha, ea, hx'⟩ := hx.of
      rw [txA_cons, wdA_at ha] at ht
      rw [rowEnd_cons ha] at he
      rw [List.length_cons] at hn
      by_cases c : a.2.1 <+: r.2.2
      · refine ih _ x y (by omega) (.step hr (step_0 ha ea c)) hx' hy ?_ he
        dsimp only
        refine List.append_cancel_left (as := a.2.1) ?_
        rw [← List.append_assoc, cat_drop c]
        exact ht
      · have hp : r.2.2 <+: a.2.1 := (pre_two (u := a.2.1) (v := r.2.2) (x := txA as x) (y := txA as y) (by rw [ht]; exact List.prefix_refl _)).resolve_left c
        refine ih _ y x (by omega) (.step hr (step_1 ha ea c hp)) hy hx' ?_ he.symm
        dsimp only
        refine List.append_cancel_left (as := r.2.2) ?_
        rw [← List.append_assoc, cat_drop hp]
        exact ht.symm
theorem alike_even {as : List Arc} {ms : List Nat} (hw : WdA as) (hms : ∀ x, x ∈ ms ↔ Reach as x) : ∀ (r r' : List Nat) (g : Nat), Reach as g → Rw as g r → Rw as g r' → r ≠ r' → txA as r = txA as r' → rowEnd as g r = rowEnd as g r' → ∃ r, Rch as ms r ∧ evenB r = true
  | [], r', g, _, h1, h2, hne, ht, _ => absurd (txA_nil_of hw h2 (by rw [← ht]; rfl)).symm hne
  | i :: r, [], g, _, h1, h2, hne, ht, _ => absurd (txA_nil_of hw h1 (by rw [ht]; rfl)) hne
  | i :: r, j :: r', g, hg, h1, h2, hne, ht, he => by
    obtain ⟨a, ha, ea, h1'⟩ := h1.of
    obtain ⟨b, hb, eb, h2'⟩ := h2.of
    rw [txA_cons, txA_cons, wdA_at ha, wdA_at hb] at ht
    rw [rowEnd_cons ha, rowEnd_cons hb] at he
    by_cases c : i = j
    · subst c
      rw [ha] at hb
      cases hb
      exact alike_even hw hms r r' a.2.2 (Reach.step (List.mem_of_getElem? ha) (by rw [ea]; exact hg)) h1' h2' (fun z => hne (by rw [z])) (List.append_cancel_left ht) he
    · rcases pre_two (u := a.2.1) (v := b.2.1) (x := txA as r) (y := txA as r') (by rw [ht]; exact List.prefix_refl _) with p | p
      · refine two_even hw _ _ r r' (Nat.le_refl _) (.start (start_mk ((hms g).mpr hg) c ha hb ea eb p)) h1' h2' ?_ he
        dsimp only
        refine List.append_cancel_left (as := a.2.1) ?_
        rw [← List.append_assoc, cat_drop p]
        exact ht
      · refine two_even hw _ _ r' r (Nat.le_refl _) (.start (start_mk ((hms g).mpr hg) (fun z => c z.symm) hb ha eb ea p)) h2' h1' ?_ he.symm
        dsimp only
        refine List.append_cancel_left (as := b.2.1) ?_
        rw [← List.append_assoc, cat_drop p]
        exact ht.symm
theorem rowEnd_le {as : List Arc} (oka : OkAll as) {g : Nat} (hg : g ≤ 63) (r : List Nat) : rowEnd as g r ≤ 63 := by
  unfold rowEnd
  split
  · exact goalAt_le oka _
  · exact hg
/-- one-way: readings end apart -/
theorem ends_nodup {as : List Arc} {ms : List Nat} (oka : OkAll as) (hw : WdA as) (hms : ∀ x, x ∈ ms ↔ Reach as x) (hno : ∀ r, Rch as ms r → evenB r = false) {g : Nat} (hg : Reach as g) {u : List Nat} {rs : List (List Nat)} (hnd : rs.Nodup) (hrs : ∀ r ∈ rs, Rw as g r ∧ u = txA as r) : (rs.map (rowEnd as g)).Nodup := by
  refine List.pairwise_map.mpr (hnd.imp_of_mem fun {r r'} hr hr' hne he => ?_)
  obtain ⟨h1, e1⟩ := hrs r hr
  obtain ⟨h2, e2⟩ := hrs r' hr'
  obtain ⟨q, hq, ev⟩ := alike_even hw hms r r' g hg h1 h2 hne (by rw [← e1, ← e2]) he
  rw [hno q hq] at ev
  cases ev
theorem few_read {as : List Arc} {ms : List Nat} (oka : OkAll as) (hw : WdA as) (hms : ∀ x, x ∈ ms ↔ Reach as x) (hno : ∀ r, Rch as ms r → evenB r = false) {g : Nat} (hg : Reach as g) {u : List Nat} {rs : List (List Nat)} (hnd : rs.Nodup) (hrs : ∀ r ∈ rs, Rw as g r ∧ u = txA as r) : rs.length ≤ 64 := by
  have h := nodup_le 64 _ (ends_nodup oka hw hms hno hg hnd hrs) fun x hx => by
    obtain ⟨r, _, rfl⟩ := List.mem_map.mp hx
    have := rowEnd_le oka (Reach.le oka hg) r
    omega
  rw [List.length_map] at h
  exact h
end J


set_option Elab.async false
set_option linter.all false
set_option maxRecDepth 100000
set_option maxHeartbeats 4000000
namespace J
open PySem L2
def RowsAt (H : Hp) (P : Addr → Prop) (vs : List V) (rs : List (List Nat)) : Prop := vs.length = rs.length ∧ ∀ (i : Nat) r, rs[i]? = some r → ∃ a, vs[i]? = some (.ref a) ∧ H a = some (.lst (nats r)) ∧ P a
theorem RowsAt.nil (H : Hp) (P : Addr → Prop) : RowsAt H P [] [] := ⟨rfl, fun i e h => by simp at h⟩
theorem RowsAt.snoc {H : Hp} {P : Addr → Prop} {us : List V} {rs : List (List Nat)} (h : RowsAt H P us rs) {a : Addr} {r : List Nat} (ha : H a = some (.lst (nats r))) (p : P a) : RowsAt H P (us ++ [.ref a]) (rs ++ [r]) := by
  refine ⟨by simp [h.1], fun i x e => ?_⟩
  by_cases hi : i < rs.length
  · rw [List.getElem?_append_left hi] at e
    rw [List.getElem?_append_left (by rw [h.1]; exact hi)]
    exact h.2 i x e
  · rw [List.getElem?_append_right (by omega)] at e
    rw [List.getElem?_append_right (by rw [h.1]; omega), h.1]
    have h0 : i - rs.length = 0 := by
      have := (List.getElem?_eq_some_iff.mp e).1
      rw [List.length_singleton] at this
      omega
    rw [h0] at e ⊢
    simp at e
    subst e
    exact ⟨a, rfl, ha, p⟩
theorem RowsAt.to {H H' : Hp} {P : Addr → Prop} {us : List V} {rs : List (List Nat)} (h : RowsAt H P us rs) (s : ∀ a o, P a → H a = some o → H' a = some o) : RowsAt H' P us rs := ⟨h.1, fun i r e => by
  obtain ⟨a, h1, h2, h3⟩ := h.2 i r e
  exact ⟨a, h1, s _ _ h3 h2, h3⟩⟩
theorem RowsAt.weak {H : Hp} {P P' : Addr → Prop} {us : List V} {rs : List (List Nat)} (h : RowsAt H P us rs) (s : ∀ a, P a → P' a) : RowsAt H P' us rs := ⟨h.1, fun i r e => by
  obtain ⟨a, h1, h2, h3⟩ := h.2 i r e
  exact ⟨a, h1, h2, s _ h3⟩⟩
end J


set_option Elab.async false
set_option linter.all false
set_option maxRecDepth 100000
set_option maxHeartbeats 4000000
namespace J
open PySem L2
section
variable {P : Program} {w : World} {K : PySem.W.Frag} {mg : Str → Option Value} {base : Heap}
theorem ok_l_joined (T : Tx K mg) : FnOk P w K mg base CX0 1 T.f_l_joined T.fd_l_joined P_l_joined spJoined := by
  refine T.F_l_joined.ok sc_l_joined (fun vs H Q E h => ?_) (fun cdv A outer s H vs Q E hr h => ?_)
  · obtain ⟨a, r, as, row, rfl, _⟩ := h
    rfl
  · obtain ⟨a, r, as, row, rfl, ⟨us, ha, harc⟩, hok, hrow, hin, hl, k⟩ := h
    refine ⟨_, (pss_one (ps_ret (pe_join pe_str (pe_lc (own := [("_law_at", 2)]) (g := (gName 2)) rfl sc_l_joined.nd (pi_list (pv 1)) (blkOk_by (N := N_l_joined) (sc := defScope s_l_joined) (by decide +kernel)) (fun _ _ _ _ _ => (pg_name (i := 2) sc_l_joined.nd rfl (Or.inl rfl))) (fun _ _ _ _ _ => pts_nil) (fun _ _ _ _ _ => (pe_ix (ix_tupK (K := K) rfl) (pe_ix (ix_listK (K := K) rfl) (pv 0) (pv 2) (fun _ _ => rfl)) pe_int (fun _ _ => rfl))))))), ?_⟩
    refine ⟨⟨_, rfl⟩, _, rfl, r, rfl, ⟨_, SqL.of hrow⟩, fun D hD => lc_list (K := K) (a := r) (xs := nats row) (fun i H' => H' D = some (.lst (((row.take i).map fun j => SX.S (wordAt as j)).map V.str)) ∧ Same H H') ⟨upd_same, Same.new _ hD⟩ (fun i H' _ ⟨_, sm⟩ => SqL.of (sm _ _ hrow)) ?_ ?_⟩
    · rintro i y H2 hy ⟨hDl, sm⟩
      rw [List.getElem?_map] at hy
      cases ej : row[i]? with
      | none => rw [ej] at hy; cases hy
      | some j =>
        rw [ej] at hy
        cases hy
        have hj : j < as.length := hin j (List.mem_of_getElem? ej)
        obtain ⟨t, hut, htt⟩ := harc.2 j as[j] (List.getElem?_eq_getElem hj)
        have hi : i < row.length := (List.getElem?_eq_some_iff.mp ej).1
        refine ⟨rfl, _, rfl, _, rfl, a, us, _, _, rfl, rfl, SqL.of (sm _ _ ha), atI_nat hut, t, _, _, _, rfl, rfl, SqT.of (sm _ _ htt), rfl, _, hDl, lt_size (by simp; omega), ?_, sm.updNew hD⟩
        rw [upd_same, ← take_snoc ej, ← wordAt_eq (List.getElem?_eq_getElem hj)]
        simp
    · rintro H2 ⟨hDl, sm⟩
      rw [show (nats row).length = row.length by simp [nats], List.take_length] at hDl
      refine ⟨_, _, row.map fun j => SX.S (wordAt as j), rfl, rfl, .inl (SqL.of hDl), ?_, ?_⟩
      · have := rowText_len hok row
        have e : ((row.map fun j => SX.S (wordAt as j)).map (·.length)).sum = (rowText as row).length := by
          unfold rowText
          rw [List.length_flatten, List.map_map, List.map_map]
          congr 1
        rw [e, emptyS, SX.S_len]
        simp
        omega
      · have e : (row.map fun j => SX.S (wordAt as j)) = (row.map (wordAt as)).map SX.S := by rw [List.map_map]; rfl
        rw [e, emptyS, join_flat]
        exact k _ sm
end
end J


set_option Elab.async false
set_option linter.all false
set_option maxRecDepth 100000
set_option maxHeartbeats 4000000
namespace J
open PySem L2
/-! ### the law's rows, by their texts' length -/
/-- just the rows from g whose texts have at most n signs -/
def AllR (as : List Arc) (g n : Nat) (F : List (List Nat)) : Prop := F.Nodup ∧ ∀ r, r ∈ F ↔ Rw as g r ∧ (txA as r).length ≤ n
/-- what stands while they are found -/
structure Br (as : List Arc) (g n : Nat) (F : List (List Nat)) (t : Nat) : Prop where
  nil : [] ∈ F
  nd : F.Nodup
  mem : ∀ r ∈ F, Rw as g r ∧ (txA as r).length ≤ n
  par : ∀ r j, r ++ [j] ∈ F → ∃ k, k < t ∧ F[k]? = some r
  cpl : ∀ k r, k < t → F[k]? = some r → ∀ j ∈ leav as (rowEnd as g r), (txA as (r ++ [j])).length ≤ n → r ++ [j] ∈ F
theorem Br.init (as : List Arc) (g n : Nat) : Br as g n [[]] 0 := ⟨by simp, by simp, fun r hr => by rw [List.mem_singleton.mp hr]; exact ⟨.nil g, Nat.zero_le _⟩, fun r j h => by simp at h, fun k r h => absurd h (Nat.not_lt_zero _)⟩
theorem txA_snoc (as : List Arc) (r : List Nat) (j : Nat) : txA as (r ++ [j]) = txA as r ++ wdA as j := by
  unfold txA
  rw [List.map_append, List.flatten_append]
  simp
/-- what comes of one row -/
def ext (as : List Arc) (n : Nat) (r l : List Nat) : List (List Nat) := (l.filter fun j => decide ((txA as (r ++ [j])).length ≤ n)).map fun j => r ++ [j]
theorem ext_snoc (as : List Arc) (n : Nat) (r l : List Nat) (j : Nat) : ext as n r (l ++ [j]) = ext as n r l ++ (if (txA as (r ++ [j])).length ≤ n then [r ++ [j]] else []) := by
  unfold ext
  rw [List.filter_append, List.map_append]
  congr 1
  by_cases c : (txA as (r ++ [j])).length ≤ n
  · simp [c]
  · simp [c]
theorem ext_len (as : List Arc) (n : Nat) (r l : List Nat) : (ext as n r l).length ≤ l.length := by
  unfold ext
  rw [List.length_map]
  exact List.length_filter_le _ _
theorem mem_ext {as : List Arc} {n : Nat} {r l s : List Nat} : s ∈ ext as n r l ↔ ∃ j ∈ l, (txA as (r ++ [j])).length ≤ n ∧ s = r ++ [j] := by
  unfold ext
  rw [List.mem_map]
  constructor
  · rintro ⟨j, hj, rfl⟩
    obtain ⟨h1, h2⟩ := List.mem_filter.mp hj
    exact ⟨j, h1, of_decide_eq_true h2, rfl⟩
  · rintro ⟨j, h1, h2, rfl⟩
    exact ⟨j, List.mem_filter.mpr ⟨h1, decide_eq_true h2⟩, rfl⟩
theorem leav_nodup (as : List Arc) (g : Nat) : (leav as g).Nodup := by
  unfold leav leavTo
  exact List.Pairwise.filter _ List.nodup_range
theorem Br.step {as : List Arc} {g n : Nat} {F : List (List Nat)} {t : Nat} (h : Br as g n F t) {r : List Nat} (hr : F[t]? = some r) : Br as g n (F ++ ext as n r (leav as (rowEnd as g r))) (t + 1) := by
  have hm := List.mem_of_getElem? hr
  have ht := (List.getElem?_eq_some_iff.mp hr).1
  have fresh : ∀ j, r ++ [j] ∉ F := fun j z => by
    obtain ⟨k, hk, e⟩ := h.par r j z
    obtain ⟨i1, e1⟩ := List.getElem?_eq_some_iff.mp e
    obtain ⟨i2, e2⟩ := List.getElem?_eq_some_iff.mp hr
    have := (List.getElem_inj h.nd).mp (e1.trans e2.symm)
    omega
  refine ⟨List.mem_append_left _ h.nil, ?_, fun s hs => ?_, fun s j hs => ?_, fun k s hk e j hj hl => ?_⟩
  · rw [List.nodup_append]
    refine ⟨h.nd, ?_, fun a ha b hb z => ?_⟩
    · unfold ext
      refine List.pairwise_map.mpr (((leav_nodup as _).filter _).imp fun hne z => hne ?_)
      have := List.append_cancel_left z
      injection this
    · obtain ⟨j, _, _, rfl⟩ := mem_ext.mp hb
      rw [z] at ha
      exact fresh j ha
  · rcases List.mem_append.mp hs with q | q
    · exact h.mem s q
    · obtain ⟨j, hj, hl, rfl⟩ := mem_ext.mp q
      exact ⟨Rw.snoc_iff.mpr ⟨(h.mem r hm).1, hj⟩, hl⟩
  · rcases List.mem_append.mp hs with q | q
    · obtain ⟨k, hk, e⟩ := h.par s j q
      exact ⟨k, by omega, by rw [List.getElem?_append_left (List.getElem?_eq_some_iff.mp e).1]; exact e⟩
    · obtain ⟨j', _, _, e⟩ := mem_ext.mp q
      have e1 := List.append_inj_left' e rfl
      subst e1
      exact ⟨t, Nat.lt_succ_self _, by rw [List.getElem?_append_left ht]; exact hr⟩
  · rw [List.getElem?_append_left (by omega)] at e
    by_cases c : k < t
    · exact List.mem_append_left _ (h.cpl k s c e j hj hl)
    · obtain rfl : k = t := by omega
      rw [hr] at e
      cases e
      exact List.mem_append_right _ (mem_ext.mpr ⟨j, hj, hl, rfl⟩)
theorem Br.all {as : List Arc} {g n : Nat} {F : List (List Nat)} (h : Br as g n F F.length) : AllR as g n F := by
  refine ⟨h.nd, fun r => ⟨h.mem r, ?_⟩⟩
  have key : ∀ (m : Nat) (r : List Nat), r.length = m → Rw as g r → (txA as r).length ≤ n → r ∈ F := by
    intro m
    induction m with
    | zero =>
      intro r hl _ _
      rw [List.length_eq_zero_iff.mp hl]
      exact h.nil
    | succ m ih =>
      intro r hl hw ht
      have hne : r ≠ [] := fun z => by rw [z] at hl; cases hl
      have e := (List.dropLast_concat_getLast hne).symm
      generalize r.dropLast = r0 at e
      generalize r.getLast hne = j at e
      subst e
      obtain ⟨h1, h2⟩ := Rw.snoc_iff.mp hw
      have hl2 : (txA as r0).length ≤ n := by
        rw [txA_snoc, List.length_append] at ht
        omega
      have hm := ih r0 (by rw [List.length_append, List.length_singleton] at hl; omega) h1 hl2
      obtain ⟨k, hk⟩ := List.mem_iff_getElem?.mp hm
      exact h.cpl k r0 (List.getElem?_eq_some_iff.mp hk).1 hk j h2 ht
  exact fun ⟨h1, h2⟩ => key _ r rfl h1 h2
theorem Rw.len_tx {as : List Arc} (hw : WdA as) {g : Nat} {r : List Nat} (h : Rw as g r) : r.length ≤ (txA as r).length := by
  induction h with
  | nil => exact Nat.le_refl _
  | cons h _ ih =>
    have := hw _ (List.mem_of_getElem? h)
    rw [txA_cons, wdA_at h, List.length_append, List.length_cons]
    omega
theorem wdA_all {as : List Arc} (h : OkAll as) : WdA as := fun a ha => (h.2 a ha).2.1
theorem leav_len (as : List Arc) (g : Nat) : (leav as g).length ≤ as.length := leavTo_len as g _
def spAllRows : Sp := fun vs H Q _ => ∃ (a : Addr) (as : List Arc) (g n m : Nat), vs = [.ref a, .int (g : Int), .int (n : Int), .int (m : Int)] ∧ ArcL H a as ∧ OkAll as ∧ as.length ≤ 28 ∧ n ≤ 100 ∧ 1 ≤ m ∧ m ≤ 1000 ∧
  (1 ≤ n → ∀ H', Same H H' → Q .non H') ∧ ∀ H' p us F, Same H H' → H p = none → H' p = some (.lst us) → RowsAt H' (fun b => b ≠ p ∧ H b = none) us F → AllR as g n F → F.length ≤ m → Q (.ref p) H'
section
variable {P : Program} {w : World} {K : PySem.W.Frag} {mg : Str → Option Value} {base : Heap}
theorem ok_l_all_rows (T : Tx K mg) : FnOk P w K mg base CX0 2 T.f_l_all_rows T.fd_l_all_rows P_l_all_rows spAllRows := by
  have G_l_leaving : FnOk P w K mg base CX0 1 T.f_l_leaving T.fd_l_leaving P_l_leaving spLeaving := ok_l_leaving T
  have G_l_joined : FnOk P w K mg base CX0 1 T.f_l_joined T.fd_l_joined P_l_joined spJoined := ok_l_joined T
  have G_l_end : FnOk P w K mg base CX0 1 T.f_l_end T.fd_l_end P_l_end spEnd := ok_l_end T
  refine T.F_l_all_rows.ok sc_l_all_rows (fun vs H Q E h => ?_) (fun cdv A outer s H vs Q E hr h => ?_)
  · obtain ⟨a, as, g, n, m, rfl, _⟩ := h
    rfl
  · obtain ⟨a, as, g, n, m, rfl, hA, oka, hal, hn6, hm1, hm, kn, kp⟩ := h
    refine ⟨_, (pss_cons (ps_set (i := 4) sc_l_all_rows.nd rfl (Or.inl rfl) (pe_lst (pa_cons (pe_lst pa_nil) pa_nil)))
        (pss_cons (ps_set (i := 5) sc_l_all_rows.nd rfl (Or.inl rfl) pe_int)
        (pss_cons (ps_while PassesOwn.never (pt_cmpR op_lt (pv 5) (pe_callB (call_len_seqK (K := K) rfl) rfl T.n_len (by decide +kernel) (pa_cons (pv 4) pa_nil)) (nomark _)) (pss_cons (ps_set (i := 6) sc_l_all_rows.nd rfl (Or.inl rfl) (pe_ix (ix_listK (K := K) rfl) (pv 4) (pv 5) (fun _ _ => rfl)))
        (pss_cons (ps_set (i := 5) sc_l_all_rows.nd rfl (Or.inl rfl) (pe_op op_add (pv 5) pe_int))
        (pss_cons (ps_for PassesOwn.never rfl (pi_list (pe_call G_l_leaving (hr.mono (by decide)) rfl T.m_l_leaving T.F_l_leaving.kp T.b_l_leaving .nil pass0 (pa_cons (pv 0) (pa_cons (pe_call G_l_end (hr.mono (by decide)) rfl T.m_l_end T.F_l_end.kp T.b_l_end .nil pass0 (pa_cons (pv 0) (pa_cons (pv 1) (pa_cons (pv 6) pa_nil)))) pa_nil)))) (pg_name (i := 7) sc_l_all_rows.nd rfl (Or.inl rfl)) (pss_one (ps_if (pt_cmpR op_le (pe_op op_add (pe_callB call_len_str rfl T.n_len (by decide +kernel) (pa_cons (pe_call G_l_joined (hr.mono (by decide)) rfl T.m_l_joined T.F_l_joined.kp T.b_l_joined .nil pass0 (pa_cons (pv 0) (pa_cons (pv 6) pa_nil))) pa_nil)) (pe_callB call_len_str rfl T.n_len (by decide +kernel) (pa_cons (pe_ix (ix_tupK (K := K) rfl) (pe_ix (ix_listK (K := K) rfl) (pv 0) (pv 7) (fun _ _ => rfl)) pe_int (fun _ _ => rfl)) pa_nil))) (pv 2) (nomark _)) (pss_one (ps_expr (pe_bm PySem.F.plainAttrs_list PySem.F.slot_list_append PySem.F.type_list_append mt_append (pv 4) (pa_cons (pe_op op_cat (pv 6) (pe_lst (pa_cons (pv 7) pa_nil))) pa_nil)))) pss_nil)))
        (pss_one (ps_if (pt_cmpR op_gt (pe_callB (call_len_seqK (K := K) rfl) rfl T.n_len (by decide +kernel) (pa_cons (pv 4) pa_nil)) (pv 3) (nomark _)) (pss_one (ps_ret pe_non)) pss_nil))))))
        (pss_one (ps_ret (pv 4)))))), ?_⟩
    have hw := wdA_all oka
    refine ⟨le_size (by simp), fun a1 h1 => ⟨le_size (by simp), fun F h2 => ?_⟩⟩
    have s1 : Same H (upd H a1 (.lst [])) := Same.new _ h1
    have s2 := s1.trans (Same.new (.lst [V.ref a1]) h2)
    have hF0 : H F = none := s1.free h2
    have n12 : a1 ≠ F := fun z => by rw [z, upd_same] at h2; cases h2
    refine while_by (fun σ H' => ∃ (us : List V) (Fs : List (List Nat)) (t : Nat) (v6 v7 : Option V), σ = [some (.ref a), some (.int (g : Int)), some (.int (n : Int)), some (.int (m : Int)), some (.ref F), some (.int (t : Int)), v6, v7] ∧ H' F = some (.lst us) ∧ RowsAt H' (fun b => b ≠ F ∧ H b = none) us Fs ∧ Same H H' ∧ Br as g n Fs t ∧ t ≤ Fs.length ∧ Fs.length ≤ m)
      (fun σ H' => match σ with | [_, _, _, _, _, some (.int t), _, _] => 1001 - t.toNat | _ => 0) ?_ ?_ ?_
    · refine ⟨[.ref a1], [[]], 0, none, none, rfl, upd_same, ?_, s2, Br.init as g n, Nat.zero_le _, hm1⟩
      exact (RowsAt.nil _ _).snoc (r := []) (by rw [upd_ne n12]; exact upd_same) ⟨n12, h1⟩
    · rintro σ H1 ⟨us, Fs, t, v6, v7, rfl, hF, hR, sm, B, htl, hlm⟩
      refine ⟨_, rfl, _, rfl, F, _, rfl, .inl (SqL.of hF), _, _, rfl, rfl, _, rfl, ?_⟩
      have el := hR.1
      refine ite2 (fun c => ?_) (fun c => ?_)
      · have c1 : t < Fs.length := by
          have q := of_decide_eq_true c
          omega
        obtain ⟨ra, e1, e2, e3⟩ := hR.2 t _ (List.getElem?_eq_getElem c1)
        have hrr := List.getElem?_eq_getElem c1
        generalize Fs[t] = r at *
        obtain ⟨hrw, hrl⟩ := B.mem r (List.mem_of_getElem? hrr)
        have hrlen := hrw.len_tx hw
        refine ⟨_, rfl, _, rfl, F, _, _, _, rfl, rfl, SqL.of hF, atI_nat e1, ?_⟩
        refine ⟨_, rfl, _, _, rfl, rfl, ?_⟩
        refine ⟨_, rfl, _, rfl, _, rfl, _, rfl, a, ra, as, g, r, rfl, hA.same sm, e2, hrw.rowIn, a, as, rowEnd as g r, rfl, hA.same sm, by omega, fun H2 L s2 hL0 hL => ?_⟩
        have ett : ((t : Nat) : Int) + 1 = ((t + 1 : Nat) : Int) := by omega
        have nLF : L ≠ F := hp_ne hF hL0
        refine ⟨L, rfl, ⟨_, SqL.of hL⟩, for_list (K := K) (a := L) (xs := nats (leav as (rowEnd as g r))) (fun i σ H' => ∃ (us2 : List V) (v7 : Option V), σ = [some (.ref a), some (.int (g : Int)), some (.int (n : Int)), some (.int (m : Int)), some (.ref F), some (.int ((t + 1 : Nat) : Int)), some (.ref ra), v7] ∧ H' F = some (.lst us2) ∧ RowsAt H' (fun b => b ≠ F ∧ H b = none) us2 (Fs ++ ext as n r ((leav as (rowEnd as g r)).take i)) ∧ Same H H' ∧ H' L = some (.lst (nats (leav as (rowEnd as g r)))) ∧ H' ra = some (.lst (nats r))) ?_ ?_ ?_ ?_⟩
        · refine ⟨us, v7, by rw [← ett]; rfl, s2 _ _ hF, ?_, sm.trans s2, hL, s2 _ _ e2⟩
          have : ext as n r ((leav as (rowEnd as g r)).take 0) = [] := rfl
          rw [this, List.append_nil]
          exact hR.to fun b o _ h => s2 _ _ h
        · rintro i σ H3 _ ⟨us2, v7, rfl, hF3, hR3, s3, hL3, _⟩
          exact SqL.of hL3
        · rintro i y σ H3 hy ⟨us2, v7, rfl, hF3, hR3, s3, hL3, hra3⟩
          rw [List.getElem?_map] at hy
          obtain ⟨j, hj, rfl⟩ := Option.map_eq_some_iff.mp hy
          obtain ⟨b, hb, hbg⟩ := leav_mem (List.mem_of_getElem? hj)
          have hi := (List.getElem?_eq_some_iff.mp hj).1
          have hll := leav_len as (rowEnd as g r)
          obtain ⟨us0, ha, hus⟩ := hA.same s3
          obtain ⟨tb, hut, htt⟩ := hus.2 j b hb
          have hw12 := (oka.2 b (List.mem_of_getElem? hb)).2.2.1
          have eln : (Fs ++ ext as n r ((leav as (rowEnd as g r)).take i)).length ≤ 1028 := by
            have := ext_len as n r ((leav as (rowEnd as g r)).take i)
            rw [List.length_take] at this
            rw [List.length_append]
            omega
          refine ⟨_, rfl, _, rfl, a, ra, as, r, rfl, ⟨us0, ha, hus⟩, oka, hra3, hrw.rowIn, by omega, fun H4 s4 => ?_⟩
          rw [rowText_txA]
          refine ⟨_, rfl, le_size (by rw [SX.S_len]; omega), ?_⟩
          refine ⟨_, rfl, _, rfl, a, us0, _, _, rfl, rfl, SqL.of (s4 _ _ ha), atI_nat hut, tb, _, _, _, rfl, rfl, SqT.of (s4 _ _ htt), rfl, _, rfl, le_size (by rw [SX.S_len]; omega), ?_⟩
          refine ⟨_, _, rfl, rfl, _, rfl, _, _, rfl, rfl, _, rfl, ?_⟩
          have etx : (txA as (r ++ [j])).length = (txA as r).length + b.2.1.length := by rw [txA_snoc, List.length_append, wdA_at hb]
          have hF4 := s4 _ _ hF3
          have hra4 := s4 _ _ hra3
          have hR4 := hR3.to (H' := H4) fun b o _ h => s4 _ _ h
          have S4 := s3.trans s4
          have hL4 := s4 _ _ hL3
          refine ite2 (fun c => ?_) (fun c => ?_)
          · have c2 : (txA as (r ++ [j])).length ≤ n := by
              have := of_decide_eq_true c
              rw [SX.S_len, SX.S_len] at this
              omega
            refine ⟨_, rfl, .inl ⟨rfl, _, SqL.of hF4⟩, _, rfl, _, rfl, le_size (by simp), fun l1 hl1 => ?_⟩
            have sq : Same H4 (upd H4 l1 (.lst [V.int ((j : Nat) : Int)])) := Same.new _ hl1
            have gq : upd H4 l1 (.lst [V.int ((j : Nat) : Int)]) l1 = some (.lst [V.int ((j : Nat) : Int)]) := upd_same
            generalize upd H4 l1 (.lst [V.int ((j : Nat) : Int)]) = H5 at *
            refine ⟨ra, l1, _, _, rfl, rfl, sq _ _ hra4, gq, le_size (by rw [List.length_map, List.length_singleton]; omega), fun rl hrl => ?_⟩
            have sr : Same H5 (upd H5 rl (.lst (nats r ++ [V.int ((j : Nat) : Int)]))) := Same.new _ hrl
            have gr : upd H5 rl (.lst (nats r ++ [V.int ((j : Nat) : Int)])) rl = some (.lst (nats (r ++ [j]))) := by rw [upd_same]; simp [nats]
            generalize upd H5 rl (.lst (nats r ++ [V.int ((j : Nat) : Int)])) = H6 at *
            have s46 := sq.trans sr
            have hF6 := s46 _ _ hF4
            have nrF : rl ≠ F := hp_ne (sq _ _ hF4) hrl
            have nrL : rl ≠ L := hp_ne (sq _ _ hL4) hrl
            refine ⟨F, us2, .ref rl, rfl, rfl, hF6, lt_size (by rw [hR4.1]; omega), ?_⟩
            refine ⟨us2 ++ [.ref rl], _, rfl, upd_same, ?_, (S4.trans s46).updNew hF0, by rw [upd_ne nLF]; exact s46 _ _ hL4, by rw [upd_ne e3.1]; exact s46 _ _ hra4⟩
            rw [← take_snoc hj, ext_snoc, if_pos c2, ← List.append_assoc]
            refine ((hR4.to fun b o _ h => s46 _ _ h).snoc gr ⟨nrF, ?_⟩).to fun b o q h => by rw [upd_ne q.1]; exact h
            exact (S4.trans sq).free hrl
          · have c2 : ¬ (txA as (r ++ [j])).length ≤ n := fun z => c (decide_eq_true (by rw [SX.S_len, SX.S_len]; omega))
            refine ⟨us2, _, rfl, hF4, ?_, S4, hL4, hra4⟩
            rw [← take_snoc hj, ext_snoc, if_neg c2, List.append_nil]
            exact hR4
        · rintro σ H3 ⟨us2, v7, rfl, hF3, hR3, s3, hL3, hra3⟩
          rw [show (nats (leav as (rowEnd as g r))).length = (leav as (rowEnd as g r)).length from List.length_map _, List.take_length] at hR3
          have B2 := B.step hrr
          refine ⟨_, rfl, F, _, rfl, .inl (SqL.of hF3), _, rfl, _, _, rfl, rfl, _, rfl, ?_⟩
          have el3 := hR3.1
          refine ite2 (fun c => ?_) (fun c => ?_)
          · refine kn ?_ H3 s3
            refine Nat.pos_of_ne_zero fun z => ?_
            subst z
            have : ∀ s ∈ Fs ++ ext as 0 r (leav as (rowEnd as g r)), s = [] := fun s hs => txA_nil_of hw (B2.mem s hs).1 (List.length_eq_zero_iff.mp (by have := (B2.mem s hs).2; omega))
            have hl1 : (Fs ++ ext as 0 r (leav as (rowEnd as g r))).length ≤ 1 := by
              have nd := B2.nd
              generalize Fs ++ ext as 0 r (leav as (rowEnd as g r)) = L0 at *
              match L0, nd, this with
              | [], _, _ => exact Nat.zero_le _
              | [x], _, _ => exact Nat.le_refl _
              | x :: y :: l, nd, this =>
                rw [this x (by simp), this y (by simp)] at nd
                simp at nd
            have := of_decide_eq_true c
            omega
          · have c2 : (Fs ++ ext as n r (leav as (rowEnd as g r))).length ≤ m := by
              apply Classical.byContradiction
              intro z
              exact c (decide_eq_true (by omega))
            refine ⟨⟨us2, _, t + 1, _, _, rfl, hF3, hR3, s3, B2, by rw [List.length_append]; omega, c2⟩, ?_⟩
            show 1001 - (((t + 1 : Nat) : Int)).toNat < 1001 - ((t : Nat) : Int).toNat
            omega
      · have c1 : t = Fs.length := by
          apply Classical.byContradiction
          intro z
          exact c (decide_eq_true (by omega))
        subst c1
        exact ⟨_, rfl, kp H1 F us Fs sm hF0 hF hR B.all hlm⟩
    · rintro σ H1 Q1 Q2 hq h
      obtain ⟨v, e1, w1, e2, p1, ys, e3, e4, i, j, e5, e6, b, e7, h⟩ := h
      exact ⟨v, e1, w1, e2, p1, ys, e3, e4, i, j, e5, e6, b, e7, hq _ _ h⟩
end
end J


set_option Elab.async false
set_option linter.all false
set_option maxRecDepth 100000
set_option maxHeartbeats 4000000
namespace J
open PySem L2
def spWithinG : Sp := fun vs H Q _ => ∃ (a : Addr) (as : List Arc) (g n0 m : Nat), vs = [.ref a, .int (g : Int), .int (n0 : Int), .int (m : Int)] ∧ ArcL H a as ∧ OkAll as ∧ as.length ≤ 28 ∧ n0 ≤ 100 ∧ 1 ≤ m ∧ m ≤ 1000 ∧
  ∀ H' q p us F (n : Nat), Same H H' → n ≤ n0 → H q = none → H' q = some (.tup [.int (n : Int), .ref p]) → H p = none → H' p = some (.lst us) → RowsAt H' (fun b => b ≠ p ∧ H b = none) us F → AllR as g n F → F.length ≤ m → Q (.ref q) H'
section
variable {P : Program} {w : World} {K : PySem.W.Frag} {mg : Str → Option Value} {base : Heap}
theorem ok_l_rows_within (T : Tx K mg) : FnOk P w K mg base CX0 3 T.f_l_rows_within T.fd_l_rows_within P_l_rows_within spWithinG := by
  have G_l_all_rows : FnOk P w K mg base CX0 2 T.f_l_all_rows T.fd_l_all_rows P_l_all_rows spAllRows := ok_l_all_rows T
  refine T.F_l_rows_within.ok sc_l_rows_within (fun vs H Q E h => ?_) (fun cdv A outer s H vs Q E hr h => ?_)
  · obtain ⟨a, as, g, n0, m, rfl, _⟩ := h
    rfl
  · obtain ⟨a, as, g, n0, m, rfl, hA, oka, hal, hn0, hm1, hm, k⟩ := h
    refine ⟨_, (pss_cons (ps_for PassesOwn.never rfl (pi_range3 rfl T.n_range (pa_cons (pv 2) (pa_cons (pe_un un_neg pe_int) (pa_cons (pe_un un_neg pe_int) pa_nil)))) (pg_name (i := 4) sc_l_rows_within.nd rfl (Or.inl rfl)) (pss_cons (ps_set (i := 5) sc_l_rows_within.nd rfl (Or.inl rfl) (pe_call G_l_all_rows (hr.mono (by decide)) rfl T.m_l_all_rows T.F_l_all_rows.kp T.b_l_all_rows .nil pass0 (pa_cons (pv 0) (pa_cons (pv 1) (pa_cons (pv 4) (pa_cons (pv 3) pa_nil))))))
        (pss_one (ps_if (pt_cmpR op_notN (pv 5) pe_non (nomark _)) (pss_one (ps_ret (pe_tup (pa_cons (pv 4) (pa_cons (pv 5) pa_nil))))) pss_nil))))
        (pss_one (ps_ret (pe_tup (pa_cons pe_int (pa_cons (pe_lst (pa_cons (pe_lst pa_nil) pa_nil)) pa_nil)))))), ?_⟩
    refine ⟨_, rfl, _, rfl, _, rfl, (n0 : Int), -1, -1, n0 + 1, rfl, RgC.neg (by omega) (by omega) (by omega) (by omega), for_rangeC (lo := (n0 : Int)) (c := -1) (n := n0 + 1) (fun i σ H' => i ≤ n0 ∧ ∃ v4 v5, σ = [some (.ref a), some (.int (g : Int)), some (.int (n0 : Int)), some (.int (m : Int)), v4, v5] ∧ Same H H') ?_ ?_ ?_⟩
    · exact ⟨by omega, _, _, rfl, fun b o h => h⟩
    · rintro i σ H1 hi ⟨_, v4, v5, rfl, s1⟩
      have ei : ((n0 : Int) + ((i : Nat) : Int) * -1) = ((n0 - i : Nat) : Int) := by omega
      refine ⟨_, rfl, _, rfl, _, rfl, _, rfl, a, as, g, n0 - i, m, by rw [ei]; rfl, hA.same s1, oka, hal, by omega, hm1, hm, fun h1 H2 s2 => ?_, fun H2 p us F s2 hp0 hp hR hall hl => ?_⟩
      · refine ⟨_, rfl, rfl, _, rfl, ?_⟩
        refine ite2 (fun c => absurd c (by decide)) fun _ => ⟨by omega, _, _, rfl, s1.trans s2⟩
      · refine ⟨_, rfl, rfl, _, rfl, ?_⟩
        refine ite2 (fun _ => ?_) fun c => absurd rfl c
        refine ⟨_, rfl, _, rfl, le_size (by simp), fun q hq => ?_⟩
        have sq : Same H2 (upd H2 q (.tup [V.int ((n0 : Int) + ((i : Nat) : Int) * -1), V.ref p])) := Same.new _ hq
        have gq : upd H2 q (.tup [V.int ((n0 : Int) + ((i : Nat) : Int) * -1), V.ref p]) q = some (.tup [V.int ((n0 - i : Nat) : Int), V.ref p]) := by rw [upd_same, ei]
        exact k _ q p us F (n0 - i) ((s1.trans s2).trans sq) (by omega) ((s1.trans s2).free hq) gq (s1.free hp0) (sq _ _ hp) ((hR.to fun b o _ h => sq _ _ h).weak fun b z => ⟨z.1, s1.free z.2⟩) hall hl
    · rintro σ H1 ⟨h, _⟩
      omega
end
end J


set_option Elab.async false
set_option linter.all false
set_option maxRecDepth 100000
set_option maxHeartbeats 4000000
namespace J
open PySem L2
/-- two rows of one text that end alike -/
def Dbl (as : List Arc) (g : Nat) (X Y : List Nat) : Prop := Rw as g X ∧ Rw as g Y ∧ X ≠ Y ∧ rowEnd as g X = rowEnd as g Y ∧ txA as X = txA as Y
/-- what first_double tells: signs looked at, the least length -/
def FstD (as : List Arc) (ms : List Nat) (n0 n : Nat) (o : Option Nat) : Prop := n ≤ n0 ∧ (∀ b, o = some b → ∃ g X Y, g ∈ ms ∧ Dbl as g X Y ∧ (txA as X).length = b) ∧
  ∀ g ∈ ms, ∀ X Y, Dbl as g X Y → (txA as X).length ≤ n → ∃ b, o = some b ∧ b ≤ (txA as X).length
def oV : Option Nat → V
  | none => .non
  | some b => .int (b : Int)
def spFirst : Sp := fun vs H Q _ => ∃ (a : Addr) (as : List Arc) (n0 m : Nat), vs = [.ref a, .int (n0 : Int), .int (m : Int)] ∧ ArcL H a as ∧ OkAll as ∧ as.length ≤ 28 ∧ n0 ≤ 100 ∧ 1 ≤ m ∧ m ≤ 1000 ∧
  ∀ H' q (ms : List Nat) (n : Nat) (o : Option Nat), Same H H' → H q = none → H' q = some (.tup [.int (n : Int), oV o]) → ms.Pairwise (· < ·) → (∀ x, x ∈ ms ↔ Reach as x) → FstD as ms n0 n o → Q (.ref q) H'
def pkR (as : List Arc) (g : Nat) (r : List Nat) : List Key := [.inr (SX.S (txA as r)), .inl (rowEnd as g r : Nat)]
theorem pkR_HO (as : List Arc) (g : Nat) (r : List Nat) : HO.tup ((pkR as g r).map kV) = .tup [.str (SX.S (txA as r)), .int (rowEnd as g r : Nat)] := rfl
theorem pkR_inj {as : List Arc} {g : Nat} {x y : List Nat} (h : pkR as g x = pkR as g y) : txA as x = txA as y ∧ rowEnd as g x = rowEnd as g y := by
  unfold pkR at h
  injection h with h1 h2
  injection h1 with h1
  injection h2 with h2 _
  injection h2 with h2
  exact ⟨S_inj h1, by omega⟩
theorem pkR_eq {as : List Arc} {g : Nat} {x y : List Nat} (h1 : txA as x = txA as y) (h2 : rowEnd as g x = rowEnd as g y) : pkR as g x = pkR as g y := by unfold pkR; rw [h1, h2]
def Bst (as : List Arc) (ms : List Nat) (o : Option Nat) : Prop := ∀ b, o = some b → ∃ g X Y, g ∈ ms ∧ Dbl as g X Y ∧ (txA as X).length = b
def LeO (o : Option Nat) (n : Nat) : Prop := ∃ b, o = some b ∧ b ≤ n
/-- rows looked at -/
def Sn (as : List Arc) (g : Nat) (L : List (List Nat)) (o : Option Nat) : Prop := ∀ X ∈ L, ∀ Y ∈ L, Dbl as g X Y → LeO o (txA as X).length
def Seen (as : List Arc) (g : Nat) (kv : List (List Key × V)) (L : List (List Nat)) : Prop := kv.length ≤ L.length ∧ ∀ k, (valV kv k).isSome = true ↔ k ∈ L.map (pkR as g)
theorem Seen.put {as : List Arc} {g : Nat} {kv : List (List Key × V)} {L : List (List Nat)} (h : Seen as g kv L) (r : List Nat) (v : V) : Seen as g (putK kv (pkR as g r) v) (L ++ [r]) := by
  refine ⟨?_, fun k => ?_⟩
  · have := length_putK kv (pkR as g r) v
    rw [List.length_append, List.length_singleton]
    have := h.1
    omega
  · rw [valV_put, List.map_append, List.mem_append]
    by_cases c : k = pkR as g r
    · rw [if_pos c, c]
      simp
    · rw [if_neg c, h.2 k]
      simp [c]
theorem Sn.keep {as : List Arc} {g : Nat} {L : List (List Nat)} {o : Option Nat} (h : Sn as g L o) {r : List Nat} (hr : r ∉ L) (k : pkR as g r ∈ L.map (pkR as g) → LeO o (txA as r).length) : Sn as g (L ++ [r]) o := by
  intro X hX Y hY d
  obtain ⟨_, _, d3, d4, d5⟩ := id d
  rcases List.mem_append.mp hX with x1 | x1
  · rcases List.mem_append.mp hY with y1 | y1
    · exact h X x1 Y y1 d
    · obtain rfl := List.mem_singleton.mp y1
      rw [d5]
      exact k (List.mem_map.mpr ⟨X, x1, pkR_eq d5 d4⟩)
  · obtain rfl := List.mem_singleton.mp x1
    rcases List.mem_append.mp hY with y1 | y1
    · exact k (List.mem_map.mpr ⟨Y, y1, (pkR_eq d5 d4).symm⟩)
    · exact absurd (List.mem_singleton.mp y1).symm d3
theorem RowsAt.weakO {H : Hp} {P P' : Addr → Prop} {us : List V} {rs : List (List Nat)} (h : RowsAt H P us rs) (s : ∀ a r, H a = some (.lst r) → P' a) : RowsAt H P' us rs := ⟨h.1, fun i r e => by
  obtain ⟨a, h1, h2, h3⟩ := h.2 i r e
  exact ⟨a, h1, h2, s _ _ h2⟩⟩
theorem ArcL.exT {H H' : Hp} {D a : Addr} {as : List Arc} {kv : List (List Key × V)} (h : ArcL H a as) (hD : H D = some (.dT kv)) (x : Ex D H H') : ArcL H' a as := by
  obtain ⟨us, ha, harc⟩ := h
  refine ⟨us, x _ _ (fun z => by rw [z, hD] at ha; cases ha) ha, harc.1, fun i b e => ?_⟩
  obtain ⟨t, h1, h2⟩ := harc.2 i b e
  exact ⟨t, h1, x _ _ (fun z => by rw [z, hD] at h2; cases h2) h2⟩
theorem LeO.mono {o : Option Nat} {n m : Nat} (h : LeO o n) (k : n ≤ m) : LeO o m := by
  obtain ⟨b, e, l⟩ := h
  exact ⟨b, e, Nat.le_trans l k⟩
section
variable {P : Program} {w : World} {K : PySem.W.Frag} {mg : Str → Option Value} {base : Heap}
theorem ok_l_first_double (T : Tx K mg) : FnOk P w K mg base CX0 4 T.f_l_first_double T.fd_l_first_double P_l_first_double spFirst := by
  have G_l_met : FnOk P w K mg base CX0 2 T.f_l_met T.fd_l_met P_l_met spMet := ok_l_met T
  have G_l_rows_within : FnOk P w K mg base CX0 3 T.f_l_rows_within T.fd_l_rows_within P_l_rows_within spWithinG := ok_l_rows_within T
  have G_l_joined : FnOk P w K mg base CX0 1 T.f_l_joined T.fd_l_joined P_l_joined spJoined := ok_l_joined T
  have G_l_end : FnOk P w K mg base CX0 1 T.f_l_end T.fd_l_end P_l_end spEnd := ok_l_end T
  refine T.F_l_first_double.ok sc_l_first_double (fun vs H Q E h => ?_) (fun cdv A outer s H vs Q E hr h => ?_)
  · obtain ⟨a, as, n0, m, rfl, _⟩ := h
    rfl
  · obtain ⟨a, as, n0, m, rfl, hA, oka, hal, hn0, hm1, hm, k⟩ := h
    refine ⟨_, (pss_cons (ps_set (i := 3) sc_l_first_double.nd rfl (Or.inl rfl) pe_non)
        (pss_cons (ps_set (i := 4) sc_l_first_double.nd rfl (Or.inl rfl) (pv 1))
        (pss_cons (ps_for PassesOwn.never rfl (pi_list (pe_call G_l_met (hr.mono (by decide)) rfl T.m_l_met T.F_l_met.kp T.b_l_met .nil pass0 (pa_cons (pv 0) pa_nil))) (pg_name (i := 5) sc_l_first_double.nd rfl (Or.inl rfl)) (pss_cons (ps_asg (pe_call G_l_rows_within (hr.mono (by decide)) rfl T.m_l_rows_within T.F_l_rows_within.kp T.b_l_rows_within .nil pass0 (pa_cons (pv 0) (pa_cons (pv 5) (pa_cons (pv 1) (pa_cons (pv 2) pa_nil))))) (pg_tup rfl (pgs_cons (pg_name (i := 6) sc_l_first_double.nd rfl (Or.inl rfl)) (pgs_cons (pg_name (i := 7) sc_l_first_double.nd rfl (Or.inl rfl)) pgs_nil))))
        (pss_cons (ps_set (i := 4) sc_l_first_double.nd rfl (Or.inl rfl) (pe_callB (call_min2 rfl) rfl T.n_min (by decide +kernel) (pa_cons (pv 4) (pa_cons (pv 6) pa_nil))))
        (pss_cons (ps_set (i := 8) sc_l_first_double.nd rfl (Or.inl rfl) pe_dnewT)
        (pss_one (ps_for PassesOwn.never rfl (pi_list (pv 7)) (pg_name (i := 9) sc_l_first_double.nd rfl (Or.inl rfl)) (pss_cons (ps_set (i := 10) sc_l_first_double.nd rfl (Or.inl rfl) (pe_tup (pa_cons (pe_call G_l_joined (hr.mono (by decide)) rfl T.m_l_joined T.F_l_joined.kp T.b_l_joined .nil pass0 (pa_cons (pv 0) (pa_cons (pv 9) pa_nil))) (pa_cons (pe_call G_l_end (hr.mono (by decide)) rfl T.m_l_end T.F_l_end.kp T.b_l_end .nil pass0 (pa_cons (pv 0) (pa_cons (pv 5) (pa_cons (pv 9) pa_nil)))) pa_nil))))
        (C8.pss_cut (ps_if (PW.pt (pw_and (pt_cmp (pc_din (hu_of hr) (pv 10) (pv 8))) (pw_and1 (PW.pt (pw_or (pt_cmpR op_isN (pv 3) pe_non (nomark _)) (pw_or1 (pt_cmpR op_lt (pe_callB call_len_str rfl T.n_len (by decide +kernel) (pa_cons (pe_ix (ix_tupK (K := K) rfl) (pv 10) pe_int (fun _ _ => rfl)) pa_nil)) (pv 3) (nomark _)))))))) (pss_one (ps_set (i := 3) sc_l_first_double.nd rfl (Or.inl rfl) (pe_callB call_len_str rfl T.n_len (by decide +kernel) (pa_cons (pe_ix (ix_tupK (K := K) rfl) (pv 10) pe_int (fun _ _ => rfl)) pa_nil)))) pss_nil)
        (pss_one (ps_dput (hu_of hr) (pv 8) (pv 10) pe_bl rfl))))))))))
        (pss_one (ps_ret (pe_tup (pa_cons (pv 4) (pa_cons (pv 3) pa_nil)))))))), ?_⟩
    have hwd := wdA_all oka
    refine ⟨_, rfl, _, rfl, a, as, rfl, hA, oka, fun H1 mp ms s1 hmp0 hmp hms hreach => ?_⟩
    refine ⟨mp, rfl, ⟨_, SqL.of hmp⟩, for_list (K := K) (a := mp) (xs := nats ms) (fun j σ H' => ∃ (o : Option Nat) (n : Nat) (v5 v6 v7 v8 v9 v10 : Option V), σ = [some (.ref a), some (.int (n0 : Int)), some (.int (m : Int)), some (oV o), some (.int (n : Int)), v5, v6, v7, v8, v9, v10] ∧ Same H1 H' ∧ n ≤ n0 ∧ Bst as ms o ∧ ∀ g ∈ ms.take j, ∀ X Y, Dbl as g X Y → (txA as X).length ≤ n → LeO o (txA as X).length) ?_ ?_ ?_ ?_⟩
    · exact ⟨none, n0, _, _, _, _, _, _, rfl, Same.refl _, Nat.le_refl _, (fun b h => by cases h), (fun g hg => by simp at hg)⟩
    · rintro j σ H2 _ ⟨_, _, _, _, _, _, _, _, _, sm, _⟩
      exact SqL.of (sm _ _ hmp)
    · rintro j y σ H2 hy ⟨o, n, v5, v6, v7, v8, v9, v10, rfl, s2, hn, hb, hall⟩
      rw [List.getElem?_map] at hy
      obtain ⟨g, hg, rfl⟩ := Option.map_eq_some_iff.mp hy
      have hgm := List.mem_of_getElem? hg
      refine ⟨_, rfl, _, rfl, _, rfl, _, rfl, a, as, g, n0, m, rfl, hA.same (s1.trans s2), oka, hal, hn0, hm1, hm, fun H3 q pF us F ng s3 hng hq0 hq hpF0 hpF hR hF hFl => ?_⟩
      refine ⟨q, _, rfl, SqT.of hq, rfl, ?_⟩
      have emin : (if (ng : Int) < (n : Int) then (ng : Int) else (n : Int)) = ((min n ng : Nat) : Int) := by
        by_cases c : ng < n
        · rw [if_pos (by omega)]; omega
        · rw [if_neg (by omega)]; omega
      refine ⟨_, _, rfl, _, _, rfl, rfl, ?_⟩
      refine ⟨_, rfl, _, rfl, _, _, rfl, ?_⟩
      rw [emin]
      intro D hD
      have s4 : Same H3 (upd H3 D (.dT [])) := Same.new _ hD
      have g4 : upd H3 D (.dT []) D = some (.dT []) := upd_same
      generalize upd H3 D (.dT []) = H4 at *
      have nDp : D ≠ pF := hp_ne hpF hD
      have nDm : D ≠ mp := hp_ne (s3 _ _ (s2 _ _ hmp)) hD
      have hA4 : ArcL H4 a as := (hA.same (s1.trans s2)).same (s3.trans s4)
      have hR4 : RowsAt H4 (fun b => b ≠ D) us F := (hR.to fun b o _ h => s4 _ _ h).weakO fun b r h z => by rw [z, g4] at h; cases h
      refine ⟨_, rfl, pF, rfl, ⟨_, SqL.of (s4 _ _ hpF)⟩, for_list (K := K) (a := pF) (xs := us) (fun i σ H' => ∃ (o : Option Nat) (v9 v10 : Option V) (kv : List (List Key × V)), σ = [some (.ref a), some (.int (n0 : Int)), some (.int (m : Int)), some (oV o), some (.int ((min n ng : Nat) : Int)), some (.int (g : Int)), some (.int (ng : Int)), some (.ref pF), some (.ref D), v9, v10] ∧ Ex D H4 H' ∧ H' D = some (.dT kv) ∧ Bst as ms o ∧ Seen as g kv (F.take i) ∧ Sn as g (F.take i) o ∧ ∀ g ∈ ms.take j, ∀ X Y, Dbl as g X Y → (txA as X).length ≤ n → LeO o (txA as X).length) ?_ ?_ ?_ ?_⟩
      · exact ⟨o, _, _, [], rfl, Ex.refl _ _, g4, hb, ⟨Nat.zero_le _, fun k => by simp [valV]⟩, fun X hX => by simp at hX, hall⟩
      · rintro i σ H' _ ⟨_, _, _, _, _, x, _⟩
        exact SqL.of (x _ _ (Ne.symm nDp) (s4 _ _ hpF))
      · rintro i y σ H5 hy ⟨o, v9, v10, kv, rfl, x5, hkv, hb, hseen, hsn, hold⟩
        have hi : i < us.length := (List.getElem?_eq_some_iff.mp hy).1
        have hul := hR4.1
        obtain ⟨ra, e1, e2, e3⟩ := hR4.2 i _ (List.getElem?_eq_getElem (by omega))
        have hri : F[i]? = some F[i] := List.getElem?_eq_getElem (by omega)
        generalize F[i] = r at *
        rw [hy] at e1
        cases e1
        obtain ⟨hrw, hrl⟩ := (hF.2 r).mp (List.mem_of_getElem? hri)
        have hrlen := hrw.len_tx hwd
        have hA5 := hA4.exT g4 x5
        have e25 := x5 _ _ e3 e2
        refine ⟨_, rfl, _, rfl, a, ra, as, r, rfl, hA5, oka, e25, hrw.rowIn, by omega, fun H6 s6 => ?_⟩
        rw [rowText_txA]
        refine ⟨_, rfl, _, rfl, _, rfl, a, ra, as, g, r, rfl, hA5.same s6, s6 _ _ e25, hrw.rowIn, le_size (by simp), fun t0 ht0 => ?_⟩
        have s7 : Same H6 (upd H6 t0 (.tup [V.str (SX.S (txA as r)), V.int (rowEnd as g r : Nat)])) := Same.new _ ht0
        have g7 : upd H6 t0 (.tup [V.str (SX.S (txA as r)), V.int (rowEnd as g r : Nat)]) t0 = some (.tup ((pkR as g r).map kV)) := upd_same
        generalize upd H6 t0 (.tup [V.str (SX.S (txA as r)), V.int (rowEnd as g r : Nat)]) = H7 at *
        have x57 : Ex D H5 H7 := Same.ex (s6.trans s7)
        have hkv7 := (s6.trans s7) _ _ hkv
        have htk : F.take (i + 1) = F.take i ++ [r] := (take_snoc hri).symm
        have hnr : r ∉ F.take i := fun hm => by
          obtain ⟨i', hi', e⟩ := List.mem_iff_getElem.mp hm
          rw [List.length_take] at hi'
          rw [List.getElem_take] at e
          obtain ⟨h1, h2⟩ := List.getElem?_eq_some_iff.mp hri
          have := (List.getElem_inj hF.1).mp (e.trans h2.symm)
          omega
        refine ⟨fun σ' H' => ∃ o', σ' = [some (.ref a), some (.int (n0 : Int)), some (.int (m : Int)), some (oV o'), some (.int ((min n ng : Nat) : Int)), some (.int (g : Int)), some (.int (ng : Int)), some (.ref pF), some (.ref D), some (.ref ra), some (.ref t0)] ∧ H' = H7 ∧ Bst as ms o' ∧ Sn as g (F.take i ++ [r]) o' ∧ ∀ k, LeO o k → LeO o' k, ?_, ?_⟩
        · refine ⟨_, rfl, _, rfl, D, _, rfl, .t hkv7 g7, _, rfl, ?_⟩
          refine ite2 (fun c => ?_) (fun c => ?_)
          · have hin := (hseen.2 _).mp c
            obtain ⟨X, hX, eX⟩ := List.mem_map.mp hin
            obtain ⟨p1, p2⟩ := pkR_inj eX
            have dX : Dbl as g r X := ⟨hrw, ((hF.2 X).mp (List.mem_of_mem_take hX)).1, fun z => hnr (z ▸ hX), p2.symm, p1.symm⟩
            have best : ∀ _ : (∀ b, o = some b → (txA as r).length < b), Bst as ms (some (txA as r).length) ∧ Sn as g (F.take i ++ [r]) (some (txA as r).length) ∧ ∀ k, LeO o k → LeO (some (txA as r).length) k := fun hlt => by
              have hmo : ∀ k, LeO o k → LeO (some (txA as r).length) k := fun k ⟨b, e, l⟩ => ⟨_, rfl, by have := hlt b e; omega⟩
              exact ⟨fun b e => by cases e; exact ⟨g, r, X, hgm, dX, rfl⟩, Sn.keep (fun X hX Y hY d => hmo _ (hsn X hX Y hY d)) hnr fun _ => ⟨_, rfl, Nat.le_refl _⟩, hmo⟩
            have ix : ∀ Z : VK, Z (.str (SX.S (txA as r))) H7 → rIxT K (.ref t0) (.int 0) H7 Z := fun Z h => ⟨t0, _, 0, _, rfl, rfl, SqT.of g7, rfl, h⟩
            have hsz : (SX.S (txA as r)).length ≤ sizeLine := le_size (by rw [SX.S_len]; omega)
            cases o with
            | none =>
              refine ⟨_, rfl, rfl, _, rfl, ?_⟩
              refine ite2 (fun _ => ?_) fun c => absurd rfl c
              refine ⟨_, rfl, ix _ ⟨_, rfl, hsz, ?_⟩⟩
              obtain ⟨b1, b2, b3⟩ := best (fun b e => by cases e)
              exact ⟨some (txA as r).length, by rw [SX.S_len]; rfl, rfl, b1, b2, b3⟩
            | some b =>
              refine ⟨_, rfl, rfl, _, rfl, ?_⟩
              refine ite2 (fun c => absurd c (by simp [oV])) fun _ => ?_
              refine ⟨_, rfl, ix _ ⟨_, rfl, hsz, ?_⟩⟩
              refine ⟨_, rfl, _, _, rfl, rfl, _, rfl, ?_⟩
              refine ite2 (fun c2 => ?_) fun c2 => ?_
              · have c3 : (txA as r).length < b := by
                  have := of_decide_eq_true c2
                  rw [SX.S_len] at this
                  omega
                refine ⟨_, rfl, ix _ ⟨_, rfl, hsz, ?_⟩⟩
                obtain ⟨b1, b2, b3⟩ := best (fun b' e => by cases e; exact c3)
                exact ⟨some (txA as r).length, by rw [SX.S_len]; rfl, rfl, b1, b2, b3⟩
              · have c3 : b ≤ (txA as r).length := by
                  apply Classical.byContradiction
                  intro z
                  exact c2 (decide_eq_true (by rw [SX.S_len]; omega))
                exact ⟨some b, rfl, rfl, hb, hsn.keep hnr fun _ => ⟨b, rfl, c3⟩, fun _ h => h⟩
          · exact ⟨o, rfl, rfl, hb, hsn.keep hnr fun z => absurd ((hseen.2 _).mpr z) c, fun _ h => h⟩
        · rintro σ' H' ⟨o', rfl, rfl, hb', hsn', hm'⟩
          have hkl := hseen.1
          rw [List.length_take] at hkl
          refine ⟨_, rfl, _, rfl, D, _, rfl, .t hkv7 g7 (lt_size (by omega)), ?_⟩
          refine ⟨o', _, _, _, rfl, (x5.trans x57).trans (Ex.upd _), upd_same, hb', ?_, ?_, fun g' hg' X Y d hl => hm' _ (hold g' hg' X Y d hl)⟩
          · rw [htk]
            exact hseen.put r _
          · rw [htk]
            exact hsn'
      · rintro σ H5 ⟨o, v9, v10, kv, rfl, x5, hkv, hb, hseen, hsn, hold⟩
        have hul := hR4.1
        rw [hul, List.take_length] at hsn
        have s35 : Same H3 H5 := fun b ob e => x5 b ob (fun z => by rw [z, hD] at e; cases e) (s4 _ _ e)
        refine ⟨o, min n ng, _, _, _, _, _, _, rfl, (s2.trans s3).trans s35, by omega, hb, fun g' hg' X Y d hl => ?_⟩
        rw [← take_snoc hg, List.mem_append] at hg'
        rcases hg' with h | h
        · exact hold g' h X Y d (by omega)
        · obtain rfl := List.mem_singleton.mp h
          have hY : (txA as Y).length = (txA as X).length := by rw [d.2.2.2.2]
          exact hsn X ((hF.2 X).mpr ⟨d.1, by omega⟩) Y ((hF.2 Y).mpr ⟨d.2.1, by omega⟩) d
    · rintro σ H2 ⟨o, n, v5, v6, v7, v8, v9, v10, rfl, s2, hn, hb, hall⟩
      rw [show (nats ms).length = ms.length from List.length_map _, List.take_length] at hall
      refine ⟨_, rfl, _, rfl, le_size (by simp), fun q hq => ?_⟩
      exact k _ q ms n o ((s1.trans s2).trans (Same.new _ hq)) ((s1.trans s2).free hq) upd_same hms hreach ⟨hn, hb, fun g hg X Y d hl => hall g hg X Y d hl⟩
end
end J


set_option Elab.async false
set_option linter.all false
set_option maxRecDepth 100000
set_option maxHeartbeats 4000000
/-! sorted(texts, key=len): shorter ones first, equal ones in their order -/
namespace SrtK
open PySem PySem.Spec PyProof.Rows Srt SrtO L2 SrtC
def tl (v : Value) : Int := ((tv v).length : Int)
def ltLen (v u : Value) : Bool := decide (tl v < tl u)
theorem swo_len : Swo ltLen := by
  refine ⟨fun x y h => ?_, fun x y z h1 h2 => ?_⟩
  · have a : tl x < tl y := of_decide_eq_true h
    exact decide_eq_false (by omega)
  · have a : ¬ tl y < tl x := of_decide_eq_false h1
    have b : ¬ tl z < tl y := of_decide_eq_false h2
    exact decide_eq_false (by omega)
def ltK (p q : Keyed) : Bool := ltIv p.1 q.1
theorem swo_key : Swo ltK := ⟨fun x y h => swo_int.asym _ _ h, fun x y z h1 h2 => swo_int.tr _ _ _ h1 h2⟩
section
variable {prog : Program} {w : World} {A : Around} {E : Value → Shared → Prop} {s : Shared} {a kS : Addr} {vs : List Value} {ss : List Str} {R : PySem.Fin → Shared → Prop}
/-- the keys that stand with the items -/
def Keys (ks : List Value) (vs : List Value) : Prop := IntsAre ks (vs.map tl)
theorem keys_at : ∀ {ks vs : List Value}, Keys ks vs → ∀ p ∈ ks.zip vs, ∃ t, p.1 = Value.int (tl p.2) t
  | [], _, _, p, h => by simp at h
  | _ :: _, [], k, p, h => by simp at h
  | k :: ks, v :: vs, hk, p, h => by
    unfold Keys at hk
    rw [List.map_cons] at hk
    cases hk with
    | cons n t r =>
      rcases List.mem_cons.mp (by simpa using h) with e | h
      · rw [e]; exact ⟨t, rfl⟩
      · exact keys_at r p h
theorem keys_len {ks vs : List Value} (h : Keys ks vs) : ks.length = vs.length := by
  have := h.length
  rw [List.length_map] at this
  exact this
theorem out_len {ks vs : List Value} {out : List Keyed} (hk : Keys ks vs) (h1 : Srtd ltK out) (h2 : Stb ltK out (ks.zip vs)) : Srtd ltLen (out.map (·.2)) ∧ Stb ltLen (out.map (·.2)) vs := by
  have ez : (ks.zip vs).map (fun p : Keyed => p.2) = vs := List.map_snd_zip (Nat.le_of_eq (keys_len hk).symm)
  have key : ∀ p ∈ out, ∃ t, p.1 = Value.int (tl p.2) t := fun p hp => keys_at hk p (h2.perm.mem_iff.mp hp)
  have lt_eq : ∀ {p q : Keyed}, (∃ t, p.1 = Value.int (tl p.2) t) → (∃ t, q.1 = Value.int (tl q.2) t) → ltK p q = ltLen p.2 q.2 := by
    rintro p q ⟨t, e⟩ ⟨u, e'⟩
    unfold ltK ltIv ltLen
    rw [e, e']
    rfl
  refine ⟨?_, ?_⟩
  · refine List.pairwise_map.mpr (List.Pairwise.imp_of_mem (fun {p q} hp hq h => ?_) h1)
    rw [← lt_eq (key q hq) (key p hp)]
    exact h
  · refine ⟨?_, fun x => ?_⟩
    · have := h2.perm.map (fun p : Keyed => p.2)
      rw [ez] at this
      exact this
    · have f : ∀ l : List Keyed, (∀ p ∈ l, ∃ t, p.1 = Value.int (tl p.2) t) → (l.map (fun p : Keyed => p.2)).filter (eqv ltLen x) = (l.filter (eqv ltK (Value.int (tl x) 0, x))).map (fun p : Keyed => p.2) := fun l hl => by
        rw [List.filter_map]
        refine congrArg _ (List.filter_congr fun p hp => ?_)
        show (!ltLen x p.2 && !ltLen p.2 x) = (!ltK (Value.int (tl x) 0, x) p && !ltK p (Value.int (tl x) 0, x))
        rw [lt_eq (p := (Value.int (tl x) 0, x)) ⟨0, rfl⟩ (hl p hp), lt_eq (q := (Value.int (tl x) 0, x)) (hl p hp) ⟨0, rfl⟩]
      have e1 := f out key
      have e2 := f (ks.zip vs) (keys_at hk)
      rw [ez] at e2
      show (out.map (fun p : Keyed => p.2)).filter (eqv ltLen x) = vs.filter (eqv ltLen x)
      rw [e1, e2, h2.cls]
/-- what stands while the keys are made -/
structure Mid (h0 h : Heap) (a kS : Addr) (kA : Array Value) (e1 : Nat) : Prop where
  old : ∀ b o, b ≠ a → h0.get? b = some o → h.get? b = some o
  ks : ∃ e, h.get? kS = some (seqObj "list" kA e)
  li : h.get? a = some (seqObj "list" #[] e1)
theorem end_len {h0 : Heap} {keys : Array Value} {e1 : Nat} (M : Mid h0 s.heap a kS keys e1) (hka : kS ≠ a) (hk0 : h0.get? kS = none) (hk : Keys keys.toList vs) (hz : vs.length ≤ sizeLine)
    (h : ∀ h' tk out c, (∀ b o, b ≠ a → h0.get? b = some o → h'.get? b = some o) → h'.get? a = some (seqObj "list" out c) → Srtd ltLen out.toList → Stb ltLen out.toList vs → R (.done (.ret .none)) { s with heap := h', toks := tk }) :
    wpAny (model prog w) A (ksk_end a false vs.toArray e1 (.ref kS) keys) R E s := by
  have hsz : keys.size = vs.length := by
    have := keys_len hk
    rw [Array.length_toList] at this
    exact this
  have ezl : (keys.zip vs.toArray).toList = keys.toList.zip vs := ksk_zip keys vs
  have hzs : (keys.zip vs.toArray).size = vs.length := by rw [Array.size_zip, hsz, List.size_toArray, Nat.min_self]
  have sL := sizeLine_eq
  have tail : ∀ st' : SortSt, Srtd ltK (arrOf st').toList → Stb ltK (arrOf st').toList (keys.zip vs.toArray).toList → failedOf st' = none → wpAny (model prog w) A (ksk_tail a false e1 (.ref kS) st') R E s := by
    intro st' h1 h2 hf
    rw [ezl] at h2
    obtain ⟨o1, o2⟩ := out_len hk h1 h2
    obtain ⟨e, he⟩ := M.ks
    have hl : (arrOf st').size = vs.length := by
      have := h2.len
      rw [Array.length_toList, ← ezl, Array.length_toList, hzs] at this
      exact this
    have s1 := Heap.SameBut.update s.heap kS (Obj.mapSeq fun _ => (#[] : Array Value))
    have na1 : (s.heap.update kS (Obj.mapSeq fun _ => (#[] : Array Value))).get? a = some (seqObj "list" #[] e1) := (s1.2 a hka.symm).trans M.li
    have s2 := Heap.SameBut.update (s.heap.update kS (Obj.mapSeq fun _ => (#[] : Array Value))) a (Obj.mapSeq fun _ => (arrOf st').map (·.2))
    obtain ⟨c2, hc2⟩ : ∃ c2, ((s.heap.update kS (Obj.mapSeq fun _ => (#[] : Array Value))).update a (Obj.mapSeq fun _ => (arrOf st').map (·.2))).get? a = some (seqObj "list" ((arrOf st').map (·.2)) c2) := ⟨_, get?_update_seq na1 fun _ => (arrOf st').map (·.2)⟩
    unfold ksk_tail
    try dsimp only
    refine wpAny_bind (listUpdate_at he rfl ?_ (by rw [hsz]; omega) (Nat.zero_le _))
    refine wpAny_bind (wpAny_letGo (wpAny_bind (seqEpoch_at na1 rfl ?_)))
    simp only [Bool.false_eq_true, if_false]
    refine wpAny_bind (listUpdate_at na1 rfl ?_ (Nat.zero_le _) (by rw [Array.size_map, hl]; omega))
    rw [hf]
    simp only [bne_self_eq_false, Bool.false_eq_true, if_false]
    refine wpAny_pure (h _ _ ((arrOf st').map (·.2)) c2 (fun b o hb e => ?_) hc2 ?_ ?_)
    · have hbk : b ≠ kS := fun z => by rw [z, hk0] at e; cases e
      rw [s2.2 b hb, s1.2 b hbk]
      exact M.old b o hb e
    · rw [Array.toList_map]; exact o1
    · rw [Array.toList_map]; exact o2
  unfold ksk_end
  try dsimp only
  simp only [Bool.false_eq_true, if_false]
  by_cases h2 : vs.toArray.size < 2
  · rw [if_pos h2, if_pos h2]
    rw [List.size_toArray] at h2
    refine wpAny_bind (wpAny_pure ?_)
    rw [StateT.run_pure]
    refine wpAny_bind (wpAny_pure ?_)
    try dsimp only
    refine tail _ ?_ (Stb.refl _) rfl
    show Srtd ltK (keys.zip vs.toArray).toList
    have hlen : (keys.zip vs.toArray).toList.length < 2 := by rw [Array.length_toList, hzs]; exact h2
    match (keys.zip vs.toArray).toList, hlen with
    | [], _ => exact List.Pairwise.nil
    | [v], _ => exact List.pairwise_singleton _ _
    | _ :: _ :: l, q => exact absurd q (by simp)
  · rw [if_neg h2, if_neg h2]
    rw [List.size_toArray] at h2
    rw [ksk_kind hk (by rw [hsz]; omega)]
    refine wpAny_bind (wpAny_pure ?_)
    have hT : Cmp prog w A s oneType' (fun p => ∃ n t, p.1 = Value.int n t) ltK := by
      rintro p q ⟨n, t, e⟩ ⟨m, u, e'⟩
      show wpAny (model prog w) A (keyLt' oneType' p.1 q.1) (fun r s' => s' = s ∧ r = ltIv p.1 q.1) (fun _ _ => False) s
      rw [e, e', keyLt'_oneType]
      exact oneLt_int ⟨rfl, rfl⟩
    refine wpAny_bind (wpAny_mono (wpS_sortO (st0 := SortSt.mk' oneType' (keys.zip vs.toArray) #[] 7 none)
      (Q := fun _ st' => Srtd ltK (arrOf st').toList ∧ Stb ltK (arrOf st').toList (keys.zip vs.toArray).toList ∧ failedOf st' = none) swo_key hT rfl ?_ rfl rfl fun st' a1 a2 a3 => ⟨a1, a2, a3⟩) ?_ fun _ _ e => e)
    · intro p hp
      have hp' : p ∈ keys.toList.zip vs := by rw [← ezl]; exact hp
      obtain ⟨t, e⟩ := keys_at hk p hp'
      exact ⟨_, t, e⟩
    · rintro ⟨⟨⟩, st'⟩ s' ⟨rfl, hp1, hp2, hf⟩
      exact tail st' hp1 hp2 hf
theorem sort_len {n : Nat} (hI : StrsAre vs ss) (hss : ∀ x ∈ ss, x.length ≤ sizeLine) (ho : s.heap.get? a = some (seqObj "list" vs.toArray n)) (hz : vs.length ≤ sizeLine)
    (h : ∀ h' tk out c, (∀ b o, b ≠ a → s.heap.get? b = some o → h'.get? b = some o) → h'.get? a = some (seqObj "list" out c) → Srtd ltLen out.toList → Stb ltLen out.toList vs → R (.done (.ret .none)) { s with heap := h', toks := tk }) :
    wpAny (model prog w) A (ksk_tree a (.builtin "len") false) R E s := by
  have sL := sizeLine_eq
  have h63 := line63
  have ha : a < s.heap.objs.size := Heap.lt_size ho
  have s1 := Heap.SameBut.update s.heap a (Obj.mapSeq fun _ => (#[] : Array Value))
  obtain ⟨e1, ho1⟩ : ∃ e1, (s.heap.update a (Obj.mapSeq fun _ => (#[] : Array Value))).get? a = some (seqObj "list" #[] e1) := ⟨_, get?_update_seq ho fun _ => #[]⟩
  have hkS : ((s.heap.update a (Obj.mapSeq fun _ => (#[] : Array Value))).push (seqObj "tuple" vs.toArray 0)).objs.size = s.heap.objs.size + 1 := by rw [size_push', Heap.size_update]
  unfold ksk_tree
  refine wpAny_bind (listItems_at ho rfl ?_)
  refine wpAny_bind (listUpdate_at ho rfl ?_ (by rw [List.size_toArray]; exact hz) (Nat.zero_le _))
  refine wpAny_bind (seqEpoch_at ho1 rfl ?_)
  refine wpAny_bind (wpAny_newTuple ?_ (by show vs.length ≤ _; exact hz))
  refine wpAny_bind (wpAny_newList ?_ (Nat.zero_le _))
  refine wpAny_holding ?_
  have hka : ((s.heap.update a (Obj.mapSeq fun _ => (#[] : Array Value))).push (seqObj "tuple" vs.toArray 0)).objs.size ≠ a := by
    rw [hkS]
    exact Nat.ne_of_gt (Nat.lt_succ_of_lt ha)
  have hk0 : s.heap.get? ((s.heap.update a (Obj.mapSeq fun _ => (#[] : Array Value))).push (seqObj "tuple" vs.toArray 0)).objs.size = none := Heap.get?_none_of_le (by
    rw [hkS]
    exact Nat.le_succ _)
  generalize hkN : ((s.heap.update a (Obj.mapSeq fun _ => (#[] : Array Value))).push (seqObj "tuple" vs.toArray 0)).objs.size = kS at *
  have m0 : Mid s.heap (((s.heap.update a (Obj.mapSeq fun _ => (#[] : Array Value))).push (seqObj "tuple" vs.toArray 0)).push (seqObj "list" #[] 0)) a kS #[] e1 := by
    refine ⟨fun b o hb e => Heap.get?_push_of_some _ (Heap.get?_push_of_some _ ((s1.2 b hb).trans e)), ⟨0, ?_⟩, Heap.get?_push_of_some _ (Heap.get?_push_of_some _ ho1)⟩
    rw [← hkN]
    exact Heap.get?_push_size _ rfl
  unfold ksk_rest
  refine wpAny_bind (wpAny_rule ?_)
  first
    | rw [List.forIn_toArray]
    | (rw [← Array.forIn_toList]; simp only [List.toList_toArray])
    | rw [← Array.forIn_toList]
  refine wpAny_bind (ksk_fold (fun i s' => ∃ h' tk kA, s' = { s with heap := h', toks := tk } ∧ Mid s.heap h' a kS kA e1 ∧ Keys kA.toList (vs.take i)) vs 0 _ ⟨_, s.toks, #[], rfl, m0, by unfold Keys; simpa using IntsAre.nil⟩ ?step ?done)
  case step =>
    rintro j x s' hx ⟨h', tk, kA, rfl, M, hk⟩
    simp only [Nat.zero_add] at hk ⊢
    have hj : j < vs.length := (List.getElem?_eq_some_iff.mp hx).1
    obtain ⟨y, t, rfl⟩ := strs_mem hI x (List.mem_of_getElem? hx)
    have hy : y.length ≤ sizeLine := hss y (by rw [← tv_strs hI]; exact List.mem_map.mpr ⟨_, List.mem_of_getElem? hx, rfl⟩)
    obtain ⟨e, he⟩ := M.ks
    have hz2 : kA.size ≤ vs.length := by
      have h1 := keys_len hk
      rw [Array.length_toList, List.length_take] at h1
      omega
    refine wpAny_bind (wpAny_attempt (len_str (by omega) ?_))
    try dsimp only
    have s2 := Heap.SameBut.update h' kS (Obj.mapSeq (·.push (.int y.length (tk + 1))))
    obtain ⟨c2, hc2⟩ : ∃ c2, (h'.update kS (Obj.mapSeq (·.push (.int y.length (tk + 1))))).get? kS = some (seqObj "list" (kA.push (.int y.length (tk + 1))) c2) := ⟨_, get?_update_seq he (·.push (.int y.length (tk + 1)))⟩
    refine wpAny_bind (listUpdate_at he rfl ?_ (by omega) (Nat.le_trans (Nat.le_of_eq (Array.size_push ..)) (by omega)))
    refine wpAny_pure ⟨rfl, _, _, kA.push (.int y.length (tk + 1)), rfl, ⟨fun b o hb q => ?_, ⟨c2, hc2⟩, (s2.2 a hka.symm).trans M.li⟩, ?_⟩
    · have hbk : b ≠ kS := fun z => by rw [z, hk0] at q; cases q
      rw [s2.2 b hbk]
      exact M.old b o hb q
    · unfold Keys at hk ⊢
      have ek : (vs.take (j + 1)).map tl = (vs.take j).map tl ++ [(y.length : Int)] := by rw [List.take_add_one, hx, List.map_append]; rfl
      rw [ek, Array.toList_push]
      exact ksk_snoc hk
  case done =>
    rintro s' ⟨h', tk, kA, rfl, M, hk⟩
    rw [List.take_of_length_le (by omega)] at hk
    obtain ⟨e, he⟩ := M.ks
    try dsimp only
    refine wpAny_bind (listItems_at he rfl ?_)
    exact end_len (s := { s with heap := h', toks := tk }) (h0 := s.heap) M hka hk0 hk hz h
theorem sorted_len {l : Addr} {Q : Value → Shared → Prop} (hI : StrsAre vs ss) (hss : ∀ x ∈ ss, x.length ≤ sizeLine) (hl : s.heap.IsList l vs.toArray) (hz : vs.length ≤ sizeLine)
    (h : ∀ (h' : Heap) (tk : Nat) (D : Addr) (out : Array Value) (c : Nat), (∀ b o, s.heap.get? b = some o → h'.get? b = some o) → s.heap.objs.size ≤ D → h'.get? D = some (seqObj "list" out c) → Srtd ltLen out.toList → Stb ltLen out.toList vs → Q (.ref D) { s with heap := h', toks := tk }) :
    wpAny (model prog w) A (call (.builtin "sorted") [.ref l] [(Str.ofString "key", .builtin "len")]) Q E s := by
  have ha1 := ksk_s1 (.ref l) (.builtin "len")
  have ha2 := fun x : Addr => ksk_l1 (.ref x) (.builtin "len")
  refine call_function_entry_kw kind_sorted plain_sorted entry_sorted ha1 ?_
  unfold Builtin.«sorted»
  refine wpAny_bind (m := checkCount "sorted" 1 1 _) (wpAny_pure ?_)
  refine wpAny_bind (collect_list hl ?_ hz)
  refine wpAny_bind (wpAny_newList ?_ hz)
  have hsz : ((s.heap.push (seqObj "list" #[] 0)).update s.heap.objs.size (Obj.mapSeq (· ++ vs.toArray))).objs.size = s.heap.objs.size + 1 := by
    rw [Heap.size_update, size_push']
  have hoL : (((s.heap.push (seqObj "list" #[] 0)).update s.heap.objs.size (Obj.mapSeq (· ++ vs.toArray))).push (seqObj "list" vs.toArray 0)).get? (s.heap.objs.size + 1) = some (seqObj "list" vs.toArray 0) := by
    rw [← hsz]; exact Heap.get?_push_size _ rfl
  have keep : ∀ b o, s.heap.get? b = some o → b ≠ s.heap.objs.size + 1 ∧ (((s.heap.push (seqObj "list" #[] 0)).update s.heap.objs.size (Obj.mapSeq (· ++ vs.toArray))).push (seqObj "list" vs.toArray 0)).get? b = some o := fun b o q => by
    have hlt : b < s.heap.objs.size := Heap.lt_size q
    refine ⟨Nat.ne_of_lt (Nat.lt_succ_of_lt hlt), Heap.get?_push_of_some _ ?_⟩
    rw [Heap.get?_update_ne _ _ _ _ (Nat.ne_of_lt hlt)]
    exact Heap.get?_push_of_some _ q
  show wpAny _ _ _ _ _ { s with heap := ((s.heap.push (seqObj "list" #[] 0)).update s.heap.objs.size (Obj.mapSeq (· ++ vs.toArray))).push (seqObj "list" vs.toArray 0) }
  rw [hsz]
  refine wpAny_bind (wpAny_holding (wpAny_call_entry_kw slot_list_sort ⟨_, hoL, rfl⟩ entry_list_sort ?body (ha2 _)))
  case body =>
    show wpAny (model prog w) A.in1.in1 (Builtin.«list.sort» ⟨[.ref (s.heap.objs.size + 1)], [(Str.ofString "key", .builtin "len")]⟩) _ _ _
    rw [ksk_t4]
    refine sort_len hI hss hoL hz fun h' tk out c old ho' o1 o2 => ⟨_, rfl, ?_⟩
    exact wpAny_pure ⟨_, rfl, h h' tk _ out c (fun b o e => old b o (keep b o e).1 (keep b o e).2) (Nat.le_succ _) ho' o1 o2⟩
end
end SrtK
namespace L2
open PySem PySem.Spec PyProof.Rows
/-- shorter ones first -/
def ltL (x y : Str) : Bool := decide ((x.length : Int) < y.length)
/-- sorted(e, key=len), e a list of texts -/
def tSortLen (K : PySem.W.Frag) (t : TA) : TE := fun σ H Q => t σ H fun vs H1 => ∃ (a : Addr) (ss : List Str), vs = [.ref a] ∧ SqL K H1 a (ss.map V.str) ∧ (∀ x ∈ ss, x.length ≤ sizeLine) ∧
  ∀ (ys : List Str) (p : Addr), SrtO.Srtd ltL ys → SrtO.Stb ltL ys ss → H1 p = none → Q (.ref p) (upd H1 p (.lst (ys.map V.str)))
theorem swo_ltL : SrtO.Swo ltL := by
  refine ⟨fun x y h => ?_, fun x y z h1 h2 => ?_⟩
  · have a : (x.length : Int) < y.length := of_decide_eq_true h
    exact decide_eq_false (by omega)
  · have a : ¬ (y.length : Int) < x.length := of_decide_eq_false h1
    have b : ¬ (z.length : Int) < y.length := of_decide_eq_false h2
    exact decide_eq_false (by omega)
section
variable {X : Cx} {p p2 pos kpos : Pos} {e : Expr} {t : TA}
theorem pe_sortLen (hA : PA X [e] t) (hg : Gl X "sorted") (hm : X.mg "sorted" = none) (hg2 : Gl X "len") (hm2 : X.mg "len" = none)
    (hs : backTo pos (starEach [e] X.env) = (false, eval e X.env) :: backTo pos (starEach [] X.env) := by rfl) (hpl : (backTo pos (starEach [e] X.env)).any (·.1) = false := by rfl)
    (hall : (backToKw pos (keywordEach [⟨some "key", .Name "len" p2, kpos⟩] X.env)).all (·.1.isSome) = true := by rfl) (hnone : (backToKw pos (keywordEach [⟨some "key", .Name "len" p2, kpos⟩] X.env)).any (·.1.isNone) = false := by rfl)
    (hks : (backToKw pos (keywordEach [⟨some "key", .Name "len" p2, kpos⟩] X.env)).filterMap (·.1) = [Str.ofString "key"] := by rfl) :
    PE X (.Call (.Name "sorted" p) [e] [⟨some "key", .Name "len" p2, kpos⟩] pos) (tSortLen X.K t) := by
  refine ⟨fun pins s σ H Q I h => ?_⟩
  refine wpAny_Call_Name_kw (ld_blt I hg hm (show bootBuiltins "sorted" = some (.builtin "sorted") by decide +kernel) ?_ (by decide) (by decide))
  refine PyProof.Rows.callWith_kw (thn (hA.run pos pins s σ H _ I h) fun us s1 ⟨vs, H1, I1, r1, a, ss, ev, hsq, hss, q⟩ => ?_) hs hpl hall hnone
  · subst ev
    show wpAny _ _ (evalAll [(do let v ← eval (.Name "len" p2) X.env; standAt pos; pure v)]) _ _ s1
    refine wpAny_evalAll_cons (wpAny_bind (ld_blt I1 hg2 hm2 PySem.boot_len (wpAny_bind (wpAny_standAt (wpAny_pure ?_)))))
    refine wpAny_evalAll_nil ?_
    rw [hks]
    obtain rfl := Vals.ref1 r1
    obtain ⟨its, rv, hl, hz⟩ := I1.list hsq
    have hI := strs_of_vals' rv
    refine SrtK.sorted_len hI hss hl.isList (by rw [← rv.length]; exact hz) fun h' tk D out c old hD ho o1 o2 => ?_
    have hIo : StrsAre out.toList (out.toList.map SrtC.tv) := SrtC.strs_tv fun v hv => SrtC.strs_mem hI v (o2.perm.mem_iff.mp hv)
    have hb : SrtO.Stb ltL (out.toList.map SrtC.tv) ss := by
      have := SrtO.Stb.map (lt := ltL) swo_ltL SrtC.tv o2
      rw [SrtC.tv_strs hI] at this
      exact this
    refine ⟨.ref D, upd H1 D (.lst ((out.toList.map SrtC.tv).map V.str)), I1.laid (t' := tk) old hD ⟨?_, out.toList, c, vals_of_strs hIo, ho⟩, rfl, q _ D (List.pairwise_map.mpr o1) hb (I1.hok.fresh hD)⟩
    rw [List.length_map, hb.len]
    rw [List.length_map] at hz
    exact hz
end
end L2

set_option Elab.async false
set_option linter.all false
set_option maxRecDepth 100000
set_option maxHeartbeats 4000000
/-! sorted(set(texts)), len(set(texts)): the set itself is not told -/
namespace L2
open PySem PySem.Spec PyProof.Rows SetX
theorem same_new {H : Hp} {q : Addr} (o : HO) (h : H q = none) : Same H (upd H q o) := fun c u e => by
  rw [upd_ne (ne_of_none e h)]; exact e
/-- each of the texts once -/
def Once (ss ys : List Str) : Prop := ys.Nodup ∧ ∀ k, k ∈ ys ↔ k ∈ ss
def tSortedSet (K : PySem.W.Frag) (t : TA) : TE := fun σ H Q => t σ H fun vs H1 => ∃ (l : Addr) (ss : List Str), vs = [V.ref l] ∧ SqL K H1 l (ss.map V.str) ∧ ss.length ≤ 4000 ∧
  ∀ H2 L (ys : List Str), Same H1 H2 → H1 L = none → H2 L = some (.lst (ys.map V.str)) → SrtC.Asc ys → Once ss ys → ys.length ≤ ss.length → Q (.ref L) H2
def tLenSetT (K : PySem.W.Frag) (t : TA) : TE := fun σ H Q => t σ H fun vs H1 => ∃ (l : Addr) (ss : List Str), vs = [V.ref l] ∧ SqL K H1 l (ss.map V.str) ∧ ss.length ≤ 4000 ∧
  ∀ H2 (ys : List Str), Same H1 H2 → Once ss ys → ys.length ≤ ss.length → Q (.int ys.length) H2
section
variable {X : Cx} {e : Expr} {t : TA} {p p2 pos pos2 : Pos}
theorem pe_sortedSet (hc : X.calm = true) (hA : PA X [e] t) (hg : Gl X "sorted") (hm : X.mg "sorted" = none) (hg2 : Gl X "set") (hm2 : X.mg "set" = none)
    (he : starEach [e] X.env = (false, eval e X.env) :: starEach [] X.env := by rfl) :
    PE X (.Call (.Name "sorted" p) [.Call (.Name "set" p2) [e] [] pos2] [] pos) (tSortedSet X.K t) := by
  refine ⟨fun pins s σ H Q I h => ?_⟩
  refine Call_ (ld_blt I hg hm (show bootBuiltins "sorted" = some (.builtin "sorted") by decide +kernel) ?_)
  refine PyProof.Rows.callWith_builtin1 (PyProof.Rows.args_cons ?_ rfl) rfl rfl
  refine Call_ (ld_blt I hg2 hm2 PyProof.Rows.boot_set ?_)
  refine PyProof.Rows.callWith_type1 (thn (hA.run pos2 pins s σ H _ I h) fun us s1 ⟨vs, H1, I1, r1, l, ss, ev, hq, h1, q1⟩ => ?_) he rfl
  subst ev
  refine thn (cr_setTx hc pins s1 σ H1 _ _ (fun v H2 => ∃ Sa c, v = .ref Sa ∧ H1 Sa = none ∧ c ≤ ss.length ∧ H2 = upd H1 Sa (SetSO X.w Sa (fun j => decide (j ∈ ss)) c)) I1 r1 ⟨l, ss, rfl, hq, h1, fun Sa c hSa hcs => ⟨Sa, c, rfl, hSa, hcs, rfl⟩⟩) fun u s2 ⟨v, H2, I2, r2, Sa, c, ev, hSa, hcs, eH⟩ => ?_
  subst ev
  subst eH
  obtain rfl : u = Value.ref Sa := r2
  refine PyProof.Rows.args_nil ?_
  refine cr_sortedSetS hc pins s2 σ _ [V.ref Sa] [Value.ref Sa] Q I2 (.cons rfl .nil) ⟨Sa, _, c, rfl, upd_same, by omega, fun ys L hA hnd hm hl hL => q1 _ L ys ((same_new _ hSa).trans (same_new _ hL)) ?_ upd_same hA ⟨hnd, fun k => by rw [hm k, decide_eq_true_eq]⟩ (by omega)⟩
  exact (same_new _ hSa).free hL
theorem pe_lenSetT (hc : X.calm = true) (hA : PA X [e] t) (hg : Gl X "len") (hm : X.mg "len" = none) (hg2 : Gl X "set") (hm2 : X.mg "set" = none)
    (he : starEach [e] X.env = (false, eval e X.env) :: starEach [] X.env := by rfl) :
    PE X (.Call (.Name "len" p) [.Call (.Name "set" p2) [e] [] pos2] [] pos) (tLenSetT X.K t) := by
  refine ⟨fun pins s σ H Q I h => ?_⟩
  refine Call_ (ld_blt I hg hm PySem.boot_len ?_)
  refine PyProof.Rows.callWith_builtin1 (PyProof.Rows.args_cons ?_ rfl) rfl rfl
  refine Call_ (ld_blt I hg2 hm2 PyProof.Rows.boot_set ?_)
  refine PyProof.Rows.callWith_type1 (thn (hA.run pos2 pins s σ H _ I h) fun us s1 ⟨vs, H1, I1, r1, l, ss, ev, hq, h1, q1⟩ => ?_) he rfl
  subst ev
  refine thn (cr_setTx hc pins s1 σ H1 _ _ (fun v H2 => ∃ Sa c, v = .ref Sa ∧ H1 Sa = none ∧ c ≤ ss.length ∧ H2 = upd H1 Sa (SetSO X.w Sa (fun j => decide (j ∈ ss)) c)) I1 r1 ⟨l, ss, rfl, hq, h1, fun Sa c hSa hcs => ⟨Sa, c, rfl, hSa, hcs, rfl⟩⟩) fun u s2 ⟨v, H2, I2, r2, Sa, c, ev, hSa, hcs, eH⟩ => ?_
  subst ev
  subst eH
  obtain rfl : u = Value.ref Sa := r2
  refine PyProof.Rows.args_nil ?_
  exact cr_lenSetS pins s2 σ _ [V.ref Sa] [Value.ref Sa] Q I2 (.cons rfl .nil) ⟨Sa, _, c, rfl, upd_same, by omega, fun ys hnd hm hl => by
    rw [← hl]
    exact q1 _ ys (same_new _ hSa) ⟨hnd, fun k => by rw [hm k, decide_eq_true_eq]⟩ (by omega)⟩
end
end L2

set_option Elab.async false
set_option linter.all false
set_option maxRecDepth 100000
set_option maxHeartbeats 4000000
/-! texts as lists of signs: shorter first, then ascending; what can be written in words -/
namespace TxO
open PySem L2 SrtC
abbrev un (x : Str) : List Nat := x.cps.toList
theorem S_un (x : Str) : SX.S (un x) = x := by
  cases x
  simp [SX.S, un]
theorem un_S (u : List Nat) : un (SX.S u) = u := by simp [SX.S, un]
theorem map_un (ys : List Str) : (ys.map un).map SX.S = ys := by
  rw [List.map_map]
  conv => rhs; rw [← List.map_id ys]
  exact List.map_congr_left fun x _ => S_un x
theorem map_S (us : List (List Nat)) : (us.map SX.S).map un = us := by
  rw [List.map_map]
  conv => rhs; rw [← List.map_id us]
  exact List.map_congr_left fun x _ => un_S x
theorem S_inj' {u v : List Nat} (h : SX.S u = SX.S v) : u = v := by
  have := congrArg un h
  rwa [un_S, un_S] at this
theorem sLt_S (u v : List Nat) : sLt (SX.S u) (SX.S v) = decide (u < v) := by simp [sLt, SX.S]
theorem len_S (u : List Nat) : (SX.S u).length = u.length := SX.S_len u
/-! ### shorter first, then ascending -/
def bef (u v : List Nat) : Bool := decide (u.length < v.length) || (decide (u.length = v.length) && decide (u < v))
theorem bef_tri {u v : List Nat} (h1 : bef u v = false) (h2 : bef v u = false) : u = v := by
  unfold bef at h1 h2
  simp only [Bool.or_eq_false_iff, Bool.and_eq_false_iff, decide_eq_false_iff_not] at h1 h2
  have e : u.length = v.length := by omega
  have a : ¬ u < v := by rcases h1.2 with h | h; exact absurd e h; exact h
  have b : ¬ v < u := by rcases h2.2 with h | h; exact absurd e.symm h; exact h
  exact List.le_antisymm (List.not_lt.mp b) (List.not_lt.mp a)
abbrev SF (ys : List (List Nat)) : Prop := ys.Pairwise fun u v => bef v u = false
theorem sf_uniq {ys zs : List (List Nat)} (h1 : SF ys) (h2 : SF zs) (p : ys.Perm zs) : ys = zs :=
  List.Perm.eq_of_pairwise (fun a b _ _ h h' => bef_tri h' h) h1 h2 p
theorem sf_mem {ys zs : List (List Nat)} (h1 : SF ys) (h2 : SF zs) (n1 : ys.Nodup) (n2 : zs.Nodup) (m : ∀ u, u ∈ ys ↔ u ∈ zs) : ys = zs :=
  sf_uniq h1 h2 ((List.perm_ext_iff_of_nodup n1 n2).mpr m)
/-- ascending -/
abbrev As (ys : List (List Nat)) : Prop := ys.Pairwise fun u v => ¬ v < u
theorem as_of {ys : List Str} (h : Asc ys) : As (ys.map un) := by
  refine List.pairwise_map.mpr (h.imp fun {x y} q => ?_)
  have := of_decide_eq_false q
  exact this
theorem as_uniq {ys zs : List (List Nat)} (h1 : As ys) (h2 : As zs) (p : ys.Perm zs) : ys = zs :=
  List.Perm.eq_of_pairwise (fun a b _ _ h h' => List.le_antisymm (List.not_lt.mp h) (List.not_lt.mp h')) h1 h2 p
theorem sf_of {ys zs : List Str} (h1 : SrtO.Srtd ltL ys) (h2 : SrtO.Stb ltL ys zs) (h3 : Asc zs) : SF (ys.map un) := by
  rw [SF, List.pairwise_map, List.pairwise_iff_forall_sublist]
  intro x y hxy
  have a : ltL y x = false := (List.pairwise_iff_forall_sublist.mp h1) hxy
  have na : ¬ ((y.length : Int) < x.length) := of_decide_eq_false a
  show (decide ((un y).length < (un x).length) || (decide ((un y).length = (un x).length) && decide (un y < un x))) = false
  have ly : (un y).length = y.length := by simp [un, Str.length]
  have lx : (un x).length = x.length := by simp [un, Str.length]
  rw [ly, lx, decide_eq_false (show ¬ y.length < x.length by omega), Bool.false_or]
  by_cases e : y.length = x.length
  · have ex : SrtO.eqv ltL x x = true := by simp [SrtO.eqv, ltL]
    have ey : SrtO.eqv ltL x y = true := by simp [SrtO.eqv, ltL, e]
    have s : [x, y].Sublist (ys.filter (SrtO.eqv ltL x)) := by
      have := hxy.filter (SrtO.eqv ltL x)
      simpa [ex, ey] using this
    rw [h2.cls x] at s
    have q : sLt y x = false := (List.pairwise_iff_forall_sublist.mp h3) (s.trans List.filter_sublist)
    have := of_decide_eq_false q
    rw [decide_eq_false this, Bool.and_false]
  · rw [decide_eq_false e, Bool.false_and]
/-! ### written in words -/
def Wr (ws : List (List Nat)) (u : List Nat) : Prop := ∃ ps : List (List Nat), (∀ p ∈ ps, p ∈ ws) ∧ ps.flatten = u
theorem Wr.nil (ws : List (List Nat)) : Wr ws [] := ⟨[], by simp, rfl⟩
theorem Wr.snoc {ws : List (List Nat)} {u w : List Nat} (h : Wr ws u) (hw : w ∈ ws) : Wr ws (u ++ w) := by
  obtain ⟨ps, h1, h2⟩ := h
  refine ⟨ps ++ [w], fun p hp => ?_, by simp [h2]⟩
  rcases List.mem_append.mp hp with h | h
  · exact h1 p h
  · rw [List.mem_singleton.mp h]; exact hw
theorem Wr.last {ws : List (List Nat)} {u : List Nat} (h : Wr ws u) (hu : u ≠ []) (hne : ∀ w ∈ ws, w ≠ []) : ∃ v w, w ∈ ws ∧ w ≠ [] ∧ u = v ++ w ∧ Wr ws v := by
  obtain ⟨ps, h1, rfl⟩ := h
  cases hp : ps.reverse with
  | nil =>
    have : ps = [] := by simpa using hp
    subst this
    exact absurd rfl hu
  | cons w r =>
    have e : ps = r.reverse ++ [w] := by
      have := congrArg List.reverse hp
      simpa using this
    subst e
    have hw : w ∈ ws := h1 w (by simp)
    exact ⟨r.reverse.flatten, w, hw, hne w hw, by simp, r.reverse, fun p hp => h1 p (List.mem_append_left _ hp), rfl⟩
theorem Wr.mono {ws vs : List (List Nat)} {u : List Nat} (h : Wr ws u) (m : ∀ w ∈ ws, w ∈ vs) : Wr vs u := by
  obtain ⟨ps, h1, h2⟩ := h
  exact ⟨ps, fun p hp => m p (h1 p hp), h2⟩
theorem Wr.cons {ws : List (List Nat)} {u w : List Nat} (h : Wr ws u) (hw : w ∈ ws) : Wr ws (w ++ u) := by
  obtain ⟨ps, h1, h2⟩ := h
  refine ⟨w :: ps, fun p hp => ?_, by simp [h2]⟩
  rcases List.mem_cons.mp hp with h | h
  · rw [h]; exact hw
  · exact h1 p h
theorem Wr.first {ws : List (List Nat)} {u : List Nat} (h : Wr ws u) (hu : u ≠ []) (hne : ∀ w ∈ ws, w ≠ []) : ∃ v w, w ∈ ws ∧ w ≠ [] ∧ u = w ++ v ∧ Wr ws v := by
  obtain ⟨ps, h1, rfl⟩ := h
  cases ps with
  | nil => exact absurd rfl hu
  | cons w r => exact ⟨r.flatten, w, h1 w (by simp), hne w (h1 w (by simp)), by simp, r, fun p hp => h1 p (by simp [hp]), rfl⟩
/-- the shorter words -/
abbrev shorter (ws : List (List Nat)) (u : List Nat) : List (List Nat) := ws.filter fun p => decide (p.length < u.length)
/-- u is written in two or more words -/
abbrev Put (ws : List (List Nat)) (u : List Nat) : Prop := Wr (shorter ws u) u
theorem flat_part {ps : List (List Nat)} {p : List Nat} (hne : ∀ q ∈ ps, q ≠ []) (h : p ∈ ps) (hl : ps.flatten.length ≤ p.length) : ps = [p] := by
  obtain ⟨a, b, rfl⟩ := List.append_of_mem h
  rw [List.flatten_append, List.flatten_cons, List.length_append, List.length_append] at hl
  have z : ∀ l : List (List Nat), (∀ q ∈ l, q ≠ []) → l.flatten.length = 0 → l = [] := fun l hn h0 => by
    cases l with
    | nil => rfl
    | cons x r =>
      have : x ≠ [] := hn x (by simp)
      have : x.length ≠ 0 := fun e => this (List.eq_nil_of_length_eq_zero e)
      rw [List.flatten_cons, List.length_append] at h0
      omega
  have ea := z a (fun q hq => hne q (by simp [hq])) (by omega)
  have eb := z b (fun q hq => hne q (by simp [hq])) (by omega)
  rw [ea, eb]
  rfl
/-- to be written in other words, and in shorter ones, is the same -/
theorem wr_other {ws : List (List Nat)} (hne : ∀ w ∈ ws, w ≠ []) (u : List Nat) : Wr (ws.filter fun p => decide (p ≠ u)) u ↔ Put ws u := by
  constructor
  · rintro ⟨ps, h1, h2⟩
    refine ⟨ps, fun p hp => ?_, h2⟩
    obtain ⟨a, b⟩ := List.mem_filter.mp (h1 p hp)
    refine List.mem_filter.mpr ⟨a, decide_eq_true ?_⟩
    have hpn : ∀ q ∈ ps, q ≠ [] := fun q hq => hne q (List.mem_filter.mp (h1 q hq)).1
    by_cases c : p.length < u.length
    · exact c
    · exfalso
      have e := flat_part hpn hp (by rw [h2]; omega)
      rw [e] at h2
      have : p = u := by simpa using h2
      exact (of_decide_eq_true b) this
  · rintro ⟨ps, h1, h2⟩
    refine ⟨ps, fun p hp => ?_, h2⟩
    obtain ⟨a, b⟩ := List.mem_filter.mp (h1 p hp)
    refine List.mem_filter.mpr ⟨a, decide_eq_true fun e => ?_⟩
    have := of_decide_eq_true b
    rw [e] at this
    omega
theorem put_mono {ws vs : List (List Nat)} {u : List Nat} (m : ∀ w ∈ ws, w ∈ vs) (h : Put ws u) : Put vs u :=
  Wr.mono h fun w hw => List.mem_filter.mpr ⟨m w (List.mem_filter.mp hw).1, (List.mem_filter.mp hw).2⟩
/-- of the shortest words none is written in others -/
theorem base_some {ws : List (List Nat)} (hne : ∀ w ∈ ws, w ≠ []) (h0 : ws ≠ []) : ∃ u ∈ ws, ¬ Put ws u := by
  have key : ∀ (n : Nat), ∀ w ∈ ws, w.length ≤ n → ∃ u ∈ ws, ∀ p ∈ ws, u.length ≤ p.length := by
    intro n
    induction n with
    | zero =>
      intro w hw hl
      exact ⟨w, hw, fun p hp => by omega⟩
    | succ n ih =>
      intro w hw hl
      by_cases c : ∃ p ∈ ws, p.length < w.length
      · obtain ⟨p, hp, hpl⟩ := c
        exact ih p hp (by omega)
      · exact ⟨w, hw, fun p hp => Nat.le_of_not_lt fun q => c ⟨p, hp, q⟩⟩
  obtain ⟨w, hw⟩ := List.exists_mem_of_ne_nil ws h0
  obtain ⟨u, hu, hm⟩ := key w.length w hw (Nat.le_refl _)
  refine ⟨u, hu, fun h => ?_⟩
  obtain ⟨v, p, hp, hpn, e, _⟩ := Wr.first h (hne u hu) fun q hq => hne q (List.mem_filter.mp hq).1
  obtain ⟨a, b⟩ := List.mem_filter.mp hp
  have := of_decide_eq_true b
  have := hm p a
  omega
theorem nodup_un {ss : List Str} (h : ss.Nodup) : (ss.map un).Nodup :=
  List.pairwise_map.mpr (h.imp fun {x y} n e => n (by rw [← S_un x, ← S_un y, e]))
theorem mem_un {ss : List Str} {ws : List (List Nat)} (h : ∀ k, k ∈ ss ↔ k ∈ ws.map SX.S) (u : List Nat) : u ∈ ss.map un ↔ u ∈ ws := by
  constructor
  · intro q
    obtain ⟨x, hx, rfl⟩ := List.mem_map.mp q
    obtain ⟨v, hv, e⟩ := List.mem_map.mp ((h x).mp hx)
    rw [← e, un_S]
    exact hv
  · intro q
    exact List.mem_map.mpr ⟨SX.S u, (h _).mpr (List.mem_map.mpr ⟨u, q, rfl⟩), un_S u⟩
theorem once_un {ss : List Str} {ws : List (List Nat)} (h : Once (ws.map SX.S) ss) : (ss.map un).Nodup ∧ ∀ u, u ∈ ss.map un ↔ u ∈ ws := ⟨nodup_un h.1, mem_un h.2⟩
/-- what base tells -/
def IsBase (ws ys : List (List Nat)) : Prop := SF ys ∧ ys.Nodup ∧ ∀ u, u ∈ ys ↔ u ∈ ws ∧ ¬ Put ws u
/-! ### beginnings -/
theorem starts3 {x w : List Nat} {i : Nat} (hi : i ≤ x.length) : Txt.startswith3 (SX.S x) (SX.S w) (i : Int) = decide (w <+: x.drop i) := by
  have ef : fromIndex (SX.S x).length (i : Int) = i := by
    unfold fromIndex
    rw [if_neg (by omega)]
    omega
  unfold Txt.startswith3
  rw [ef, PySem.StrLaws.subAt_eq, SX.S_len, SX.S_len]
  show (decide (i + w.length ≤ x.length) && ((x.drop i).take w.length == w)) = _
  by_cases c : w <+: x.drop i
  · have l := c.length_le
    rw [List.length_drop] at l
    have e := (List.prefix_iff_eq_take.mp c).symm
    rw [decide_eq_true c, e]
    by_cases z : w.length = 0
    · simp; omega
    · simp; omega
  · rw [decide_eq_false c]
    have : ¬ ((x.drop i).take w.length = w) := fun e => c (List.prefix_iff_eq_take.mpr e.symm)
    simp [this]
theorem cut_mid (x : List Nat) {i k : Nat} (hi : i ≤ x.length) : cutS (SX.S x) (some (i : Int)) (some ((i + k : Nat) : Int)) = SX.S ((x.drop i).take k) := by
  unfold cutS
  rw [HT.sIx_nat, HT.sIx_nat, SX.S_len]
  show SX.S ((x.drop (min i x.length)).take (min (i + k) x.length - min i x.length)) = _
  congr 1
  rw [Nat.min_eq_left hi]
  by_cases c : i + k ≤ x.length
  · rw [Nat.min_eq_left c, show i + k - i = k by omega]
  · rw [Nat.min_eq_right (by omega), List.take_of_length_le (by rw [List.length_drop]; omega), List.take_of_length_le (by rw [List.length_drop]; omega)]
theorem cut_to (x : List Nat) (k : Nat) : cutS (SX.S x) none (some (k : Int)) = SX.S (x.take k) := by
  unfold cutS
  rw [HT.sIx_nat, HT.sIx_none, SX.S_len]
  show SX.S ((x.drop 0).take (min k x.length - 0)) = _
  rw [List.drop_zero, Nat.sub_zero, ← List.take_take, List.take_length]
theorem cut_from (x : List Nat) (k : Nat) : cutS (SX.S x) (some (k : Int)) none = SX.S (x.drop k) := by
  unfold cutS
  rw [HT.sIx_nat, HT.sIx_none, SX.S_len]
  show SX.S ((x.drop (min k x.length)).take (x.length - min k x.length)) = _
  by_cases c : k ≤ x.length
  · rw [Nat.min_eq_left c, List.take_of_length_le (by rw [List.length_drop]; omega)]
  · rw [Nat.min_eq_right (by omega), List.drop_eq_nil_of_le (by omega), List.drop_eq_nil_of_le (by omega), List.take_nil]
theorem pre_take {w x : List Nat} : x.take w.length = w ↔ w <+: x := by
  rw [List.prefix_iff_eq_take]
  exact eq_comm
end TxO

set_option Elab.async false
set_option linter.all false
set_option maxRecDepth 100000
set_option maxHeartbeats 4000000
namespace J
open PySem L2
/-! ### lists of rests -/
theorem ltM {n : Nat} (h : n ≤ 10649600) : n < sizeLine := Nat.lt_of_le_of_lt h (by decide)
theorem leM {n : Nat} (h : n ≤ 10649600) : n ≤ sizeLine := Nat.le_trans h (by decide)
def RsAt (H : Hp) (us : List V) (rs : List Rest) : Prop := us.length = rs.length ∧ ∀ (i : Nat) r, rs[i]? = some r → ∃ t, us[i]? = some (.ref t) ∧ H t = some (restHO r)
theorem RsAt.to {H H' : Hp} {us : List V} {rs : List Rest} (h : RsAt H us rs) (s : ∀ t r, H t = some (restHO r) → H' t = some (restHO r)) : RsAt H' us rs := ⟨h.1, fun i e he => by
  obtain ⟨t, h1, h2⟩ := h.2 i e he
  exact ⟨t, h1, s _ _ h2⟩⟩
theorem RsAt.same {H H' : Hp} {us : List V} {rs : List Rest} (h : RsAt H us rs) (s : Same H H') : RsAt H' us rs := h.to fun _ _ e => s _ _ e
theorem RsAt.nil (H : Hp) : RsAt H [] [] := ⟨rfl, fun i s h => by simp at h⟩
theorem RsAt.snoc {H : Hp} {us : List V} {rs : List Rest} (h : RsAt H us rs) {t : Addr} {r : Rest} (ht : H t = some (restHO r)) : RsAt H (us ++ [.ref t]) (rs ++ [r]) := by
  refine ⟨by rw [List.length_append, List.length_append, h.1]; rfl, fun i f hf => ?_⟩
  by_cases c : i < rs.length
  · rw [List.getElem?_append_left c] at hf
    obtain ⟨u, h1, h2⟩ := h.2 i f hf
    exact ⟨u, by rw [List.getElem?_append_left (by rw [h.1]; exact c)]; exact h1, h2⟩
  · have hi : i = rs.length := by
      have := (List.getElem?_eq_some_iff.mp hf).1
      rw [List.length_append, List.length_singleton] at this
      omega
    subst hi
    rw [List.getElem?_append_right (Nat.le_refl _)] at hf
    simp at hf
    subst hf
    exact ⟨t, by rw [List.getElem?_append_right (by rw [h.1]; exact Nat.le_refl _), h.1]; simp, ht⟩
theorem RsAt.append {H : Hp} {us vs : List V} {rs ss : List Rest} (h : RsAt H us rs) (g : RsAt H vs ss) : RsAt H (us ++ vs) (rs ++ ss) := by
  refine ⟨by simp [h.1, g.1], fun i a e => ?_⟩
  by_cases hi : i < rs.length
  · rw [List.getElem?_append_left hi] at e
    rw [List.getElem?_append_left (by rw [h.1]; exact hi)]
    exact h.2 i a e
  · rw [List.getElem?_append_right (by omega)] at e
    rw [List.getElem?_append_right (by rw [h.1]; omega), h.1]
    exact g.2 _ a e
theorem RsAt.at {H : Hp} {us : List V} {rs : List Rest} (h : RsAt H us rs) {i : Nat} {y : V} (hy : us[i]? = some y) : ∃ r t, rs[i]? = some r ∧ y = .ref t ∧ H t = some (restHO r) := by
  have hi : i < rs.length := by rw [← h.1]; exact (List.getElem?_eq_some_iff.mp hy).1
  have e : rs[i]? = some rs[i] := List.getElem?_eq_getElem hi
  obtain ⟨t, h1, h2⟩ := h.2 i _ e
  rw [hy] at h1
  exact ⟨_, t, e, Option.some.inj h1, h2⟩
theorem rest_ne {H : Hp} {F t : Addr} {us : List V} {r : Rest} (hF : H F = some (.lst us)) (h : H t = some (restHO r)) : t ≠ F := fun z => by
  rw [z, hF] at h
  cases h
def unk : List Key → Rest
  | [.inl a, .inl b, .inr x] => (a.toNat, b.toNat, x.cps.toList)
  | _ => (0, 0, [])
theorem unk_rk (r : Rest) : unk (rk r) = r := by
  obtain ⟨a, b, u⟩ := r
  simp [unk, rk, SX.S]
/-- the rests, ascending, each once -/
def Asc (rs : List Rest) : Prop := rs.Pairwise fun x y => SrtC.lexC (rk y) (rk x) = false
structure Canon (as : List Arc) (ms : List Nat) (rs : List Rest) : Prop where
  nd : rs.Nodup
  mem : ∀ r, r ∈ rs ↔ Rch as ms r
  asc : Asc rs
theorem Canon.uniq {as : List Arc} {ms ms' : List Nat} {rs ss : List Rest} (h : Canon as ms rs) (g : Canon as ms' ss) (e : ms = ms') : rs = ss := by
  subst e
  have p : rs.Perm ss := (List.perm_ext_iff_of_nodup h.nd g.nd).mpr fun r => (h.mem r).trans (g.mem r).symm
  exact List.Perm.eq_of_pairwise (fun a b _ _ h1 h2 => rk_inj (SrtC.lexC_tri h2 h1)) h.asc g.asc p
theorem reach_uniq {as : List Arc} {ms ms' : List Nat} (h1 : ms.Pairwise (· < ·)) (h2 : ms'.Pairwise (· < ·)) (g1 : ∀ x, x ∈ ms ↔ Reach as x) (g2 : ∀ x, x ∈ ms' ↔ Reach as x) : ms = ms' :=
  List.Perm.eq_of_pairwise (fun a b _ _ x y => absurd (Nat.lt_trans x y) (Nat.lt_irrefl _)) h1 h2 ((List.perm_ext_iff_of_nodup (h1.imp Nat.ne_of_lt) (h2.imp Nat.ne_of_lt)).mpr fun x => (g1 x).trans (g2 x).symm)
theorem Canon.len {as : List Arc} {ms : List Nat} {rs : List Rest} (h : Canon as ms rs) (oka : OkAll as) (hl : as.length ≤ 200) : rs.length ≤ 10649600 := Cov.len ⟨h.nd, fun r hr => (h.mem r).mp hr⟩ oka hl
/-- told: rests as the program and as the law tell them -/
def spRests (C : Addr) : Sp := fun vs H Q _ => ∃ (q : Addr) (sg : List Nat) (us : List V) (as : List Arc), vs = [.ref q] ∧ LoomAt C H q sg us as ∧
  ∀ (H' : Hp) (t : Addr) (vs : List V) (rs : List Rest) (ms : List Nat), Same H H' → H t = none → H' t = some (.lst vs) → RsAt H' vs rs → (∀ x, x ∈ ms ↔ Reach as x) → ms.Pairwise (· < ·) → Canon as ms rs → Q (.ref t) H'
def spClosed (C : Addr) : Sp := fun vs H Q _ => ∃ (q : Addr) (sg : List Nat) (us : List V) (as : List Arc), vs = [.ref q] ∧ LoomAt C H q sg us as ∧
  (∀ (H' : Hp) (rs : List Rest) (ms : List Nat), Same H H' → (∀ x, x ∈ ms ↔ Reach as x) → ms.Pairwise (· < ·) → Canon as ms rs → rs.any evenB = true → Q .non H') ∧
  (∀ (H' : Hp) (t : Addr) (vs : List V) (rs : List Rest) (ms : List Nat), Same H H' → H t = none → H' t = some (.lst vs) → RsAt H' vs rs → (∀ x, x ∈ ms ↔ Reach as x) → ms.Pairwise (· < ·) → Canon as ms rs → rs.any evenB = false → Q (.ref t) H')
theorem paired_at {P : List Key → Addr → Prop} {ks : List (List Key)} {cs : List Addr} (h : Paired P ks cs) : ks.length = cs.length ∧ ∀ (i : Nat) k, ks[i]? = some k → ∃ c, cs[i]? = some c ∧ P k c := by
  induction h with
  | nil => exact ⟨rfl, fun i k h => by simp at h⟩
  | @cons k c ks cs hh t ih =>
    refine ⟨by rw [List.length_cons, List.length_cons, ih.1], fun i k' hk => ?_⟩
    cases i with
    | zero =>
      simp at hk
      subst hk
      exact ⟨c, rfl, hh⟩
    | succ i => exact ih.2 i k' (by simpa using hk)
section
variable {P : Program} {w : World} {K : PySem.W.Frag} {mg : Str → Option Value} {base : Heap}
theorem ok_rests (T : Tx K mg) : FnOk P w K mg base CX0 4 T.f_rests T.fd_rests P_rests (spRests T.C_Loom) := by
  have G_explored : FnOk P w K mg base CX0 3 T.f_explored T.fd_explored P_explored (spExplored T.C_Loom) := ok_explored T
  refine T.F_rests.ok sc_rests (fun vs H Q E h => ?_) (fun cdv A outer s H vs Q E hr h => ?_)
  · obtain ⟨q, sg, us, as, rfl, _⟩ := h
    rfl
  · obtain ⟨q, sg, us, as, rfl, hL, k⟩ := h
    refine ⟨_, (pss_cons (ps_asg (pe_call G_explored (hr.mono (by decide)) rfl T.m_explored T.F_explored.kp T.b_explored .nil pass0 (pa_cons (pv 0) pa_nil)) (pg_tup rfl (pgs_cons (pg_name (i := 1) sc_rests.nd rfl (Or.inl rfl)) (pgs_cons (pg_name (i := 2) sc_rests.nd rfl (Or.inl rfl)) pgs_nil))))
        (pss_one (ps_ret (pe_callB (cr_sortedDT rfl) rfl T.n_sorted (by decide +kernel) (pa_cons (pv 1) pa_nil))))), ?_⟩
    refine ⟨_, rfl, q, sg, us, as, rfl, hL, fun H1 t W O ms s1 ht hreach hms hw => ?_⟩
    refine ⟨t, _, rfl, SqT.of ht, rfl, _, _, rfl, _, _, rfl, rfl, ?_⟩
    obtain ⟨kw, rs0, hkw, hkeys, cov, hall⟩ := hw
    refine ⟨_, rfl, W, kw, true, [true, false], rfl, .inl hkw, fun p hp => ?_, fun cs ks p hP hsrt hperm hp0 => ?_⟩
    · have : p.1 ∈ kw.map (·.1) := List.mem_map.mpr ⟨p, hp, rfl⟩
      rw [hkeys] at this
      obtain ⟨r, _, e⟩ := List.mem_map.mp this
      rw [← e]
      rfl
    · rw [hkeys] at hperm
      have hk : ∀ k ∈ ks, rk (unk k) = k := fun k hk => by
        obtain ⟨r, _, e⟩ := List.mem_map.mp (hperm.mem_iff.mp hk)
        rw [← e, unk_rk]
      have hp2 : (ks.map unk).Perm rs0 := by
        have := hperm.map unk
        rw [List.map_map] at this
        have e : List.map (unk ∘ rk) rs0 = rs0 := by
          conv => rhs; rw [← List.map_id rs0]
          exact List.map_congr_left fun r _ => unk_rk r
        rwa [e] at this
      have hP2 := paired_at hP
      have sp : Same H1 (upd H1 p (.lst (cs.map V.ref))) := Same.new _ hp0
      refine k _ p (cs.map V.ref) (ks.map unk) ms (s1.trans sp) (s1.free hp0) upd_same ⟨by rw [List.length_map, List.length_map, hP2.1], fun i r hr => ?_⟩ hreach hms ⟨hp2.nodup_iff.mpr cov.1, fun r => hp2.mem_iff.trans ⟨cov.2 r, hall r⟩, List.pairwise_map.mpr (hsrt.imp_of_mem fun {a b} ha hb h => by rw [hk a ha, hk b hb]; exact h)⟩
      rw [List.getElem?_map] at hr
      obtain ⟨kk, hkk, rfl⟩ := Option.map_eq_some_iff.mp hr
      obtain ⟨c, hc, hHc⟩ := hP2.2 i kk hkk
      refine ⟨c, by rw [List.getElem?_map, hc]; rfl, sp _ _ ?_⟩
      rw [rk_HO, hk kk (List.mem_of_getElem? hkk)]
      exact hHc
end
end J


set_option Elab.async false
set_option linter.all false
set_option maxRecDepth 100000
set_option maxHeartbeats 4000000
namespace J
open PySem L2
/-! ### the law's starts and steps -/
theorem lvs_at {g : Nat} : ∀ {as : List Arc} {n : Nat} {e : Nat × List Nat × Nat}, e ∈ lvs g n as → n ≤ e.1 ∧ as[e.1 - n]? = some (g, e.2.1, e.2.2)
  | [], _, _, h => by cases h
  | a :: r, n, e, h => by
    have h' : e ∈ (if a.1 = g then (n, a.2.1, a.2.2) :: lvs g (n + 1) r else lvs g (n + 1) r) := h
    have tl : e ∈ lvs g (n + 1) r → n ≤ e.1 ∧ (a :: r)[e.1 - n]? = some (g, e.2.1, e.2.2) := fun z => by
      obtain ⟨h1, h2⟩ := lvs_at z
      refine ⟨by omega, ?_⟩
      have : e.1 - n = (e.1 - (n + 1)) + 1 := by omega
      rw [this, List.getElem?_cons_succ]
      exact h2
    by_cases c : a.1 = g
    · rw [if_pos c] at h'
      rcases List.mem_cons.mp h' with z | z
      · refine ⟨by rw [z]; exact Nat.le_refl _, ?_⟩
        rw [z]
        show (a :: r)[n - n]? = _
        rw [Nat.sub_self]
        show some a = _
        rw [← c]
      · exact tl z
    · rw [if_neg c] at h'
      exact tl h'
theorem lvs_arc0 {g : Nat} {as : List Arc} {e : Nat × List Nat × Nat} (h : e ∈ lvs g 0 as) : as[e.1]? = some (g, e.2.1, e.2.2) := (lvs_at h).2
theorem leavTo_lvs {as : List Arc} {g : Nat} : ∀ i, i ≤ as.length → leavTo as g i = (lvs g 0 (as.take i)).map (·.1)
  | 0, _ => by simp [leavTo, lvs]
  | i + 1, h => by
    have hi : i < as.length := h
    have e : as[i]? = some as[i] := List.getElem?_eq_getElem hi
    rw [leavTo_snoc e, leavTo_lvs i (Nat.le_of_lt hi), List.take_add_one, e]
    show _ = (lvs g 0 (as.take i ++ [as[i]])).map (·.1)
    rw [lvs_snoc, List.map_append]
    congr 1
    split
    · show [i] = [0 + (as.take i).length]
      rw [List.length_take, Nat.min_eq_left (Nat.le_of_lt hi), Nat.zero_add]
    · rfl
theorem leav_lvs (as : List Arc) (g : Nat) : leav as g = (lvs g 0 as).map (·.1) := by
  unfold leav
  rw [leavTo_lvs _ (Nat.le_refl _), List.take_length]
theorem nats_at {l : List Nat} {j : Nat} {y : V} (h : (nats l)[j]? = some y) : ∃ n, l[j]? = some n ∧ y = .int (n : Int) := by
  rw [List.getElem?_map] at h
  obtain ⟨n, h1, h2⟩ := Option.map_eq_some_iff.mp h
  exact ⟨n, h1, h2.symm⟩
theorem str_dec' (u v : List Nat) : decide (V.str (SX.S u) = V.str (SX.S v)) = decide (u = v) := decide_eq_decide.mpr ⟨fun h => by injection h with h; exact S_inj h, fun h => by rw [h]⟩
theorem int_ne_dec (a b : Nat) : (!decide (V.int (a : Int) = V.int (b : Int))) = decide (a ≠ b) := by
  by_cases c : a = b
  · subst c; simp
  · have n : ¬ (V.int (a : Int) = V.int (b : Int)) := fun h => by injection h with h; exact c (by omega)
    rw [decide_eq_false n, decide_eq_true c]
    rfl
def lstarts (as : List Arc) (ms : List Nat) : List Rest := (startsL as ms).map (·.1)
def lsteps (as : List Arc) (r : Rest) : List Rest := (stepsL as r).map (·.1)
def spLStarts : Sp := fun vs H Q _ => ∃ (a : Addr) (as : List Arc), vs = [.ref a] ∧ ArcL H a as ∧ OkAll as ∧ as.length ≤ 200 ∧
  ∀ (H' : Hp) (t : Addr) (us : List V) (ms : List Nat), Same H H' → H t = none → H' t = some (.lst us) → RsAt H' us (lstarts as ms) → (∀ x, x ∈ ms ↔ Reach as x) → ms.Pairwise (· < ·) → Q (.ref t) H'
def spLSteps : Sp := fun vs H Q _ => ∃ (a b : Addr) (as : List Arc) (r : Rest), vs = [.ref a, .ref b] ∧ ArcL H a as ∧ OkAll as ∧ as.length ≤ 200 ∧ H b = some (restHO r) ∧ r.2.2.length ≤ 1000 ∧
  ∀ (H' : Hp) (t : Addr) (us : List V), Same H H' → H t = none → H' t = some (.lst us) → RsAt H' us (lsteps as r) → Q (.ref t) H'
section
variable {P : Program} {w : World} {K : PySem.W.Frag} {mg : Str → Option Value} {base : Heap}
end
end J


set_option Elab.async false
set_option linter.all false
set_option maxRecDepth 100000
set_option maxHeartbeats 4000000
namespace J
open PySem L2
theorem ltL {n : Nat} (h : n ≤ 16000000) : n < sizeLine := Nat.lt_of_le_of_lt h (by decide)
theorem lsteps_len (as : List Arc) (r : Rest) : (lsteps as r).length ≤ as.length := by
  have one : ∀ e, (stepOf r e).length ≤ 1 := fun e => by
    unfold stepOf
    split
    · simp
    · split <;> simp
  have h1 := flat_len1 (stepOf r) one (lvs r.1 0 as)
  have h2 := lvs_len r.1 as 0
  unfold lsteps stepsL
  rw [List.length_map]
  omega
theorem lsteps_rch {as : List Arc} {ms : List Nat} {r x : Rest} (h : Rch as ms r) (hx : x ∈ lsteps as r) : Rch as ms x := by
  obtain ⟨s, hs, rfl⟩ := List.mem_map.mp hx
  exact .step h hs
theorem lstarts_rch {as : List Arc} {ms : List Nat} {x : Rest} (hx : x ∈ lstarts as ms) : Rch as ms x := by
  obtain ⟨s, hs, rfl⟩ := List.mem_map.mp hx
  exact .start hs
end J


set_option Elab.async false
set_option linter.all false
set_option maxRecDepth 100000
set_option maxHeartbeats 4000000
namespace J
open PySem L2
def restD (r : Rest) : PyData := .tuple [.int (r.1 : Int), .int (r.2.1 : Int), .str (SX.S r.2.2)]
theorem dp_rest {K : PySem.W.Frag} {H : Hp} {t : Addr} {r : Rest} (h : H t = some (restHO r)) : Dp K H (.ref t) (restD r) := .tup (SqT.of h) (.cons (.int _) (.cons (.int _) (.cons (.str _) .nil)))
theorem dp_rests {K : PySem.W.Frag} {H : Hp} : ∀ {us : List V} {rs : List Rest}, RsAt H us rs → DpAll K H us (rs.map restD)
  | [], [], _ => .nil
  | [], _ :: _, h => by have := h.1; simp at this
  | _ :: _, [], h => by have := h.1; simp at this
  | u :: us, r :: rs, h => by
    obtain ⟨t, e, ht⟩ := h.2 0 r rfl
    cases e
    refine .cons (dp_rest ht) (dp_rests ⟨by have := h.1; simpa using this, fun i b hb => ?_⟩)
    obtain ⟨t', e', ht'⟩ := h.2 (i + 1) b (by simpa using hb)
    exact ⟨t', by simpa using e', ht'⟩
theorem str_beq (u v : List Nat) : (SX.S u == SX.S v) = decide (u = v) := by
  by_cases h : u = v
  · subst h; simp
  · have n : SX.S u ≠ SX.S v := fun z => h (S_inj z)
    rw [decide_eq_false h]
    exact beq_false_of_ne n
theorem nat_beq (m n : Nat) : ((m : Int) == (n : Int)) = decide (m = n) := by
  by_cases h : m = n
  · subst h; simp
  · rw [decide_eq_false h]
    exact beq_false_of_ne (fun z => h (by exact_mod_cast z))
theorem eqv_rest (a b : Rest) : PyData.eqv (restD a) (restD b) = decide (a = b) := by
  show (((a.1 : Int) == (b.1 : Int)) && (((a.2.1 : Int) == (b.2.1 : Int)) && ((SX.S a.2.2 == SX.S b.2.2) && true))) = _
  rw [nat_beq, nat_beq, str_beq]
  obtain ⟨a1, a2, a3⟩ := a
  obtain ⟨b1, b2, b3⟩ := b
  rw [Bool.eq_iff_iff]
  simp
theorem eqv_rests : ∀ as bs : List Rest, PyData.eqvAll (as.map restD) (bs.map restD) = decide (as = bs)
  | [], [] => rfl
  | [], b :: bs => by rw [decide_eq_false (by simp)]; rfl
  | a :: as, [] => by rw [decide_eq_false (by simp)]; rfl
  | a :: as, b :: bs => by
    show (PyData.eqv (restD a) (restD b) && PyData.eqvAll (as.map restD) (bs.map restD)) = _
    rw [eqv_rest, eqv_rests as bs, Bool.eq_iff_iff]
    simp
theorem any_rests (rs : List Rest) (r : Rest) : ((rs.map restD).any fun z => PyData.eqv z (restD r)) = decide (r ∈ rs) := by
  rw [List.any_map, Bool.eq_iff_iff, List.any_eq_true]
  constructor
  · rintro ⟨x, hx, e⟩
    have e : PyData.eqv (restD x) (restD r) = true := e
    rw [eqv_rest] at e
    rw [← of_decide_eq_true e]
    exact decide_eq_true hx
  · intro h
    exact ⟨r, of_decide_eq_true h, by show PyData.eqv (restD r) (restD r) = true; rw [eqv_rest]; exact decide_eq_true rfl⟩
def SmR (r : Rest) : Prop := ∀ c ∈ r.2.2, c < 1114112
theorem str_ok {u : List Nat} (h : ∀ c ∈ u, c < 1114112) : PyData.strOk (SX.S u) = true := by
  unfold PyData.strOk SX.S
  simp only [List.all_toArray, List.all_eq_true, decide_eq_true_eq]
  exact h
theorem lay_rest {r : Rest} (h : SmR r) : PyData.canLay0 (restD r) = true := by
  show (true && (true && (PyData.strOk (SX.S r.2.2) && true))) = true
  rw [str_ok h]; rfl
theorem deep_rest (r : Rest) : PyData.depth (restD r) = 1 := by
  show max (PyData.depth (.int (r.1 : Int))) (PyData.depthAll [.int (r.2.1 : Int), .str (SX.S r.2.2)]) + 1 = 1
  simp [PyData.depth, PyData.depthAll]
theorem shaped_rest {r : Rest} (h : SmR r) : SeqAt.shaped (restD r) = true := by
  unfold SeqAt.shaped
  rw [lay_rest h, deep_rest]
  rfl
theorem lay_rests : ∀ rs : List Rest, (∀ r ∈ rs, SmR r) → PyData.canLayAll0 (rs.map restD) = true
  | [], _ => rfl
  | r :: rs, h => by
    show (PyData.canLay0 (restD r) && PyData.canLayAll0 (rs.map restD)) = true
    rw [lay_rest (h r (by simp)), lay_rests rs fun x hx => h x (List.mem_cons_of_mem _ hx)]
    rfl
theorem deep_rests : ∀ rs : List Rest, PyData.depthAll (rs.map restD) ≤ 1
  | [] => by simp [PyData.depthAll]
  | r :: rs => by
    show max (PyData.depth (restD r)) (PyData.depthAll (rs.map restD)) ≤ 1
    have := deep_rests rs
    have := deep_rest r
    omega
theorem shaped_rests {rs : List Rest} (h : ∀ r ∈ rs, SmR r) : SeqAt.shaped (.list (rs.map restD)) = true := by
  have q1 : PyData.canLay0 (.list (rs.map restD)) = true := lay_rests rs h
  have q2 : PyData.depth (.list (rs.map restD)) ≤ 64 := by
    show PyData.depthAll (rs.map restD) + 1 ≤ 64
    have := deep_rests rs
    omega
  unfold SeqAt.shaped
  rw [q1, decide_eq_true q2]
  rfl
def SmA (as : List Arc) : Prop := ∀ a ∈ as, ∀ c ∈ a.2.1, c < 1114112
theorem rch_small {as : List Arc} {ms : List Nat} (h : OkAll as) (s : SmA as) {r : Rest} (q : Rch as ms r) : SmR r := by
  obtain ⟨_, _, c, hc, k, _, e⟩ := rch_in h q
  intro d hd
  rw [e] at hd
  exact s c hc d (List.mem_of_mem_drop hd)
end J


set_option Elab.async false
set_option linter.all false
set_option maxRecDepth 100000
set_option maxHeartbeats 4000000
namespace J
open PySem L2
def arcD (a : Arc) : PyData := .tuple [.int (a.1 : Int), .str (SX.S a.2.1), .int (a.2.2 : Int)]
theorem dp_arc {K : PySem.W.Frag} {H : Hp} {t : Addr} {a : Arc} (h : H t = some (arcHO a)) : Dp K H (.ref t) (arcD a) := .tup (SqT.of h) (.cons (.int _) (.cons (.str _) (.cons (.int _) .nil)))
theorem dp_arcs {K : PySem.W.Frag} {H : Hp} : ∀ {us : List V} {as : List Arc}, Arcs H us as → DpAll K H us (as.map arcD)
  | [], [], _ => .nil
  | [], _ :: _, h => by have := h.1; simp at this
  | _ :: _, [], h => by have := h.1; simp at this
  | u :: us, a :: as, h => by
    obtain ⟨t, e, ht⟩ := h.2 0 a rfl
    cases e
    refine .cons (dp_arc ht) (dp_arcs ⟨by have := h.1; simpa using this, fun i b hb => ?_⟩)
    obtain ⟨t', e', ht'⟩ := h.2 (i + 1) b (by simpa using hb)
    exact ⟨t', by simpa using e', ht'⟩
theorem signs_small {sg : List Nat} (h : Signs sg) : ∀ c ∈ sg, c < 1114112 := by
  have q : ∀ l ∈ ([[97], [97, 98], [97, 98, 99], [120, 122], [98, 100, 107, 122], [113, 119]] : List (List Nat)), ∀ c ∈ l, c < 1114112 := by decide
  exact q sg h
theorem lay_arcs {sg : List Nat} (hs : Signs sg) : ∀ as : List Arc, (∀ a ∈ as, OkArc sg a) → PyData.canLayAll0 (as.map arcD) = true
  | [], _ => rfl
  | a :: r, h => by
    have h1 := (h a (by simp)).2.1.2.2
    have e : PyData.strOk (SX.S a.2.1) = true := by
      unfold PyData.strOk SX.S
      simp only [List.all_toArray, List.all_eq_true, decide_eq_true_eq]
      intro c hc
      exact signs_small hs c (h1 c hc)
    have ea : PyData.canLay0 (arcD a) = true := by
      show (true && (PyData.strOk (SX.S a.2.1) && (true && true))) = true
      rw [e]; rfl
    show (PyData.canLay0 (arcD a) && PyData.canLayAll0 (r.map arcD)) = true
    rw [ea, lay_arcs hs r fun b hb => h b (by simp [hb])]
    rfl
theorem deep_arcs : ∀ as : List Arc, PyData.depthAll (as.map arcD) ≤ 1
  | [] => by simp [PyData.depthAll]
  | a :: r => by
    show max (PyData.depth (arcD a)) (PyData.depthAll (r.map arcD)) ≤ 1
    have e : PyData.depth (arcD a) = 1 := by simp [arcD, PyData.depth, PyData.depthAll]
    have := deep_arcs r
    omega
theorem shaped_arcsL {sg : List Nat} {as : List Arc} (hs : Signs sg) (h : ∀ a ∈ as, OkArc sg a) : SeqAt.shaped (.list (as.map arcD)) = true := by
  have e1 : PyData.canLay0 (.list (as.map arcD)) = true := lay_arcs hs as h
  have e2 : PyData.depth (.list (as.map arcD)) ≤ 64 := by
    show PyData.depthAll (as.map arcD) + 1 ≤ 64
    have := deep_arcs as
    omega
  unfold SeqAt.shaped
  rw [e1, decide_eq_true e2]
  rfl
theorem eqv_nilL (as : List Arc) : PyData.eqv (.list (as.map arcD)) (.list []) = decide (as = []) := by
  cases as with
  | nil => rfl
  | cons a as => rw [decide_eq_false (by simp)]; rfl
end J


set_option Elab.async false
set_option linter.all false
set_option maxRecDepth 100000
set_option maxHeartbeats 4000000
namespace J
open PySem L2
theorem pi_or {X : Cx} {tg l : Expr} {ti tj : TI} (h1 : PI X tg l ti) (h2 : PI X tg l tj) : PI X tg l (fun σ H R => ti σ H R ∨ tj σ H R) := ⟨fun pins s σ H R I h => h.elim (h1.run pins s σ H R I) (h2.run pins s σ H R I)⟩
theorem TyZ_same {K : PySem.W.Frag} {H H' : Hp} {x : V} {t : Value} (h : TyZ K H x t) (s : Same H H') : TyZ K H' x t := by
  cases h with
  | x h =>
    refine .x ?_
    cases h with
    | base h =>
      refine .base ?_
      cases h with
      | non => exact .non
      | bl b => exact .bl b
      | int i => exact .int i
      | str z => exact .str z
      | flt z => exact .flt z
      | lst e => exact .lst (s _ _ e)
      | frz e => exact .frz (s _ _ e)
      | tup e => exact .tup (s _ _ e)
      | dK e => exact .dK (s _ _ e)
      | dT e => exact .dT (s _ _ e)
      | ins e cl ha hn htk hm => exact .ins (s _ _ e) cl ha hn htk hm
    | byt b => exact .byt b
    | set e => exact .set (s _ _ e)
    | kList e c => exact .kList e c
    | kTuple e c => exact .kTuple e c
    | kDict e c => exact .kDict e c
    | fTuple e => exact .fTuple (s _ _ e)
    | fDict e => exact .fDict (s _ _ e)
  | exo e c => exact .exo (s _ _ e) c
  | exd e ed c => exact .exd (s _ _ e) (s _ _ ed) c
/-- what may stand in a row -/
inductive It (K : PySem.W.Frag) (H : Hp) : V → Prop
  | int (i : Int) : It K H (.int i)
  | bl (b : Bool) : It K H (.bl b)
  | other {x : V} {t : Value} (h : TyZ K H x t) (n : PySem.W.kitOne K t (.type "int") = some false) (ni : ∀ i, x ≠ .int i) : It K H x
theorem It.same {K : PySem.W.Frag} {H H' : Hp} {x : V} (h : It K H x) (s : Same H H') : It K H' x := by
  cases h with
  | int i => exact .int i
  | bl b => exact .bl b
  | other h n ni => exact .other (TyZ_same h s) n ni
/-- a list or a tuple -/
def Seq (H : Hp) (a : Addr) (xs : List V) : Prop := H a = some (.lst xs) ∨ H a = some (.tup xs)
theorem Seq.same {H H' : Hp} {a : Addr} {xs : List V} (h : Seq H a xs) (s : Same H H') : Seq H' a xs := h.imp (s _ _) (s _ _)
/-- things: sequences of such items, and what is none -/
inductive Thg (K : PySem.W.Frag) (H : Hp) : V → Option (List V) → Prop
  | seq {a : Addr} {xs : List V} (h : Seq H a xs) (hi : ∀ x ∈ xs, It K H x) (hl : xs.length ≤ 100000) : Thg K H (.ref a) (some xs)
  | non {x : V} {t : Value} (h : TyZ K H x t) (n : PySem.W.kitAny K t [.type "list", .type "tuple"] = some false) : Thg K H x none
theorem Thg.same {K : PySem.W.Frag} {H H' : Hp} {x : V} {d : Option (List V)} (h : Thg K H x d) (s : Same H H') : Thg K H' x d := by
  cases h with
  | seq h hi hl => exact .seq (h.same s) (fun x hx => (hi x hx).same s) hl
  | non h n => exact .non (TyZ_same h s) n
/-- the first item that does not fit -/
def flt (as : List Arc) : Nat → List V → Nat → Option Nat
  | _, [], _ => none
  | g, v :: r, i => match v with
    | .int k => if 0 ≤ k ∧ k < as.length then (match as[k.toNat]? with
        | some a => if a.1 = g then flt as a.2.2 r (i + 1) else some i
        | none => some i) else some i
    | _ => some i
def fltV (as : List Arc) (g : Nat) : Option (List V) → V
  | none => .int (-1)
  | some xs => if xs.length ≤ 2000 then (match flt as g xs 0 with
    | none => .non
    | some i => .int (i : Nat)) else .int (-1)
/-- at an item: it fits, and where it leads, or not -/
def fits (as : List Arc) (g : Nat) (v : V) : Option Nat := match v with
  | .int k => if 0 ≤ k ∧ k < as.length then (match as[k.toNat]? with
    | some a => if a.1 = g then some a.2.2 else none
    | none => none) else none
  | _ => none
theorem flt_some {as : List Arc} {g g' i : Nat} {v : V} {r : List V} (h : fits as g v = some g') : flt as g (v :: r) i = flt as g' r (i + 1) := by
  unfold fits at h
  conv => lhs; unfold flt
  cases v with
  | int k =>
    dsimp only at h ⊢
    by_cases c : 0 ≤ k ∧ k < as.length
    · rw [if_pos c] at h ⊢
      cases ea : as[k.toNat]? with
      | none =>
        rw [ea] at h
        cases h
      | some a =>
        rw [ea] at h
        dsimp only at h ⊢
        by_cases e : a.1 = g
        · rw [if_pos e] at h ⊢
          cases h
          rfl
        · rw [if_neg e] at h
          cases h
    · rw [if_neg c] at h
      cases h
  | _ => cases h
theorem flt_none {as : List Arc} {g i : Nat} {v : V} {r : List V} (h : fits as g v = none) : flt as g (v :: r) i = some i := by
  unfold fits at h
  unfold flt
  cases v with
  | int k =>
    dsimp only at h ⊢
    by_cases c : 0 ≤ k ∧ k < as.length
    · rw [if_pos c] at h ⊢
      cases ea : as[k.toNat]? with
      | none => rfl
      | some a =>
        rw [ea] at h
        dsimp only at h ⊢
        by_cases e : a.1 = g
        · rw [if_pos e] at h
          cases h
        · rw [if_neg e]
    · rw [if_neg c]
  | _ => rfl
def spNumG (K : PySem.W.Frag) : Sp := fun vs H Q _ => ∃ (x : V) (hi : Int), vs = [x, .int 0, .int hi] ∧ It K H x ∧ ∀ b : Bool, (b = true ↔ ∃ i, x = .int i ∧ 0 ≤ i ∧ i ≤ hi) → Q (.bl b) H
def spSeqG (K : PySem.W.Frag) : Sp := fun vs H Q _ => ∃ (x : V) (d : Option (List V)) (hi : Int), vs = [x, .int 0, .int hi] ∧ Thg K H x d ∧ ∀ (H' : Hp) (b : Bool), Same H H' → (b = true ↔ ∃ xs, d = some xs ∧ (xs.length : Int) ≤ hi) → Q (.bl b) H'
def spMisfit (K : PySem.W.Frag) (C : Addr) : Sp := fun vs H Q _ => ∃ (q : Addr) (sg : List Nat) (us : List V) (as : List Arc) (g : Nat) (x : V) (d : Option (List V)), vs = [.ref q, .int (g : Nat), x] ∧ LoomAt C H q sg us as ∧ g ≤ 63 ∧ Thg K H x d ∧
  ∀ H', Same H H' → Q (fltV as g d) H'
section
variable {P : Program} {w : World} {K : PySem.W.Frag} {mg : Str → Option Value} {base : Heap}
theorem ok_is_numberG (T : Tx K mg) : FnOk P w K mg base CX0 1 T.f_is_number T.fd_is_number P_is_number (spNumG K) := by
  refine T.F_is_number.ok sc_is_number (fun vs H Q E h => ?_) (fun cdv A outer s H vs Q E hr h => ?_)
  · obtain ⟨x, hi, rfl, _⟩ := h
    rfl
  · obtain ⟨x, hi, rfl, ho, k⟩ := h
    refine ⟨_, (pss_one (ps_ret (pe_and (pe_callB (call_isiZ (K := K) rfl) rfl T.n_isinstance (by decide +kernel) (pa_cons (pv 0) (pa_cons (pe_bltn (v := V.ty "int") (u := .type "int") rfl T.n_int (by decide +kernel) rfl) pa_nil))) (pe_and (pe_not (pe_callB (call_isiZ (K := K) rfl) rfl T.n_isinstance (by decide +kernel) (pa_cons (pv 0) (pa_cons (pe_bltn (v := V.ty "bool") (u := .type "bool") rfl T.n_bool (by decide +kernel) rfl) pa_nil)))) (pe_one (pe_chain op_le op_le (pv 1) (pv 0) (pv 2))))))), ?_⟩
    cases ho with
    | other h n ni => exact ⟨_, rfl, _, _, _, _, false, rfl, .ty "int", h, n, false, rfl, k false ⟨fun z => Bool.noConfusion z, fun ⟨i, e, _⟩ => absurd e (ni i)⟩⟩
    | bl b =>
      refine ⟨_, rfl, _, _, _, _, true, rfl, .ty "int", .x (.base (.bl b)), kit_ty (by decide +kernel), true, rfl, ?_⟩
      exact ⟨_, rfl, _, _, _, _, true, rfl, .ty "bool", .x (.base (.bl b)), kit_ty (by decide +kernel), true, rfl, false, rfl, k false ⟨fun z => Bool.noConfusion z, fun ⟨i, e, _⟩ => nomatch e⟩⟩
    | int i =>
      refine ⟨_, rfl, _, _, _, _, true, rfl, .ty "int", .x (.base (.int i)), kit_ty (by decide +kernel), true, rfl, ?_⟩
      refine ⟨_, rfl, _, _, _, _, false, rfl, .ty "bool", .x (.base (.int i)), kit_ty (by decide +kernel), false, rfl, true, rfl, ?_⟩
      refine ⟨_, rfl, _, rfl, _, _, rfl, rfl, _, rfl, ?_⟩
      refine ite2 (fun c => ?_) (fun c => ?_)
      · refine ⟨_, rfl, _, _, rfl, rfl, k _ ?_⟩
        have c1 := of_decide_eq_true c
        constructor
        · intro h; exact ⟨i, rfl, c1, of_decide_eq_true h⟩
        · rintro ⟨j, e, _, h⟩; cases e; exact decide_eq_true h
      · refine k _ ?_
        constructor
        · intro h; cases h
        · rintro ⟨j, e, h, _⟩; cases e; exact absurd (decide_eq_true h) c
theorem ok_is_sequenceG (T : Tx K mg) : FnOk P w K mg base CX0 1 T.f_is_sequence T.fd_is_sequence P_is_sequence (spSeqG K) := by
  refine T.F_is_sequence.ok sc_is_sequence (fun vs H Q E h => ?_) (fun cdv A outer s H vs Q E hr h => ?_)
  · obtain ⟨x, d, hi, rfl, _⟩ := h
    rfl
  · obtain ⟨x, d, hi, rfl, ho, k⟩ := h
    refine ⟨_, (pss_one (ps_ret (pe_and (pe_callB (call_isiTZ (K := K) rfl) rfl T.n_isinstance (by decide +kernel) (pa_cons (pv 0) (pa_cons (pe_tup (pa_cons (pe_bltn (v := V.ty "list") (u := .type "list") rfl T.n_list (by decide +kernel) rfl) (pa_cons (pe_bltn (v := V.ty "tuple") (u := .type "tuple") rfl T.n_tuple (by decide +kernel) rfl) pa_nil))) pa_nil))) (pe_one (pe_chain op_le op_le (pv 1) (pe_callB (call_len_seqK (K := K) rfl) rfl T.n_len (by decide +kernel) (pa_cons (pv 0) pa_nil)) (pv 2)))))), ?_⟩
    refine ⟨_, rfl, le_size (by decide), fun t ht => ?_⟩
    have st := Same.new (.tup [V.ty "list", V.ty "tuple"]) ht
    cases ho with
    | non h n =>
      exact ⟨_, _, _, _, [.type "list", .type "tuple"], false, rfl, upd_same, .cons (.ty _) (.cons (.ty _) .nil), TyZ_same h st, n, false, rfl, k _ false st ⟨fun z => Bool.noConfusion z, fun ⟨xs, e, _⟩ => nomatch e⟩⟩
    | @seq a xs h hit hl =>
      have two : ∃ tv, TyZ K (upd H t (.tup [V.ty "list", V.ty "tuple"])) (.ref a) tv ∧ PySem.W.kitAny K tv [.type "list", .type "tuple"] = some true := by
        rcases h with ha | ha
        · exact ⟨_, .x (.base (.lst (st _ _ ha))), kitAny_cons (b := true) (kit_ty (by decide +kernel)) (fun q => nomatch q) (fun _ => rfl)⟩
        · exact ⟨_, .x (.base (.tup (st _ _ ha))), kitAny_cons (b := false) (kit_ty (by decide +kernel)) (fun _ => kitAny_cons (b := true) (kit_ty (by decide +kernel)) (fun q => nomatch q) (fun _ => rfl)) (fun q => nomatch q)⟩
      have one : SqL K (upd H t (.tup [V.ty "list", V.ty "tuple"])) a xs ∨ SqT K (upd H t (.tup [V.ty "list", V.ty "tuple"])) a xs := (h.same st).elim (fun z => .inl (SqL.of z)) fun z => .inr (SqT.of z)
      obtain ⟨tv, htv, hkt⟩ := two
      refine ⟨_, _, _, _, [.type "list", .type "tuple"], true, rfl, upd_same, .cons (.ty _) (.cons (.ty _) .nil), htv, hkt, true, rfl, ?_⟩
      refine ⟨_, rfl, _, rfl, a, xs, rfl, one, _, _, rfl, rfl, _, rfl, ?_⟩
      refine ite2 (fun c => ?_) (fun c => ?_)
      · refine ⟨_, rfl, _, _, rfl, rfl, k _ _ st ?_⟩
        constructor
        · intro h; exact ⟨xs, rfl, of_decide_eq_true h⟩
        · rintro ⟨ys, e, h⟩; cases e; exact decide_eq_true h
      · exact absurd (decide_eq_true (by omega)) c
end
end J


set_option Elab.async false
set_option linter.all false
set_option maxRecDepth 100000
set_option maxHeartbeats 4000000
namespace J
open PySem L2
theorem met_ex {as : List Arc} (oka : OkAll as) : ∃ ms : List Nat, (∀ x, x ∈ ms ↔ Reach as x) ∧ ms.Pairwise (· < ·) := by
  classical
  refine ⟨(List.range 64).filter fun x => decide (Reach as x), fun x => ?_, List.pairwise_lt_range.filter _⟩
  rw [List.mem_filter, List.mem_range, decide_eq_true_iff]
  exact ⟨fun h => h.2, fun h => ⟨by have := h.le oka; omega, h⟩⟩
theorem fltV_bad {as : List Arc} {g : Nat} {v : V} {r : List V} (h : fits as g v = none) : fltV as g (some (v :: r)) ≠ .non := by
  unfold fltV
  dsimp only
  split
  · rw [flt_none h]
    exact fun z => V.noConfusion z
  · exact fun z => V.noConfusion z
theorem fits_int {as : List Arc} {g : Nat} {k : Int} (hl : as.length ≤ 200) (h : k < 0 ∨ 200 ≤ k) : fits as g (.int k) = none := by
  unfold fits
  exact if_neg (by omega)
/-- what is asked whether it is a pair: of three parts, or none -/
inductive Trp (K : PySem.W.Frag) (H : Hp) : V → Option (V × Option (List V) × Option (List V)) → Prop
  | three {t : Addr} {s r o : V} {d1 d2 : Option (List V)} (h : H t = some (.tup [s, r, o])) (hs : It K H s) (hr : Thg K H r d1) (ho : Thg K H o d2) : Trp K H (.ref t) (some (s, d1, d2))
  | len {t : Addr} {xs : List V} (h : H t = some (.tup xs)) (n : xs.length ≠ 3) : Trp K H (.ref t) none
  | non {x : V} {tv : Value} (h : TyZ K H x tv) (n : PySem.W.kitOne K tv (.type "tuple") = some false) : Trp K H x none
theorem Trp.same {K : PySem.W.Frag} {H H' : Hp} {x : V} {d : Option (V × Option (List V) × Option (List V))} (h : Trp K H x d) (s : Same H H') : Trp K H' x d := by
  cases h with
  | three h hs hr ho => exact .three (s _ _ h) (hs.same s) (hr.same s) (ho.same s)
  | len h n => exact .len (s _ _ h) n
  | non h n => exact .non (TyZ_same h s) n
def pairB (as : List Arc) (ms : List Nat) : Option (V × Option (List V) × Option (List V)) → Bool
  | some (.int g, d1, d2) => decide (0 ≤ g ∧ g ≤ 63) && (decide (g.toNat ∈ ms) && (decide (fltV as g.toNat d1 = .non) && decide (fltV as g.toNat d2 = .non)))
  | _ => false
def spRow24 (K : PySem.W.Frag) (C : Addr) : Sp := fun vs H Q _ => ∃ (q : Addr) (sg : List Nat) (us : List V) (as : List Arc) (g : Nat) (x : V) (d : Option (List V)), vs = [.ref q, .int (g : Nat), x] ∧ LoomAt C H q sg us as ∧ g ≤ 63 ∧ Thg K H x d ∧ ∀ H', Same H H' → Q (.bl (decide (fltV as g d = .non))) H'
def spPair24 (K : PySem.W.Frag) (C : Addr) : Sp := fun vs H Q _ => ∃ (q : Addr) (sg : List Nat) (us : List V) (as : List Arc) (x : V) (d : Option (V × Option (List V) × Option (List V))), vs = [.ref q, x] ∧ LoomAt C H q sg us as ∧ Trp K H x d ∧
  ∀ (H' : Hp) (b : Bool), Same H H' → (∀ ms : List Nat, (∀ x, x ∈ ms ↔ Reach as x) → ms.Pairwise (· < ·) → b = pairB as ms d) → Q (.bl b) H'
/-- never a pair -/
def Bad3 (d : Option (V × Option (List V) × Option (List V))) : Prop := ∀ as ms, as.length ≤ 200 → pairB as ms d = false
/-- what no judge takes -/
inductive Rej (K : PySem.W.Frag) (H : Hp) : V → Prop
  | non {x : V} {tv : Value} (h : TyZ K H x tv) (n : PySem.W.kitOne K tv (.type "tuple") = some false) : Rej K H x
  | len {t : Addr} {xs : List V} (h : H t = some (.tup xs)) (n : xs.length ≠ 3) (m : xs.length ≠ 5) : Rej K H (.ref t)
  | three {t : Addr} {s r o : V} {d1 d2 : Option (List V)} (h : H t = some (.tup [s, r, o])) (hs : It K H s) (hr : Thg K H r d1) (ho : Thg K H o d2) (b : Bad3 (some (s, d1, d2))) : Rej K H (.ref t)
  | five {t : Addr} {s r o c e : V} {d1 d2 : Option (List V)} (h : H t = some (.tup [s, r, o, c, e])) (hs : It K H s) (hr : Thg K H r d1) (ho : Thg K H o d2) (b : Bad3 (some (s, d1, d2))) : Rej K H (.ref t)
theorem Rej.same {K : PySem.W.Frag} {H H' : Hp} {x : V} (h : Rej K H x) (s : Same H H') : Rej K H' x := by
  cases h with
  | non h n => exact .non (TyZ_same h s) n
  | len h n m => exact .len (s _ _ h) n m
  | three h hs hr ho b => exact .three (s _ _ h) (hs.same s) (hr.same s) (ho.same s) b
  | five h hs hr ho b => exact .five (s _ _ h) (hs.same s) (hr.same s) (ho.same s) b
theorem Rej.trp {K : PySem.W.Frag} {H : Hp} {x : V} (h : Rej K H x) : ∃ d, Trp K H x d ∧ Bad3 d := by
  cases h with
  | non h n => exact ⟨none, .non h n, fun _ _ _ => rfl⟩
  | len h n m => exact ⟨none, .len h n, fun _ _ _ => rfl⟩
  | three h hs hr ho b => exact ⟨_, .three h hs hr ho, b⟩
  | five h hs hr ho b => exact ⟨none, .len h (by simp), fun _ _ _ => rfl⟩
def spRej (K : PySem.W.Frag) (C : Addr) : Sp := fun vs H Q _ => ∃ (q : Addr) (sg : List Nat) (us : List V) (as : List Arc) (x : V), vs = [.ref q, x] ∧ LoomAt C H q sg us as ∧ Rej K H x ∧ ∀ H', Same H H' → Q (.bl false) H'
section
variable {P : Program} {w : World} {K : PySem.W.Frag} {mg : Str → Option Value} {base : Heap}
end
end J


set_option Elab.async false
set_option linter.all false
set_option maxRecDepth 100000
set_option maxHeartbeats 4000000
namespace J
open PySem L2
theorem ix_or {X : Cx} {r1 r2 : R2} (h1 : IxR X r1) (h2 : IxR X r2) : IxR X (fun x y H Q => r1 x y H Q ∨ r2 x y H Q) := by
  intro value slice pins s σ H x y v u Q I rx ry h hs
  rcases h with h | h
  · exact h1 value slice pins s σ H x y v u Q I rx ry h hs
  · exact h2 value slice pins s σ H x y v u Q I rx ry h hs
theorem pe_fldK {X : Cx} {K : PySem.W.Frag} (hK : X.K = K) {e : Expr} {ta : TE} {f : Str} {pos : Pos} (he : PE X e ta) (hb : attributeBase e f X.env (eval e X.env) = eval e X.env) : PE X (.Attribute e f pos) (tFld K ta f) := by
  subst hK
  exact pe_fld he hb
/-! ### rows, told of things -/
theorem fits_some {as : List Arc} {g g' : Nat} {v : V} (h : fits as g v = some g') : ∃ (m : Nat) (a : Arc), v = .int (m : Nat) ∧ as[m]? = some a ∧ a.1 = g ∧ a.2.2 = g' := by
  unfold fits at h
  cases v with
  | int k =>
    dsimp only at h
    by_cases c : 0 ≤ k ∧ k < as.length
    · rw [if_pos c] at h
      obtain ⟨m, rfl⟩ := Int.eq_ofNat_of_zero_le c.1
      cases ea : as[((m : Nat) : Int).toNat]? with
      | none => rw [ea] at h; cases h
      | some a =>
        rw [ea] at h
        dsimp only at h
        by_cases e : a.1 = g
        · rw [if_pos e] at h
          cases h
          exact ⟨m, a, rfl, by rw [Int.toNat_natCast] at ea; exact ea, e, rfl⟩
        · rw [if_neg e] at h; cases h
    · rw [if_neg c] at h; cases h
  | _ => cases h
theorem fits_of {as : List Arc} {g m : Nat} {a : Arc} (h : as[m]? = some a) (e : a.1 = g) : fits as g (.int (m : Nat)) = some a.2.2 := by
  have hl := (List.getElem?_eq_some_iff.mp h).1
  unfold fits
  dsimp only
  rw [if_pos (by omega), Int.toNat_natCast, h]
  exact if_pos e
theorem flt_row {as : List Arc} : ∀ {xs : List V} {g i : Nat}, flt as g xs i = none → ∃ row, xs = nats row ∧ Rw as g row
  | [], g, i, _ => ⟨[], rfl, .nil g⟩
  | v :: r, g, i, h => by
    cases e : fits as g v with
    | none => rw [flt_none e] at h; cases h
    | some g' =>
      rw [flt_some e] at h
      obtain ⟨row, rfl, hr⟩ := flt_row h
      obtain ⟨m, a, rfl, ha, e1, e2⟩ := fits_some e
      exact ⟨m :: row, rfl, Rw.mk ha e1 (by rw [e2]; exact hr)⟩
theorem row_flt {as : List Arc} : ∀ {row : List Nat} {g i : Nat}, Rw as g row → flt as g (nats row) i = none
  | [], g, i, _ => rfl
  | m :: r, g, i, h => by
    obtain ⟨a, h1, h2, h3⟩ := h.of
    show flt as g (V.int (m : Nat) :: nats r) i = none
    rw [flt_some (fits_of h1 h2)]
    exact row_flt h3
theorem nats_len2 (ls : List Nat) : (nats ls).length = ls.length := by simp [nats]
theorem fltV_row {as : List Arc} {g : Nat} {d : Option (List V)} (h : fltV as g d = .non) : ∃ row, d = some (nats row) ∧ Rw as g row ∧ row.length ≤ 2000 := by
  cases d with
  | none => cases h
  | some xs =>
    dsimp only [fltV] at h
    by_cases c : xs.length ≤ 2000
    · rw [if_pos c] at h
      cases e : flt as g xs 0 with
      | none =>
        obtain ⟨row, rfl, hr⟩ := flt_row e
        exact ⟨row, rfl, hr, by simpa [nats] using c⟩
      | some i => rw [e] at h; cases h
    · rw [if_neg c] at h; cases h
theorem row_fltV {as : List Arc} {g : Nat} {row : List Nat} (h : Rw as g row) (hl : row.length ≤ 2000) : fltV as g (some (nats row)) = .non := by
  dsimp only [fltV]
  rw [if_pos (by rw [nats_len2]; exact hl), row_flt h]
theorem nats_inj {a b : List Nat} (h : nats a = nats b) : a = b := by
  have e : ∀ l : List Nat, (nats l).map (fun v : V => match v with | .int k => k.toNat | _ => 0) = l := fun l => by
    unfold nats
    rw [List.map_map]
    conv => rhs; rw [← List.map_id l]
    exact List.map_congr_left fun n _ => Int.toNat_natCast n
  rw [← e a, h, e b]
/-- a list or a tuple of numbers is such a thing -/
theorem thg_nats {K : PySem.W.Frag} {H : Hp} {a : Addr} {r : List Nat} (h : Seq H a (nats r)) (hl : r.length ≤ 2000) : Thg K H (.ref a) (some (nats r)) := .seq h (fun x hx => by
  obtain ⟨n, _, rfl⟩ := List.mem_map.mp hx
  exact .int _) (by rw [nats_len2]; omega)
theorem Rw.lt {as : List Arc} {g : Nat} {row : List Nat} (h : Rw as g row) : ∀ m ∈ row, m < as.length := h.rowIn
theorem nat_at {ls : List Nat} {i : Nat} {y : V} (h : (nats ls)[i]? = some y) : ∃ l, ls[i]? = some l ∧ y = .int (l : Nat) := by
  rw [List.getElem?_map] at h
  obtain ⟨l, hl, e⟩ := Option.map_eq_some_iff.mp h
  exact ⟨l, hl, e.symm⟩
theorem at_last {α : Type} {xs : List α} {x : α} (h : xs.getLast? = some x) : atI xs (-1) = some x := by
  have hne : xs ≠ [] := fun z => by rw [z] at h; cases h
  have hl : 0 < xs.length := List.length_pos_iff.mpr hne
  unfold atI ixN
  rw [if_neg (by omega), if_pos (by omega)]
  show xs[((-1 : Int) + xs.length).toNat]? = some x
  rw [List.getLast?_eq_getElem?] at h
  rw [← h]
  congr 1
  omega
def spChkC (K : PySem.W.Frag) (C : Addr) : Sp := fun vs H Q _ => ∃ (q : Addr) (sg : List Nat) (us : List V) (as : List Arc) (g : Nat) (x : V) (row : List Nat), vs = [.ref q, .int (g : Nat), x] ∧ LoomAt C H q sg us as ∧ g ≤ 63 ∧ Thg K H x (some (nats row)) ∧ Rw as g row ∧ row.length ≤ 2000 ∧ ∀ H', Same H H' → Q .non H'
def spTextC (K : PySem.W.Frag) (C : Addr) : Sp := fun vs H Q _ => ∃ (q : Addr) (sg : List Nat) (us : List V) (as : List Arc) (g : Nat) (x : V) (row : List Nat), vs = [.ref q, .int (g : Nat), x] ∧ LoomAt C H q sg us as ∧ g ≤ 63 ∧ Thg K H x (some (nats row)) ∧ Rw as g row ∧ row.length ≤ 2000 ∧ ∀ H', Same H H' → Q (.str (SX.S (txA as row))) H'
def spEndC (K : PySem.W.Frag) (C : Addr) : Sp := fun vs H Q _ => ∃ (q : Addr) (sg : List Nat) (us : List V) (as : List Arc) (g : Nat) (x : V) (row : List Nat), vs = [.ref q, .int (g : Nat), x] ∧ LoomAt C H q sg us as ∧ g ≤ 63 ∧ Thg K H x (some (nats row)) ∧ Rw as g row ∧ row.length ≤ 2000 ∧ ∀ H', Same H H' → Q (.int (rowEnd as g row : Nat)) H'
theorem wordAt_lenC {sg : List Nat} {as : List Arc} (h : ∀ a ∈ as, OkArc sg a) (m : Nat) : (wordAt as m).length ≤ 12 := by
  unfold wordAt
  cases e : as[m]? with
  | none => simp
  | some a => exact (h a (List.mem_of_getElem? e)).2.1.2.1
theorem texts_sum {sg : List Nat} {as : List Arc} (h : ∀ a ∈ as, OkArc sg a) : ∀ row : List Nat, (((row.map fun m => SX.S (wordAt as m)).map (·.length)).sum) ≤ 12 * row.length
  | [] => by simp
  | m :: r => by
    have h1 := wordAt_lenC h m
    have h2 := texts_sum h r
    simp only [List.map_cons, List.sum_cons, SX.S_len, List.length_cons] at h2 ⊢
    omega
section
variable {P : Program} {w : World} {K : PySem.W.Frag} {mg : Str → Option Value} {base : Heap}
end
end J


set_option Elab.async false
set_option linter.all false
set_option maxRecDepth 100000
set_option maxHeartbeats 4000000
namespace J
open PySem L2
def rowOf (xs : List V) : List Nat := xs.map fun v => match v with | .int k => k.toNat | _ => 0
theorem rowOf_nats (l : List Nat) : rowOf (nats l) = l := by
  unfold rowOf nats
  rw [List.map_map]
  conv => rhs; rw [← List.map_id l]
  exact List.map_congr_left fun n _ => Int.toNat_natCast n
theorem pairB_rows {as : List Arc} {ms : List Nat} {d : Option (V × Option (List V) × Option (List V))} (h : pairB as ms d = true) : ∃ (g : Nat) (r r' : List Nat), d = some (.int (g : Int), some (nats r), some (nats r')) ∧ g ≤ 63 ∧ g ∈ ms ∧ Rw as g r ∧ Rw as g r' ∧ r.length ≤ 2000 ∧ r'.length ≤ 2000 := by
  match d, h with
  | some (.int k, d1, d2), h =>
    have h' : (decide (0 ≤ k ∧ k ≤ 63) && (decide (k.toNat ∈ ms) && (decide (fltV as k.toNat d1 = .non) && decide (fltV as k.toNat d2 = .non)))) = true := h
    rw [Bool.and_eq_true, Bool.and_eq_true, Bool.and_eq_true, decide_eq_true_iff, decide_eq_true_iff, decide_eq_true_iff, decide_eq_true_iff] at h'
    obtain ⟨⟨h1, h2⟩, h3, h4, h5⟩ := h'
    obtain ⟨g, rfl⟩ := Int.eq_ofNat_of_zero_le h1
    rw [Int.toNat_natCast] at h3 h4 h5
    obtain ⟨r, rfl, a1, a2⟩ := fltV_row h4
    obtain ⟨r', rfl, b1, b2⟩ := fltV_row h5
    exact ⟨g, r, r', rfl, by omega, h3, a1, b1, a2, b2⟩
theorem pairB_of {as : List Arc} {ms : List Nat} {g : Nat} {r r' : List Nat} (h1 : g ≤ 63) (h2 : g ∈ ms) (h3 : Rw as g r) (h4 : Rw as g r') (h5 : r.length ≤ 2000) (h6 : r'.length ≤ 2000) : pairB as ms (some (.int (g : Int), some (nats r), some (nats r'))) = true := by
  show (decide ((0 : Int) ≤ (g : Int) ∧ (g : Int) ≤ 63) && (decide ((g : Int).toNat ∈ ms) && (decide (fltV as (g : Int).toNat _ = .non) && decide (fltV as (g : Int).toNat _ = .non)))) = true
  rw [Int.toNat_natCast, row_fltV h3 h5, row_fltV h4 h6, decide_eq_true h2, decide_eq_true (show (0 : Int) ≤ (g : Int) ∧ (g : Int) ≤ 63 by omega)]
  rfl
theorem seq_of {K : PySem.W.Frag} {H : Hp} {x : V} {xs : List V} (h : Thg K H x (some xs)) : ∃ a, x = .ref a ∧ Seq H a xs := by
  cases h with
  | seq h _ _ => exact ⟨_, rfl, h⟩
theorem seq_sq {K : PySem.W.Frag} {H : Hp} {a : Addr} {xs : List V} (h : Seq H a xs) : SqL K H a xs ∨ SqT K H a xs := h.imp SqL.of SqT.of
theorem cutG_to (x : List Nat) (k : Nat) : cutS (SX.S x) none (some (k : Int)) = SX.S (x.take k) := by
  unfold cutS
  rw [HT.sIx_nat, HT.sIx_none, SX.S_len]
  show SX.S ((x.drop 0).take (min k x.length - 0)) = _
  rw [List.drop_zero, Nat.sub_zero, ← List.take_take, List.take_length]
theorem takeG {x u : List Nat} : decide (V.str (SX.S (x.take u.length)) = V.str (SX.S u)) = decide (u <+: x) := by
  refine decide_eq_decide.mpr ⟨fun h => ?_, fun h => by rw [← List.prefix_iff_eq_take.mp h]⟩
  injection h with h
  exact List.prefix_iff_eq_take.mpr (SX.S_inj h).symm
def cvB (as : List Arc) (r r' : List Nat) : Bool := !decide (r.length = 0) && (!decide (r'.length = 0) && (!decide (r.headD 0 = r'.headD 0) && decide (txA as r <+: txA as r')))
def covB (as : List Arc) (ms : List Nat) (d : Option (V × Option (List V) × Option (List V))) : Bool := pairB as ms d && match d with
  | some (.int _, some xs, some ys) => cvB as (rowOf xs) (rowOf ys)
  | _ => false
theorem covB_of {as : List Arc} {ms : List Nat} {g : Nat} {r r' : List Nat} (h : pairB as ms (some (.int (g : Int), some (nats r), some (nats r'))) = true) : covB as ms (some (.int (g : Int), some (nats r), some (nats r'))) = cvB as r r' := by
  show (pairB as ms _ && cvB as (rowOf (nats r)) (rowOf (nats r'))) = _
  rw [h, rowOf_nats, rowOf_nats, Bool.true_and]
def spCoverG (K : PySem.W.Frag) (C : Addr) : Sp := fun vs H Q _ => ∃ (q : Addr) (sg : List Nat) (us : List V) (as : List Arc) (x : V) (d : Option (V × Option (List V) × Option (List V))), vs = [.ref q, x] ∧ LoomAt C H q sg us as ∧ Trp K H x d ∧
  ∀ (H' : Hp) (b : Bool), Same H H' → (∀ ms : List Nat, (∀ x, x ∈ ms ↔ Reach as x) → ms.Pairwise (· < ·) → b = covB as ms d) → Q (.bl b) H'
theorem starts_pre (u v : List Nat) : Txt.startswith (SX.S u) (SX.S v) = decide (v <+: u) := by
  rw [starts0_S]
  cases c : pre u v with
  | true => exact (decide_eq_true (preG.mp c)).symm
  | false => exact (decide_eq_false fun z => by rw [preG.mpr z] at c; cases c).symm
theorem seq_ix {K : PySem.W.Frag} {H : Hp} {a : Addr} {r : List Nat} {Q : VK} (h : Seq H a (nats r)) (hn : r.length ≠ 0) (q : Q (.int (r.headD 0 : Nat)) H) : rIxL K (.ref a) (.int 0) H Q ∨ rIxT K (.ref a) (.int 0) H Q := by
  cases r with
  | nil => exact absurd rfl hn
  | cons n r =>
    rcases h with h | h
    · exact .inl ⟨a, _, 0, _, rfl, rfl, SqL.of h, atI_nat (j := 0) rfl, q⟩
    · exact .inr ⟨a, _, 0, _, rfl, rfl, SqT.of h, atI_nat (j := 0) rfl, q⟩
theorem inV_neg {i : Int} (l : List Nat) (h : i < 0) : inV (V.int i) (nats l) = false := by
  unfold inV nats
  rw [List.any_map, List.any_eq_false]
  intro n _ z
  have z2 : ((n : Int) == i) = true := z
  have := eq_of_beq z2
  omega
def spLCov (K : PySem.W.Frag) : Sp := fun vs H Q _ => ∃ (a : Addr) (as : List Arc) (x : V) (d : Option (V × Option (List V) × Option (List V))), vs = [.ref a, x] ∧ ArcL H a as ∧ OkAll as ∧ as.length ≤ 200 ∧ Trp K H x d ∧
  ∀ (H' : Hp) (b : Bool), Same H H' → (∀ ms : List Nat, (∀ x, x ∈ ms ↔ Reach as x) → ms.Pairwise (· < ·) → b = covB as ms d) → Q (.bl b) H'
def spIntG (K : PySem.W.Frag) : Sp := fun vs H Q _ => ∃ (x : V), vs = [x] ∧ It K H x ∧ ∀ b : Bool, (b = true ↔ ∃ i, x = .int i) → Q (.bl b) H
def spJoin2 : Sp := fun vs H Q _ => ∃ (a r : Addr) (as : List Arc) (row : List Nat), vs = [.ref a, .ref r] ∧ ArcL H a as ∧ OkAll as ∧ Seq H r (nats row) ∧ RowIn as row ∧ row.length ≤ 10000 ∧
  ∀ H' : Hp, Same H H' → Q (.str (SX.S (txA as row))) H'
def spLRow (K : PySem.W.Frag) : Sp := fun vs H Q _ => ∃ (a : Addr) (as : List Arc) (g : Nat) (x : V) (d : Option (List V)), vs = [.ref a, .int (g : Int), x] ∧ ArcL H a as ∧ as.length ≤ 200 ∧ Thg K H x d ∧ ∀ (H' : Hp) (b : Bool), Same H H' → (b = true ↔ fltV as g d = .non) → Q (.bl b) H'
section
variable {P : Program} {w : World} {K : PySem.W.Frag} {mg : Str → Option Value} {base : Heap}
theorem ok_l_is_integerG (T : Tx K mg) : FnOk P w K mg base CX0 1 T.f_l_is_integer T.fd_l_is_integer P_l_is_integer (spIntG K) := by
  refine T.F_l_is_integer.ok sc_l_is_integer (fun vs H Q E h => ?_) (fun cdv A outer s H vs Q E hr h => ?_)
  · obtain ⟨x, rfl, _⟩ := h
    rfl
  · obtain ⟨x, rfl, ho, k⟩ := h
    refine ⟨_, (pss_one (ps_ret (pe_and (pe_callB (call_isiZ (K := K) rfl) rfl T.n_isinstance (by decide +kernel) (pa_cons (pv 0) (pa_cons (pe_bltn (v := V.ty "int") (u := .type "int") rfl T.n_int (by decide +kernel) rfl) pa_nil))) (pe_one (pe_not (pe_callB (call_isiZ (K := K) rfl) rfl T.n_isinstance (by decide +kernel) (pa_cons (pv 0) (pa_cons (pe_bltn (v := V.ty "bool") (u := .type "bool") rfl T.n_bool (by decide +kernel) rfl) pa_nil)))))))), ?_⟩
    cases ho with
    | other h n ni => exact ⟨_, rfl, _, _, _, _, false, rfl, .ty "int", h, n, false, rfl, k false ⟨fun z => Bool.noConfusion z, fun ⟨i, e⟩ => absurd e (ni i)⟩⟩
    | bl b =>
      refine ⟨_, rfl, _, _, _, _, true, rfl, .ty "int", .x (.base (.bl b)), kit_ty (by decide +kernel), true, rfl, ?_⟩
      exact ⟨_, rfl, _, _, _, _, true, rfl, .ty "bool", .x (.base (.bl b)), kit_ty (by decide +kernel), true, rfl, k false ⟨fun z => Bool.noConfusion z, fun ⟨i, e⟩ => nomatch e⟩⟩
    | int i =>
      refine ⟨_, rfl, _, _, _, _, true, rfl, .ty "int", .x (.base (.int i)), kit_ty (by decide +kernel), true, rfl, ?_⟩
      exact ⟨_, rfl, _, _, _, _, false, rfl, .ty "bool", .x (.base (.int i)), kit_ty (by decide +kernel), false, rfl, k true ⟨fun _ => ⟨i, rfl⟩, fun _ => rfl⟩⟩
theorem ok_l_joined2 (T : Tx K mg) : FnOk P w K mg base CX0 1 T.f_l_joined T.fd_l_joined P_l_joined spJoin2 := by
  refine T.F_l_joined.ok sc_l_joined (fun vs H Q E h => ?_) (fun cdv A outer s H vs Q E hr h => ?_)
  · obtain ⟨a, r, as, row, rfl, _⟩ := h
    rfl
  · obtain ⟨a, r, as, row, rfl, ⟨us, ha, harc⟩, hok, hrow, hin, hl, k⟩ := h
    refine ⟨_, (pss_one (ps_ret (pe_join pe_str (pe_lc (own := [("_law_at", 2)]) (g := (gName 2)) rfl sc_l_joined.nd (pi_or (pi_list (pv 1)) (pi_tup (pv 1))) (blkOk_by (N := N_l_joined) (sc := defScope s_l_joined) (by decide +kernel)) (fun _ _ _ _ _ => (pg_name (i := 2) sc_l_joined.nd rfl (Or.inl rfl))) (fun _ _ _ _ _ => pts_nil) (fun _ _ _ _ _ => (pe_ix (ix_tupK (K := K) rfl) (pe_ix (ix_listK (K := K) rfl) (pv 0) (pv 2) (fun _ _ => rfl)) pe_int (fun _ _ => rfl))))))), ?_⟩
    rcases hrow with hrow | hrow
    · skip
      refine ⟨⟨_, rfl⟩, .inl ⟨_, rfl, r, rfl, ⟨_, SqL.of hrow⟩, fun D hD => lc_list (K := K) (a := r) (xs := nats row) (fun i H' => H' D = some (.lst (((row.take i).map fun j => SX.S (wordAt as j)).map V.str)) ∧ Same H H') ⟨upd_same, Same.new _ hD⟩ (fun i H' _ ⟨_, sm⟩ => SqL.of (sm _ _ hrow)) ?_ ?_⟩⟩
      · rintro i y H2 hy ⟨hDl, sm⟩
        rw [List.getElem?_map] at hy
        cases ej : row[i]? with
        | none => rw [ej] at hy; cases hy
        | some j =>
          rw [ej] at hy
          cases hy
          have hj : j < as.length := hin j (List.mem_of_getElem? ej)
          obtain ⟨t, hut, htt⟩ := harc.2 j as[j] (List.getElem?_eq_getElem hj)
          have hi : i < row.length := (List.getElem?_eq_some_iff.mp ej).1
          refine ⟨rfl, _, rfl, _, rfl, a, us, _, _, rfl, rfl, SqL.of (sm _ _ ha), atI_nat hut, t, _, _, _, rfl, rfl, SqT.of (sm _ _ htt), rfl, _, hDl, lt_size (by simp; omega), ?_, sm.updNew hD⟩
          rw [upd_same, ← take_snoc ej, ← wordAt_eq (List.getElem?_eq_getElem hj)]
          simp
      · rintro H2 ⟨hDl, sm⟩
        rw [show (nats row).length = row.length by simp [nats], List.take_length] at hDl
        refine ⟨_, _, row.map fun j => SX.S (wordAt as j), rfl, rfl, .inl (SqL.of hDl), ?_, ?_⟩
        · have := rowText_len hok row
          have e : ((row.map fun j => SX.S (wordAt as j)).map (·.length)).sum = (rowText as row).length := by
            unfold rowText
            rw [List.length_flatten, List.map_map, List.map_map]
            congr 1
          rw [e, emptyS, SX.S_len]
          simp
          omega
        · have e : (row.map fun j => SX.S (wordAt as j)) = (row.map (wordAt as)).map SX.S := by rw [List.map_map]; rfl
          rw [e, emptyS, join_flat]
          have kk := k _ sm
          rw [← rowText_txA] at kk
          exact kk
    · skip
      refine ⟨⟨_, rfl⟩, .inr ⟨_, rfl, r, rfl, ⟨_, SqT.of hrow⟩, fun D hD => lc_tup (K := K) (a := r) (xs := nats row) (fun i H' => H' D = some (.lst (((row.take i).map fun j => SX.S (wordAt as j)).map V.str)) ∧ Same H H') ⟨upd_same, Same.new _ hD⟩ (fun i H' _ ⟨_, sm⟩ => SqT.of (sm _ _ hrow)) ?_ ?_⟩⟩
      · rintro i y H2 hy ⟨hDl, sm⟩
        rw [List.getElem?_map] at hy
        cases ej : row[i]? with
        | none => rw [ej] at hy; cases hy
        | some j =>
          rw [ej] at hy
          cases hy
          have hj : j < as.length := hin j (List.mem_of_getElem? ej)
          obtain ⟨t, hut, htt⟩ := harc.2 j as[j] (List.getElem?_eq_getElem hj)
          have hi : i < row.length := (List.getElem?_eq_some_iff.mp ej).1
          refine ⟨rfl, _, rfl, _, rfl, a, us, _, _, rfl, rfl, SqL.of (sm _ _ ha), atI_nat hut, t, _, _, _, rfl, rfl, SqT.of (sm _ _ htt), rfl, _, hDl, lt_size (by simp; omega), ?_, sm.updNew hD⟩
          rw [upd_same, ← take_snoc ej, ← wordAt_eq (List.getElem?_eq_getElem hj)]
          simp
      · rintro H2 ⟨hDl, sm⟩
        rw [show (nats row).length = row.length by simp [nats], List.take_length] at hDl
        refine ⟨_, _, row.map fun j => SX.S (wordAt as j), rfl, rfl, .inl (SqL.of hDl), ?_, ?_⟩
        · have := rowText_len hok row
          have e : ((row.map fun j => SX.S (wordAt as j)).map (·.length)).sum = (rowText as row).length := by
            unfold rowText
            rw [List.length_flatten, List.map_map, List.map_map]
            congr 1
          rw [e, emptyS, SX.S_len]
          simp
          omega
        · have e : (row.map fun j => SX.S (wordAt as j)) = (row.map (wordAt as)).map SX.S := by rw [List.map_map]; rfl
          rw [e, emptyS, join_flat]
          have kk := k _ sm
          rw [← rowText_txA] at kk
          exact kk
theorem ok_l_is_row (T : Tx K mg) : FnOk P w K mg base CX0 2 T.f_l_is_row T.fd_l_is_row P_l_is_row (spLRow K) := by
  have G_l_is_integer : FnOk P w K mg base CX0 1 T.f_l_is_integer T.fd_l_is_integer P_l_is_integer (spIntG K) := ok_l_is_integerG T
  refine T.F_l_is_row.ok sc_l_is_row (fun vs H Q E h => ?_) (fun cdv A outer s H vs Q E hr h => ?_)
  · obtain ⟨a, as, g, x, d, rfl, _⟩ := h
    rfl
  · obtain ⟨a, as, g, x, d, rfl, ⟨us, ha, harc⟩, h200, hx, k⟩ := h
    refine ⟨_, (pss_cons (ps_if (PW.pt (pw_or (pt_not (pt_val (pe_callB (call_isiTZ (K := K) rfl) rfl T.n_isinstance (by decide +kernel) (pa_cons (pv 2) (pa_cons (pe_tup (pa_cons (pe_bltn (v := V.ty "list") (u := .type "list") rfl T.n_list (by decide +kernel) rfl) (pa_cons (pe_bltn (v := V.ty "tuple") (u := .type "tuple") rfl T.n_tuple (by decide +kernel) rfl) pa_nil))) pa_nil))))) (pw_or1 (pt_cmpR op_gt (pe_callB (call_len_seqK (K := K) rfl) rfl T.n_len (by decide +kernel) (pa_cons (pv 2) pa_nil)) pe_int (nomark _))))) (pss_one (ps_ret pe_bl)) pss_nil)
        (pss_cons (ps_for PassesOwn.never rfl (pi_or (pi_list (pv 2)) (pi_tup (pv 2))) (pg_name (i := 3) sc_l_is_row.nd rfl (Or.inl rfl)) (pss_cons (ps_if (PW.pt (pw_or (pt_not (pt_val (pe_call G_l_is_integer (hr.mono (by decide)) rfl T.m_l_is_integer T.F_l_is_integer.kp T.b_l_is_integer .nil pass0 (pa_cons (pv 3) pa_nil)))) (pw_or (pt_not (pt_chain op_le op_lt pe_int (pv 3) (pe_callB (call_len_seqK (K := K) rfl) rfl T.n_len (by decide +kernel) (pa_cons (pv 0) pa_nil)))) (pw_or1 (pt_cmpR op_ne (pe_ix (ix_tupK (K := K) rfl) (pe_ix (ix_listK (K := K) rfl) (pv 0) (pv 3) (fun _ _ => rfl)) pe_int (fun _ _ => rfl)) (pv 1) (nomark _)))))) (pss_one (ps_ret pe_bl)) pss_nil)
        (pss_one (ps_set (i := 1) sc_l_is_row.nd rfl (Or.inl rfl) (pe_ix (ix_tupK (K := K) rfl) (pe_ix (ix_listK (K := K) rfl) (pv 0) (pv 3) (fun _ _ => rfl)) pe_int (fun _ _ => rfl))))))
        (pss_one (ps_ret pe_bl)))), ?_⟩
    refine ⟨_, rfl, le_size (by decide), fun t ht => ?_⟩
    have st := Same.new (.tup [V.ty "list", V.ty "tuple"]) ht
    cases hx with
    | non h n =>
      exact ⟨_, _, _, _, [.type "list", .type "tuple"], false, rfl, upd_same, .cons (.ty _) (.cons (.ty _) .nil), TyZ_same h st, n, false, rfl, k _ false st ⟨fun z => Bool.noConfusion z, fun e => nomatch e⟩⟩
    | @seq ax xs hs hit hl =>
      have two : ∃ tv, TyZ K (upd H t (.tup [V.ty "list", V.ty "tuple"])) (.ref ax) tv ∧ PySem.W.kitAny K tv [.type "list", .type "tuple"] = some true := by
        rcases hs with hax | hax
        · exact ⟨_, .x (.base (.lst (st _ _ hax))), kitAny_cons (b := true) (kit_ty (by decide +kernel)) (fun q => nomatch q) (fun _ => rfl)⟩
        · exact ⟨_, .x (.base (.tup (st _ _ hax))), kitAny_cons (b := false) (kit_ty (by decide +kernel)) (fun _ => kitAny_cons (b := true) (kit_ty (by decide +kernel)) (fun q => nomatch q) (fun _ => rfl)) (fun q => nomatch q)⟩
      have one : SqL K (upd H t (.tup [V.ty "list", V.ty "tuple"])) ax xs ∨ SqT K (upd H t (.tup [V.ty "list", V.ty "tuple"])) ax xs := (hs.same st).elim (fun z => .inl (SqL.of z)) fun z => .inr (SqT.of z)
      obtain ⟨tv, htv, hkt⟩ := two
      refine ⟨_, _, _, _, [.type "list", .type "tuple"], true, rfl, upd_same, .cons (.ty _) (.cons (.ty _) .nil), htv, hkt, true, rfl, ?_⟩
      refine ⟨_, rfl, ax, xs, rfl, one, _, _, rfl, rfl, _, rfl, ?_⟩
      have hsf := hs.same st
      have haf := st _ _ ha
      have harcf := harc.same st
      replace hit : ∀ x ∈ xs, It K (upd H t (.tup [V.ty "list", V.ty "tuple"])) x := fun x hx => (hit x hx).same st
      clear one htv hkt
      generalize upd H t (.tup [V.ty "list", V.ty "tuple"]) = H1 at *
      refine ite2 (fun c => ?_) (fun c => ?_)
      · refine k H1 false st ⟨fun z => Bool.noConfusion z, fun z => ?_⟩
        have c1 := of_decide_eq_true c
        dsimp only [fltV] at z
        rw [if_neg (by omega)] at z
        cases z
      have hx : xs.length ≤ 2000 := by
        have : ¬ ((2000 : Int) < (xs.length : Int)) := fun z => c (decide_eq_true z)
        omega
      have kk : ∀ b : Bool, (b = true ↔ flt as g xs 0 = none) → Q (.bl b) H1 := fun b hb => by
        refine k H1 b st (hb.trans ?_)
        dsimp only [fltV]
        rw [if_pos hx]
        cases flt as g xs 0 with
        | none => exact ⟨fun _ => rfl, fun _ => rfl⟩
        | some i => exact ⟨(fun z => nomatch z), (fun z => nomatch z)⟩
      rcases hsf with ha1 | ha1
      · refine .inl ⟨_, rfl, ax, rfl, ⟨_, SqL.of ha1⟩, for_list (K := K) (a := ax) (xs := xs) (fun i σ H' => ∃ (g' : Nat) (v3 : Option V), σ = [some (.ref a), some (.int (g' : Nat)), some (.ref ax), v3] ∧ flt as g xs 0 = flt as g' (xs.drop i) i ∧ H1 = H') ?_ ?_ ?_ ?_⟩
        · exact ⟨g, _, rfl, rfl, rfl⟩
        · rintro i σ _ _ ⟨_, _, _, _, rfl⟩
          exact SqL.of ha1
        · rintro i y1 σ _ hy1 ⟨g', v3, rfl, hf, rfl⟩
          have hy : It K H1 y1 := hit y1 (List.mem_of_getElem? hy1)
          have hd : xs.drop i = y1 :: xs.drop (i + 1) := by
            have hi2 := (List.getElem?_eq_some_iff.mp hy1).1
            rw [List.drop_eq_getElem_cons hi2]
            congr 1
            exact Option.some.inj ((List.getElem?_eq_getElem hi2).symm.trans hy1)
          rw [hd] at hf
          have stop : fits as g' y1 = none → Q (.bl false) H1 := fun e => kk false (by rw [hf, flt_none e]; exact ⟨fun z => Bool.noConfusion z, fun z => nomatch z⟩)
          refine ⟨_, rfl, y1, rfl, hy, fun b hb => ⟨b, rfl, ?_⟩⟩
          cases b with
          | false =>
            refine iteT (stop ?_)
            unfold fits
            cases y1 with
            | int k => cases hb.mpr ⟨k, rfl⟩
            | _ => rfl
          | true =>
            obtain ⟨k, rfl⟩ := hb.mp rfl
            refine iteF ?_
            refine ⟨_, rfl, _, _, rfl, rfl, _, rfl, ?_⟩
            by_cases k0 : 0 ≤ k
            · refine ite2 (fun _ => ?_) fun c => absurd (decide_eq_true k0) c
              refine ⟨_, rfl, a, us, rfl, .inl (SqL.of haf), _, _, rfl, rfl, _, rfl, ?_⟩
              rw [harc.1]
              obtain ⟨m, rfl⟩ := Int.eq_ofNat_of_zero_le k0
              by_cases hm : m < as.length
              · rw [decide_eq_true (show (m : Int) < (as.length : Int) by omega)]
                refine iteF ?_
                obtain ⟨t2, hut, htt⟩ := harcf.2 m as[m] (List.getElem?_eq_getElem hm)
                have ft : fits as g' (.int (m : Nat)) = if as[m].1 = g' then some as[m].2.2 else none := by
                  unfold fits
                  dsimp only
                  rw [if_pos ⟨by omega, by omega⟩, Int.toNat_natCast, List.getElem?_eq_getElem hm]
                refine ⟨_, rfl, _, rfl, a, us, _, _, rfl, rfl, SqL.of haf, atI_nat hut, t2, _, _, _, rfl, rfl, SqT.of htt, rfl, _, rfl, rfl, _, rfl, ?_⟩
                refine ite2 (fun c => ?_) (fun c => ?_)
                · have ne : ¬ (as[m].1 = g') := fun z => by simp [z] at c
                  exact stop (by rw [ft, if_neg ne])
                · have e : as[m].1 = g' := by
                    have z : ((as[m].1 : Nat) : Int) = (g' : Int) := by simpa using c
                    exact_mod_cast z
                  refine ⟨_, rfl, _, rfl, a, us, _, _, rfl, rfl, SqL.of haf, atI_nat hut, t2, _, _, _, rfl, rfl, SqT.of htt, rfl, ?_⟩
                  exact ⟨as[m].2.2, _, rfl, by rw [hf, flt_some (by rw [ft, if_pos e])], rfl⟩
              · rw [decide_eq_false (show ¬ (m : Int) < (as.length : Int) by omega)]
                refine iteT (stop ?_)
                unfold fits
                dsimp only
                rw [if_neg (by omega)]
            · refine ite2 (fun c => absurd (of_decide_eq_true c) k0) fun _ => ?_
              refine ⟨_, rfl, iteT (stop ?_)⟩
              unfold fits
              dsimp only
              rw [if_neg (by omega)]
        · rintro σ _ ⟨g', v3, rfl, hf, rfl⟩
          rw [List.drop_length] at hf
          exact kk true ⟨fun _ => by rw [hf]; rfl, fun _ => rfl⟩
      · refine .inr ⟨_, rfl, ax, rfl, ⟨_, SqT.of ha1⟩, for_tup (K := K) (a := ax) (xs := xs) (fun i σ H' => ∃ (g' : Nat) (v3 : Option V), σ = [some (.ref a), some (.int (g' : Nat)), some (.ref ax), v3] ∧ flt as g xs 0 = flt as g' (xs.drop i) i ∧ H1 = H') ?_ ?_ ?_ ?_⟩
        · exact ⟨g, _, rfl, rfl, rfl⟩
        · rintro i σ _ _ ⟨_, _, _, _, rfl⟩
          exact SqT.of ha1
        · rintro i y1 σ _ hy1 ⟨g', v3, rfl, hf, rfl⟩
          have hy : It K H1 y1 := hit y1 (List.mem_of_getElem? hy1)
          have hd : xs.drop i = y1 :: xs.drop (i + 1) := by
            have hi2 := (List.getElem?_eq_some_iff.mp hy1).1
            rw [List.drop_eq_getElem_cons hi2]
            congr 1
            exact Option.some.inj ((List.getElem?_eq_getElem hi2).symm.trans hy1)
          rw [hd] at hf
          have stop : fits as g' y1 = none → Q (.bl false) H1 := fun e => kk false (by rw [hf, flt_none e]; exact ⟨fun z => Bool.noConfusion z, fun z => nomatch z⟩)
          refine ⟨_, rfl, y1, rfl, hy, fun b hb => ⟨b, rfl, ?_⟩⟩
          cases b with
          | false =>
            refine iteT (stop ?_)
            unfold fits
            cases y1 with
            | int k => cases hb.mpr ⟨k, rfl⟩
            | _ => rfl
          | true =>
            obtain ⟨k, rfl⟩ := hb.mp rfl
            refine iteF ?_
            refine ⟨_, rfl, _, _, rfl, rfl, _, rfl, ?_⟩
            by_cases k0 : 0 ≤ k
            · refine ite2 (fun _ => ?_) fun c => absurd (decide_eq_true k0) c
              refine ⟨_, rfl, a, us, rfl, .inl (SqL.of haf), _, _, rfl, rfl, _, rfl, ?_⟩
              rw [harc.1]
              obtain ⟨m, rfl⟩ := Int.eq_ofNat_of_zero_le k0
              by_cases hm : m < as.length
              · rw [decide_eq_true (show (m : Int) < (as.length : Int) by omega)]
                refine iteF ?_
                obtain ⟨t2, hut, htt⟩ := harcf.2 m as[m] (List.getElem?_eq_getElem hm)
                have ft : fits as g' (.int (m : Nat)) = if as[m].1 = g' then some as[m].2.2 else none := by
                  unfold fits
                  dsimp only
                  rw [if_pos ⟨by omega, by omega⟩, Int.toNat_natCast, List.getElem?_eq_getElem hm]
                refine ⟨_, rfl, _, rfl, a, us, _, _, rfl, rfl, SqL.of haf, atI_nat hut, t2, _, _, _, rfl, rfl, SqT.of htt, rfl, _, rfl, rfl, _, rfl, ?_⟩
                refine ite2 (fun c => ?_) (fun c => ?_)
                · have ne : ¬ (as[m].1 = g') := fun z => by simp [z] at c
                  exact stop (by rw [ft, if_neg ne])
                · have e : as[m].1 = g' := by
                    have z : ((as[m].1 : Nat) : Int) = (g' : Int) := by simpa using c
                    exact_mod_cast z
                  refine ⟨_, rfl, _, rfl, a, us, _, _, rfl, rfl, SqL.of haf, atI_nat hut, t2, _, _, _, rfl, rfl, SqT.of htt, rfl, ?_⟩
                  exact ⟨as[m].2.2, _, rfl, by rw [hf, flt_some (by rw [ft, if_pos e])], rfl⟩
              · rw [decide_eq_false (show ¬ (m : Int) < (as.length : Int) by omega)]
                refine iteT (stop ?_)
                unfold fits
                dsimp only
                rw [if_neg (by omega)]
            · refine ite2 (fun c => absurd (of_decide_eq_true c) k0) fun _ => ?_
              refine ⟨_, rfl, iteT (stop ?_)⟩
              unfold fits
              dsimp only
              rw [if_neg (by omega)]
        · rintro σ _ ⟨g', v3, rfl, hf, rfl⟩
          rw [List.drop_length] at hf
          exact kk true ⟨fun _ => by rw [hf]; rfl, fun _ => rfl⟩
end
end J


set_option Elab.async false
set_option linter.all false
set_option maxRecDepth 100000
set_option maxHeartbeats 4000000
namespace J
open PySem L2
def dblB (as : List Arc) (ms : List Nat) (d : Option (V × Option (List V) × Option (List V))) : Bool := pairB as ms d && match d with
  | some (.int g, some xs, some ys) => !decide (rowOf xs = rowOf ys) && (decide (rowEnd as g.toNat (rowOf xs) = rowEnd as g.toNat (rowOf ys)) && decide (txA as (rowOf xs) = txA as (rowOf ys)))
  | _ => false
theorem dblB_of {as : List Arc} {ms : List Nat} {g : Nat} {r r' : List Nat} (h : pairB as ms (some (.int (g : Int), some (nats r), some (nats r'))) = true) : dblB as ms (some (.int (g : Int), some (nats r), some (nats r'))) = (!decide (r = r') && (decide (rowEnd as g r = rowEnd as g r') && decide (txA as r = txA as r'))) := by
  show (pairB as ms _ && (!decide (rowOf (nats r) = rowOf (nats r')) && (decide (rowEnd as (g : Int).toNat (rowOf (nats r)) = rowEnd as (g : Int).toNat (rowOf (nats r'))) && decide (txA as (rowOf (nats r)) = txA as (rowOf (nats r')))))) = _
  rw [h, rowOf_nats, rowOf_nats, Int.toNat_natCast, Bool.true_and]
theorem eqv_all : ∀ ms ns : List Nat, PyData.eqvAll ((ms.map fun n : Nat => (n : Int)).map PyData.int) ((ns.map fun n : Nat => (n : Int)).map PyData.int) = decide (ms = ns)
  | [], [] => rfl
  | [], _ :: _ => rfl
  | _ :: _, [] => rfl
  | m :: ms, n :: ns => by
    show (((m : Int) == (n : Int)) && PyData.eqvAll _ _) = _
    rw [eqv_all ms ns]
    by_cases c : m = n
    · subst c
      simp
    · have c2 : ((m : Int) == (n : Int)) = false := beq_false_of_ne fun z => c (by exact_mod_cast z)
      rw [c2, Bool.false_and, decide_eq_false fun z => c (by injection z)]
/-- lists of numbers, compared -/
theorem eq_natsD {K : PySem.W.Frag} {H : Hp} {a b : Addr} {r r' : List Nat} {Q : VK} (ha : H a = some (.lst (nats r))) (hb : H b = some (.lst (nats r'))) (q : Q (.bl (decide (r = r'))) H) : rEqD K (.ref a) (.ref b) H Q := by
  refine ⟨_, _, .lst (SqL.of ha) (by rw [nats_map]; exact dp_ints _), .lst (SqL.of hb) (by rw [nats_map]; exact dp_ints _), PySem.W.ke_shaped_ints _, PySem.W.ke_shaped_ints _, ?_⟩
  show Q (.bl (PyData.eqvAll _ _)) H
  rw [eqv_all]
  exact q
def spDoubleG (K : PySem.W.Frag) (C : Addr) : Sp := fun vs H Q _ => ∃ (q : Addr) (sg : List Nat) (us : List V) (as : List Arc) (x : V) (d : Option (V × Option (List V) × Option (List V))), vs = [.ref q, x] ∧ LoomAt C H q sg us as ∧ Trp K H x d ∧
  ∀ (H' : Hp) (b : Bool), Same H H' → (∀ ms : List Nat, (∀ x, x ∈ ms ↔ Reach as x) → ms.Pairwise (· < ·) → b = dblB as ms d) → Q (.bl b) H'
def spEnd2 : Sp := fun vs H Q _ => ∃ (a r : Addr) (as : List Arc) (g : Nat) (row : List Nat), vs = [.ref a, .int (g : Int), .ref r] ∧ ArcL H a as ∧ Seq H r (nats row) ∧ RowIn as row ∧ Q (.int (rowEnd as g row : Nat)) H
theorem ixOr {K : PySem.W.Frag} {H : Hp} {r : Addr} {xs : List V} {i : Int} {v : V} {Q : VK} (h : Seq H r xs) (ha : atI xs i = some v) (q : Q v H) : rIxL K (.ref r) (.int i) H Q ∨ rIxT K (.ref r) (.int i) H Q := by
  rcases h with h | h
  · exact .inl ⟨r, xs, i, v, rfl, rfl, SqL.of h, ha, q⟩
  · exact .inr ⟨r, xs, i, v, rfl, rfl, SqT.of h, ha, q⟩
def spLDbl (K : PySem.W.Frag) : Sp := fun vs H Q _ => ∃ (a : Addr) (as : List Arc) (x : V) (d : Option (V × Option (List V) × Option (List V))), vs = [.ref a, x] ∧ ArcL H a as ∧ OkAll as ∧ as.length ≤ 200 ∧ Trp K H x d ∧
  ∀ (H' : Hp) (b : Bool), Same H H' → (∀ ms : List Nat, (∀ x, x ∈ ms ↔ Reach as x) → ms.Pairwise (· < ·) → b = dblB as ms d) → Q (.bl b) H'
section
variable {P : Program} {w : World} {K : PySem.W.Frag} {mg : Str → Option Value} {base : Heap}
theorem ok_l_end2 (T : Tx K mg) : FnOk P w K mg base CX0 1 T.f_l_end T.fd_l_end P_l_end spEnd2 := by
  refine T.F_l_end.ok sc_l_end (fun vs H Q E h => ?_) (fun cdv A outer s H vs Q E hr h => ?_)
  · obtain ⟨a, r, as, g, row, rfl, _⟩ := h
    rfl
  · obtain ⟨a, r, as, g, row, rfl, ⟨us, ha, harc⟩, hrow, hin, k⟩ := h
    refine ⟨_, (pss_one (ps_ret (pe_ifExp (pt_cmpR op_gt (pe_callB (call_len_seqK (K := K) rfl) rfl T.n_len (by decide +kernel) (pa_cons (pv 2) pa_nil)) pe_int (nomark _)) (pe_ix (ix_tupK (K := K) rfl) (pe_ix (ix_listK (K := K) rfl) (pv 0) (pe_ix (ix_or (ix_listK (K := K) rfl) (ix_tupK (K := K) rfl)) (pv 2) (pe_un un_neg pe_int) (fun _ _ => rfl)) (fun _ _ => rfl)) pe_int (fun _ _ => rfl)) (pv 1)))), ?_⟩
    refine ⟨_, rfl, r, _, rfl, seq_sq hrow, _, _, rfl, rfl, _, rfl, ?_⟩
    refine ite2 (fun c => ?_) (fun c => ?_)
    · have c1 := of_decide_eq_true c
      have hne : row ≠ [] := fun z => by rw [z] at c1; simp [nats] at c1
      obtain ⟨r0, j, rfl⟩ : ∃ r0 j, row = r0 ++ [j] := ⟨row.dropLast, row.getLast hne, (List.dropLast_concat_getLast hne).symm⟩
      have hj : j < as.length := hin j (by simp)
      obtain ⟨t, hut, htt⟩ := harc.2 j as[j] (List.getElem?_eq_getElem hj)
      refine ⟨_, rfl, _, rfl, _, rfl, ixOr (v := .int (j : Int)) hrow (by rw [show nats (r0 ++ [j]) = nats r0 ++ [V.int (j : Int)] by simp [nats]]; exact atI_last _ _) ⟨a, us, _, _, rfl, rfl, SqL.of ha, atI_nat hut, t, _, _, _, rfl, rfl, SqT.of htt, rfl, ?_⟩⟩
      have e : rowEnd as g (r0 ++ [j]) = as[j].2.2 := by
        unfold rowEnd
        rw [List.getLast?_concat]
        exact goalAt_eq (List.getElem?_eq_getElem hj)
      rw [e] at k
      exact k
    · have e : row = [] := by
        cases row with
        | nil => rfl
        | cons i r => exact absurd (decide_eq_true (by simp [nats])) c
      subst e
      exact ⟨_, rfl, k⟩
theorem ok_l_is_double (T : Tx K mg) : FnOk P w K mg base CX0 3 T.f_l_is_double T.fd_l_is_double P_l_is_double (spLDbl K) := by
  have G_l_is_integer : FnOk P w K mg base CX0 1 T.f_l_is_integer T.fd_l_is_integer P_l_is_integer (spIntG K) := ok_l_is_integerG T
  have G_l_is_row : FnOk P w K mg base CX0 2 T.f_l_is_row T.fd_l_is_row P_l_is_row (spLRow K) := ok_l_is_row T
  have G_l_joined : FnOk P w K mg base CX0 1 T.f_l_joined T.fd_l_joined P_l_joined spJoin2 := ok_l_joined2 T
  have G_l_end : FnOk P w K mg base CX0 1 T.f_l_end T.fd_l_end P_l_end spEnd2 := ok_l_end2 T
  have G_l_met : FnOk P w K mg base CX0 2 T.f_l_met T.fd_l_met P_l_met spMet := ok_l_met T
  refine T.F_l_is_double.ok sc_l_is_double (fun vs H Q E h => ?_) (fun cdv A outer s H vs Q E hr h => ?_)
  · obtain ⟨a, as, x, d, rfl, _⟩ := h
    rfl
  · obtain ⟨a, as, x, d, rfl, hA, oka, h200, hx, k⟩ := h
    refine ⟨_, (pss_cons (ps_if (PW.pt (pw_or (pt_not (pt_val (pe_callB (call_isiZ (K := K) rfl) rfl T.n_isinstance (by decide +kernel) (pa_cons (pv 1) (pa_cons (pe_bltn (v := V.ty "tuple") (u := .type "tuple") rfl T.n_tuple (by decide +kernel) rfl) pa_nil))))) (pw_or (pt_cmpR op_ne (pe_callB (call_len_seqK (K := K) rfl) rfl T.n_len (by decide +kernel) (pa_cons (pv 1) pa_nil)) pe_int (nomark _)) (pw_or (pt_not (pt_val (pe_call G_l_is_integer (hr.mono (by decide)) rfl T.m_l_is_integer T.F_l_is_integer.kp T.b_l_is_integer .nil pass0 (pa_cons (pe_ix (ix_tupK (K := K) rfl) (pv 1) pe_int (fun _ _ => rfl)) pa_nil)))) (pw_or1 (pt_cmpR op_notIn_seq (pe_ix (ix_tupK (K := K) rfl) (pv 1) pe_int (fun _ _ => rfl)) (pe_call G_l_met (hr.mono (by decide)) rfl T.m_l_met T.F_l_met.kp T.b_l_met .nil pass0 (pa_cons (pv 0) pa_nil)) rfl)))))) (pss_one (ps_ret pe_bl)) pss_nil)
        (pss_cons (ps_asg (pv 1) (pg_tup rfl (pgs_cons (pg_name (i := 2) sc_l_is_double.nd rfl (Or.inl rfl)) (pgs_cons (pg_name (i := 3) sc_l_is_double.nd rfl (Or.inl rfl)) (pgs_cons (pg_name (i := 4) sc_l_is_double.nd rfl (Or.inl rfl)) pgs_nil)))))
        (pss_cons (ps_if (PW.pt (pw_or (pt_not (pt_val (pe_call G_l_is_row (hr.mono (by decide)) rfl T.m_l_is_row T.F_l_is_row.kp T.b_l_is_row .nil pass0 (pa_cons (pv 0) (pa_cons (pv 2) (pa_cons (pv 3) pa_nil)))))) (pw_or (pt_not (pt_val (pe_call G_l_is_row (hr.mono (by decide)) rfl T.m_l_is_row T.F_l_is_row.kp T.b_l_is_row .nil pass0 (pa_cons (pv 0) (pa_cons (pv 2) (pa_cons (pv 4) pa_nil)))))) (pw_or1 (pt_cmpR (op_eqD hr.units) (pe_callTy (call_list_ofK (K := K) rfl) rfl T.n_list (by decide +kernel) (pa_cons (pv 3) pa_nil)) (pe_callTy (call_list_ofK (K := K) rfl) rfl T.n_list (by decide +kernel) (pa_cons (pv 4) pa_nil)) (nomark _)))))) (pss_one (ps_ret pe_bl)) pss_nil)
        (pss_cons (ps_set (i := 5) sc_l_is_double.nd rfl (Or.inl rfl) (pe_cmpR op_eq (pe_call G_l_end (hr.mono (by decide)) rfl T.m_l_end T.F_l_end.kp T.b_l_end .nil pass0 (pa_cons (pv 0) (pa_cons (pv 2) (pa_cons (pv 3) pa_nil)))) (pe_call G_l_end (hr.mono (by decide)) rfl T.m_l_end T.F_l_end.kp T.b_l_end .nil pass0 (pa_cons (pv 0) (pa_cons (pv 2) (pa_cons (pv 4) pa_nil)))) (nomark _)))
        (pss_one (ps_ret (pe_and (pv 5) (pe_one (pe_cmpR op_eq (pe_call G_l_joined (hr.mono (by decide)) rfl T.m_l_joined T.F_l_joined.kp T.b_l_joined .nil pass0 (pa_cons (pv 0) (pa_cons (pv 3) pa_nil))) (pe_call G_l_joined (hr.mono (by decide)) rfl T.m_l_joined T.F_l_joined.kp T.b_l_joined .nil pass0 (pa_cons (pv 0) (pa_cons (pv 4) pa_nil))) (nomark _)))))))))), ?_⟩
    cases hx with
    | non h n => exact ⟨_, rfl, _, _, _, _, false, rfl, .ty "tuple", h, n, false, rfl, k H false (Same.refl H) fun _ _ _ => rfl⟩
    | @len t xs ht hl =>
      refine ⟨_, rfl, _, _, _, _, true, rfl, .ty "tuple", .x (.base (.tup ht)), kit_ty (by decide +kernel), true, rfl, ?_⟩
      exact ⟨_, rfl, t, _, rfl, .inr (SqT.of ht), rfl, true, congrArg V.bl (by simp; omega), k H false (Same.refl H) fun _ _ _ => rfl⟩
    | @three t s r o d1 d2 ht hs hrw hot =>
      refine ⟨_, rfl, _, _, _, _, true, rfl, .ty "tuple", .x (.base (.tup ht)), kit_ty (by decide +kernel), true, rfl, ?_⟩
      refine ⟨_, rfl, t, _, rfl, .inr (SqT.of ht), rfl, false, rfl, ?_⟩
      refine ⟨_, rfl, t, _, 0, _, rfl, rfl, SqT.of ht, rfl, s, rfl, hs, fun b hb => ⟨b, rfl, ?_⟩⟩
      cases b with
      | false =>
        refine k H false (Same.refl H) fun ms _ _ => ?_
        cases s with
        | int g => cases hb.mpr ⟨g, rfl⟩
        | _ => rfl
      | true =>
        obtain ⟨i, rfl⟩ := hb.mp rfl
        refine iteF ?_
        refine ⟨_, rfl, t, _, 0, _, rfl, rfl, SqT.of ht, rfl, _, rfl, a, as, rfl, hA, oka, fun H1 p ms s1 hp0 hp m2 m1 => ?_⟩
        refine ⟨p, _, rfl, .inl (SqL.of hp), rfl, flat_nats ms, _, rfl, ?_⟩
        by_cases i0 : 0 ≤ i
        rotate_left
        · rw [show (if true = true then !inV (V.int i) (nats ms) else inV (V.int i) (nats ms)) = true by rw [inV_neg ms (by omega)]; rfl]
          refine iteT (k H1 false s1 fun ms' h1 h2 => ?_)
          show false = (((decide (0 ≤ i ∧ i ≤ 63)) && _) && _)
          rw [decide_eq_false (fun z => i0 z.1), Bool.false_and, Bool.false_and]
        obtain ⟨g, rfl⟩ := Int.eq_ofNat_of_zero_le i0
        rw [show (if true = true then !inV (V.int (g : Int)) (nats ms) else inV (V.int (g : Int)) (nats ms)) = !decide (g ∈ ms) by rw [inV_nats]; rfl]
        by_cases hgm : g ∈ ms
        rotate_left
        · rw [decide_eq_false hgm]
          refine iteT (k H1 false s1 fun ms' h1 h2 => ?_)
          have : ¬ ((g : Int).toNat ∈ ms') := fun z => hgm ((m1 g).mpr ((h1 g).mp z))
          show false = ((_ && (decide ((g : Int).toNat ∈ ms') && _)) && _)
          rw [decide_eq_false this, Bool.false_and, Bool.and_false, Bool.false_and]
        rw [decide_eq_true hgm]
        have hg : g ≤ 63 := ((m1 g).mp hgm).le oka
        have pb : ∀ ms' : List Nat, (∀ x, x ∈ ms' ↔ Reach as x) → pairB as ms' (some (V.int (g : Int), d1, d2)) = (decide (fltV as g d1 = .non) && decide (fltV as g d2 = .non)) := fun ms' h1 => by
          show (decide ((0 : Int) ≤ (g : Int) ∧ (g : Int) ≤ 63) && (decide ((g : Int).toNat ∈ ms') && (decide (fltV as (g : Int).toNat d1 = .non) && decide (fltV as (g : Int).toNat d2 = .non)))) = _
          rw [Int.toNat_natCast, decide_eq_true (show (0 : Int) ≤ (g : Int) ∧ (g : Int) ≤ 63 by omega), decide_eq_true ((h1 g).mpr ((m1 g).mp hgm)), Bool.true_and, Bool.true_and]
        have hA1 := hA.same s1
        refine iteF ?_
        refine ⟨_, rfl, t, _, rfl, SqT.of (s1 _ _ ht), rfl, _, _, rfl, _, _, rfl, _, _, rfl, rfl, ?_⟩
        refine ⟨_, rfl, _, rfl, _, rfl, a, as, g, r, d1, rfl, hA1, h200, hrw.same s1, fun H2 b2 s2 hb2 => ⟨b2, rfl, ?_⟩⟩
        cases b2 with
        | false =>
          refine iteT (k H2 false (s1.trans s2) fun ms' h1 h2 => ?_)
          unfold dblB
          rw [pb ms' h1, decide_eq_false (fun z => Bool.noConfusion (hb2.mpr z)), Bool.false_and, Bool.false_and]
        | true =>
        refine iteF ?_
        refine ⟨_, rfl, _, rfl, _, rfl, a, as, g, o, d2, rfl, hA1.same s2, h200, (hot.same s1).same s2, fun H3 b3 s3 hb3 => ⟨b3, rfl, ?_⟩⟩
        cases b3 with
        | false =>
          refine iteT (k H3 false ((s1.trans s2).trans s3) fun ms' h1 h2 => ?_)
          unfold dblB
          rw [pb ms' h1, decide_eq_false (fun z => Bool.noConfusion (hb3.mpr z)), Bool.and_false, Bool.false_and]
        | true =>
        refine iteF ?_
        have S3 := (s1.trans s2).trans s3
        obtain ⟨rr, rfl, hr1, hn1⟩ := fltV_row (hb2.mp rfl)
        obtain ⟨rr', rfl, hr2, hn2⟩ := fltV_row (hb3.mp rfl)
        obtain ⟨a1, rfl, q1⟩ := seq_of (hrw.same S3)
        obtain ⟨a2, rfl, q2⟩ := seq_of (hot.same S3)
        have kk : ∀ H', Same H H' → Q (.bl ((!decide (rr = rr') && (decide (rowEnd as g rr = rowEnd as g rr') && decide (txA as rr = txA as rr'))))) H' := fun H' sm => k H' _ sm fun ms' h1 h2 => by
          rw [dblB_of (pairB_of hg ((h1 g).mpr ((m1 g).mp hgm)) hr1 hr2 hn1 hn2)]
        have hA3 := hA.same S3
        refine ⟨_, rfl, a1, _, rfl, seq_sq q1, fun l1 hl1 => ?_⟩
        have t1 : Same H3 (upd H3 l1 (.lst (nats rr))) := Same.new _ hl1
        have e1 : upd H3 l1 (.lst (nats rr)) l1 = some (.lst (nats rr)) := upd_same
        generalize upd H3 l1 (.lst (nats rr)) = H4 at *
        refine ⟨_, rfl, a2, _, rfl, seq_sq (q2.same t1), fun l2 hl2 => ?_⟩
        have t2 : Same H4 (upd H4 l2 (.lst (nats rr'))) := Same.new _ hl2
        have e2 : upd H4 l2 (.lst (nats rr')) l2 = some (.lst (nats rr')) := upd_same
        generalize upd H4 l2 (.lst (nats rr')) = H5 at *
        have t12 := t1.trans t2
        have S5 := S3.trans t12
        refine eq_natsD (t2 _ _ e1) e2 ⟨_, rfl, ?_⟩
        refine ite2 (fun c => ?_) (fun c => ?_)
        · have z := kk H5 S5
          rw [c] at z
          exact z
        · have cf : decide (rr = rr') = false := by
            cases h : decide (rr = rr') with
            | true => exact absurd h c
            | false => rfl
          rw [cf] at kk
          have hA5 := hA3.same t12
          have p1 := q1.same t12
          have p2 := q2.same t12
          refine ⟨_, rfl, _, rfl, _, rfl, a, a1, as, g, rr, rfl, hA5, p1, hr1.rowIn, ?_⟩
          refine ⟨_, rfl, _, rfl, _, rfl, a, a2, as, g, rr', rfl, hA5, p2, hr2.rowIn, rfl, ?_⟩
          have en : decide (V.int ((rowEnd as g rr : Nat) : Int) = V.int ((rowEnd as g rr' : Nat) : Int)) = decide (rowEnd as g rr = rowEnd as g rr') := by
            refine decide_eq_decide.mpr ⟨fun h => ?_, fun h => by rw [h]⟩
            injection h with h
            omega
          rw [en]
          by_cases c2 : rowEnd as g rr = rowEnd as g rr'
          · rw [decide_eq_true c2] at kk ⊢
            refine ⟨_, rfl, _, rfl, iteT ?_⟩
            refine ⟨_, rfl, _, rfl, a, a1, as, rr, rfl, hA5, oka, p1, hr1.rowIn, by omega, fun H6 s6 => ?_⟩
            refine ⟨_, rfl, _, rfl, a, a2, as, rr', rfl, hA5.same s6, oka, p2.same s6, hr2.rowIn, by omega, fun H7 s7 => ⟨rfl, ?_⟩⟩
            have et : decide (V.str (SX.S (txA as rr)) = V.str (SX.S (txA as rr'))) = decide (txA as rr = txA as rr') := by
              refine decide_eq_decide.mpr ⟨fun h => ?_, fun h => by rw [h]⟩
              injection h with h
              exact SX.S_inj h
            rw [et]
            exact kk H7 ((S5.trans s6).trans s7)
          · rw [decide_eq_false c2] at kk ⊢
            refine ⟨_, rfl, _, rfl, iteF ?_⟩
            exact kk H5 S5
end
end J


set_option Elab.async false
set_option linter.all false
set_option maxRecDepth 100000
set_option maxHeartbeats 4000000
namespace J
open PySem L2
/-! ### explored, with the origins -/
def TPo (H H' : Hp) : Prop := ∀ t xs, H t = some (.tup xs) → H' t = some (.tup xs)
theorem TPo.same {H H' : Hp} (s : Same H H') : TPo H H' := fun _ _ h => s _ _ h
theorem TPo.upd {H : Hp} {a : Addr} {o o' : HO} (h : H a = some o) (n : ∀ xs, o ≠ .tup xs) : TPo H (upd H a o') := fun t xs e => by
  rw [upd_ne (fun z => by rw [z, h] at e; exact n xs (Option.some.inj e))]
  exact e
/-- where a rest comes from: a start, or a step from one that was there before -/
def Org1 (as : List Arc) (ms : List Nat) (H : Hp) (rs : List Rest) (i : Nat) (r : Rest) (v : V) : Prop := ∃ t : Addr, v = .ref t ∧
  ((∃ (st : Start) (s0 rt : Addr), st ∈ startsL as ms ∧ st.1 = r ∧ H t = some (.tup [.non, .ref s0]) ∧ H s0 = some (startHO rt st) ∧ H rt = some (restHO st.1)) ∨
   ∃ (s : Step) (r' : Rest) (j : Nat) (b s0 rt : Addr), j < i ∧ rs[j]? = some r' ∧ s ∈ stepsL as r' ∧ s.1 = r ∧ H t = some (.tup [.ref b, .ref s0]) ∧ H b = some (restHO r') ∧ H s0 = some (.tup [.ref rt, .int (s.2.1 : Nat), .int (s.2.2 : Nat)]) ∧ H rt = some (restHO s.1))
def OrgL (as : List Arc) (ms : List Nat) (H : Hp) (rs : List Rest) (ko : List (List Key × V)) : Prop := ∀ (i : Nat) r k v, rs[i]? = some r → ko[i]? = some (k, v) → Org1 as ms H rs i r v
theorem OrgL.to {as : List Arc} {ms : List Nat} {H H' : Hp} {rs : List Rest} {ko : List (List Key × V)} (h : OrgL as ms H rs ko) (tp : TPo H H') : OrgL as ms H' rs ko := fun i r k v h1 h2 => by
  obtain ⟨t, e, c⟩ := h i r k v h1 h2
  refine ⟨t, e, ?_⟩
  rcases c with ⟨st, s0, rt, a1, a2, a3, a4, a5⟩ | ⟨s, r', j, b, s0, rt, a1, a2, a3, a4, a5, a6, a7, a8⟩
  · exact .inl ⟨st, s0, rt, a1, a2, tp _ _ a3, tp _ _ a4, tp _ _ a5⟩
  · exact .inr ⟨s, r', j, b, s0, rt, a1, a2, a3, a4, tp _ _ a5, tp _ _ a6, tp _ _ a7, tp _ _ a8⟩
theorem OrgL.snoc {as : List Arc} {ms : List Nat} {H : Hp} {rs : List Rest} {ko : List (List Key × V)} (h : OrgL as ms H rs ko) (hl : rs.length = ko.length) {r : Rest} {k : List Key} {v : V} (o : Org1 as ms H (rs ++ [r]) rs.length r v) : OrgL as ms H (rs ++ [r]) (ko ++ [(k, v)]) := fun i r' k' v' h1 h2 => by
  by_cases c : i < rs.length
  · rw [List.getElem?_append_left c] at h1
    rw [List.getElem?_append_left (by omega)] at h2
    obtain ⟨t, e, q⟩ := h i r' k' v' h1 h2
    refine ⟨t, e, q.imp id fun ⟨s, r2, j, b, s0, rt, a1, a2, a3⟩ => ⟨s, r2, j, b, s0, rt, a1, ?_, a3⟩⟩
    rw [List.getElem?_append_left (by omega)]
    exact a2
  · rw [List.getElem?_append_right (by omega)] at h1
    rw [List.getElem?_append_right (by omega)] at h2
    have hi := (List.getElem?_eq_some_iff.mp h1).1
    rw [List.length_singleton] at hi
    have e1 : i - rs.length = 0 := by omega
    have e2 : i - ko.length = 0 := by omega
    rw [e1] at h1
    rw [e2] at h2
    cases h1
    cases h2
    have : i = rs.length := by omega
    subst this
    exact o
def WaysO (H : Hp) (W O : Addr) (as : List Arc) (ms : List Nat) : Prop := ∃ (kw : List (List Key × V)) (rs : List Rest) (ko : List (List Key × V)), H W = some (.dT kw) ∧ kw.map (·.1) = rs.map rk ∧ Cov as ms rs ∧ (∀ r, Rch as ms r → r ∈ rs) ∧ StepsIn H kw as ∧ H O = some (.dT ko) ∧ ko.map (·.1) = rs.map rk ∧ OrgL as ms H rs ko
/-- what stands while explored goes: n rests have their steps, the steps of c of them are met -/
structure Wso (as : List Arc) (ms : List Nat) (Hx H : Hp) (O L W : Addr) (rs : List Rest) (n c : Nat) : Prop where
  le : n ≤ rs.length
  o : ∃ ko : List (List Key × V), H O = some (.dT ko) ∧ ko.map (·.1) = rs.map rk ∧ OrgL as ms H rs ko
  l : ∃ bs : List Addr, H L = some (.lst (bs.map V.ref)) ∧ bs.length = rs.length ∧ ∀ (i : Nat) r, rs[i]? = some r → ∃ b, bs[i]? = some b ∧ H b = some (restHO r)
  w : ∃ kw : List (List Key × V), H W = some (.dT kw) ∧ kw.map (·.1) = (rs.take n).map rk ∧ LvW as O L W H kw
  cov : Cov as ms rs
  st : ∀ s ∈ startsL as ms, s.1 ∈ rs
  cl : ∀ (j : Nat) r, j < c → rs[j]? = some r → ∀ s ∈ stepsL as r, s.1 ∈ rs
  sm : Same Hx H
def spExploredO (C : Addr) : Sp := fun vs H Q _ => ∃ (q : Addr) (sg : List Nat) (us : List V) (as : List Arc), vs = [.ref q] ∧ LoomAt C H q sg us as ∧
  ∀ (H' : Hp) (t W O : Addr) (ms : List Nat), Same H H' → H' t = some (.tup [.ref W, .ref O]) → (∀ x, x ∈ ms ↔ Reach as x) → ms.Pairwise (· < ·) → WaysO H' W O as ms → Q (.ref t) H'
section
variable {P : Program} {w : World} {K : PySem.W.Frag} {mg : Str → Option Value} {base : Heap}
theorem ok_exploredO (T : Tx K mg) : FnOk P w K mg base CX0 3 T.f_explored T.fd_explored P_explored (spExploredO T.C_Loom) := by
  have G_arcs_by_state : FnOk P w K mg base CX0 1 T.f_arcs_by_state T.fd_arcs_by_state P_arcs_by_state (spArcsBy T.C_Loom) := ok_arcs_by_state T
  have G_starts : FnOk P w K mg base CX0 2 T.f_starts T.fd_starts P_starts (spStarts T.C_Loom) := ok_starts T
  have G_steps : FnOk P w K mg base CX0 1 T.f_steps T.fd_steps P_steps (spSteps K) := ok_steps T
  refine T.F_explored.ok sc_explored (fun vs H Q E h => ?_) (fun cdv A outer s H vs Q E hr h => ?_)
  · obtain ⟨q, sg, us, as, rfl, _⟩ := h
    rfl
  · obtain ⟨q, sg, us, as, rfl, hL, k⟩ := h
    refine ⟨_, (pss_cons (ps_set (i := 1) sc_explored.nd rfl (Or.inl rfl) (pe_call G_arcs_by_state (hr.mono (by decide)) rfl T.m_arcs_by_state T.F_arcs_by_state.kp T.b_arcs_by_state .nil pass0 (pa_cons (pv 0) pa_nil)))
        (pss_cons (ps_set (i := 2) sc_explored.nd rfl (Or.inl rfl) pe_dnewT)
        (pss_cons (ps_for PassesOwn.never rfl (pi_list (pe_call G_starts (hr.mono (by decide)) rfl T.m_starts T.F_starts.kp T.b_starts .nil pass0 (pa_cons (pv 0) pa_nil))) (pg_name (i := 3) sc_explored.nd rfl (Or.inl rfl)) (pss_one (ps_expr (pe_dsetdT (hu_of hr) (pv 2) (pe_ix (ix_tupK (K := K) rfl) (pv 3) pe_int (fun _ _ => rfl)) (pe_tup (pa_cons pe_non (pa_cons (pv 3) pa_nil))) ⟨rfl, rfl, rfl, rfl⟩))))
        (pss_cons (ps_set (i := 4) sc_explored.nd rfl (Or.inl rfl) (pe_callTy (call_list_dT rfl) rfl T.n_list (by decide +kernel) (pa_cons (pv 2) pa_nil)))
        (pss_cons (ps_set (i := 5) sc_explored.nd rfl (Or.inl rfl) pe_dnewT)
        (pss_cons (ps_while PassesOwn.never (pt_cmpR op_lt (pe_callB call_len_dT rfl T.n_len (by decide +kernel) (pa_cons (pv 5) pa_nil)) (pe_callB (call_len_seqK (K := K) rfl) rfl T.n_len (by decide +kernel) (pa_cons (pv 4) pa_nil)) (nomark _)) (pss_cons (ps_set (i := 6) sc_explored.nd rfl (Or.inl rfl) (pe_ix (ix_listK (K := K) rfl) (pv 4) (pe_callB call_len_dT rfl T.n_len (by decide +kernel) (pa_cons (pv 5) pa_nil)) (fun _ _ => rfl)))
        (pss_cons (ps_dput (hu_of hr) (pv 5) (pv 6) (pe_call G_steps (hr.mono (by decide)) rfl T.m_steps T.F_steps.kp T.b_steps .nil pass0 (pa_cons (pv 1) (pa_cons (pv 6) pa_nil))) rfl)
        (pss_one (ps_for PassesOwn.never rfl (pi_list (pe_dget (hu_of hr) (pv 5) (pv 6) (fun _ _ => rfl))) (pg_name (i := 7) sc_explored.nd rfl (Or.inl rfl)) (pss_one (ps_if (pt_cmp (pc_dnotin (hu_of hr) (pe_ix (ix_tupK (K := K) rfl) (pv 7) pe_int (fun _ _ => rfl)) (pv 2))) (pss_cons (ps_dput (hu_of hr) (pv 2) (pe_ix (ix_tupK (K := K) rfl) (pv 7) pe_int (fun _ _ => rfl)) (pe_tup (pa_cons (pv 6) (pa_cons (pv 7) pa_nil))) rfl)
        (pss_one (ps_expr (pe_bm PySem.F.plainAttrs_list PySem.F.slot_list_append PySem.F.type_list_append mt_append (pv 4) (pa_cons (pe_ix (ix_tupK (K := K) rfl) (pv 7) pe_int (fun _ _ => rfl)) pa_nil))))) pss_nil)))))))
        (pss_one (ps_ret (pe_tup (pa_cons (pv 5) (pa_cons (pv 2) pa_nil))))))))))), ?_⟩
    obtain ⟨_, _, _, _, _, hok, _⟩ := id hL
    have oka := hok.all
    have hal := hok.2.1
    have haw : ∀ a ∈ as, a.2.1.length ≤ 12 := fun a ha => (oka.2 a ha).2.2.1
    refine ⟨_, rfl, q, sg, us, as, rfl, hL, fun Hx d sx tab => ?_⟩
    intro O hO
    have s1 : Same Hx (upd Hx O (.dT [])) := Same.new _ hO
    have g1 : upd Hx O (.dT []) O = some (.dT []) := upd_same
    generalize upd Hx O (.dT []) = H1 at *
    refine ⟨_, rfl, q, sg, us, as, rfl, (hL.same sx).same s1, fun H2 sp os ms s2 hsp0 hsp hms hreach hst => ?_⟩
    have g2 := s2 _ _ g1
    have s12 := s1.trans s2
    have nspO : sp ≠ O := fun z => by rw [z, g1] at hsp0; cases hsp0
    refine ⟨sp, rfl, ⟨_, SqL.of hsp⟩, for_list (K := K) (a := sp) (xs := os) (fun i σ H' => ∃ (v3 : Option V) (rs : List Rest), σ = [some (.ref q), some (.ref d), some (.ref O), v3, none, none, none, none] ∧ (∃ ko : List (List Key × V), H' O = some (.dT ko) ∧ ko.map (·.1) = rs.map rk ∧ OrgL as ms H' rs ko) ∧
      Cov as ms rs ∧ (∀ (j : Nat) s, j < i → (startsL as ms)[j]? = some s → s.1 ∈ rs) ∧ Same Hx H' ∧ Ex O H2 H') ?_ ?_ ?_ ?_⟩
    · exact ⟨none, [], rfl, ⟨[], g2, rfl, fun i r k v h => by simp at h⟩, ⟨by simp, fun r h => (nomatch h)⟩, fun j s h => absurd h (Nat.not_lt_zero _), s12, Ex.refl _ _⟩
    · rintro i σ H' _ ⟨_, _, _, _, _, _, _, x⟩
      exact SqL.of (x _ _ nspO hsp)
    · rintro i y σ H3 hy ⟨v3, rs, rfl, ⟨ko, hko, hkeys, horg⟩, cov, hcov, s3, x3⟩
      have hil : i < (startsL as ms).length := by rw [← hst.1]; exact (List.getElem?_eq_some_iff.mp hy).1
      obtain ⟨st, hs⟩ : ∃ st, (startsL as ms)[i]? = some st := ⟨_, List.getElem?_eq_getElem hil⟩
      obtain ⟨t, rt, hut, ht, hrt⟩ := hst.2 i st hs
      rw [hut] at hy
      cases hy
      have tO : ∀ {t : Addr} {xs : List V}, H2 t = some (.tup xs) → t ≠ O := fun h z => by rw [z, g2] at h; cases h
      have ht3 := x3 _ _ (tO ht) ht
      have hrt3 := x3 _ _ (tO hrt) hrt
      have hlen := cov.len oka hal
      have hkl := keys_len hkeys
      refine ⟨_, rfl, O, rfl, .inr ⟨ko, .inl hko⟩, _, rfl, t, _, _, _, rfl, rfl, SqT.of ht3, rfl, ?_⟩
      refine ⟨_, rfl, le_size (by simp), fun t3 ht3' => ?_⟩
      have s4 : Same H3 (upd H3 t3 (.tup [.non, .ref t])) := Same.new _ ht3'
      have hko4 := s4 _ _ hko
      have horg4 := horg.to (TPo.same s4)
      have gt4 : upd H3 t3 (.tup [.non, .ref t]) t3 = some (.tup [.non, .ref t]) := upd_same
      have ht4 : upd H3 t3 (.tup [.non, .ref t]) t = some (startHO rt st) := s4 _ _ ht3
      have hrt4 := s4 _ _ hrt3
      have x4 := x3.trans (Same.ex s4)
      have s34 := s3.trans s4
      generalize upd H3 t3 (.tup [.non, .ref t]) = H4 at *
      have cover : ∀ rs' : List Rest, (∀ r ∈ rs, r ∈ rs') → st.1 ∈ rs' → ∀ (j : Nat) s, j < i + 1 → (startsL as ms)[j]? = some s → s.1 ∈ rs' := fun rs' h1 h2 j s hj hjs => by
        by_cases c : j < i
        · exact h1 _ (hcov j s c hjs)
        · have : j = i := by omega
          subst this
          rw [hs] at hjs
          cases hjs
          exact h2
      refine ⟨ko, rk st.1, rt, hko4, rfl, by rw [← rk_HO]; exact hrt4, Nat.lt_of_le_of_lt (m := 10649600) (by omega) (by decide), fun v hv => ?_, fun hn => ?_⟩
      · exact ⟨_, rs, rfl, ⟨ko, hko4, hkeys, horg4⟩, cov, cover rs (fun _ h => h) (keys_some hkeys hv), s34, x4⟩
      · have hnr := keys_none hkeys hn
        have hR : Rch as ms st.1 := .start (List.mem_of_getElem? hs)
        refine ⟨_, rs ++ [st.1], rfl, ⟨_, upd_same, ?_, ?_⟩, cov.add hR hnr, cover _ (fun r h => List.mem_append_left _ h) (List.mem_append_right _ (by simp)), s34.updNew hO, x4.trans (Ex.upd _)⟩
        · rw [putK_new hn, List.map_append, List.map_append, hkeys]
          rfl
        · rw [putK_new hn]
          have tp : TPo H4 (upd H4 O (.dT (ko ++ [(rk st.1, .ref t3)]))) := TPo.upd hko4 (fun _ z => HO.noConfusion z)
          exact (horg4.to tp).snoc hkl.symm ⟨t3, rfl, .inl ⟨st, t, rt, List.mem_of_getElem? hs, rfl, tp _ _ gt4, tp _ _ ht4, tp _ _ hrt4⟩⟩
    · rintro σ H3 ⟨v3, rs0, rfl, ⟨ko0, hko0, hkeys0, horg0⟩, cov0, hcov0, s3, x3⟩
      have hcovA : ∀ s ∈ startsL as ms, s.1 ∈ rs0 := fun s hs => by
        obtain ⟨j, hj, e⟩ := List.mem_iff_getElem.mp hs
        exact hcov0 j s (by rw [hst.1]; exact hj) (by rw [List.getElem?_eq_getElem hj, e])
      clear hcov0 hst hsp hsp0 nspO x3 s12 s2 s1 g1 g2
      refine ⟨_, rfl, O, ko0, rfl, .inl hko0, fun L bs hL0 hkb => ?_⟩
      have s4 : Same H3 (upd H3 L (.lst (bs.map V.ref))) := Same.new _ hL0
      have gL : upd H3 L (.lst (bs.map V.ref)) L = some (.lst (bs.map V.ref)) := upd_same
      have nLO : L ≠ O := hp_ne hko0 hL0
      have hLx : Hx L = none := s3.free hL0
      have hko4 := s4 _ _ hko0
      have s34 := s3.trans s4
      have hkb4 : ∀ (i : Nat) r, rs0[i]? = some r → ∃ b, bs[i]? = some b ∧ upd H3 L (.lst (bs.map V.ref)) b = some (restHO r) := keys_bs hkeys0 hkb s4
      have hbl : bs.length = rs0.length := by rw [← keys_len hkeys0]; exact (Paired.length hkb).symm
      generalize upd H3 L (.lst (bs.map V.ref)) = H4 at *
      intro W hW0
      have s5 : Same H4 (upd H4 W (.dT [])) := Same.new _ hW0
      have gW : upd H4 W (.dT []) W = some (.dT []) := upd_same
      have nWO : W ≠ O := hp_ne hko4 hW0
      have nWL : W ≠ L := hp_ne gL hW0
      have hWx : Hx W = none := s34.free hW0
      have s35 := s34.trans s5
      have hko5 := s5 _ _ hko4
      have horg5 := (horg0.to (TPo.same s4)).to (TPo.same s5)
      have gL5 := s5 _ _ gL
      have hkb5 : ∀ (i : Nat) r, rs0[i]? = some r → ∃ b, bs[i]? = some b ∧ upd H4 W (.dT []) b = some (restHO r) := fun i r h => by
        obtain ⟨b, h1, h2⟩ := hkb4 i r h
        exact ⟨b, h1, s5 _ _ h2⟩
      generalize upd H4 W (.dT []) = H5 at *
      have w0 : Wso as ms Hx H5 O L W rs0 0 0 := ⟨Nat.zero_le _, ⟨ko0, hko5, hkeys0, horg5⟩, ⟨bs, gL5, hbl, hkb5⟩, ⟨[], gW, rfl, fun i k v e => by simp at e⟩, cov0, hcovA, fun j r h => absurd h (Nat.not_lt_zero _), s35⟩
      clear hkb hkb4 hkb5 hbl gL gL5 gW hko4 hko5 hko0 hkeys0 cov0 hcovA s34 s35 s4 s5 s3 hL0 hW0
      refine ⟨fun m σ H' => ∃ (n : Nat) (rs : List Rest) (v3 v6 v7 : Option V), m = 10649601 - n ∧ σ = [some (.ref q), some (.ref d), some (.ref O), v3, some (.ref L), some (.ref W), v6, v7] ∧ Wso as ms Hx H' O L W rs n n, ⟨_, 0, rs0, _, _, _, rfl, rfl, w0⟩, ?_⟩
      rintro m σ H6 ⟨n, rs, w3, v6, v7, rfl, rfl, ⟨hn, ⟨ko, hko, hkeys, horg⟩, ⟨bs', hLl, hbl', hbs⟩, ⟨kw, hkw, hkwk, hlv⟩, cov, hcA, hcl, s6⟩⟩
      have hrl := cov.len oka hal
      have hkwl : kw.length = n := by
        have := congrArg List.length hkwk
        rw [List.length_map, List.length_map, List.length_take] at this
        omega
      refine ⟨_, rfl, W, kw, rfl, hkw, _, rfl, L, _, rfl, .inl (SqL.of hLl), _, _, rfl, rfl, _, rfl, ?_⟩
      rw [hkwl, List.length_map, hbl']
      refine ite2 (fun c => ?_) (fun c => ?_)
      · have hnl : n < rs.length := by have := of_decide_eq_true c; omega
        refine ⟨fun σ' H' => ∃ (rs : List Rest) (v3 v6 v7 : Option V), σ' = [some (.ref q), some (.ref d), some (.ref O), v3, some (.ref L), some (.ref W), v6, v7] ∧ Wso as ms Hx H' O L W rs (n + 1) (n + 1), ?_, ?_⟩
        · rintro σ' H' ⟨rs', u3, u6, u7, rfl, hw'⟩
          exact ⟨10649601 - (n + 1), by omega, n + 1, rs', u3, u6, u7, rfl, rfl, hw'⟩
        obtain ⟨r, hr⟩ : ∃ r, rs[n]? = some r := ⟨_, List.getElem?_eq_getElem hnl⟩
        obtain ⟨b, hb1, hb⟩ := hbs n r hr
        have hU := rch_in oka (cov.2 r (List.mem_of_getElem? hr))
        have hr12 : r.2.2.length ≤ 1000 := by
          obtain ⟨_, _, c, hc, kk, _, e⟩ := hU
          rw [e, List.length_drop]
          have := (oka.2 c hc).2.2.1
          omega
        refine ⟨_, rfl, _, rfl, W, kw, rfl, hkw, L, _, _, _, rfl, rfl, SqL.of hLl, by rw [hkwl]; exact atI_nat (by rw [List.getElem?_map, hb1]; rfl), ?_⟩
        refine ⟨_, rfl, _, rfl, d, b, H, as, r, rfl, tab.same s6, hal, haw, hr12, hb, fun H7 sl sus s7 hsl0 hsl hss => ?_⟩
        have hkw7 := s7 _ _ hkw
        have hb7 := s7 _ _ hb
        have hko7 := s7 _ _ hko
        have hL7 := s7 _ _ hLl
        have nslO : sl ≠ O := fun z => by rw [z, hko] at hsl0; cases hsl0
        have nslL : sl ≠ L := fun z => by rw [z, hLl] at hsl0; cases hsl0
        have nslW : sl ≠ W := fun z => by rw [z, hkw] at hsl0; cases hsl0
        have hnew : valV kw (rk r) = none := by
          cases z : valV kw (rk r) with
          | none => rfl
          | some v =>
            have q := keys_some hkwk z
            obtain ⟨j, hj, ej⟩ := List.mem_iff_getElem.mp q
            rw [List.length_take] at hj
            rw [List.getElem_take] at ej
            have e2 : rs[n] = r := by
              have := List.getElem?_eq_getElem hnl
              rw [hr] at this
              exact (Option.some.inj this).symm
            have := (List.getElem_inj cov.1).mp (ej.trans e2.symm)
            omega
        refine ⟨_, rfl, _, rfl, W, _, rfl, DPut.t hkw7 (by rw [← rk_HO]; exact hb7) (Nat.lt_of_le_of_lt (m := 10649600) (by omega) (by decide)), ?_⟩
        have k8 : ∀ x o, x ≠ W → H7 x = some o → upd H7 W (.dT (putK kw (rk r) (.ref sl))) x = some o := fun x o nx h => by rw [upd_ne nx]; exact h
        have g8 : upd H7 W (.dT (putK kw (rk r) (.ref sl))) W = some (.dT (putK kw (rk r) (.ref sl))) := upd_same
        have s8 : Same Hx (upd H7 W (.dT (putK kw (rk r) (.ref sl)))) := (s6.trans s7).updNew hWx
        generalize upd H7 W (.dT (putK kw (rk r) (.ref sl))) = H8 at *
        have tW : ∀ {t : Addr} {xs : List V}, H7 t = some (.tup xs) → t ≠ W := fun h z => by rw [z, hkw7] at h; cases h
        have hss8 : StepsAt H8 sus (stepsL as r) := hss.to fun t xs h => k8 _ _ (tW h) h
        have hsl8 := k8 _ _ nslW hsl
        have hb8 : H8 b = some (restHO r) := k8 _ _ (tW hb7) hb7
        have hko8 := k8 _ _ nWO.symm hko7
        have horg8 := (horg.to (TPo.same s7)).to (fun t xs h => k8 _ _ (tW h) h)
        have hL8 := k8 _ _ nWL.symm hL7
        have hbs8 : ∀ (i : Nat) r, rs[i]? = some r → ∃ b, bs'[i]? = some b ∧ H8 b = some (restHO r) := fun i r h => by
          obtain ⟨b, h1, h2⟩ := hbs i r h
          have h3 := s7 _ _ h2
          exact ⟨b, h1, k8 _ _ (tW h3) h3⟩
        have hlv8 : LvW as O L W H8 (putK kw (rk r) (.ref sl)) := by
          rw [putK_new hnew]
          exact ((hlv.same s7).to (fun x o n1 n2 n3 h => k8 _ _ n3 h) hko7 hL7 hkw7).snoc hsl8 hss8 ⟨nslO, nslL, nslW⟩
        have hkw8 : (putK kw (rk r) (.ref sl)).map (·.1) = (rs.take (n + 1)).map rk := by
          rw [putK_new hnew, List.map_append, hkwk, ← take_snoc hr, List.map_append]
          rfl
        refine ⟨_, rfl, _, rfl, W, .ref sl, rfl, .inr ⟨_, rk r, b, .inl g8, rfl, by rw [← rk_HO]; exact hb8, by rw [valV_put, if_pos rfl]⟩, sl, rfl, ⟨_, SqL.of hsl8⟩, for_list (K := K) (a := sl) (xs := sus) (fun i σ H' => ∃ (rs' ex : List Rest) (v7 : Option V), σ = [some (.ref q), some (.ref d), some (.ref O), w3, some (.ref L), some (.ref W), some (.ref b), v7] ∧
          rs' = rs ++ ex ∧ Wso as ms Hx H' O L W rs' (n + 1) n ∧ (∀ (j : Nat) s, j < i → (stepsL as r)[j]? = some s → s.1 ∈ rs') ∧ Ex3 O L W H8 H') ?_ ?_ ?_ ?_⟩
        · exact ⟨rs, [], _, rfl, by rw [List.append_nil], ⟨hnl, ⟨ko, hko8, hkeys, horg8⟩, ⟨bs', hL8, hbl', hbs8⟩, ⟨_, g8, hkw8, hlv8⟩, cov, hcA, hcl, s8⟩, fun j s h => absurd h (Nat.not_lt_zero _), Ex3.refl _ _ _ _⟩
        · rintro i σ H' _ ⟨_, _, _, _, _, _, _, x⟩
          exact SqL.of (x _ _ nslO nslL nslW hsl8)
        · rintro i y σ H9 hy ⟨rs', ex, u7, rfl, hrs', w9, part, x9⟩
          have hil : i < (stepsL as r).length := by rw [← hss.1]; exact (List.getElem?_eq_some_iff.mp hy).1
          obtain ⟨st, hs⟩ : ∃ st, (stepsL as r)[i]? = some st := ⟨_, List.getElem?_eq_getElem hil⟩
          obtain ⟨t, rt, hut, ht, hrt⟩ := hss8.2 i st hs
          rw [hut] at hy
          cases hy
          have keep9 : ∀ {t : Addr} {xs : List V}, H8 t = some (.tup xs) → H9 t = some (.tup xs) := fun h => x9 _ _ (fun z => by rw [z, hko8] at h; cases h) (fun z => by rw [z, hL8] at h; cases h) (fun z => by rw [z, g8] at h; cases h) h
          have ht9 := keep9 ht
          have hrt9 : H9 rt = some (restHO st.1) := keep9 hrt
          have hb9 : H9 b = some (restHO r) := keep9 hb8
          obtain ⟨hn9, ⟨ko9, hko9, hkeys9, horg9⟩, ⟨bs9, hL9, hbl9, hbs9⟩, ⟨kw9, hkw9, hkwk9, hlv9⟩, cov9, st9, cl9, sm9⟩ := w9
          have hrl9 := cov9.len oka hal
          have hkl9 := keys_len hkeys9
          have cover : ∀ rs'' : List Rest, (∀ r ∈ rs', r ∈ rs'') → st.1 ∈ rs'' → ∀ (j : Nat) s, j < i + 1 → (stepsL as r)[j]? = some s → s.1 ∈ rs'' := fun rs'' h1 h2 j s hj hjs => by
            by_cases cj : j < i
            · exact h1 _ (part j s cj hjs)
            · have : j = i := by omega
              subst this
              rw [hs] at hjs
              cases hjs
              exact h2
          refine ⟨_, rfl, t, _, _, _, rfl, rfl, SqT.of ht9, rfl, _, rfl, O, _, rfl, .inr ⟨ko9, rk st.1, rt, .inl hko9, rfl, by rw [← rk_HO]; exact hrt9, rfl⟩, ?_⟩
          cases hval : valV ko9 (rk st.1) with
          | some v =>
            refine ⟨_, rfl, iteF ?_⟩
            exact ⟨rs', ex, _, rfl, hrs', ⟨hn9, ⟨ko9, hko9, hkeys9, horg9⟩, ⟨bs9, hL9, hbl9, hbs9⟩, ⟨kw9, hkw9, hkwk9, hlv9⟩, cov9, st9, cl9, sm9⟩, cover rs' (fun _ h => h) (keys_some hkeys9 hval), x9⟩
          | none =>
            have hnr := keys_none hkeys9 hval
            have hR : Rch as ms st.1 := .step (cov.2 r (List.mem_of_getElem? hr)) (List.mem_of_getElem? hs)
            refine ⟨_, rfl, iteT ?_⟩
            refine ⟨_, rfl, _, rfl, le_size (by simp), fun t3 ht3 => ?_⟩
            have s10 : Same H9 (upd H9 t3 (.tup [.ref b, .ref t])) := Same.new _ ht3
            have hko10 := s10 _ _ hko9
            have horg10 := horg9.to (TPo.same s10)
            have gt10 : upd H9 t3 (.tup [.ref b, .ref t]) t3 = some (.tup [.ref b, .ref t]) := upd_same
            have hb10 : upd H9 t3 (.tup [.ref b, .ref t]) b = some (restHO r) := s10 _ _ hb9
            have hL10 := s10 _ _ hL9
            have hkw10 := s10 _ _ hkw9
            have ht10 := s10 _ _ ht9
            have hrt10 := s10 _ _ hrt9
            have hbs10' : ∀ (i : Nat) r, rs'[i]? = some r → ∃ b', bs9[i]? = some b' ∧ upd H9 t3 (.tup [.ref b, .ref t]) b' = some (restHO r) := fun i r h => by
              obtain ⟨b', h1, h2⟩ := hbs9 i r h
              exact ⟨b', h1, s10 _ _ h2⟩
            have hlv10 := hlv9.same s10
            have sm10 := sm9.trans s10
            have x10 := x9.trans (Ex3.same s10)
            generalize upd H9 t3 (.tup [.ref b, .ref t]) = H10 at *
            refine ⟨_, rfl, _, rfl, t, _, _, _, rfl, rfl, SqT.of ht10, rfl, O, _, rfl, DPut.t hko10 (by rw [← rk_HO]; exact hrt10) (Nat.lt_of_le_of_lt (m := 10649600) (by omega) (by decide)), ?_⟩
            have k11 : ∀ x o, x ≠ O → H10 x = some o → upd H10 O (.dT (putK ko9 (rk st.1) (.ref t3))) x = some o := fun x o nx h => by rw [upd_ne nx]; exact h
            have g11 : upd H10 O (.dT (putK ko9 (rk st.1) (.ref t3))) O = some (.dT (putK ko9 (rk st.1) (.ref t3))) := upd_same
            have sm11 : Same Hx (upd H10 O (.dT (putK ko9 (rk st.1) (.ref t3)))) := sm10.updNew hO
            have x11 : Ex3 O L W H8 (upd H10 O (.dT (putK ko9 (rk st.1) (.ref t3)))) := fun z o n1 n2 n3 h => k11 _ _ n1 (x10 z o n1 n2 n3 h)
            have tO : ∀ {t : Addr} {xs : List V}, H10 t = some (.tup xs) → t ≠ O := fun h z => by rw [z, hko10] at h; cases h
            generalize upd H10 O (.dT (putK ko9 (rk st.1) (.ref t3))) = H11 at *
            have hlv11 := hlv10.to (fun x o n1 n2 n3 h => k11 _ _ n1 h) hko10 hL10 hkw10
            have hL11 := k11 _ _ nLO hL10
            have ht11 := k11 _ _ (tO ht10) ht10
            have hrt11 : H11 rt = some (restHO st.1) := k11 _ _ (tO hrt10) hrt10
            have hkw11 := k11 _ _ nWO hkw10
            refine ⟨_, rfl, .inl ⟨rfl, _, SqL.of hL11⟩, _, rfl, t, _, _, _, rfl, rfl, SqT.of ht11, rfl, L, _, _, rfl, rfl, hL11, Nat.lt_of_le_of_lt (m := 10649600) (by rw [List.length_map]; omega) (by decide), ?_⟩
            have k12 : ∀ x o, x ≠ L → H11 x = some o → upd H11 L (.lst (bs9.map V.ref ++ [.ref rt])) x = some o := fun x o nx h => by rw [upd_ne nx]; exact h
            have tL : ∀ {t : Addr} {xs : List V}, H11 t = some (.tup xs) → t ≠ L := fun h z => by rw [z, hL11] at h; cases h
            refine ⟨rs' ++ [st.1], ex ++ [st.1], _, rfl, by rw [hrs', List.append_assoc], ⟨by rw [List.length_append]; omega, ⟨_, k12 _ _ nLO.symm g11, ?_, ?_⟩, ⟨bs9 ++ [rt], by rw [upd_same, List.map_append]; rfl, by rw [List.length_append, List.length_append, hbl9]; rfl, fun i' r' h => ?_⟩, ⟨kw9, k12 _ _ nWL hkw11, ?_, hlv11.to (fun x o n1 n2 n3 h => k12 _ _ n2 h) g11 hL11 hkw11⟩, cov9.add hR hnr, fun s hs => List.mem_append_left _ (st9 s hs), fun j r' hj hjr s hs' => ?_, sm11.updNew hLx⟩, cover _ (fun r h => List.mem_append_left _ h) (List.mem_append_right _ (by simp)), fun z o n1 n2 n3 h => k12 _ _ n2 (x11 z o n1 n2 n3 h)⟩
            · rw [putK_new hval, List.map_append, List.map_append, hkeys9]
              rfl
            · rw [putK_new hval]
              have tp : TPo H10 (upd H11 L (.lst (bs9.map V.ref ++ [.ref rt]))) := fun t xs h => k12 _ _ (tL (k11 _ _ (tO h) h)) (k11 _ _ (tO h) h)
              have hn' : n < rs'.length := by rw [hrs', List.length_append]; omega
              have hr' : rs'[n]? = some r := by rw [hrs', List.getElem?_append_left hnl]; exact hr
              exact (horg10.to tp).snoc hkl9.symm ⟨t3, rfl, .inr ⟨st, r, n, b, t, rt, hn', by rw [List.getElem?_append_left hn']; exact hr', List.mem_of_getElem? hs, rfl, tp _ _ gt10, tp _ _ hb10, tp _ _ ht10, tp _ _ hrt10⟩⟩
            · by_cases ci : i' < rs'.length
              · rw [List.getElem?_append_left ci] at h
                obtain ⟨b', h1, h2⟩ := hbs10' i' r' h
                have h3 := k11 _ _ (tO h2) h2
                exact ⟨b', by rw [List.getElem?_append_left (by rw [hbl9]; exact ci)]; exact h1, k12 _ _ (tL h3) h3⟩
              · have hi' : i' = rs'.length := by
                  have := (List.getElem?_eq_some_iff.mp h).1
                  rw [List.length_append, List.length_singleton] at this
                  omega
                subst hi'
                rw [List.getElem?_append_right (Nat.le_refl _)] at h
                simp at h
                subst h
                exact ⟨rt, by rw [List.getElem?_append_right (by rw [hbl9]; exact Nat.le_refl _), hbl9]; simp, k12 _ _ (tL hrt11) hrt11⟩
            · rw [hkwk9, List.take_append_of_le_length hn9]
            · have hjl : j < rs'.length := by omega
              rw [List.getElem?_append_left hjl] at hjr
              exact List.mem_append_left _ (cl9 j r' hj hjr s hs')
        · rintro σ H9 ⟨rs', ex, u7, rfl, hrs', w9, part, x9⟩
          refine ⟨rs', _, _, _, rfl, w9.le, w9.o, w9.l, w9.w, w9.cov, w9.st, fun j r' hj hjr s hs => ?_, w9.sm⟩
          by_cases cj : j < n
          · exact w9.cl j r' cj hjr s hs
          · have : j = n := by omega
            subst this
            rw [hrs', List.getElem?_append_left hnl, hr] at hjr
            cases hjr
            obtain ⟨i, hi, e⟩ := List.mem_iff_getElem.mp hs
            exact part i s (by rw [hss.1]; exact hi) (by rw [List.getElem?_eq_getElem hi, e])
      · have hnl : n = rs.length := by
          have : ¬ ((n : Int) < (rs.length : Nat)) := fun z => c (decide_eq_true z)
          omega
        refine ⟨_, rfl, _, rfl, le_size (by simp), fun t ht => ?_⟩
        have s7 : Same H6 (upd H6 t (.tup [.ref W, .ref O])) := Same.new _ ht
        refine k _ t W O ms (sx.trans (s6.trans s7)) upd_same hreach hms ⟨kw, rs, ko, s7 _ _ hkw, ?_, cov, fun r hr => ?_, (hlv.same s7).stepsIn, s7 _ _ hko, hkeys, horg.to (TPo.same s7)⟩
        · rw [hkwk, hnl, List.take_length]
        · induction hr with
          | @start s hs => exact hcA s hs
          | @step r s _ hs ih =>
            obtain ⟨j, hj, e⟩ := List.mem_iff_getElem.mp ih
            exact hcl j r (by omega) (by rw [List.getElem?_eq_getElem hj, e]) s hs
end
end J


set_option Elab.async false
set_option linter.all false
set_option maxRecDepth 100000
set_option maxHeartbeats 4000000
namespace J
open PySem L2
def spGrown : Sp := fun vs H Q _ => ∃ (a b c : Addr) (xs ys : List Nat) (us : List V) (l : List Step), vs = [.ref a, .ref b, .ref c] ∧ H a = some (.lst (nats xs)) ∧ H b = some (.lst (nats ys)) ∧ H c = some (.lst us) ∧ StepsAt H us l ∧ xs.length ≤ 1000000 ∧ ys.length ≤ 1000000 ∧ l.length ≤ 1000000 ∧
  ∀ (H' : Hp) (t p q : Addr), Same H H' → H t = none → H p = none → H q = none → H' t = some (.tup [.ref p, .ref q]) → H' p = some (.lst (nats (grw (xs, ys) l).1)) → H' q = some (.lst (nats (grw (xs, ys) l).2)) → Q (.ref t) H'
theorem grw_snoc (s : Step) : ∀ (l : List Step) (p : List Nat × List Nat), grw p (l ++ [s]) = if s.2.2 = 1 then ((grw p l).2, (grw p l).1 ++ [s.2.1]) else ((grw p l).1 ++ [s.2.1], (grw p l).2)
  | [], p => by
    show (if s.2.2 = 1 then grw (p.2, p.1 ++ [s.2.1]) [] else grw (p.1 ++ [s.2.1], p.2) []) = _
    split <;> rfl
  | a :: l, p => by
    show (if a.2.2 = 1 then grw (p.2, p.1 ++ [a.2.1]) (l ++ [s]) else grw (p.1 ++ [a.2.1], p.2) (l ++ [s])) = _
    rw [show grw p (a :: l) = if a.2.2 = 1 then grw (p.2, p.1 ++ [a.2.1]) l else grw (p.1 ++ [a.2.1], p.2) l from rfl]
    split
    · exact grw_snoc s l _
    · exact grw_snoc s l _
theorem grw_len : ∀ (l : List Step) (p : List Nat × List Nat), (grw p l).1.length + (grw p l).2.length = p.1.length + p.2.length + l.length
  | [], p => by simp [grw]
  | s :: l, p => by
    show (if s.2.2 = 1 then grw (p.2, p.1 ++ [s.2.1]) l else grw (p.1 ++ [s.2.1], p.2) l).1.length + (if s.2.2 = 1 then grw (p.2, p.1 ++ [s.2.1]) l else grw (p.1 ++ [s.2.1], p.2) l).2.length = _
    split
    · rw [grw_len l]; simp; omega
    · rw [grw_len l]; simp; omega
theorem nats_snoc (xs : List Nat) (n : Nat) : nats xs ++ [V.int (n : Int)] = nats (xs ++ [n]) := by simp [nats]
section
variable {P : Program} {w : World} {K : PySem.W.Frag} {mg : Str → Option Value} {base : Heap}
theorem ok_grown (T : Tx K mg) : FnOk P w K mg base CX0 1 T.f_grown T.fd_grown P_grown spGrown := by
  refine T.F_grown.ok sc_grown (fun vs H Q E h => ?_) (fun cdv A outer s H vs Q E hr h => ?_)
  · obtain ⟨a, b, c, xs, ys, us, l, rfl, _⟩ := h
    rfl
  · obtain ⟨a, b, c, xs, ys, us, l, rfl, ha, hb, hc, hl, hx, hy, hll, k⟩ := h
    refine ⟨_, (pss_cons (ps_set (i := 3) sc_grown.nd rfl (Or.inl rfl) (pe_lst (pa_cons (pe_callTy (call_list_ofK (K := K) rfl) rfl T.n_list (by decide +kernel) (pa_cons (pv 0) pa_nil)) (pa_cons (pe_callTy (call_list_ofK (K := K) rfl) rfl T.n_list (by decide +kernel) (pa_cons (pv 1) pa_nil)) pa_nil))))
        (pss_cons (ps_for PassesOwn.never rfl (pi_list (pv 2)) (pg_tup rfl (pgs_cons (pg_name (i := 4) sc_grown.nd rfl (Or.inl rfl)) (pgs_cons (pg_name (i := 5) sc_grown.nd rfl (Or.inl rfl)) (pgs_cons (pg_name (i := 6) sc_grown.nd rfl (Or.inl rfl)) pgs_nil)))) (pss_cons (ps_expr (pe_bm PySem.F.plainAttrs_list PySem.F.slot_list_append PySem.F.type_list_append mt_append (pe_ix (ix_listK (K := K) rfl) (pv 3) pe_int (fun _ _ => rfl)) (pa_cons (pv 5) pa_nil)))
        (pss_one (ps_if (pt_cmpR op_eq (pv 6) pe_int (nomark _)) (pss_one (ps_set (i := 3) sc_grown.nd rfl (Or.inl rfl) (pe_revL (pv 3)))) pss_nil))))
        (pss_one (ps_ret (pe_tup (pa_cons (pe_ix (ix_listK (K := K) rfl) (pv 3) pe_int (fun _ _ => rfl)) (pa_cons (pe_ix (ix_listK (K := K) rfl) (pv 3) pe_int (fun _ _ => rfl)) pa_nil))))))), ?_⟩
    refine ⟨_, rfl, a, _, rfl, .inl (SqL.of ha), fun p0 hp0 => ?_⟩
    have s1 : Same H (upd H p0 (.lst (nats xs))) := Same.new _ hp0
    have g1 : upd H p0 (.lst (nats xs)) p0 = some (.lst (nats xs)) := upd_same
    generalize upd H p0 (.lst (nats xs)) = H1 at *
    refine ⟨_, rfl, b, _, rfl, .inl (SqL.of (s1 _ _ hb)), fun q0 hq0 => ?_⟩
    have s2 : Same H1 (upd H1 q0 (.lst (nats ys))) := Same.new _ hq0
    have g2 : upd H1 q0 (.lst (nats ys)) q0 = some (.lst (nats ys)) := upd_same
    have npq : q0 ≠ p0 := hp_ne g1 hq0
    have hq0H : H q0 = none := s1.free hq0
    replace g1 := s2 _ _ g1
    replace s1 := s1.trans s2
    generalize upd H1 q0 (.lst (nats ys)) = H2 at *
    refine ⟨le_size (by simp), fun R hR => ?_⟩
    have s3 : Same H2 (upd H2 R (.lst [V.ref p0, V.ref q0])) := Same.new _ hR
    have g3 : upd H2 R (.lst [V.ref p0, V.ref q0]) R = some (.lst [V.ref p0, V.ref q0]) := upd_same
    replace g1 := s3 _ _ g1
    replace g2 := s3 _ _ g2
    replace s1 := s1.trans s3
    generalize upd H2 R (.lst [V.ref p0, V.ref q0]) = H3 at *
    refine ⟨_, rfl, c, rfl, ⟨_, SqL.of (s1 _ _ hc)⟩, ?_⟩
    refine for_list (K := K) (a := c) (xs := us) (fun i σ H' => ∃ (R p q : Addr) (v4 v5 v6 : Option V), σ = [some (.ref a), some (.ref b), some (.ref c), some (.ref R), v4, v5, v6] ∧ Same H H' ∧ H p = none ∧ H q = none ∧ q ≠ p ∧ H' R = some (.lst [.ref p, .ref q]) ∧ H' p = some (.lst (nats (grw (xs, ys) (l.take i)).1)) ∧ H' q = some (.lst (nats (grw (xs, ys) (l.take i)).2))) ?_ ?_ ?_ ?_
    · exact ⟨R, p0, q0, _, _, _, rfl, s1, hp0, hq0H, npq, g3, g1, g2⟩
    · rintro i σ H4 _ ⟨_, _, _, _, _, _, _, sm, _⟩
      exact SqL.of (sm _ _ hc)
    · rintro i y σ H4 hy ⟨R, p, q, v4, v5, v6, rfl, s4, hpH, hqH, npq, hR4, hp4, hq4⟩
      obtain ⟨st, t, rt, hs, rfl, ht, hrt⟩ := steps_atG (hl.to fun t xs e => s4 _ _ e) hy
      have hlen := grw_len (l.take i) (xs, ys)
      have htk : (l.take i).length ≤ l.length := by rw [List.length_take]; omega
      have e := grw_snoc st (l.take i) (xs, ys)
      rw [take_snoc hs] at e
      simp only at hlen
      refine ⟨t, _, rfl, SqT.of ht, rfl, _, _, rfl, _, _, rfl, _, _, rfl, rfl, ?_⟩
      have hlp : (nats (grw (xs, ys) (l.take i)).1).length < sizeLine := ltG (by rw [nats_len2]; omega)
      generalize grw (xs, ys) (l.take i) = g at *
      refine ⟨_, rfl, R, _, 0, _, rfl, rfl, SqL.of hR4, atI_nat (j := 0) rfl, .inl ⟨rfl, _, SqL.of hp4⟩, _, rfl, p, _, _, rfl, rfl, hp4, hlp, ?_⟩
      have nRp : R ≠ p := fun z => by
        rw [z, hp4] at hR4
        injection hR4 with z2
        injection z2 with z3
        have := congrArg (fun l : List V => l[0]?) z3
        revert this
        cases g.1 <;> simp [nats]
      rw [nats_snoc]
      have s5 : Same H (upd H4 p (.lst (nats (g.1 ++ [st.2.1])))) := s4.updNew hpH
      have gp5 : upd H4 p (.lst (nats (g.1 ++ [st.2.1]))) p = some (.lst (nats (g.1 ++ [st.2.1]))) := upd_same
      have gq5 : upd H4 p (.lst (nats (g.1 ++ [st.2.1]))) q = some (.lst (nats g.2)) := by rw [upd_ne npq]; exact hq4
      have gR5 : upd H4 p (.lst (nats (g.1 ++ [st.2.1]))) R = some (.lst [.ref p, .ref q]) := by rw [upd_ne nRp]; exact hR4
      generalize upd H4 p (.lst (nats (g.1 ++ [st.2.1]))) = H5 at *
      refine ⟨_, rfl, rfl, _, rfl, ?_⟩
      refine ite2 (fun c => ?_) fun c => ?_
      · have ht1 : st.2.2 = 1 := by
          have z := of_decide_eq_true c
          injection z with z
          omega
        rw [if_pos ht1] at e
        rw [e]
        refine ⟨_, rfl, R, _, rfl, SqL.of gR5, fun R2 hR2 => ?_⟩
        have s6 := Same.new (.lst [V.ref p, V.ref q].reverse) hR2
        exact ⟨R2, q, p, _, _, _, rfl, s5.trans s6, hqH, hpH, npq.symm, upd_same, s6 _ _ gq5, s6 _ _ gp5⟩
      · have ht1 : ¬ st.2.2 = 1 := fun z => c (decide_eq_true (by rw [z]; rfl))
        rw [if_neg ht1] at e
        rw [e]
        exact ⟨R, p, q, _, _, _, rfl, s5, hpH, hqH, npq, gR5, gp5, gq5⟩
    · rintro σ H4 ⟨R, p, q, v4, v5, v6, rfl, s4, hpH, hqH, npq, hR4, hp4, hq4⟩
      rw [hl.1, List.take_length] at hp4 hq4
      refine ⟨_, rfl, R, _, 0, _, rfl, rfl, SqL.of hR4, atI_nat (j := 0) rfl, _, rfl, R, _, 1, _, rfl, rfl, SqL.of hR4, atI_nat (j := 1) rfl, le_size (by simp), fun t ht => ?_⟩
      have st := Same.new (.tup [V.ref p, V.ref q]) ht
      exact k _ t p q (s4.trans st) (s4.free ht) hpH hqH upd_same (st _ _ hp4) (st _ _ hq4)
end
end J


set_option Elab.async false
set_option linter.all false
set_option maxRecDepth 100000
set_option maxHeartbeats 4000000
namespace J
open PySem L2
/-! ### ways to rests -/
theorem StepsAt.cons {H : Hp} {us : List V} {ss : List Step} (h : StepsAt H us ss) {t rt : Addr} {s : Step} (ht : H t = some (.tup [.ref rt, .int (s.2.1 : Nat), .int (s.2.2 : Nat)])) (hr : H rt = some (restHO s.1)) : StepsAt H (.ref t :: us) (s :: ss) := by
  refine ⟨by rw [List.length_cons, List.length_cons, h.1], fun i b hb => ?_⟩
  cases i with
  | zero =>
    have : b = s := by simpa using hb.symm
    subst this
    exact ⟨t, rt, rfl, ht, hr⟩
  | succ i => exact h.2 i b (by simpa using hb)
/-- steps one behind the other -/
inductive Chn (f : Rest → List Step) : Rest → List Step → Rest → Prop
  | nil (r : Rest) : Chn f r [] r
  | cons {r : Rest} {s : Step} {l : List Step} {r' : Rest} : s ∈ f r → Chn f s.1 l r' → Chn f r (s :: l) r'
theorem Chn.snoc {f : Rest → List Step} {r r' : Rest} {l : List Step} (h : Chn f r l r') {s : Step} (hs : s ∈ f r') : Chn f r (l ++ [s]) s.1 := by
  induction h with
  | nil r => exact .cons hs (.nil _)
  | cons h _ ih => exact .cons h (ih hs)
theorem Chn.app {f : Rest → List Step} {r r' r'' : Rest} {l l' : List Step} (h : Chn f r l r') (g : Chn f r' l' r'') : Chn f r (l ++ l') r'' := by
  induction h with
  | nil r => exact g
  | cons h _ ih => exact .cons h (ih g)
theorem Chn.mono {f g : Rest → List Step} (hs : ∀ r s, s ∈ f r → s ∈ g r) {r r' : Rest} {l : List Step} (h : Chn f r l r') : Chn g r l r' := by
  induction h with
  | nil r => exact .nil r
  | cons h _ ih => exact .cons (hs _ _ h) ih
/-- where rests come from, with a rank that falls -/
def OrgG (as : List Arc) (ms : List Nat) (H : Hp) (ko : List (List Key × V)) (d : Rest → Nat) : Prop := ∀ r v, valV ko (rk r) = some v → ∃ t : Addr, v = .ref t ∧
  ((∃ (st : Start) (s0 rt : Addr), st ∈ startsL as ms ∧ st.1 = r ∧ H t = some (.tup [.non, .ref s0]) ∧ H s0 = some (startHO rt st) ∧ H rt = some (restHO st.1)) ∨
   ∃ (s : Step) (r' : Rest) (b s0 rt : Addr), d r' < d r ∧ (∃ v', valV ko (rk r') = some v') ∧ s ∈ stepsL as r' ∧ s.1 = r ∧ H t = some (.tup [.ref b, .ref s0]) ∧ H b = some (restHO r') ∧ H s0 = some (.tup [.ref rt, .int (s.2.1 : Nat), .int (s.2.2 : Nat)]) ∧ H rt = some (restHO s.1))
theorem OrgG.to {as : List Arc} {ms : List Nat} {H H' : Hp} {ko : List (List Key × V)} {d : Rest → Nat} (h : OrgG as ms H ko d) (tp : TPo H H') : OrgG as ms H' ko d := fun r v h1 => by
  obtain ⟨t, e, c⟩ := h r v h1
  refine ⟨t, e, ?_⟩
  rcases c with ⟨st, s0, rt, a1, a2, a3, a4, a5⟩ | ⟨s, r', b, s0, rt, a1, a2, a3, a4, a5, a6, a7, a8⟩
  · exact .inl ⟨st, s0, rt, a1, a2, tp _ _ a3, tp _ _ a4, tp _ _ a5⟩
  · exact .inr ⟨s, r', b, s0, rt, a1, a2, a3, a4, tp _ _ a5, tp _ _ a6, tp _ _ a7, tp _ _ a8⟩
theorem val_idx {ko : List (List Key × V)} {rs : List Rest} (hk : ko.map (·.1) = rs.map rk) (nd : rs.Nodup) {r : Rest} {v : V} (h : valV ko (rk r) = some v) : ∃ (i : Nat) (k : List Key), rs[i]? = some r ∧ ko[i]? = some (k, v) := by
  have hr := keys_some hk h
  obtain ⟨i, hi⟩ := List.mem_iff_getElem?.mp hr
  have hl := keys_len hk
  have hi2 := (List.getElem?_eq_some_iff.mp hi).1
  have e : (ko.map (·.1))[i]? = some (rk r) := by rw [hk, List.getElem?_map, hi]; rfl
  rw [List.getElem?_map] at e
  obtain ⟨⟨k, w⟩, h1, h2⟩ := Option.map_eq_some_iff.mp e
  have h2 : k = rk r := h2
  subst h2
  have nd2 : (ko.map Prod.fst).Nodup := by
    have := rk_nodup nd
    rw [← hk] at this
    exact this
  have := valV_nodup nd2 (List.mem_of_getElem? h1)
  rw [h] at this
  cases this
  exact ⟨i, _, hi, h1⟩
theorem val_some {ko : List (List Key × V)} {rs : List Rest} (hk : ko.map (·.1) = rs.map rk) {r : Rest} (h : r ∈ rs) : ∃ v, valV ko (rk r) = some v := by
  cases e : valV ko (rk r) with
  | some v => exact ⟨v, rfl⟩
  | none => exact absurd h (keys_none hk e)
theorem idx_at {rs : List Rest} (nd : rs.Nodup) {i : Nat} {r : Rest} (h : rs[i]? = some r) : rs.idxOf r = i := by
  obtain ⟨hi, e⟩ := List.getElem?_eq_some_iff.mp h
  subst e
  exact nd.idxOf_getElem i hi
theorem OrgL.gen {as : List Arc} {ms : List Nat} {H : Hp} {rs : List Rest} {ko : List (List Key × V)} (h : OrgL as ms H rs ko) (hk : ko.map (·.1) = rs.map rk) (nd : rs.Nodup) : OrgG as ms H ko fun r => rs.idxOf r := fun r v hv => by
  obtain ⟨i, k, h1, h2⟩ := val_idx hk nd hv
  obtain ⟨t, e, c⟩ := h i r k v h1 h2
  refine ⟨t, e, c.imp id fun ⟨s, r', j, b, s0, rt, a1, a2, a3⟩ => ⟨s, r', b, s0, rt, ?_, val_some hk (List.mem_of_getElem? a2), a3⟩⟩
  show rs.idxOf r' < rs.idxOf r
  rw [idx_at nd a2, idx_at nd h1]
  exact a1
def spWay : Sp := fun vs H Q _ => ∃ (O rt : Addr) (ko : List (List Key × V)) (as : List Arc) (ms : List Nat) (d : Rest → Nat) (r : Rest) (v : V), vs = [.ref O, .ref rt] ∧ H O = some (.dT ko) ∧ OrgG as ms H ko d ∧ H rt = some (restHO r) ∧ valV ko (rk r) = some v ∧ d r ≤ 1000000 ∧
  ∀ (H' : Hp) (t s0 L rt0 : Addr) (st : Start) (us : List V) (l : List Step), Same H H' → H' t = some (.tup [.ref s0, .ref L]) → H' s0 = some (startHO rt0 st) → H' rt0 = some (restHO st.1) → H' L = some (.lst us) → StepsAt H' us l → st ∈ startsL as ms → Chn (stepsL as) st.1 l r → l.length ≤ d r → Q (.ref t) H'
/-- what stands at a rest on the way back -/
def Bck (as : List Arc) (ms : List Nat) (H : Hp) (ko : List (List Key × V)) (d : Rest → Nat) (r : Rest) (vp vm : V) : Prop :=
  (∃ (st : Start) (s0 rt : Addr), vp = .non ∧ vm = .ref s0 ∧ st ∈ startsL as ms ∧ st.1 = r ∧ H s0 = some (startHO rt st) ∧ H rt = some (restHO st.1)) ∨
   ∃ (s : Step) (r' : Rest) (b s0 rt : Addr), vp = .ref b ∧ vm = .ref s0 ∧ d r' < d r ∧ (∃ v', valV ko (rk r') = some v') ∧ s ∈ stepsL as r' ∧ s.1 = r ∧ H b = some (restHO r') ∧ H s0 = some (.tup [.ref rt, .int (s.2.1 : Nat), .int (s.2.2 : Nat)]) ∧ H rt = some (restHO s.1)
theorem OrgG.bck {as : List Arc} {ms : List Nat} {H : Hp} {ko : List (List Key × V)} {d : Rest → Nat} (h : OrgG as ms H ko d) {r : Rest} {v : V} (hv : valV ko (rk r) = some v) : ∃ (t : Addr) (vp vm : V), v = .ref t ∧ H t = some (.tup [vp, vm]) ∧ Bck as ms H ko d r vp vm := by
  obtain ⟨t, e, c⟩ := h r v hv
  rcases c with ⟨st, s0, rt, a1, a2, a3, a4, a5⟩ | ⟨s, r', b, s0, rt, a1, a2, a3, a4, a5, a6, a7, a8⟩
  · exact ⟨t, _, _, e, a3, .inl ⟨st, s0, rt, rfl, rfl, a1, a2, a4, a5⟩⟩
  · exact ⟨t, _, _, e, a5, .inr ⟨s, r', b, s0, rt, rfl, rfl, a1, a2, a3, a4, a6, a7, a8⟩⟩
section
variable {P : Program} {w : World} {K : PySem.W.Frag} {mg : Str → Option Value} {base : Heap}
theorem ok_way_to (T : Tx K mg) : FnOk P w K mg base CX0 1 T.f_way_to T.fd_way_to P_way_to spWay := by
  refine T.F_way_to.ok sc_way_to (fun vs H Q E h => ?_) (fun cdv A outer s H vs Q E hr h => ?_)
  · obtain ⟨O, rt, ko, as, ms, d, r, v, rfl, _⟩ := h
    rfl
  · obtain ⟨O, rt0, ko, as, ms, d, r0, v, rfl, hO, org, hrt0, hv, hd, k⟩ := h
    refine ⟨_, (pss_cons (ps_set (i := 2) sc_way_to.nd rfl (Or.inl rfl) (pe_lst pa_nil))
        (pss_cons (ps_asg (pe_dget (hu_of hr) (pv 0) (pv 1) (fun _ _ => rfl)) (pg_tup rfl (pgs_cons (pg_name (i := 3) sc_way_to.nd rfl (Or.inl rfl)) (pgs_cons (pg_name (i := 4) sc_way_to.nd rfl (Or.inl rfl)) pgs_nil))))
        (pss_cons (ps_while PassesOwn.never (pt_cmpR op_notN (pv 3) pe_non (nomark _)) (pss_cons (ps_expr (pe_bm PySem.F.plainAttrs_list PySem.F.slot_list_append PySem.F.type_list_append mt_append (pv 2) (pa_cons (pv 4) pa_nil)))
        (pss_one (ps_asg (pe_dget (hu_of hr) (pv 0) (pv 3) (fun _ _ => rfl)) (pg_tup rfl (pgs_cons (pg_name (i := 3) sc_way_to.nd rfl (Or.inl rfl)) (pgs_cons (pg_name (i := 4) sc_way_to.nd rfl (Or.inl rfl)) pgs_nil)))))))
        (pss_one (ps_ret (pe_tup (pa_cons (pv 4) (pa_cons (pe_revL (pv 2)) pa_nil)))))))), ?_⟩
    refine ⟨Nat.zero_le _, fun L hL => ?_⟩
    have sL : Same H (upd H L (.lst [])) := Same.new _ hL
    have gL : upd H L (.lst []) L = some (.lst []) := upd_same
    have org1 := org.to (TPo.same sL)
    generalize upd H L (.lst []) = H1 at *
    obtain ⟨t, vp, vm, rfl, ht, bk⟩ := org1.bck hv
    refine ⟨_, rfl, _, rfl, O, .ref t, rfl, .inr ⟨ko, rk r0, rt0, .inl (sL _ _ hO), rfl, by rw [← rk_HO]; exact sL _ _ hrt0, hv.symm⟩, t, _, rfl, SqT.of ht, rfl, _, _, rfl, _, _, rfl, rfl, ?_⟩
    refine ⟨fun m σ H' => ∃ (r : Rest) (l : List Step) (us : List V) (vp vm : V), m = d r ∧ σ = [some (.ref O), some (.ref rt0), some (.ref L), some vp, some vm] ∧ Same H H' ∧ H' L = some (.lst us) ∧ StepsAt H' us.reverse l ∧ Chn (stepsL as) r l r0 ∧ l.length + d r ≤ d r0 ∧ Bck as ms H' ko d r vp vm, ⟨_, r0, [], [], vp, vm, rfl, rfl, sL, gL, StepsAt.nil _, .nil _, by simp, bk⟩, ?_⟩
    rintro m σ H2 ⟨r, l, us, vp, vm, rfl, rfl, s2, hL2, hus, ch, hll, bk⟩
    rcases bk with ⟨st, s0, rt, rfl, rfl, a1, rfl, a3, a4⟩ | ⟨s, r', b, s0, rt, rfl, rfl, a1, ⟨v', a2⟩, a3, a4, a5, a6, a7⟩
    · refine ⟨_, rfl, rfl, _, rfl, ite2 (fun c => absurd c (by simp)) fun _ => ?_⟩
      refine ⟨_, rfl, _, rfl, L, _, rfl, SqL.of hL2, fun L2 hL20 => ?_⟩
      have e1 := Same.new (.lst us.reverse) hL20
      have g1 : upd H2 L2 (.lst us.reverse) L2 = some (.lst us.reverse) := upd_same
      generalize upd H2 L2 (.lst us.reverse) = H3 at *
      refine ⟨le_size (by simp), fun t ht => ?_⟩
      have e2 := Same.new (.tup [V.ref s0, V.ref L2]) ht
      exact k _ t s0 L2 rt st _ l ((s2.trans e1).trans e2) upd_same (e2 _ _ (e1 _ _ a3)) (e2 _ _ (e1 _ _ a4)) (e2 _ _ g1) ((hus.same e1).same e2) a1 ch (by omega)
    · refine ⟨_, rfl, rfl, _, rfl, ite2 (fun _ => ?_) fun c => absurd (by simp) c⟩
      refine ⟨fun σ' H' => ∃ m', m' < d r ∧ ∃ (r : Rest) (l : List Step) (us : List V) (vp vm : V), m' = d r ∧ σ' = [some (.ref O), some (.ref rt0), some (.ref L), some vp, some vm] ∧ Same H H' ∧ H' L = some (.lst us) ∧ StepsAt H' us.reverse l ∧ Chn (stepsL as) r l r0 ∧ l.length + d r ≤ d r0 ∧ Bck as ms H' ko d r vp vm, fun σ' H' h => h, ?_⟩
      have hul : us.length = l.length := by rw [← hus.1, List.length_reverse]
      refine ⟨_, rfl, .inl ⟨rfl, _, SqL.of hL2⟩, _, rfl, L, us, _, rfl, rfl, hL2, ltG (by omega), ?_⟩
      have s3 : Same H (upd H2 L (.lst (us ++ [.ref s0]))) := s2.updNew hL
      have tp : TPo H2 (upd H2 L (.lst (us ++ [.ref s0]))) := TPo.upd hL2 fun _ z => HO.noConfusion z
      have g3 : upd H2 L (.lst (us ++ [.ref s0])) L = some (.lst (us ++ [.ref s0])) := upd_same
      have hus3 : StepsAt (upd H2 L (.lst (us ++ [.ref s0]))) (us ++ [V.ref s0]).reverse (s :: l) := by
        rw [List.reverse_append]
        exact (hus.to tp).cons (tp _ _ a6) (tp _ _ a7)
      have a5' := tp _ _ a5
      generalize upd H2 L (.lst (us ++ [.ref s0])) = H3 at *
      obtain ⟨t', vp', vm', rfl, ht', bk'⟩ := (org.to (TPo.same s3)).bck a2
      refine ⟨_, rfl, _, rfl, O, .ref t', rfl, .inr ⟨ko, rk r', b, .inl (s3 _ _ hO), rfl, by rw [← rk_HO]; exact a5', a2.symm⟩, t', _, rfl, SqT.of ht', rfl, _, _, rfl, _, _, rfl, rfl, ?_⟩
      exact ⟨_, a1, r', s :: l, _, vp', vm', rfl, rfl, s3, g3, hus3, .cons a3 (a4 ▸ ch), by rw [List.length_cons]; omega, bk'⟩
end
end J


set_option Elab.async false
set_option linter.all false
set_option maxRecDepth 100000
set_option maxHeartbeats 4000000
namespace J
open PySem L2
/-! ### two rows with a rest -/
structure PairR (as : List Arc) (g : Nat) (X Y : List Nat) (r : Rest) : Prop where
  rx : Rw as g X
  ry : Rw as g Y
  ex : rowEnd as g X = r.1
  ey : rowEnd as g Y = r.2.1
  tx : txA as Y = txA as X ++ r.2.2
theorem rowEnd_snoc (as : List Arc) (g : Nat) (r : List Nat) (j : Nat) : rowEnd as g (r ++ [j]) = goalAt as j := by
  unfold rowEnd
  rw [List.getLast?_concat]
theorem txA_app (as : List Arc) (r q : List Nat) : txA as (r ++ q) = txA as r ++ txA as q := by
  unfold txA
  rw [List.map_append, List.flatten_append]
theorem txA_one {as : List Arc} {j : Nat} {a : Arc} (h : as[j]? = some a) : txA as [j] = a.2.1 := by
  rw [txA_cons, wdA_at h, txA_nil, List.append_nil]
theorem PairR.step {as : List Arc} {g : Nat} {X Y : List Nat} {r : Rest} (h : PairR as g X Y r) {s : Step} (hs : s ∈ stepsL as r) : PairR as g (grw (X, Y) [s]).1 (grw (X, Y) [s]).2 s.1 := by
  obtain ⟨h1, h2, h3, h4, h5⟩ := h
  obtain ⟨a, ha, ea, c⟩ := step_ofN hs
  have hx : Rw as g (X ++ [s.2.1]) := Rw.snoc_iff.mpr ⟨h1, mem_leav.mpr ⟨a, ha, by rw [h3]; exact ea⟩⟩
  have ee : rowEnd as g (X ++ [s.2.1]) = a.2.2 := by rw [rowEnd_snoc, goalAt_eq ha]
  rcases c with ⟨p, e, t0⟩ | ⟨p, e, t1⟩
  · have e1 : grw (X, Y) [s] = (X ++ [s.2.1], Y) := by
      show (if s.2.2 = 1 then grw (Y, X ++ [s.2.1]) [] else grw (X ++ [s.2.1], Y) []) = _
      rw [if_neg (by omega)]
      rfl
    rw [e1, e]
    refine ⟨hx, h2, ee, h4, ?_⟩
    show txA as Y = txA as (X ++ [s.2.1]) ++ r.2.2.drop a.2.1.length
    rw [txA_app, txA_one ha, List.append_assoc, cat_drop p]
    exact h5
  · have e1 : grw (X, Y) [s] = (Y, X ++ [s.2.1]) := by
      show (if s.2.2 = 1 then grw (Y, X ++ [s.2.1]) [] else grw (X ++ [s.2.1], Y) []) = _
      rw [if_pos t1]
      rfl
    rw [e1, e]
    refine ⟨h2, hx, h4, ee, ?_⟩
    show txA as (X ++ [s.2.1]) = txA as Y ++ a.2.1.drop r.2.2.length
    rw [txA_app, txA_one ha, h5, List.append_assoc, cat_drop p]
theorem PairR.chn {as : List Arc} {g : Nat} {l : List Step} {r r' : Rest} (c : Chn (stepsL as) r l r') : ∀ {X Y : List Nat}, PairR as g X Y r → PairR as g (grw (X, Y) l).1 (grw (X, Y) l).2 r' := by
  induction c with
  | nil r => exact fun h => h
  | @cons r s l r' hs _ ih =>
    intro X Y h
    have := ih (h.step hs)
    have e : grw (X, Y) (s :: l) = grw ((grw (X, Y) [s]).1, (grw (X, Y) [s]).2) l := by
      show (if s.2.2 = 1 then grw (Y, X ++ [s.2.1]) l else grw (X ++ [s.2.1], Y) l) = grw ((if s.2.2 = 1 then grw (Y, X ++ [s.2.1]) [] else grw (X ++ [s.2.1], Y) []).1, (if s.2.2 = 1 then grw (Y, X ++ [s.2.1]) [] else grw (X ++ [s.2.1], Y) []).2) l
      split <;> rfl
    rw [e]
    exact this
/-- how often the rows change roles -/
def tn (l : List Step) : Nat := (l.map fun s => s.2.2).sum
theorem chn_two {as : List Arc} {l : List Step} {r r' : Rest} (c : Chn (stepsL as) r l r') : ∀ s ∈ l, s.2.2 = 0 ∨ s.2.2 = 1 := by
  induction c with
  | nil r => exact fun s h => nomatch h
  | cons hs _ ih =>
    intro s h
    rcases List.mem_cons.mp h with rfl | h
    · exact turn_two hs
    · exact ih s h
theorem grw_app : ∀ (l : List Step), (∀ s ∈ l, s.2.2 = 0 ∨ s.2.2 = 1) → ∀ X Y : List Nat, grw (X, Y) l = if tn l % 2 = 0 then (X ++ (grw ([], []) l).1, Y ++ (grw ([], []) l).2) else (Y ++ (grw ([], []) l).1, X ++ (grw ([], []) l).2)
  | [], _, X, Y => by
    rw [if_pos (show tn [] % 2 = 0 from rfl)]
    show (X, Y) = (X ++ [], Y ++ [])
    rw [List.append_nil, List.append_nil]
  | s :: l, h, X, Y => by
    have ih := grw_app l fun x hx => h x (List.mem_cons_of_mem _ hx)
    have e : tn (s :: l) = s.2.2 + tn l := by
      unfold tn
      rw [List.map_cons, List.sum_cons]
    rcases h s List.mem_cons_self with t | t
    · have q : ∀ A B : List Nat, grw (A, B) (s :: l) = grw (A ++ [s.2.1], B) l := fun A B => by
        show (if s.2.2 = 1 then grw (B, A ++ [s.2.1]) l else grw (A ++ [s.2.1], B) l) = _
        rw [if_neg (by omega)]
      rw [q X Y, q [] [], ih (X ++ [s.2.1]) Y, ih ([] ++ [s.2.1]) [], e, t, Nat.zero_add]
      split <;> simp
    · have q : ∀ A B : List Nat, grw (A, B) (s :: l) = grw (B, A ++ [s.2.1]) l := fun A B => by
        show (if s.2.2 = 1 then grw (B, A ++ [s.2.1]) l else grw (A ++ [s.2.1], B) l) = _
        rw [if_pos t]
      rw [q X Y, q [] [], ih Y (X ++ [s.2.1]), ih [] ([] ++ [s.2.1]), e, t]
      by_cases c : tn l % 2 = 0
      · rw [if_pos c, if_pos c, if_neg (by omega)]
        simp
      · rw [if_neg c, if_neg c, if_pos (by omega)]
        simp
/-- the rows of a way to a rest -/
theorem pair_rows {as : List Arc} {ms : List Nat} {st : Start} {l : List Step} {r : Rest} (hst : st ∈ startsL as ms) (c : Chn (stepsL as) st.1 l r) : ∃ X Y, grw ([st.2.2.1], [st.2.2.2]) l = (X, Y) ∧ st.2.1 ∈ ms ∧ PairR as st.2.1 X Y r ∧ X ≠ [] ∧ Y ≠ [] ∧ X.headD 0 ≠ Y.headD 0 ∧ X.length + Y.length = l.length + 2 := by
  obtain ⟨g, i, j, a, b, hg, hij, ha, hb, ea, eb, p, rfl⟩ := start_of hst
  have h0 : PairR as g [i] [j] ((a.2.2, b.2.2, b.2.1.drop a.2.1.length)) := by
    refine ⟨Rw.mk ha ea (Rw.nil _), Rw.mk hb eb (Rw.nil _), ?_, ?_, ?_⟩
    · exact (rowEnd_snoc as g [] i).trans (goalAt_eq ha)
    · exact (rowEnd_snoc as g [] j).trans (goalAt_eq hb)
    · rw [txA_one ha, txA_one hb]
      exact (cat_drop p).symm
  have h1 := PairR.chn c h0
  have h2 := grw_len l ([i], [j])
  have h3 := grw_app l (chn_two c) [i] [j]
  refine ⟨_, _, rfl, hg, h1, ?_⟩
  show (grw ([i], [j]) l).1 ≠ [] ∧ (grw ([i], [j]) l).2 ≠ [] ∧ (grw ([i], [j]) l).1.headD 0 ≠ (grw ([i], [j]) l).2.headD 0 ∧ _
  refine ⟨?_, ?_, ?_, ?_⟩
  · rw [h3]; split <;> simp
  · rw [h3]; split <;> simp
  · rw [h3]
    split
    · simpa using hij
    · simpa using Ne.symm hij
  · show (grw ([i], [j]) l).1.length + (grw ([i], [j]) l).2.length = _
    simp only [List.length_cons, List.length_nil] at h2
    omega
theorem Rw.app {as : List Arc} : ∀ {x y : List Nat} {g : Nat}, Rw as g (x ++ y) → Rw as g x ∧ Rw as (rowEnd as g x) y
  | [], y, g, h => ⟨Rw.nil g, h⟩
  | i :: x, y, g, h => by
    obtain ⟨a, ha, e, hx⟩ := (show Rw as g (i :: (x ++ y)) from h).of
    obtain ⟨h1, h2⟩ := Rw.app hx
    rw [rowEnd_cons ha]
    exact ⟨Rw.mk ha e h1, h2⟩
theorem rowEnd_app (as : List Arc) (g : Nat) (x y : List Nat) : rowEnd as g (x ++ y) = rowEnd as (rowEnd as g x) y := by
  rcases List.eq_nil_or_concat y with rfl | ⟨y', j, rfl⟩
  · rw [List.append_nil]
    rfl
  · rw [List.concat_eq_append, ← List.append_assoc, rowEnd_snoc, rowEnd_snoc]
/-- a round: what it adds to the rows of a rest -/
theorem ring_rows {as : List Arc} {g : Nat} {X Y : List Nat} {r : Rest} (h : PairR as g X Y r) {l : List Step} (c : Chn (stepsL as) r l r) (ev : tn l % 2 = 0) (hl : l ≠ []) : ∃ A M, grw ([], []) l = (A, M) ∧ Rw as (rowEnd as g X) A ∧ rowEnd as (rowEnd as g X) A = rowEnd as g X ∧ Rw as (rowEnd as g Y) M ∧ rowEnd as (rowEnd as g Y) M = rowEnd as g Y ∧ A ≠ [] ∧ txA as A ++ r.2.2 = r.2.2 ++ txA as M ∧ A.length + M.length = l.length := by
  have h1 := PairR.chn c h
  have tw := chn_two c
  rw [grw_app l tw X Y, if_pos ev] at h1
  have h2 := grw_len l ([], [])
  simp only [List.length_nil] at h2
  have hA : (grw ([], []) l).1 ≠ [] := by
    cases l with
    | nil => exact absurd rfl hl
    | cons s l =>
      have e : tn (s :: l) = s.2.2 + tn l := by
        unfold tn
        rw [List.map_cons, List.sum_cons]
      have tw2 : ∀ x ∈ l, x.2.2 = 0 ∨ x.2.2 = 1 := fun x hx => tw x (List.mem_cons_of_mem _ hx)
      show (if s.2.2 = 1 then grw ([], [] ++ [s.2.1]) l else grw ([] ++ [s.2.1], []) l).1 ≠ []
      rcases tw s List.mem_cons_self with z | z
      · rw [if_neg (by omega), grw_app l tw2, if_pos (by omega)]
        simp
      · rw [if_pos z, grw_app l tw2, if_neg (by omega)]
        simp
  obtain ⟨A, M, e⟩ : ∃ A M, grw ([], []) l = (A, M) := ⟨_, _, rfl⟩
  rw [e] at h1 h2 hA
  obtain ⟨r1, r2, r3, r4, r5⟩ := h1
  obtain ⟨_, _, x3, x4, x5⟩ := h
  have r1 : Rw as g (X ++ A) := r1
  have r2 : Rw as g (Y ++ M) := r2
  have r3 : rowEnd as g (X ++ A) = r.1 := r3
  have r4 : rowEnd as g (Y ++ M) = r.2.1 := r4
  have r5 : txA as (Y ++ M) = txA as (X ++ A) ++ r.2.2 := r5
  rw [rowEnd_app] at r3 r4
  refine ⟨A, M, e, (Rw.app r1).2, by rw [r3, x3], (Rw.app r2).2, by rw [r4, x4], hA, ?_, by simpa using h2⟩
  rw [txA_app, txA_app, x5, List.append_assoc, List.append_assoc] at r5
  exact (List.append_cancel_left r5).symm
def spPair : Sp := fun vs H Q _ => ∃ (O rt : Addr) (ko : List (List Key × V)) (as : List Arc) (ms : List Nat) (d : Rest → Nat) (r : Rest) (v : V), vs = [.ref O, .ref rt] ∧ H O = some (.dT ko) ∧ OrgG as ms H ko d ∧ H rt = some (restHO r) ∧ valV ko (rk r) = some v ∧ d r ≤ 900000 ∧
  ∀ (H' : Hp) (t a b : Addr) (g : Nat) (X Y : List Nat), Same H H' → H t = none → H a = none → H b = none → H' t = some (.tup [.int (g : Int), .ref a, .ref b]) → H' a = some (.lst (nats X)) → H' b = some (.lst (nats Y)) → g ∈ ms → PairR as g X Y r → X ≠ [] → Y ≠ [] → X.headD 0 ≠ Y.headD 0 → X.length + Y.length ≤ d r + 2 → Q (.ref t) H'
section
variable {P : Program} {w : World} {K : PySem.W.Frag} {mg : Str → Option Value} {base : Heap}
theorem ok_pair_at (T : Tx K mg) : FnOk P w K mg base CX0 2 T.f_pair_at T.fd_pair_at P_pair_at spPair := by
  have G_way_to : FnOk P w K mg base CX0 1 T.f_way_to T.fd_way_to P_way_to spWay := ok_way_to T
  have G_grown : FnOk P w K mg base CX0 1 T.f_grown T.fd_grown P_grown spGrown := ok_grown T
  refine T.F_pair_at.ok sc_pair_at (fun vs H Q E h => ?_) (fun cdv A outer s H vs Q E hr h => ?_)
  · obtain ⟨O, rt, ko, as, ms, d, r, v, rfl, _⟩ := h
    rfl
  · obtain ⟨O, rt, ko, as, ms, d, r, v, rfl, hO, org, hrt, hv, hd, k⟩ := h
    refine ⟨_, (pss_cons (ps_asg (pe_call G_way_to (hr.mono (by decide)) rfl T.m_way_to T.F_way_to.kp T.b_way_to .nil pass0 (pa_cons (pv 0) (pa_cons (pv 1) pa_nil))) (pg_tup rfl (pgs_cons (pg_name (i := 2) sc_pair_at.nd rfl (Or.inl rfl)) (pgs_cons (pg_name (i := 3) sc_pair_at.nd rfl (Or.inl rfl)) pgs_nil))))
        (pss_cons (ps_asg (pv 2) (pg_tup rfl (pgs_cons (pg_name (i := 4) sc_pair_at.nd rfl (Or.inl rfl)) (pgs_cons (pg_name (i := 5) sc_pair_at.nd rfl (Or.inl rfl)) (pgs_cons (pg_name (i := 6) sc_pair_at.nd rfl (Or.inl rfl)) (pgs_cons (pg_name (i := 7) sc_pair_at.nd rfl (Or.inl rfl)) pgs_nil))))))
        (pss_cons (ps_asg (pe_call G_grown (hr.mono (by decide)) rfl T.m_grown T.F_grown.kp T.b_grown .nil pass0 (pa_cons (pe_lst (pa_cons (pv 6) pa_nil)) (pa_cons (pe_lst (pa_cons (pv 7) pa_nil)) (pa_cons (pv 3) pa_nil)))) (pg_tup rfl (pgs_cons (pg_name (i := 8) sc_pair_at.nd rfl (Or.inl rfl)) (pgs_cons (pg_name (i := 9) sc_pair_at.nd rfl (Or.inl rfl)) pgs_nil))))
        (pss_one (ps_ret (pe_tup (pa_cons (pv 5) (pa_cons (pv 8) (pa_cons (pv 9) pa_nil))))))))), ?_⟩
    refine ⟨_, rfl, _, rfl, O, rt, ko, as, ms, d, r, v, rfl, hO, org, hrt, hv, by omega, fun H1 t s0 L rt0 st us l s1 ht hs0 hrt0 hL hus hst ch hll => ?_⟩
    refine ⟨t, _, rfl, SqT.of ht, rfl, _, _, rfl, _, _, rfl, rfl, ?_⟩
    refine ⟨_, rfl, s0, _, rfl, SqT.of hs0, rfl, _, _, rfl, _, _, rfl, _, _, rfl, _, _, rfl, rfl, ?_⟩
    refine ⟨_, rfl, le_size (by simp), fun p1 hp1 => ?_⟩
    have e1 := Same.new (.lst [V.int (st.2.2.1 : Int)]) hp1
    have g1 : upd H1 p1 (.lst [V.int (st.2.2.1 : Int)]) p1 = some (.lst (nats [st.2.2.1])) := upd_same
    generalize upd H1 p1 (.lst [V.int (st.2.2.1 : Int)]) = H2 at *
    refine ⟨_, rfl, le_size (by simp), fun p2 hp2 => ?_⟩
    have e2 := Same.new (.lst [V.int (st.2.2.2 : Int)]) hp2
    have g2 : upd H2 p2 (.lst [V.int (st.2.2.2 : Int)]) p2 = some (.lst (nats [st.2.2.2])) := upd_same
    generalize upd H2 p2 (.lst [V.int (st.2.2.2 : Int)]) = H3 at *
    have S3 := (s1.trans e1).trans e2
    refine ⟨_, rfl, p1, p2, L, [st.2.2.1], [st.2.2.2], us, l, rfl, e2 _ _ g1, g2, e2 _ _ (e1 _ _ hL), (hus.same e1).same e2, by simp, by simp, by omega, fun H4 t4 a b s4 ht40 ha0 hb0 ht4 ha hb => ?_⟩
    refine ⟨t4, _, rfl, SqT.of ht4, rfl, _, _, rfl, _, _, rfl, rfl, ?_⟩
    refine ⟨_, rfl, _, rfl, _, rfl, le_size (by simp), fun tz htz => ?_⟩
    have ez := Same.new (.tup [V.int (st.2.1 : Int), V.ref a, V.ref b]) htz
    obtain ⟨X, Y, eg, q1, q2, q3, q4, q5, q6⟩ := pair_rows hst ch
    rw [eg] at ha hb
    exact k _ tz a b st.2.1 X Y ((S3.trans s4).trans ez) ((S3.trans s4).free htz) (S3.free ha0) (S3.free hb0) upd_same (ez _ _ ha) (ez _ _ hb) q1 q2 q3 q4 q5 (by omega)
end
end J


set_option Elab.async false
set_option linter.all false
set_option maxRecDepth 100000
set_option maxHeartbeats 4000000
namespace J
open PySem L2
/-! ### costs and what waits: the order, the search's state -/
abbrev Cst := Nat × Nat
def clt (c d : Cst) : Prop := c.1 < d.1 ∨ c.1 = d.1 ∧ c.2 < d.2
instance (c d : Cst) : Decidable (clt c d) := by unfold clt; infer_instance
theorem clt_irr (c : Cst) : ¬ clt c c := by unfold clt; omega
theorem clt_tr {a b c : Cst} (h : clt a b) (k : clt b c) : clt a c := by unfold clt at *; omega
theorem nlt_tr {a b c : Cst} (h : ¬ clt b a) (k : ¬ clt c b) : ¬ clt c a := by unfold clt at *; omega
theorem clt_nlt {a b c : Cst} (h : clt a b) (k : ¬ clt c b) : clt a c := by unfold clt at *; omega
theorem nlt_clt {a b c : Cst} (h : ¬ clt b a) (k : clt b c) : clt a c := by unfold clt at *; omega
theorem nlt_eq {a b : Cst} (h : ¬ clt a b) (k : ¬ clt b a) : a = b := by unfold clt at *; exact Prod.ext (by omega) (by omega)
theorem clt_as {a b : Cst} (h : clt a b) : ¬ clt b a := by unfold clt at *; omega
abbrev Ent := Cst × Rest
def encE (e : Ent) : PySem.PyData := .tuple [.tuple [.int (e.1.1 : Nat), .int (e.1.2 : Nat)], .tuple [.int (e.2.1 : Nat), .int (e.2.2.1 : Nat), .str (SX.S e.2.2.2)]]
open PyProof.Rows PySem.W in
theorem lt_asym {x y : PySem.PyData} (h : dataLt x y = true) : dataLt y x = false := by
  cases e : dataLt y x with
  | false => rfl
  | true =>
    have := lex_trans (O := itemOrd) _ _ _ h e
    rw [lex_irrefl] at this
    exact absurd this Bool.false_ne_true
open PyProof.Rows PySem.W in
def O12 : HQ.Ordr Ent where
  enc := encE
  lt e f := dataLt (encE e) (encE f)
  spec _ _ := rfl
  alike e f := by simp [encE, alike, alikeAll]
  nn e h := by cases h
  dep e := by simp [encE, PySem.PyData.depth, PySem.PyData.depthAll]
  irr e := lex_irrefl _
  tot e f h := lt_asym h
  tr e f g h k := by
    cases q : dataLt (encE g) (encE e) with
    | false => rfl
    | true =>
      rcases lex_negTrans (O := itemOrd) _ (keyToks (encE f)) _ q with z | z
      · exact absurd (z.symm.trans k) (by simp)
      · exact absurd (z.symm.trans h) (by simp)
open PyProof.Rows PySem.W in
theorem ent_lt {e f : Ent} (h : clt e.1 f.1) : dataLt (encE e) (encE f) = true := by
  unfold dataLt encE
  simp only [keyToks, keyToksAll, List.cons_append, List.nil_append]
  rw [lex_self (O := itemOrd), lex_self (O := itemOrd)]
  have ni : ∀ a b : Nat, ¬ a < b → itemOrd.blt (.inl (b : Int)) (.inl (a : Int)) = false ∨ b < a := fun a b _ => by
    by_cases c : b < a
    · exact .inr c
    · exact .inl (decide_eq_false (by omega))
  rcases h with h | ⟨h, k⟩
  · exact lex_true.mpr (.inl (decide_eq_true (by omega)))
  · rw [h, lex_self (O := itemOrd), lex_self (O := itemOrd)]
    exact lex_true.mpr (.inl (decide_eq_true (by omega)))
theorem ent_le {e f : Ent} (h : HQ.le O12 e f) : ¬ clt f.1 e.1 := fun k => by
  have h : PySem.W.dataLt (encE f) (encE e) = false := h
  rw [ent_lt k] at h
  cases h
theorem lexLt_two (a b c d : Nat) : HT.lexLt [(a : Int), (b : Int)] [(c : Int), (d : Int)] = decide (clt (a, b) (c, d)) := by
  rw [HT.lexLt_cons, HT.lexLt_cons, HT.lexLt_nil_nil]
  by_cases h1 : (a : Int) = c
  · rw [if_pos h1]
    by_cases h2 : (b : Int) = d
    · rw [if_pos h2]
      exact (decide_eq_false (by unfold clt; show ¬ (a < c ∨ a = c ∧ b < d); omega)).symm
    · rw [if_neg h2]
      exact decide_eq_decide.mpr (by unfold clt; show _ ↔ (a < c ∨ a = c ∧ b < d); omega)
  · rw [if_neg h1]
    exact decide_eq_decide.mpr (by unfold clt; show _ ↔ (a < c ∨ a = c ∧ b < d); omega)
def sw (s : Step) : Cst := (if s.2.2 = 1 then s.1.2.2.length else 0, 1)
def cadd (c d : Cst) : Cst := (c.1 + d.1, c.2 + d.2)
theorem cadd_gt (c : Cst) (s : Step) : clt c (cadd c (sw s)) := by
  unfold clt cadd sw
  show c.1 < c.1 + (if s.2.2 = 1 then s.1.2.2.length else 0) ∨ c.1 = c.1 + (if s.2.2 = 1 then s.1.2.2.length else 0) ∧ c.2 < c.2 + 1
  split <;> omega
def stc (as : List Arc) (st : Start) : Cst := ((as.getD st.2.2.2 (0, [], 0)).2.1.length, 2)
def setC (cf : Rest → Cst) (r : Rest) (c : Cst) : Rest → Cst := fun x => if x = r then c else cf x
def insR (rs : List Rest) (r : Rest) : List Rest := if r ∈ rs then rs else rs ++ [r]
theorem mem_insR {rs : List Rest} {r x : Rest} : x ∈ insR rs r ↔ x ∈ rs ∨ x = r := by
  unfold insR
  split
  · rename_i h
    exact ⟨.inl, fun z => z.elim id fun e => e ▸ h⟩
  · simp
/-- the search: rests met rs at costs cf, entries that wait qs, rests gone on D, no entry below f -/
structure Dj (as : List Arc) (ms : List Nat) (rs : List Rest) (cf : Rest → Cst) (qs : Ent → Prop) (D : List Rest) (f : Cst) (Of : Rest → Step → Prop) (Os : Start → Prop) : Prop where
  cov : Cov as ms rs
  q1 : ∀ e, qs e → e.2 ∈ rs ∧ ¬ clt e.1 (cf e.2)
  q2 : ∀ e, qs e → ¬ clt e.1 f
  dn : D.Nodup
  dr : ∀ r ∈ D, r ∈ rs
  d1 : ∀ r ∈ D, ¬ clt f (cf r)
  w : ∀ r ∈ rs, r ∉ D → qs (cf r, r)
  b : ∀ r ∈ rs, (cf r).2 ≤ D.length + 2 ∧ (cf r).1 ≤ 12 * (D.length + 1)
  oD : ∀ r s, Of r s → r ∈ D
  o : ∀ r s, Of r s → s.1 ∈ rs ∧ ¬ clt (cadd (cf r) (sw s)) (cf s.1)
  os : ∀ st, Os st → st.1 ∈ rs ∧ ¬ clt (stc as st) (cf st.1)
section
variable {as : List Arc} {ms : List Nat} {rs : List Rest} {cf : Rest → Cst} {qs : Ent → Prop} {D : List Rest} {f : Cst} {Of : Rest → Step → Prop} {Os : Start → Prop}
theorem Dj.nD (h : Dj as ms rs cf qs D f Of Os) {r : Rest} {c : Cst} (hf : clt f c) (k : r ∉ rs ∨ clt c (cf r)) : r ∉ D := fun hd => by
  rcases k with k | k
  · exact k (h.dr r hd)
  · exact h.d1 r hd (clt_tr hf k)
theorem Dj.offer (h : Dj as ms rs cf qs D f Of Os) {r : Rest} {c : Cst} (hr : Rch as ms r) (hf : clt f c) (k : r ∉ rs ∨ clt c (cf r)) (hb : c.2 ≤ D.length + 2 ∧ c.1 ≤ 12 * (D.length + 1)) {qs' : Ent → Prop} (hq : ∀ z, qs' z ↔ qs z ∨ z = (c, r)) :
    Dj as ms (insR rs r) (setC cf r c) qs' D f Of Os := by
  have nD := h.nD hf k
  have s1 : setC cf r c r = c := if_pos rfl
  have s2 : ∀ x, x ≠ r → setC cf r c x = cf x := fun x hx => if_neg hx
  have mono : ∀ x, x ∈ rs → ¬ clt (cf x) (setC cf r c x) := fun x hx => by
    by_cases e : x = r
    · subst e
      rw [s1]
      rcases k with k | k
      · exact absurd hx k
      · exact clt_as k
    · rw [s2 x e]; exact clt_irr _
  refine ⟨?_, fun e he => ?_, fun e he => ?_, h.dn, fun x hx => mem_insR.mpr (.inl (h.dr x hx)), fun x hx => ?_, fun x hx hx2 => ?_, fun x hx => ?_, h.oD, fun x s hs => ?_, fun st hs => ?_⟩
  · unfold insR
    split
    · exact h.cov
    · rename_i hn
      exact h.cov.add hr hn
  · rcases (hq e).mp he with he | rfl
    · obtain ⟨a, b⟩ := h.q1 e he
      exact ⟨mem_insR.mpr (.inl a), nlt_tr (mono _ a) b⟩
    · refine ⟨mem_insR.mpr (.inr rfl), ?_⟩
      show ¬ clt c (setC cf r c r)
      rw [s1]
      exact clt_irr _
  · rcases (hq e).mp he with he | rfl
    · exact h.q2 e he
    · exact clt_as hf
  · rw [s2 x (fun z => nD (z ▸ hx))]
    exact h.d1 x hx
  · by_cases e : x = r
    · subst e
      rw [s1]
      exact (hq _).mpr (.inr rfl)
    · rw [s2 x e]
      exact (hq _).mpr (.inl (h.w x ((mem_insR.mp hx).resolve_right e) hx2))
  · by_cases e : x = r
    · subst e
      rw [s1]
      exact hb
    · rw [s2 x e]
      exact h.b x ((mem_insR.mp hx).resolve_right e)
  · obtain ⟨a, b⟩ := h.o x s hs
    have nx : x ≠ r := fun z => nD (z ▸ h.oD x s hs)
    rw [s2 x nx]
    exact ⟨mem_insR.mpr (.inl a), nlt_tr (mono _ a) b⟩
  · obtain ⟨a, b⟩ := h.os st hs
    exact ⟨mem_insR.mpr (.inl a), nlt_tr (mono _ a) b⟩
theorem Dj.mark (h : Dj as ms rs cf qs D f Of Os) {Of' : Rest → Step → Prop} {Os' : Start → Prop} (h1 : ∀ r s, Of' r s → Of r s ∨ (r ∈ D ∧ s.1 ∈ rs ∧ ¬ clt (cadd (cf r) (sw s)) (cf s.1))) (h2 : ∀ st, Os' st → Os st ∨ (st.1 ∈ rs ∧ ¬ clt (stc as st) (cf st.1))) :
    Dj as ms rs cf qs D f Of' Os' :=
  ⟨h.cov, h.q1, h.q2, h.dn, h.dr, h.d1, h.w, h.b, fun r s k => (h1 r s k).elim (h.oD r s) (·.1), fun r s k => (h1 r s k).elim (h.o r s) (·.2), fun st k => (h2 st k).elim (h.os st) id⟩
theorem Dj.skip (h : Dj as ms rs cf qs D f Of Os) {e : Ent} (he : qs e) (hl : ∀ e', qs e' → ¬ clt e'.1 e.1) (ne : e.1 ≠ cf e.2) {qs' : Ent → Prop} (h1 : ∀ z, qs z → qs' z ∨ z = e) (h2 : ∀ z, qs' z → qs z) :
    e.2 ∈ D ∧ Dj as ms rs cf qs' D e.1 Of Os := by
  have hD : e.2 ∈ D := Decidable.byContradiction fun hn => ne (nlt_eq (h.q1 e he).2 (hl _ (h.w e.2 (h.q1 e he).1 hn)))
  refine ⟨hD, h.cov, fun z k => h.q1 z (h2 z k), fun z k => hl z (h2 z k), h.dn, h.dr, fun x hx => nlt_tr (h.d1 x hx) (h.q2 e he), fun x hx hn => ?_, h.b, h.oD, h.o, h.os⟩
  refine (h1 _ (h.w x hx hn)).resolve_right fun z => ?_
  rw [← z] at hD
  exact hn hD
def insD (D : List Rest) (r : Rest) : List Rest := if r ∈ D then D else r :: D
theorem mem_insD {D : List Rest} {r x : Rest} : x ∈ insD D r ↔ x ∈ D ∨ x = r := by
  unfold insD
  split
  · rename_i h
    exact ⟨.inl, fun z => z.elim id fun e => e ▸ h⟩
  · simp [or_comm]
theorem len_insD (D : List Rest) (r : Rest) : D.length ≤ (insD D r).length := by
  unfold insD
  split <;> simp
theorem Dj.goon (h : Dj as ms rs cf qs D f Of Os) {e : Ent} (he : qs e) (hl : ∀ e', qs e' → ¬ clt e'.1 e.1) (ee : e.1 = cf e.2) {qs' : Ent → Prop} (h1 : ∀ z, qs z → qs' z ∨ z = e) (h2 : ∀ z, qs' z → qs z) :
    Dj as ms rs cf qs' (insD D e.2) e.1 Of Os := by
  have hl2 := len_insD D e.2
  refine ⟨h.cov, fun z k => h.q1 z (h2 z k), fun z k => hl z (h2 z k), ?_, fun x hx => ?_, fun x hx => ?_, fun x hx hn => ?_, fun x hx => ?_, fun x s hs => mem_insD.mpr (.inl (h.oD x s hs)), h.o, h.os⟩
  · unfold insD
    split
    · exact h.dn
    · rename_i hn
      exact List.nodup_cons.mpr ⟨hn, h.dn⟩
  · rcases mem_insD.mp hx with hx | rfl
    · exact h.dr x hx
    · exact (h.q1 e he).1
  · rcases mem_insD.mp hx with hx | rfl
    · exact nlt_tr (h.d1 x hx) (h.q2 e he)
    · rw [← ee]; exact clt_irr _
  · refine (h1 _ (h.w x hx fun z => hn (mem_insD.mpr (.inl z)))).resolve_right fun z => hn (mem_insD.mpr (.inr ?_))
    rw [← z]
  · obtain ⟨a, b⟩ := h.b x hx
    exact ⟨by omega, by omega⟩
end
end J


set_option Elab.async false
set_option linter.all false
set_option maxRecDepth 100000
set_option maxHeartbeats 4000000
namespace J
open PySem L2
/-! ### the search's state; Search.__init__, offer -/
def sf (A B Q : Addr) : List (Str × V) := putF "queue" (.ref Q) (putF "origins" (.ref B) (putF "costs" (.ref A) []))
theorem ne_co : ¬ (("costs" : Str) = "origins") := by decide +kernel
theorem ne_cq : ¬ (("costs" : Str) = "queue") := by decide +kernel
theorem ne_oq : ¬ (("origins" : Str) = "queue") := by decide +kernel
theorem sf_costs (A B Q : Addr) : (sf A B Q).lookup ("costs" : Str) = some (.ref A) := by
  unfold sf
  rw [lookup_putF, if_neg ne_cq, lookup_putF, if_neg ne_co, lookup_putF, if_pos rfl]
theorem sf_origins (A B Q : Addr) : (sf A B Q).lookup ("origins" : Str) = some (.ref B) := by
  unfold sf
  rw [lookup_putF, if_neg ne_oq, lookup_putF, if_pos rfl]
theorem sf_queue (A B Q : Addr) : (sf A B Q).lookup ("queue" : Str) = some (.ref Q) := by
  unfold sf
  rw [lookup_putF, if_pos rfl]
theorem putK_keys {ko : List (List Key × V)} {rs : List Rest} (hk : ko.map (·.1) = rs.map rk) (r : Rest) (v : V) : (putK ko (rk r) v).map (·.1) = (insR rs r).map rk := by
  cases e : valV ko (rk r) with
  | none =>
    have hn := keys_none hk e
    rw [putK_new e, List.map_append, hk]
    unfold insR
    rw [if_neg hn, List.map_append]
    rfl
  | some u =>
    have hr := keys_some hk e
    unfold insR putK
    rw [valV_any, e, if_pos hr]
    show (ko.map fun kv => if kv.1 = rk r then (kv.1, v) else kv).map (·.1) = _
    rw [List.map_map, ← hk]
    refine List.map_congr_left fun kv _ => ?_
    show (if kv.1 = rk r then (kv.1, v) else kv).1 = kv.1
    split <;> rfl
/-- the origin of a rest at its cost -/
def OT (as : List Arc) (ms : List Nat) (H : Hp) (cf : Rest → Cst) (D : List Rest) (r : Rest) (c : Cst) (t : Addr) : Prop :=
  (∃ (st : Start) (s0 rt : Addr), st ∈ startsL as ms ∧ st.1 = r ∧ c = stc as st ∧ H t = some (.tup [.non, .ref s0]) ∧ H s0 = some (startHO rt st) ∧ H rt = some (restHO st.1)) ∨
   ∃ (s : Step) (r' : Rest) (b s0 rt : Addr), r' ∈ D ∧ c = cadd (cf r') (sw s) ∧ s ∈ stepsL as r' ∧ s.1 = r ∧ H t = some (.tup [.ref b, .ref s0]) ∧ H b = some (restHO r') ∧ H s0 = some (.tup [.ref rt, .int (s.2.1 : Nat), .int (s.2.2 : Nat)]) ∧ H rt = some (restHO s.1)
theorem OT.to {as : List Arc} {ms : List Nat} {H H' : Hp} {cf cf' : Rest → Cst} {D D' : List Rest} {r : Rest} {c : Cst} {t : Addr} (h : OT as ms H cf D r c t) (tp : TPo H H') (hc : ∀ x ∈ D, cf' x = cf x) (hD : ∀ x ∈ D, x ∈ D') : OT as ms H' cf' D' r c t := by
  rcases h with ⟨st, s0, rt, a1, a2, a3, a4, a5, a6⟩ | ⟨s, r', b, s0, rt, a1, a2, a3, a4, a5, a6, a7, a8⟩
  · exact .inl ⟨st, s0, rt, a1, a2, a3, tp _ _ a4, tp _ _ a5, tp _ _ a6⟩
  · exact .inr ⟨s, r', b, s0, rt, hD _ a1, by rw [hc _ a1]; exact a2, a3, a4, tp _ _ a5, tp _ _ a6, tp _ _ a7, tp _ _ a8⟩
def costHO (c : Cst) : HO := .tup [.int (c.1 : Nat), .int (c.2 : Nat)]
def EntAt (H : Hp) (v : V) (e : Ent) : Prop := ∃ et ct rt : Addr, v = .ref et ∧ H et = some (.tup [.ref ct, .ref rt]) ∧ H ct = some (costHO e.1) ∧ H rt = some (restHO e.2)
theorem EntAt.to {H H' : Hp} {v : V} {e : Ent} (h : EntAt H v e) (tp : TPo H H') : EntAt H' v e := by
  obtain ⟨et, ct, rt, h1, h2, h3, h4⟩ := h
  exact ⟨et, ct, rt, h1, tp _ _ h2, tp _ _ h3, tp _ _ h4⟩
structure SrAt (K : PySem.W.Frag) (C : Addr) (as : List Arc) (ms : List Nat) (H1 H : Hp) (x A B Q : Addr) (rs : List Rest) (cf : Rest → Cst) (D : List Rest) (ps : List (V × Ent)) : Prop where
  xx : ∃ dx, H x = some (.ins C dx (sf A B Q))
  a : ∃ kc : List (List Key × V), H A = some (.dT kc) ∧ kc.map (·.1) = rs.map rk ∧ ∀ r v, valV kc (rk r) = some v → ∃ t : Addr, v = .ref t ∧ H t = some (costHO (cf r))
  b : ∃ ko : List (List Key × V), H B = some (.dT ko) ∧ ko.map (·.1) = rs.map rk ∧ ∀ r v, valV ko (rk r) = some v → ∃ t : Addr, v = .ref t ∧ OT as ms H cf D r (cf r) t
  q : HQ.HpL K O12 H Q ps
  it : ∀ p ∈ ps, EntAt H p.1 p.2
  ne : A ≠ B
  fr : H1 x = none ∧ H1 A = none ∧ H1 B = none ∧ H1 Q = none
  sm : Same H1 H
def ExQ (A B Q : Addr) (H H' : Hp) : Prop := ∀ a o, a ≠ A → a ≠ B → a ≠ Q → H a = some o → H' a = some o
theorem ExQ.refl (A B Q : Addr) (H : Hp) : ExQ A B Q H H := fun _ _ _ _ _ h => h
theorem ExQ.trans {A B Q : Addr} {H H' H'' : Hp} (h : ExQ A B Q H H') (k : ExQ A B Q H' H'') : ExQ A B Q H H'' := fun a o n1 n2 n3 e => k a o n1 n2 n3 (h a o n1 n2 n3 e)
theorem ExQ.same {A B Q : Addr} {H H' : Hp} (h : Same H H') : ExQ A B Q H H' := fun a o _ _ _ e => h a o e
def spSearch (C : Addr) : Sp := fun vs H Q _ => ∃ (x dx : Addr), vs = [.ref x] ∧ H x = some (.ins C dx []) ∧ ∀ (H' : Hp) (A B q : Addr), Ex x H H' → H A = none → H B = none → H q = none → A ≠ B → H' x = some (.ins C dx (sf A B q)) → H' A = some (.dT []) → H' B = some (.dT []) → H' q = some (.lst []) → Q .non H'
def spOffer (K : PySem.W.Frag) (C : Addr) : Sp := fun vs H Q _ => ∃ (x A B q rt ct ot : Addr) (as : List Arc) (ms : List Nat) (H1 : Hp) (rs : List Rest) (cf : Rest → Cst) (D : List Rest) (ps : List (V × Ent)) (r : Rest) (c : Cst),
  vs = [.ref x, .ref rt, .ref ct, .ref ot] ∧ SrAt K C as ms H1 H x A B q rs cf D ps ∧ H rt = some (restHO r) ∧ H ct = some (costHO c) ∧ OT as ms H cf D r c ot ∧ rs.length < sizeLine ∧ ps.length < sizeLine ∧ ((r ∉ rs ∨ clt c (cf r)) → r ∉ D) ∧
  (¬ (r ∉ rs ∨ clt c (cf r)) → Q .non H) ∧
  ((r ∉ rs ∨ clt c (cf r)) → ∀ (H' : Hp) (ps' : List (V × Ent)), ExQ A B q H H' → SrAt K C as ms H1 H' x A B q (insR rs r) (setC cf r c) D ps' → ps'.length = ps.length + 1 → (∀ z, z ∈ ps'.map (·.2) ↔ z ∈ ps.map (·.2) ∨ z = (c, r)) → Q .non H')
section
variable {P : Program} {w : World} {K : PySem.W.Frag} {mg : Str → Option Value} {base : Heap}
theorem ok_Search_init (T : Tx K mg) : FnOk P w K mg base CX0 1 T.f_Search_init T.fd_Search_init P_Search_init (spSearch T.C_Search) := by
  refine T.F_Search_init.ok sc_Search_init (fun vs H Q E h => ?_) (fun cdv A outer s H vs Q E hr h => ?_)
  · obtain ⟨x, dx, rfl, _⟩ := h
    rfl
  · obtain ⟨x, dx, rfl, hx, k⟩ := h
    refine ⟨_, (pss_cons (ps_fld (pv 0) pe_dnewT rfl)
        (pss_cons (ps_fld (pv 0) pe_dnewT rfl)
        (pss_one (ps_fld (pv 0) (pe_lst pa_nil) rfl)))), ?_⟩
    intro A hA
    have s1 : Same H (upd H A (.dT [])) := Same.new _ hA
    have g1 : upd H A (.dT []) A = some (.dT []) := upd_same
    have nA : x ≠ A := fun z => by rw [z, hA] at hx; cases hx
    have h1 := s1 _ _ hx
    generalize upd H A (.dT []) = H1 at *
    refine ⟨_, rfl, x, _, dx, _, rfl, h1, T.cl_Search, T.na_Search_costs, (by show 0 < 1000; decide), ?_⟩
    have x1 : Ex x H (upd H1 x (.ins T.C_Search dx (putF "costs" (.ref A) []))) := (Same.ex s1).trans (Ex.upd _)
    have h2 : upd H1 x (.ins T.C_Search dx (putF "costs" (.ref A) [])) x = some (.ins T.C_Search dx (putF "costs" (.ref A) [])) := upd_same
    have g2 : upd H1 x (.ins T.C_Search dx (putF "costs" (.ref A) [])) A = some (.dT []) := by rw [upd_ne (Ne.symm nA)]; exact g1
    generalize upd H1 x (.ins T.C_Search dx (putF "costs" (.ref A) [])) = H2 at *
    intro B hB
    have s3 : Same H2 (upd H2 B (.dT [])) := Same.new _ hB
    have g3 : upd H2 B (.dT []) B = some (.dT []) := upd_same
    have nB : x ≠ B := fun z => by rw [z, hB] at h2; cases h2
    have nAB : A ≠ B := fun z => by rw [z, hB] at g2; cases g2
    have hB0 : H B = none := by
      cases e : H B with
      | none => rfl
      | some o => rw [x1 _ _ (Ne.symm nB) e] at hB; cases hB
    have h3 := s3 _ _ h2
    have ga3 := s3 _ _ g2
    have x3 := x1.trans (Same.ex s3)
    generalize upd H2 B (.dT []) = H3 at *
    refine ⟨_, rfl, x, _, dx, _, rfl, h3, T.cl_Search, T.na_Search_origins, (by show 1 < 1000; decide), ?_⟩
    have x4 := x3.trans (Ex.upd (.ins T.C_Search dx (putF "origins" (.ref B) (putF "costs" (.ref A) []))))
    have h4 : upd H3 x (.ins T.C_Search dx (putF "origins" (.ref B) (putF "costs" (.ref A) []))) x = some (.ins T.C_Search dx (putF "origins" (.ref B) (putF "costs" (.ref A) []))) := upd_same
    have ga4 : upd H3 x (.ins T.C_Search dx (putF "origins" (.ref B) (putF "costs" (.ref A) []))) A = some (.dT []) := by rw [upd_ne (Ne.symm nA)]; exact ga3
    have gb4 : upd H3 x (.ins T.C_Search dx (putF "origins" (.ref B) (putF "costs" (.ref A) []))) B = some (.dT []) := by rw [upd_ne (Ne.symm nB)]; exact g3
    generalize upd H3 x (.ins T.C_Search dx (putF "origins" (.ref B) (putF "costs" (.ref A) []))) = H4 at *
    refine ⟨Nat.zero_le _, fun q hq => ?_⟩
    have s5 : Same H4 (upd H4 q (.lst [])) := Same.new _ hq
    have g5 : upd H4 q (.lst []) q = some (.lst []) := upd_same
    have nq : x ≠ q := fun z => by rw [z, hq] at h4; cases h4
    have hq0 : H q = none := by
      cases e : H q with
      | none => rfl
      | some o => rw [x4 _ _ (Ne.symm nq) e] at hq; cases hq
    have h5 := s5 _ _ h4
    have ga5 := s5 _ _ ga4
    have gb5 := s5 _ _ gb4
    have x5 := x4.trans (Same.ex s5)
    generalize upd H4 q (.lst []) = H5 at *
    refine ⟨_, rfl, x, _, dx, _, rfl, h5, T.cl_Search, T.na_Search_queue, (by show 2 < 1000; decide), ?_⟩
    refine k _ A B q (x5.trans (Ex.upd _)) hA hB0 hq0 nAB upd_same ?_ ?_ ?_
    · rw [upd_ne (Ne.symm nA)]; exact ga5
    · rw [upd_ne (Ne.symm nB)]; exact gb5
    · rw [upd_ne (Ne.symm nq)]; exact g5
end
end J


set_option Elab.async false
set_option linter.all false
set_option maxRecDepth 100000
set_option maxHeartbeats 4000000
namespace J
open PySem L2
/-! ### offer -/
theorem ne3 {H : Hp} {x y : Addr} {o p : HO} (h : H x = some o) (k : H y = some p) (n : o ≠ p) : x ≠ y := fun z => n (by rw [z, k] at h; exact (Option.some.inj h).symm)
theorem insR_len (rs : List Rest) (r : Rest) : (insR rs r).length ≤ rs.length + 1 := by
  unfold insR
  split <;> simp
theorem di_of {K : PySem.W.Frag} {H : Hp} {et rt ct : Addr} {c : Cst} {r : Rest} (h : H et = some (.tup [.ref ct, .ref rt])) (h1 : H ct = some (costHO c)) (h2 : H rt = some (restHO r)) : HQ.DI K O12 H (.ref et) (c, r) := fun H' tp =>
  .tup (SqT.of (tp _ _ h)) (.cons (.tup (SqT.of (tp _ _ h1)) (.cons (.int _) (.cons (.int _) .nil))) (.cons (.tup (SqT.of (tp _ _ h2)) (.cons (.int _) (.cons (.int _) (.cons (.str _) .nil)))) .nil))
theorem HpL_to {K : PySem.W.Frag} {E : Type} {O : HQ.Ordr E} {H H' : Hp} {l : Addr} {ps : List (V × E)} (h : HQ.HpL K O H l ps) (e : H' l = H l) (tp : TPo H H') : HQ.HpL K O H' l ps :=
  ⟨e.trans h.at', fun p hp => (h.it p hp).to tp, h.ok⟩
theorem TPo.tr {H H' H'' : Hp} (h : TPo H H') (k : TPo H' H'') : TPo H H'' := fun t xs e => k t xs (h t xs e)
section
variable {P : Program} {w : World} {K : PySem.W.Frag} {mg : Str → Option Value} {base : Heap}
theorem ok_Search_offer (T : Tx K mg) : FnOk P w K mg base CX0 1 T.f_Search_offer T.fd_Search_offer P_Search_offer (spOffer K T.C_Search) := by
  refine T.F_Search_offer.ok sc_Search_offer (fun vs H Q E h => ?_) (fun cdv A outer s H vs Q E hr h => ?_)
  · obtain ⟨x, A, B, q, rt, ct, ot, as, ms, H1, rs, cf, D, ps, r, c, rfl, _⟩ := h
    rfl
  · obtain ⟨x, A, B, q, rt, ct, ot, as, ms, H1, rs, cf, D, ps, r, c, rfl, S, hrt, hct, hot, hrl, hpl, hnD, k0, k1⟩ := h
    refine ⟨_, (pss_one (ps_if (PW.pt (pw_or (pt_cmp (pc_dnotin (hu_of hr) (pv 1) (pe_fld (pv 0) rfl))) (pw_or1 (pt_cmpR (op_ltT (Nat.lt_of_le_of_lt (Nat.le_add_right _ 64) hr.units)) (pv 2) (pe_dget (hu_of hr) (pe_fld (pv 0) rfl) (pv 1) (fun _ _ => rfl)) (nomark _))))) (pss_cons (ps_dput (hu_of hr) (pe_fld (pv 0) rfl) (pv 1) (pv 2) rfl)
        (pss_cons (ps_dput (hu_of hr) (pe_fld (pv 0) rfl) (pv 1) (pv 3) rfl)
        (pss_one (ps_expr (pe_callBfun (HQ.cr_push O12 (Nat.lt_of_le_of_lt (Nat.add_le_add_left (by decide) _) hr.units)) rfl T.g_heappush (pa_cons (pe_fld (pv 0) rfl) (pa_cons (pe_tup (pa_cons (pv 2) (pa_cons (pv 1) pa_nil))) pa_nil))))))) pss_nil)), ?_⟩
    obtain ⟨⟨dx, hx⟩, ⟨kc, hA, kA, cA⟩, ⟨ko, hB, kB, oB⟩, hq, hit, nAB, fr, sm⟩ := S
    have hrt' : H rt = some (.tup ((rk r).map kV)) := by rw [← rk_HO]; exact hrt
    have get : ∀ v, valV kc (rk r) = some v → DGet H A (.ref rt) (some v) := fun v hv => by rw [← hv]; exact .t hA hrt'
    refine ⟨_, rfl, _, rfl, x, _, dx, _, _, rfl, hx, T.cl_Search, T.na_Search_costs, sf_costs _ _ _, A, _, rfl, .t hA hrt', ?_⟩
    by_cases hk : (r ∉ rs ∨ clt c (cf r))
    · refine (fun go => ⟨_, rfl, ite2 (fun _ => go) fun e => ?_⟩) ?_
      · have hkl := keys_len kA
        have hol := keys_len kB
        have nxA : x ≠ A := ne3 hx hA (fun z => HO.noConfusion z)
        have nxB : x ≠ B := ne3 hx hB (fun z => HO.noConfusion z)
        have nxq : x ≠ q := ne3 hx hq.at' (fun z => HO.noConfusion z)
        have nqA : q ≠ A := ne3 hq.at' hA (fun z => HO.noConfusion z)
        have nqB : q ≠ B := ne3 hq.at' hB (fun z => HO.noConfusion z)
        refine ite2 (fun _ => ?_) fun z => absurd rfl z
        refine ⟨_, rfl, _, rfl, x, _, dx, _, _, rfl, hx, T.cl_Search, T.na_Search_costs, sf_costs _ _ _, _, rfl, A, _, rfl, .t hA hrt' (by omega), ?_⟩
        have tp1 : TPo H (upd H A (.dT (putK kc (rk r) (.ref ct)))) := TPo.upd hA (fun _ z => HO.noConfusion z)
        have x1 : ExQ A B q H (upd H A (.dT (putK kc (rk r) (.ref ct)))) := fun a o n1 n2 n3 e => by rw [upd_ne n1]; exact e
        have sm1 : Same H1 (upd H A (.dT (putK kc (rk r) (.ref ct)))) := sm.updNew fr.2.1
        have hx1 : upd H A (.dT (putK kc (rk r) (.ref ct))) x = _ := (upd_ne nxA).trans hx
        have hA1 : upd H A (.dT (putK kc (rk r) (.ref ct))) A = some (.dT (putK kc (rk r) (.ref ct))) := upd_same
        have hB1 : upd H A (.dT (putK kc (rk r) (.ref ct))) B = _ := (upd_ne (Ne.symm nAB)).trans hB
        have hq1 : upd H A (.dT (putK kc (rk r) (.ref ct))) q = H q := upd_ne nqA
        generalize upd H A (.dT (putK kc (rk r) (.ref ct))) = H2 at *
        refine ⟨_, rfl, _, rfl, x, _, dx, _, _, rfl, hx1, T.cl_Search, T.na_Search_origins, sf_origins _ _ _, _, rfl, B, _, rfl, .t hB1 (tp1 _ _ hrt') (by omega), ?_⟩
        have tp2 : TPo H (upd H2 B (.dT (putK ko (rk r) (.ref ot)))) := tp1.tr (TPo.upd hB1 (fun _ z => HO.noConfusion z))
        have x2 : ExQ A B q H (upd H2 B (.dT (putK ko (rk r) (.ref ot)))) := fun a o n1 n2 n3 e => by rw [upd_ne n2]; exact x1 a o n1 n2 n3 e
        have sm2 : Same H1 (upd H2 B (.dT (putK ko (rk r) (.ref ot)))) := sm1.updNew fr.2.2.1
        have hx2 : upd H2 B (.dT (putK ko (rk r) (.ref ot))) x = _ := (upd_ne nxB).trans hx1
        have hA2 : upd H2 B (.dT (putK ko (rk r) (.ref ot))) A = _ := (upd_ne nAB).trans hA1
        have hB2 : upd H2 B (.dT (putK ko (rk r) (.ref ot))) B = some (.dT (putK ko (rk r) (.ref ot))) := upd_same
        have hq2 : upd H2 B (.dT (putK ko (rk r) (.ref ot))) q = H q := (upd_ne nqB).trans hq1
        generalize upd H2 B (.dT (putK ko (rk r) (.ref ot))) = H3 at *
        refine ⟨_, rfl, x, _, dx, _, _, rfl, hx2, T.cl_Search, T.na_Search_queue, sf_queue _ _ _, _, rfl, _, rfl, le_size (by simp), fun et het => ?_⟩
        have s4 : Same H3 (upd H3 et (.tup [V.ref ct, V.ref rt])) := Same.new _ het
        have tp4 := tp2.tr (TPo.same s4)
        have x4 := x2.trans (ExQ.same s4)
        have sm4 := sm2.trans s4
        have hx4 := s4 _ _ hx2
        have hA4 := s4 _ _ hA2
        have hB4 := s4 _ _ hB2
        have nqe : q ≠ et := fun z => by rw [hq.at', z, het] at hq2; cases hq2
        have hq4 : upd H3 et (.tup [V.ref ct, V.ref rt]) q = H q := (upd_ne nqe).trans hq2
        have he4 : upd H3 et (.tup [V.ref ct, V.ref rt]) et = some (.tup [V.ref ct, V.ref rt]) := upd_same
        generalize upd H3 et (.tup [V.ref ct, V.ref rt]) = H4 at *
        refine ⟨q, .ref et, ps, (c, r), rfl, HpL_to hq hq4 tp4, di_of he4 (tp4 _ _ hct) (tp4 _ _ hrt), hpl, fun ps' hl' hm hq' => ?_⟩
        have gq4 : H4 q = some (.lst (ps.map (·.1))) := hq4.trans hq.at'
        have tp5 : TPo H (upd H4 q (.lst (ps'.map (·.1)))) := tp4.tr (TPo.upd gq4 (fun _ z => HO.noConfusion z))
        have nD := hnD hk
        have s1 : setC cf r c r = c := if_pos rfl
        have s2 : ∀ y, y ≠ r → setC cf r c y = cf y := fun y hy => if_neg hy
        have sD : ∀ y ∈ D, setC cf r c y = cf y := fun y hy => s2 y fun z => nD (z ▸ hy)
        refine k1 hk _ ps' (fun a o n1 n2 n3 e => by rw [upd_ne n3]; exact x4 a o n1 n2 n3 e) ?_ hl' (fun z => ?_)
        · refine ⟨⟨dx, (upd_ne nxq).trans hx4⟩, ⟨_, (upd_ne (Ne.symm nqA)).trans hA4, putK_keys kA r _, fun r0 v h => ?_⟩, ⟨_, (upd_ne (Ne.symm nqB)).trans hB4, putK_keys kB r _, fun r0 v h => ?_⟩, hq', fun p hp => ?_, nAB, fr, sm4.updNew fr.2.2.2⟩
          · rw [valV_put] at h
            by_cases e : r0 = r
            · subst e
              rw [if_pos rfl] at h
              cases h
              exact ⟨ct, rfl, by rw [s1]; exact tp5 _ _ hct⟩
            · rw [if_neg fun z => e (rk_inj z)] at h
              obtain ⟨t, e1, e2⟩ := cA r0 v h
              exact ⟨t, e1, by rw [s2 r0 e]; exact tp5 _ _ e2⟩
          · rw [valV_put] at h
            by_cases e : r0 = r
            · subst e
              rw [if_pos rfl] at h
              cases h
              exact ⟨ot, rfl, by rw [s1]; exact hot.to tp5 sD fun _ z => z⟩
            · rw [if_neg fun z => e (rk_inj z)] at h
              obtain ⟨t, e1, e2⟩ := oB r0 v h
              exact ⟨t, e1, by rw [s2 r0 e]; exact e2.to tp5 sD fun _ z => z⟩
          · rcases (hm p).mp hp with hp | rfl
            · exact (hit p hp).to tp5
            · have tp45 : TPo H4 (upd H4 q (.lst (ps'.map (·.1)))) := TPo.upd gq4 (fun _ z => HO.noConfusion z)
              exact ⟨et, ct, rt, rfl, tp45 _ _ he4, tp5 _ _ hct, tp5 _ _ hrt⟩
        · rw [List.mem_map, List.mem_map]
          constructor
          · rintro ⟨y, hy, rfl⟩
            rcases (hm y).mp hy with hy | rfl
            · exact .inl ⟨y, hy, rfl⟩
            · exact .inr rfl
          · rintro (⟨y, hy, rfl⟩ | rfl)
            · exact ⟨y, (hm y).mpr (.inl hy), rfl⟩
            · exact ⟨_, (hm _).mpr (.inr rfl), rfl⟩
      · cases ev : valV kc (rk r) with
        | none => rw [ev] at e; exact absurd rfl e
        | some v =>
          have hr2 := keys_some kA ev
          have hk2 : clt c (cf r) := hk.resolve_left fun z => z hr2
          obtain ⟨tv, rfl, htv⟩ := cA r v ev
          refine ⟨_, rfl, _, rfl, x, _, dx, _, _, rfl, hx, T.cl_Search, T.na_Search_costs, sf_costs _ _ _, _, rfl, A, _, rfl, get _ ev, ct, tv, [(c.1 : Int), (c.2 : Int)], [((cf r).1 : Int), ((cf r).2 : Int)], rfl, rfl, SqT.of hct, SqT.of htv, _, rfl, ?_⟩
          rw [lexLt_two, decide_eq_true hk2]
          exact go
    · refine ⟨_, rfl, ?_⟩
      cases ev : valV kc (rk r) with
      | none => exact absurd (.inl (keys_none kA ev)) hk
      | some v =>
        obtain ⟨tv, rfl, htv⟩ := cA r v ev
        refine ite2 (fun z => absurd z (by simp)) fun _ => ?_
        refine ⟨_, rfl, _, rfl, x, _, dx, _, _, rfl, hx, T.cl_Search, T.na_Search_costs, sf_costs _ _ _, _, rfl, A, _, rfl, get _ ev, ct, tv, [(c.1 : Int), (c.2 : Int)], [((cf r).1 : Int), ((cf r).2 : Int)], rfl, rfl, SqT.of hct, SqT.of htv, _, rfl, ?_⟩
        rw [lexLt_two, decide_eq_false fun z => hk (.inr z)]
        exact k0 hk
end
end J


set_option Elab.async false
set_option linter.all false
set_option maxRecDepth 100000
set_option maxHeartbeats 4000000
namespace J
open PySem L2
/-! ### double -/
section
variable {K : PySem.W.Frag} {C : Addr} {as : List Arc} {ms : List Nat} {H1 H H' : Hp} {x A B q : Addr} {rs : List Rest} {cf : Rest → Cst} {D D' : List Rest} {ps ps' : List (V × Ent)}
theorem SrAt.same (S : SrAt K C as ms H1 H x A B q rs cf D ps) (s : Same H H') : SrAt K C as ms H1 H' x A B q rs cf D ps := by
  obtain ⟨⟨dx, hx⟩, ⟨kc, hA, kA, cA⟩, ⟨ko, hB, kB, oB⟩, hq, hit, nAB, fr, sm⟩ := S
  refine ⟨⟨dx, s _ _ hx⟩, ⟨kc, s _ _ hA, kA, fun r v h => ?_⟩, ⟨ko, s _ _ hB, kB, fun r v h => ?_⟩, HpL_to hq ((s _ _ hq.at').trans hq.at'.symm) (TPo.same s), fun p hp => (hit p hp).to (TPo.same s), nAB, fr, sm.trans s⟩
  · obtain ⟨t, e1, e2⟩ := cA r v h
    exact ⟨t, e1, s _ _ e2⟩
  · obtain ⟨t, e1, e2⟩ := oB r v h
    exact ⟨t, e1, e2.to (TPo.same s) (fun _ _ => rfl) fun _ z => z⟩
theorem SrAt.grow (S : SrAt K C as ms H1 H x A B q rs cf D ps) (hD : ∀ y ∈ D, y ∈ D') : SrAt K C as ms H1 H x A B q rs cf D' ps := by
  obtain ⟨hx, ha, ⟨ko, hB, kB, oB⟩, hq, hit, nAB, fr, sm⟩ := S
  refine ⟨hx, ha, ⟨ko, hB, kB, fun r v h => ?_⟩, hq, hit, nAB, fr, sm⟩
  obtain ⟨t, e1, e2⟩ := oB r v h
  exact ⟨t, e1, e2.to (fun _ _ z => z) (fun _ _ => rfl) hD⟩
theorem SrAt.pop (S : SrAt K C as ms H1 H x A B q rs cf D ps) (hq' : HQ.HpL K O12 (upd H q (.lst (ps'.map (·.1)))) q ps') (sub : ∀ z ∈ ps', z ∈ ps) :
    SrAt K C as ms H1 (upd H q (.lst (ps'.map (·.1)))) x A B q rs cf D ps' ∧ ExQ A B q H (upd H q (.lst (ps'.map (·.1)))) ∧ TPo H (upd H q (.lst (ps'.map (·.1)))) := by
  obtain ⟨⟨dx, hx⟩, ⟨kc, hA, kA, cA⟩, ⟨ko, hB, kB, oB⟩, hq, hit, nAB, fr, sm⟩ := S
  have tp : TPo H (upd H q (.lst (ps'.map (·.1)))) := TPo.upd hq.at' (fun _ z => HO.noConfusion z)
  refine ⟨⟨⟨dx, (upd_ne (ne3 hx hq.at' (fun z => HO.noConfusion z))).trans hx⟩, ⟨kc, (upd_ne (ne3 hA hq.at' (fun z => HO.noConfusion z))).trans hA, kA, fun r v h => ?_⟩, ⟨ko, (upd_ne (ne3 hB hq.at' (fun z => HO.noConfusion z))).trans hB, kB, fun r v h => ?_⟩, hq', fun p hp => (hit p (sub p hp)).to tp, nAB, fr, sm.updNew fr.2.2.2⟩, fun a o _ _ n3 e => by rw [upd_ne n3]; exact e, tp⟩
  · obtain ⟨t, e1, e2⟩ := cA r v h
    exact ⟨t, e1, tp _ _ e2⟩
  · obtain ⟨t, e1, e2⟩ := oB r v h
    exact ⟨t, e1, e2.to tp (fun _ _ => rfl) fun _ z => z⟩
theorem SrAt.org (S : SrAt K C as ms H1 H x A B q rs cf D ps) (hD : ∀ r ∈ D, r ∈ rs) : ∃ ko : List (List Key × V), H B = some (.dT ko) ∧ OrgG as ms H ko (fun r => (cf r).2) ∧ ∀ r ∈ rs, ∃ v, valV ko (rk r) = some v := by
  obtain ⟨_, _, ⟨ko, hB, kB, oB⟩, _, _, _, _, _⟩ := S
  refine ⟨ko, hB, fun r v hv => ?_, fun r hr => val_some kB hr⟩
  obtain ⟨t, e, c⟩ := oB r v hv
  refine ⟨t, e, ?_⟩
  rcases c with ⟨st, s0, rt, a1, a2, a3, a4⟩ | ⟨s, r', b, s0, rt, a1, a2, a3, a4, a5⟩
  · exact .inl ⟨st, s0, rt, a1, a2, a4⟩
  · refine .inr ⟨s, r', b, s0, rt, ?_, val_some kB (hD r' a1), a3, a4, a5⟩
    show (cf r').2 < (cf r).2
    rw [a2]
    exact Nat.lt_succ_self _
theorem SrAt.cost (S : SrAt K C as ms H1 H x A B q rs cf D ps) {r : Rest} (hr : r ∈ rs) : ∃ (kc : List (List Key × V)) (t : Addr), H A = some (.dT kc) ∧ valV kc (rk r) = some (.ref t) ∧ H t = some (costHO (cf r)) := by
  obtain ⟨_, ⟨kc, hA, kA, cA⟩, _⟩ := S
  obtain ⟨v, hv⟩ := val_some kA hr
  obtain ⟨t, rfl, ht⟩ := cA r v hv
  exact ⟨kc, t, hA, hv, ht⟩
theorem Dj.init (as : List Arc) (ms : List Nat) : Dj as ms [] (fun _ => (0, 0)) (fun _ => False) [] (0, 0) (fun _ _ => False) (fun _ => False) :=
  ⟨⟨List.nodup_nil, fun _ h => (nomatch h)⟩, fun _ h => h.elim, fun _ h => h.elim, List.nodup_nil, fun _ h => (nomatch h), fun _ h => (nomatch h), fun _ h => (nomatch h), fun _ h => (nomatch h), fun _ _ h => h.elim, fun _ _ h => h.elim, fun _ h => h.elim⟩
theorem Dj.to {qs qs' : Ent → Prop} {f : Cst} {Of : Rest → Step → Prop} {Os : Start → Prop} (h : Dj as ms rs cf qs D f Of Os) (e : ∀ z, qs z ↔ qs' z) : Dj as ms rs cf qs' D f Of Os :=
  ⟨h.cov, fun z k => h.q1 z ((e z).mpr k), fun z k => h.q2 z ((e z).mpr k), h.dn, h.dr, h.d1, fun r h1 h2 => (e _).mp (h.w r h1 h2), h.b, h.oD, h.o, h.os⟩
/-- nothing waits: every rest is gone on from -/
theorem Dj.all {qs : Ent → Prop} {f : Cst} (h : Dj as ms rs cf qs D f (fun r s => r ∈ D ∧ s ∈ stepsL as r) (fun st => st ∈ startsL as ms)) (e : ∀ z, ¬ qs z) : ∀ r, Rch as ms r → r ∈ D := fun r hr => by
  have inD : ∀ r, r ∈ rs → r ∈ D := fun r h1 => Decidable.byContradiction fun h2 => e _ (h.w r h1 h2)
  induction hr with
  | start hs => exact inD _ (h.os _ hs).1
  | step _ hs ih => exact inD _ (h.o _ _ ⟨ih, hs⟩).1
theorem left12 (oka : OkAll as) {r : Rest} (hr : Rch as ms r) : r.2.2.length ≤ 12 := by
  obtain ⟨_, _, c, hc, kk, _, e⟩ := rch_in oka hr
  rw [e, List.length_drop]
  have := (oka.2 c hc).2.2.1
  omega
end
/-- at most n rests -/
def FewR (as : List Arc) (n : Nat) : Prop := ∀ (ms : List Nat) (rs : List Rest), ms.Pairwise (· < ·) → (∀ x, x ∈ ms ↔ Reach as x) → Cov as ms rs → rs.length ≤ n
theorem ne_of' : ¬ (("offer" : Str) = "queue") := by decide +kernel
theorem ne_oo : ¬ (("offer" : Str) = "origins") := by decide +kernel
theorem ne_oc : ¬ (("offer" : Str) = "costs") := by decide +kernel
theorem sf_offer (A B Q : Addr) : (sf A B Q).lookup ("offer" : Str) = none := by
  unfold sf
  rw [lookup_putF, if_neg ne_of', lookup_putF, if_neg ne_oo, lookup_putF, if_neg ne_oc]
  rfl
theorem eqv_cost (c d : Cst) : PySem.PyData.eqv (.tuple [.int (c.1 : Nat), .int (c.2 : Nat)]) (.tuple [.int (d.1 : Nat), .int (d.2 : Nat)]) = decide (c = d) := by
  obtain ⟨a, b⟩ := c
  obtain ⟨a', b'⟩ := d
  simp only [PySem.PyData.eqv, PySem.PyData.eqvAll, Bool.and_true]
  by_cases h : a = a' ∧ b = b'
  · obtain ⟨rfl, rfl⟩ := h
    simp
  · rw [decide_eq_false fun z => h (by injection z with z1 z2; exact ⟨z1, z2⟩)]
    by_cases h1 : a = a'
    · have h2 : ¬ (b : Int) = b' := fun z => h ⟨h1, by omega⟩
      simp [h2]
    · have h2 : ¬ (a : Int) = a' := fun z => h1 (by omega)
      simp [h2]
theorem dp_cost {K : PySem.W.Frag} {H : Hp} {t : Addr} {c : Cst} (h : H t = some (costHO c)) : Dp K H (.ref t) (.tuple [.int (c.1 : Nat), .int (c.2 : Nat)]) := .tup (SqT.of h) (.cons (.int _) (.cons (.int _) .nil))
def spDouble (C : Addr) : Sp := fun vs H Q _ => ∃ (q : Addr) (sg : List Nat) (us : List V) (as : List Arc) (n : Nat), vs = [.ref q] ∧ LoomAt C H q sg us as ∧ FewR as n ∧ n ≤ 60000 ∧
  (∀ (H' : Hp) (ms : List Nat), Same H H' → ms.Pairwise (· < ·) → (∀ x, x ∈ ms ↔ Reach as x) → (∀ r, Rch as ms r → evenB r = false) → Q .non H') ∧
  ∀ (H' : Hp) (ms : List Nat) (t a b : Addr) (g : Nat) (X Y : List Nat) (r : Rest), Same H H' → H t = none → H a = none → H b = none → ms.Pairwise (· < ·) → (∀ x, x ∈ ms ↔ Reach as x) → Rch as ms r → evenB r = true →
    H' t = some (.tup [.int (g : Int), .ref a, .ref b]) → H' a = some (.lst (nats X)) → H' b = some (.lst (nats Y)) → g ∈ ms → PairR as g X Y r → X ≠ [] → Y ≠ [] → X.headD 0 ≠ Y.headD 0 → X.length + Y.length ≤ n + 4 → Q (.ref t) H'
section
variable {P : Program} {w : World} {K : PySem.W.Frag} {mg : Str → Option Value} {base : Heap}
theorem ok_double (T : Tx K mg) : FnOk P w K mg base CX0 3 T.f_double T.fd_double P_double (spDouble T.C_Loom) := by
  have G_arcs_by_state : FnOk P w K mg base CX0 1 T.f_arcs_by_state T.fd_arcs_by_state P_arcs_by_state (spArcsBy T.C_Loom) := ok_arcs_by_state T
  have G_starts : FnOk P w K mg base CX0 2 T.f_starts T.fd_starts P_starts (spStarts T.C_Loom) := ok_starts T
  have G_steps : FnOk P w K mg base CX0 1 T.f_steps T.fd_steps P_steps (spSteps K) := ok_steps T
  have G_is_even : FnOk P w K mg base CX0 1 T.f_is_even T.fd_is_even P_is_even (spEven K) := ok_is_even T
  have G_pair_at : FnOk P w K mg base CX0 2 T.f_pair_at T.fd_pair_at P_pair_at spPair := ok_pair_at T
  have G_Search_init : FnOk P w K mg base CX0 1 T.f_Search_init T.fd_Search_init P_Search_init (spSearch T.C_Search) := ok_Search_init T
  have G_Search_offer : FnOk P w K mg base CX0 1 T.f_Search_offer T.fd_Search_offer P_Search_offer (spOffer K T.C_Search) := ok_Search_offer T
  refine T.F_double.ok sc_double (fun vs H Q E h => ?_) (fun cdv A outer s H vs Q E hr h => ?_)
  · obtain ⟨q, sg, us, as, n, rfl, _⟩ := h
    rfl
  · obtain ⟨q, sg, us, as, n, rfl, hL, few, hn, kN, kP⟩ := h
    refine ⟨_, (pss_cons (ps_set (i := 1) sc_double.nd rfl (Or.inl rfl) (pe_call G_arcs_by_state (hr.mono (by decide)) rfl T.m_arcs_by_state T.F_arcs_by_state.kp T.b_arcs_by_state .nil pass0 (pa_cons (pv 0) pa_nil)))
        (pss_cons (ps_set (i := 2) sc_double.nd rfl (Or.inl rfl) (pe_make0 T.M_Search G_Search_init (hr.mono (by decide)) rfl T.g_Search T.b_Search_init .nil pass0))
        (pss_cons (ps_for PassesOwn.never rfl (pi_list (pe_call G_starts (hr.mono (by decide)) rfl T.m_starts T.F_starts.kp T.b_starts .nil pass0 (pa_cons (pv 0) pa_nil))) (pg_name (i := 3) sc_double.nd rfl (Or.inl rfl)) (pss_cons (ps_asg (pv 3) (pg_tup rfl (pgs_cons (pg_name (i := 4) sc_double.nd rfl (Or.inl rfl)) (pgs_cons (pg_name (i := 5) sc_double.nd rfl (Or.inl rfl)) (pgs_cons (pg_name (i := 5) sc_double.nd rfl (Or.inl rfl)) (pgs_cons (pg_name (i := 6) sc_double.nd rfl (Or.inl rfl)) pgs_nil))))))
        (pss_one (ps_expr (pe_meth (pv 2) T.cl_Search T.me_Search_offer G_Search_offer (hr.mono (by decide)) T.b_Search_offer .nil pass0 (pa_cons (pv 4) (pa_cons (pe_tup (pa_cons (pe_callB call_len_str rfl T.n_len (by decide +kernel) (pa_cons (pe_ix (ix_tupK (K := K) rfl) (pe_ix (ix_tupK (K := K) rfl) (pe_fld (pv 0) rfl) (pv 6) (fun _ _ => rfl)) pe_int (fun _ _ => rfl)) pa_nil)) (pa_cons pe_int pa_nil))) (pa_cons (pe_tup (pa_cons pe_non (pa_cons (pv 3) pa_nil))) pa_nil))))))))
        (pss_cons (ps_while PassesOwn.never (pt_truth (pe_fld (pv 2) rfl) (by intro _; rfl)) (pss_cons (ps_asg (pe_callBfun (HQ.cr_pop O12 (Nat.lt_of_le_of_lt (Nat.add_le_add_left (by decide) _) hr.units)) rfl T.g_heappop (pa_cons (pe_fld (pv 2) rfl) pa_nil)) (pg_tup rfl (pgs_cons (pg_name (i := 7) sc_double.nd rfl (Or.inl rfl)) (pgs_cons (pg_name (i := 4) sc_double.nd rfl (Or.inl rfl)) pgs_nil))))
        (pss_cons (ps_if (pt_val (pe_call G_is_even (hr.mono (by decide)) rfl T.m_is_even T.F_is_even.kp T.b_is_even .nil pass0 (pa_cons (pv 4) pa_nil))) (pss_one (ps_ret (pe_call G_pair_at (hr.mono (by decide)) rfl T.m_pair_at T.F_pair_at.kp T.b_pair_at .nil pass0 (pa_cons (pe_fld (pv 2) rfl) (pa_cons (pv 4) pa_nil))))) pss_nil)
        (pss_one (ps_if (pt_cmpR (op_eqD hr.units) (pv 7) (pe_dget (hu_of hr) (pe_fld (pv 2) rfl) (pv 4) (fun _ _ => rfl)) (nomark _)) (pss_one (ps_for PassesOwn.never rfl (pi_list (pe_call G_steps (hr.mono (by decide)) rfl T.m_steps T.F_steps.kp T.b_steps .nil pass0 (pa_cons (pv 1) (pa_cons (pv 4) pa_nil)))) (pg_name (i := 8) sc_double.nd rfl (Or.inl rfl)) (pss_cons (ps_asg (pv 8) (pg_tup rfl (pgs_cons (pg_name (i := 9) sc_double.nd rfl (Or.inl rfl)) (pgs_cons (pg_name (i := 5) sc_double.nd rfl (Or.inl rfl)) (pgs_cons (pg_name (i := 10) sc_double.nd rfl (Or.inl rfl)) pgs_nil)))))
        (pss_cons (ps_set (i := 11) sc_double.nd rfl (Or.inl rfl) (pe_ifExp (pt_cmpR op_eq (pv 10) pe_int (nomark _)) (pe_callB call_len_str rfl T.n_len (by decide +kernel) (pa_cons (pe_ix (ix_tupK (K := K) rfl) (pv 9) pe_int (fun _ _ => rfl)) pa_nil)) pe_int))
        (pss_one (ps_expr (pe_meth (pv 2) T.cl_Search T.me_Search_offer G_Search_offer (hr.mono (by decide)) T.b_Search_offer .nil pass0 (pa_cons (pv 9) (pa_cons (pe_tup (pa_cons (pe_op op_add (pe_ix (ix_tupK (K := K) rfl) (pv 7) pe_int (fun _ _ => rfl)) (pv 11)) (pa_cons (pe_op op_add (pe_ix (ix_tupK (K := K) rfl) (pv 7) pe_int (fun _ _ => rfl)) pe_int) pa_nil))) (pa_cons (pe_tup (pa_cons (pv 4) (pa_cons (pv 8) pa_nil))) pa_nil)))))))))) pss_nil)))))
        (pss_one (ps_ret pe_non)))))), ?_⟩
    obtain ⟨_, _, _, _, _, hok, _⟩ := id hL
    have oka := hok.all
    have hal := hok.2.1
    have haw : ∀ a ∈ as, a.2.1.length ≤ 12 := fun a ha => (oka.2 a ha).2.2.1
    refine ⟨_, rfl, q, sg, us, as, rfl, hL, fun Hx d sx tab => ?_⟩
    have hLx := hL.same sx
    refine fun x dx hx0 hdx0 nxd => ?_
    have sN : Same Hx (upd (upd Hx dx (.own x)) x (.ins T.C_Search dx [])) := (Same.new _ hdx0).updNew hx0
    have gN : upd (upd Hx dx (.own x)) x (.ins T.C_Search dx []) x = some (.ins T.C_Search dx []) := upd_same
    generalize upd (upd Hx dx (.own x)) x (.ins T.C_Search dx []) = HN at *
    refine ⟨x, dx, rfl, gN, fun H1 cA cB cQ x1 hA0 hB0 hQ0 nAB hx1 gA gB gQ => ⟨rfl, ?_⟩⟩
    have s1 : Same Hx H1 := fun a o e => x1 a o (fun z => by rw [z, hx0] at e; cases e) (sN a o e)
    have fr : Hx x = none ∧ Hx cA = none ∧ Hx cB = none ∧ Hx cQ = none := ⟨hx0, sN.free hA0, sN.free hB0, sN.free hQ0⟩
    clear x1 gN hA0 hB0 hQ0 sN hdx0 nxd
    refine ⟨_, rfl, q, sg, us, as, rfl, hLx.same s1, fun H2 sp os ms s2 hsp0 hsp hms hreach hst => ?_⟩
    have S0 : SrAt K T.C_Search as ms Hx H2 x cA cB cQ [] (fun _ => (0, 0)) [] [] := SrAt.same ⟨⟨dx, hx1⟩, ⟨[], gA, rfl, fun _ _ h => by cases h⟩, ⟨[], gB, rfl, fun _ _ h => by cases h⟩, ⟨gQ, fun _ h => (nomatch h), fun d i _ hn => absurd hn (Nat.not_lt_zero _)⟩, fun _ h => (nomatch h), nAB, fr, s1⟩ s2
    have nsQ : sp ≠ cQ := fun z => by rw [z, gQ] at hsp0; cases hsp0
    have nsA : sp ≠ cA := fun z => by rw [z, gA] at hsp0; cases hsp0
    have nsB : sp ≠ cB := fun z => by rw [z, gB] at hsp0; cases hsp0
    have gA2 := s2 _ _ gA
    have gB2 := s2 _ _ gB
    have gQ2 := s2 _ _ gQ
    have hsl := startsL_lenG hal hms hreach oka
    clear gA gB gQ hx1 s1 s2 hsp0
    refine ⟨sp, rfl, ⟨_, SqL.of hsp⟩, for_list (K := K) (a := sp) (xs := os) (fun i σ H' => ∃ (v3 v4 v5 v6 : Option V) (rs : List Rest) (cf : Rest → Cst) (ps : List (V × Ent)), σ = [some (.ref q), some (.ref d), some (.ref x), v3, v4, v5, v6, none, none, none, none, none] ∧ SrAt K T.C_Search as ms Hx H' x cA cB cQ rs cf [] ps ∧
      Dj as ms rs cf (fun z => z ∈ ps.map (·.2)) [] (0, 0) (fun _ _ => False) (fun st => ∃ j, j < i ∧ (startsL as ms)[j]? = some st) ∧ ps.length ≤ i ∧ ExQ cA cB cQ H2 H') ?_ ?_ ?_ ?_⟩
    · exact ⟨none, none, none, none, [], _, [], rfl, S0, ((Dj.init as ms).to fun z => ⟨fun h => h.elim, fun h => (nomatch h)⟩).mark (fun _ _ h => .inl h) fun st ⟨j, hj, _⟩ => absurd hj (Nat.not_lt_zero _), Nat.le_refl _, ExQ.refl _ _ _ _⟩
    · rintro i σ H' _ ⟨_, _, _, _, _, _, _, _, _, _, _, x3⟩
      exact SqL.of (x3 _ _ nsA nsB nsQ hsp)
    · rintro i y σ H3 hy ⟨v3, v4, v5, v6, rs, cf, ps, rfl, S, dj, hpl, x3⟩
      have hil : i < (startsL as ms).length := by rw [← hst.1]; exact (List.getElem?_eq_some_iff.mp hy).1
      obtain ⟨st, hs⟩ : ∃ st, (startsL as ms)[i]? = some st := ⟨_, List.getElem?_eq_getElem hil⟩
      obtain ⟨t, rt, hut, ht, hrt⟩ := hst.2 i st hs
      rw [hut] at hy
      cases hy
      have keep : ∀ {t : Addr} {xs : List V}, H2 t = some (.tup xs) → H3 t = some (.tup xs) := fun h => x3 _ _ (ne3 h gA2 (fun z => HO.noConfusion z)) (ne3 h gB2 (fun z => HO.noConfusion z)) (ne3 h gQ2 (fun z => HO.noConfusion z)) h
      have ht3 := keep ht
      have hrt3 := keep hrt
      have hmem := List.mem_of_getElem? hs
      obtain ⟨g, i1, j1, a1, b1, hg, hij, ha1, hb1, ea, eb, p, est⟩ := start_of hmem
      have eoth : st.2.2.2 = j1 := by rw [est]
      have hw12 := (oka.2 b1 (List.mem_of_getElem? hb1)).2.2.1
      have hb0 := few ms rs hms hreach dj.cov
      refine ⟨_, rfl, t, _, rfl, SqT.of ht3, rfl, _, _, rfl, _, _, rfl, _, _, rfl, _, _, rfl, rfl, ?_⟩
      obtain ⟨dx', hx3⟩ := S.xx
      obtain ⟨dq, TT, hq3, hT3, harc3, _, _⟩ := hLx.same S.sm
      obtain ⟨tb, htb, harcb⟩ := harc3.2 j1 b1 hb1
      refine ⟨_, rfl, x, _, _, rfl, hx3, sf_offer _ _ _, ?_⟩
      refine ⟨_, rfl, _, rfl, q, _, dq, _, _, rfl, hq3, T.cl_Loom, T.na_Loom_arcs, lf_arcs _ _, _, rfl, TT, us, _, .ref tb, rfl, rfl, SqT.of hT3, by rw [eoth]; exact atI_nat htb, tb, _, _, _, rfl, rfl, SqT.of harcb, rfl, SX.S b1.2.1, rfl, le_size (by rw [SX.S_len]; omega), le_size (by simp), fun ct hct0 => ?_⟩
      have s4 : Same H3 (upd H3 ct (.tup [V.int ((SX.S b1.2.1).length : Int), V.int 2])) := Same.new _ hct0
      have gct : upd H3 ct (.tup [V.int ((SX.S b1.2.1).length : Int), V.int 2]) ct = some (costHO (stc as st)) := by
        rw [upd_same, SX.S_len, show stc as st = (b1.2.1.length, 2) from ?_]
        · rfl
        · unfold stc
          rw [eoth, List.getD_eq_getElem?_getD, hb1]
          rfl
      generalize upd H3 ct (.tup [V.int ((SX.S b1.2.1).length : Int), V.int 2]) = H4 at *
      refine ⟨_, rfl, le_size (by simp), fun ot hot0 => ?_⟩
      have s5 : Same H4 (upd H4 ot (.tup [V.non, V.ref t])) := Same.new _ hot0
      have got : upd H4 ot (.tup [V.non, V.ref t]) ot = some (.tup [V.non, V.ref t]) := upd_same
      have s35 := s4.trans s5
      have gct5 := s5 _ _ gct
      generalize upd H4 ot (.tup [V.non, V.ref t]) = H5 at *
      have ec : stc as st = (b1.2.1.length, 2) := by
        unfold stc
        rw [eoth, List.getD_eq_getElem?_getD, hb1]
        rfl
      have hcf : clt (0, 0) (stc as st) := by rw [ec]; unfold clt; show 0 < b1.2.1.length ∨ 0 = b1.2.1.length ∧ 0 < 2; omega
      have S5 := S.same s35
      have x5 := x3.trans (ExQ.same s35)
      refine ⟨x, cA, cB, cQ, rt, ct, ot, as, ms, Hx, rs, cf, [], ps, st.1, stc as st, rfl, S5, s35 _ _ hrt3, gct5, .inl ⟨st, t, rt, hmem, rfl, rfl, got, s35 _ _ ht3, s35 _ _ hrt3⟩, Nat.lt_of_le_of_lt (m := 60000) (by omega) (by decide), Nat.lt_of_le_of_lt (m := 2560000) (by omega) (by decide), fun _ h => (nomatch h), fun nk => ?_, fun hk H' ps' x6 S6 hl6 hm6 => ?_⟩
      · have hr0 : st.1 ∈ rs := Decidable.byContradiction fun z => nk (.inl z)
        refine ⟨_, _, _, _, rs, cf, ps, rfl, S5, dj.mark (fun _ _ h => .inl h) fun st' ⟨j, hj, hj2⟩ => ?_, by omega, x5⟩
        by_cases cj : j < i
        · exact .inl ⟨j, cj, hj2⟩
        · have : j = i := by omega
          subst this
          rw [hs] at hj2
          cases hj2
          exact .inr ⟨hr0, fun z => nk (.inr z)⟩
      · have dj2 := dj.offer (Rch.start hmem) hcf hk (by rw [ec]; exact ⟨Nat.le_refl _, by show b1.2.1.length ≤ 12 * (0 + 1); omega⟩) hm6
        refine ⟨_, _, _, _, insR rs st.1, setC cf st.1 (stc as st), ps', rfl, S6, dj2.mark (fun _ _ h => .inl h) fun st' ⟨j, hj, hj2⟩ => ?_, by omega, x5.trans x6⟩
        by_cases cj : j < i
        · exact .inl ⟨j, cj, hj2⟩
        · have : j = i := by omega
          subst this
          rw [hs] at hj2
          cases hj2
          exact .inr ⟨mem_insR.mpr (.inr rfl), by rw [show setC cf st.1 (stc as st) st.1 = stc as st from if_pos rfl]; exact clt_irr _⟩
    · rintro σ H3 ⟨v3, v4, v5, v6, rs0, cf0, ps0, rfl, S, dj, hpl, x3⟩
      have hp0 : ps0.length ≤ 2560000 := by rw [hst.1] at hpl; omega
      have djS := dj.mark (Of' := fun r s => r ∈ ([] : List Rest) ∧ s ∈ stepsL as r) (Os' := fun st => st ∈ startsL as ms) (fun r s h => absurd h.1 (by simp)) fun st h => .inl (by
        obtain ⟨j, hj⟩ := List.mem_iff_getElem?.mp h
        exact ⟨j, by rw [hst.1]; exact (List.getElem?_eq_some_iff.mp hj).1, hj⟩)
      clear hst hsp nsQ nsA nsB gA2 gB2 gQ2 x3 dj S0
      have INV : ∃ I : Nat → L2.St → Hp → Prop, I = fun m σ H' => ∃ (v3 v4 v5 v6 v7 v8 v9 v10 v11 : Option V) (rs : List Rest) (cf : Rest → Cst) (D : List Rest) (f : Cst) (ps : List (V × Ent)), m = (n - D.length) * 201 + ps.length ∧ σ = [some (.ref q), some (.ref d), some (.ref x), v3, v4, v5, v6, v7, v8, v9, v10, v11] ∧
        SrAt K T.C_Search as ms Hx H' x cA cB cQ rs cf D ps ∧ Dj as ms rs cf (fun z => z ∈ ps.map (·.2)) D f (fun r s => r ∈ D ∧ s ∈ stepsL as r) (fun st => st ∈ startsL as ms) ∧ (∀ r ∈ D, evenB r = false) ∧ m ≤ 2560000 + 201 * n := ⟨_, rfl⟩
      obtain ⟨Iv, eIv⟩ := INV
      refine ⟨Iv, ⟨n * 201 + ps0.length, by rw [eIv]; exact ⟨v3, v4, v5, v6, none, none, none, none, none, rs0, cf0, [], _, ps0, rfl, rfl, S, djS, fun _ h => (nomatch h), by omega⟩⟩, ?_⟩
      clear djS S hpl hp0
      intro m σ H6 hI
      rw [eIv] at hI
      obtain ⟨w3, w4, w5, w6, w7, w8, w9, w10, w11, rs, cf, D, f, ps, em, rfl, S, dj, hev, hm⟩ := hI
      obtain ⟨dx6, hx6⟩ := S.xx
      have hrl := few ms rs hms hreach dj.cov
      have hDl : D.length ≤ rs.length := nodup_sub D rs dj.dn dj.dr
      refine ⟨_, rfl, x, _, _, _, _, rfl, hx6, T.cl_Search, T.na_Search_queue, sf_queue _ _ _, _, .inl ⟨_, SqL.of S.q.at', rfl⟩, ?_⟩
      refine ite2 (fun c => ?_) (fun c => ?_)
      · have hne : ps ≠ [] := fun z => by rw [z] at c; exact absurd c (by simp)
        refine ⟨fun σ' H' => ∃ m', m' < m ∧ Iv m' σ' H', fun σ' H' h => h, ?_⟩
        refine ⟨_, rfl, x, _, _, _, _, rfl, hx6, T.cl_Search, T.na_Search_queue, sf_queue _ _ _, cQ, ps, rfl, S.q, hne, fun v e ps1 hv hleast hl1 hsub hsup hq1 => ?_⟩
        obtain ⟨S1, x1, tp1⟩ := S.pop hq1 hsup
        obtain ⟨et, ct, rt, rfl, het, hct, hrt⟩ := S.it _ hv
        have het1 := tp1 _ _ het
        have hct1 := tp1 _ _ hct
        have hrt1 := tp1 _ _ hrt
        generalize upd H6 cQ (.lst (ps1.map (·.1))) = H7 at *
        have hvm : e ∈ ps.map (·.2) := List.mem_map.mpr ⟨_, hv, rfl⟩
        have hmin : ∀ e', e' ∈ ps.map (·.2) → ¬ clt e'.1 e.1 := fun e' h => by
          obtain ⟨p, hp, rfl⟩ := List.mem_map.mp h
          exact ent_le (hleast p hp)
        have hs1 : ∀ z, z ∈ ps.map (·.2) → z ∈ ps1.map (·.2) ∨ z = e := fun z h => by
          obtain ⟨p, hp, rfl⟩ := List.mem_map.mp h
          rcases hsub p hp with h | h
          · exact .inl (List.mem_map.mpr ⟨p, h, rfl⟩)
          · exact .inr (by rw [h])
        have hs2 : ∀ z, z ∈ ps1.map (·.2) → z ∈ ps.map (·.2) := fun z h => by
          obtain ⟨p, hp, rfl⟩ := List.mem_map.mp h
          exact List.mem_map.mpr ⟨p, hsup p hp, rfl⟩
        have hr0 := (dj.q1 e hvm).1
        have hR := dj.cov.2 _ hr0
        obtain ⟨dx7, hx7⟩ := S1.xx
        refine ⟨et, _, rfl, SqT.of het1, rfl, _, _, rfl, _, _, rfl, rfl, ?_⟩
        refine ⟨_, rfl, rt, e.2, rfl, hrt1, _, rfl, ?_⟩
        refine ite2 (fun ce => ?_) (fun ce => ?_)
        · -- even: the pair
          obtain ⟨ko, gB, org, val⟩ := S1.org dj.dr
          obtain ⟨v, hv'⟩ := val _ hr0
          have hb := (dj.b _ hr0).1
          refine ⟨_, rfl, x, _, _, _, _, rfl, hx7, T.cl_Search, T.na_Search_origins, sf_origins _ _ _, _, rfl, cB, rt, ko, as, ms, _, e.2, v, rfl, gB, org, hrt1, hv', by show (cf e.2).2 ≤ 900000; omega, fun H8 t a b g X Y s8 ht0 ha0 hb0 ht ha hb' hg hP hX hY hne' hlen => ?_⟩
          have sm := sx.trans S1.sm
          exact kP H8 ms t a b g X Y e.2 (sm.trans s8) (sm.free ht0) (sm.free ha0) (sm.free hb0) hms hreach hR ce ht ha hb' hg hP hX hY hne' (by show X.length + Y.length ≤ n + 4; have hlen : X.length + Y.length ≤ (cf e.2).2 + 2 := hlen; omega)
        · have ce' : evenB e.2 = false := by simpa using ce
          obtain ⟨kc, tc, gA, hval, htc⟩ := S1.cost hr0
          refine ⟨_, rfl, _, rfl, x, _, _, _, _, rfl, hx7, T.cl_Search, T.na_Search_costs, sf_costs _ _ _, _, rfl, cA, _, rfl, by rw [← hval]; exact .t gA (by rw [← rk_HO]; exact hrt1), _, _, dp_cost hct1, dp_cost htc, rfl, rfl, _, rfl, ?_⟩
          rw [eqv_cost]
          refine ite2 (fun cc => ?_) (fun cc => ?_)
          · have hcc : e.1 = cf e.2 := of_decide_eq_true cc
            have dj1 := dj.goon hvm hmin hcc hs1 hs2
            have S2 := S1.grow (D' := insD D e.2) fun y hy => mem_insD.mpr (.inl hy)
            have hD1 : ∀ y ∈ insD D e.2, evenB y = false := fun y hy => (mem_insD.mp hy).elim (hev y) fun z => z ▸ ce'
            refine ⟨_, rfl, _, rfl, d, rt, H, as, e.2, rfl, tab.same S1.sm, hal, haw, Nat.le_trans (left12 oka hR) (by decide), hrt1, fun H8 sl sus s8 hsl0 hsl hss => ?_⟩
            have S3 := S2.same s8
            have hrt8 := s8 _ _ hrt1
            have hct8 := s8 _ _ hct1
            have nsA : sl ≠ cA := fun z => by rw [z, gA] at hsl0; cases hsl0
            have nsB : sl ≠ cB := fun z => by
              obtain ⟨ko, gB, _⟩ := S1.b
              rw [z, gB] at hsl0; cases hsl0
            have nsQ : sl ≠ cQ := fun z => by rw [z, S1.q.at'] at hsl0; cases hsl0
            have gA8 := s8 _ _ gA
            obtain ⟨ko8, gB8, _⟩ := S3.b
            have gQ8 := S3.q.at'
            have hss' := steps_len as e.2
            have INV : ∃ J : Nat → L2.St → Hp → Prop, J = fun i σ H' => ∃ (v5 v8 v9 v10 v11 : Option V) (rs' : List Rest) (cf' : Rest → Cst) (ps' : List (V × Ent)), σ = [some (.ref q), some (.ref d), some (.ref x), w3, some (.ref rt), v5, w6, some (.ref ct), v8, v9, v10, v11] ∧
              SrAt K T.C_Search as ms Hx H' x cA cB cQ rs' cf' (insD D e.2) ps' ∧
              Dj as ms rs' cf' (fun z => z ∈ ps'.map (·.2)) (insD D e.2) e.1 (fun r' s => (r' ∈ D ∧ s ∈ stepsL as r') ∨ (r' = e.2 ∧ ∃ j, j < i ∧ (stepsL as e.2)[j]? = some s)) (fun st => st ∈ startsL as ms) ∧
              cf' e.2 = e.1 ∧ (e.2 ∈ D → ps' = ps1) ∧ ps'.length ≤ ps1.length + i ∧ ExQ cA cB cQ H8 H' := ⟨_, rfl⟩
            obtain ⟨Jv, eJv⟩ := INV
            refine ⟨sl, rfl, ⟨_, SqL.of hsl⟩, for_list (K := K) (a := sl) (xs := sus) Jv ?_ ?_ ?_ ?_⟩
            · rw [eJv]
              exact ⟨_, _, _, _, _, rs, cf, ps1, rfl, S3, dj1.mark (fun r' s h => h.elim .inl fun ⟨_, j, hj, _⟩ => absurd hj (Nat.not_lt_zero _)) (fun _ h => .inl h), hcc.symm, fun _ => rfl, Nat.le_refl _, ExQ.refl _ _ _ _⟩
            · intro i σ H' _ hJ
              rw [eJv] at hJ
              obtain ⟨_, _, _, _, _, _, _, _, _, _, _, _, _, _, x9⟩ := hJ
              exact SqL.of (x9 _ _ nsA nsB nsQ hsl)
            · intro i y σ H9 hy hJ
              rw [eJv] at hJ
              obtain ⟨v5, v8, v9, v10, v11, rs', cf', ps', rfl, S9, dj9, hcf9, hsame, hpl9, x9⟩ := hJ
              have hil : i < (stepsL as e.2).length := by rw [← hss.1]; exact (List.getElem?_eq_some_iff.mp hy).1
              obtain ⟨st, hs⟩ : ∃ st, (stepsL as e.2)[i]? = some st := ⟨_, List.getElem?_eq_getElem hil⟩
              obtain ⟨t, rp, hut, ht, hrp⟩ := hss.2 i st hs
              rw [hut] at hy
              cases hy
              have keep : ∀ {t : Addr} {xs : List V}, H8 t = some (.tup xs) → H9 t = some (.tup xs) := fun h => x9 _ _ (ne3 h gA8 (fun z => HO.noConfusion z)) (ne3 h gB8 (fun z => HO.noConfusion z)) (ne3 h gQ8 (fun z => HO.noConfusion z)) h
              have ht9 := keep ht
              have hrp9 : H9 rp = some (restHO st.1) := keep hrp
              have hrt9 : H9 rt = some (restHO e.2) := keep hrt8
              have hct9 : H9 ct = some (costHO e.1) := keep hct8
              have hmem := List.mem_of_getElem? hs
              have hRs : Rch as ms st.1 := .step hR hmem
              have h12 := left12 oka hRs
              have h2 := turn_two hmem
              have hrl9 := few ms rs' hms hreach dj9.cov
              obtain ⟨dx9, hx9⟩ := S9.xx
              have hgt : clt e.1 (cadd e.1 (sw st)) := cadd_gt _ _
              have esw : cadd (cf' e.2) (sw st) = cadd e.1 (sw st) := by rw [hcf9]
              have fin : ∀ (v : V) (H10 : Hp) (c2 o2 : Addr), Same H9 H10 → H10 c2 = some (costHO (cadd e.1 (sw st))) → H10 o2 = some (.tup [.ref rt, .ref t]) →
                  spOffer K T.C_Search [.ref x, .ref rp, .ref c2, .ref o2] H10 (fun _ H' => Jv (i + 1) [some (.ref q), some (.ref d), some (.ref x), w3, some (.ref rt), some (.int (st.2.1 : Int)), w6, some (.ref ct), some (.ref t), some (.ref rp), some (.int (st.2.2 : Int)), some v] H') E0 := fun v H10 c2 o2 s10 hc2 ho2 => by
                have S10 := S9.same s10
                have x10 := x9.trans (ExQ.same s10)
                refine ⟨x, cA, cB, cQ, rp, c2, o2, as, ms, Hx, rs', cf', insD D e.2, ps', st.1, cadd e.1 (sw st), rfl, S10, s10 _ _ hrp9, hc2, .inr ⟨st, e.2, rt, t, rp, mem_insD.mpr (.inr rfl), esw.symm, hmem, rfl, ho2, s10 _ _ hrt9, s10 _ _ ht9, s10 _ _ hrp9⟩, Nat.lt_of_le_of_lt (m := 60000) (by omega) (by decide), Nat.lt_of_le_of_lt (m := 14640000) (by omega) (by decide), fun hk => dj9.nD hgt hk, fun nk => ?_, fun hk H' ps'' x11 S11 hl11 hm11 => ?_⟩
                · have hr1 : st.1 ∈ rs' := Decidable.byContradiction fun z => nk (.inl z)
                  rw [eJv]
                  refine ⟨_, _, _, _, _, rs', cf', ps', rfl, S10, dj9.mark (fun r' s h => ?_) (fun _ h => .inl h), hcf9, hsame, by omega, x10⟩
                  rcases h with h | ⟨rfl, j, hj, hj2⟩
                  · exact .inl (.inl h)
                  · by_cases cj : j < i
                    · exact .inl (.inr ⟨rfl, j, cj, hj2⟩)
                    · have : j = i := by omega
                      subst this
                      rw [hs] at hj2
                      cases hj2
                      exact .inr ⟨mem_insD.mpr (.inr rfl), hr1, fun z => nk (.inr (by rw [esw] at z; exact z))⟩
                · have nD : e.2 ∉ D := fun hD => by
                    obtain ⟨z1, z2⟩ := dj9.o e.2 st (.inl ⟨hD, hmem⟩)
                    rw [esw] at z2
                    rcases hk with hk | hk
                    · exact hk z1
                    · exact z2 hk
                  have eD : (insD D e.2).length = D.length + 1 := by unfold insD; rw [if_neg nD]; rfl
                  obtain ⟨b1, b2⟩ := dj.b e.2 hr0
                  rw [← hcc] at b1 b2
                  have b3 : (sw st).1 ≤ 12 := by unfold sw; show (if st.2.2 = 1 then st.1.2.2.length else 0) ≤ 12; split <;> omega
                  have dj11 := dj9.offer hRs hgt hk (by rw [eD]; exact ⟨by show e.1.2 + 1 ≤ _; omega, by show e.1.1 + (sw st).1 ≤ _; omega⟩) hm11
                  have nst := dj9.nD hgt hk
                  have nes : e.2 ≠ st.1 := fun z => nst (by rw [← z]; exact mem_insD.mpr (.inr rfl))
                  have e1 : setC cf' st.1 (cadd e.1 (sw st)) e.2 = e.1 := (if_neg nes).trans hcf9
                  have e2 : setC cf' st.1 (cadd e.1 (sw st)) st.1 = cadd e.1 (sw st) := if_pos rfl
                  rw [eJv]
                  refine ⟨_, _, _, _, _, insR rs' st.1, setC cf' st.1 (cadd e.1 (sw st)), ps'', rfl, S11, dj11.mark (fun r' s h => ?_) (fun _ h => .inl h), e1, fun hD => absurd hD nD, by omega, x10.trans x11⟩
                  rcases h with h | ⟨rfl, j, hj, hj2⟩
                  · exact .inl (.inl h)
                  · by_cases cj : j < i
                    · exact .inl (.inr ⟨rfl, j, cj, hj2⟩)
                    · have : j = i := by omega
                      subst this
                      rw [hs] at hj2
                      cases hj2
                      exact .inr ⟨mem_insD.mpr (.inr rfl), mem_insR.mpr (.inr rfl), by rw [e1, e2]; exact clt_irr _⟩
              refine ⟨_, rfl, t, _, rfl, SqT.of ht9, rfl, _, _, rfl, _, _, rfl, _, _, rfl, rfl, ?_⟩
              refine ⟨_, rfl, rfl, _, rfl, ite2 (fun c1 => ?_) (fun c1 => ?_)⟩
              · have tu : st.2.2 = 1 := by
                  have tu := of_decide_eq_true c1
                  injection tu with tu
                  omega
                refine ⟨_, rfl, rp, _, _, _, rfl, rfl, SqT.of hrp9, rfl, SX.S st.1.2.2, rfl, le_size (by rw [SX.S_len]; omega), ?_⟩
                refine ⟨_, rfl, x, _, _, rfl, hx9, sf_offer _ _ _, _, rfl, ⟨_, rfl, ct, _, _, _, rfl, rfl, SqT.of hct9, rfl, _, rfl, _, _, rfl, rfl, _, rfl, ct, _, _, _, rfl, rfl, SqT.of hct9, rfl, _, _, rfl, rfl, le_size (by simp), fun c2 hc20 => ⟨_, rfl, _, rfl, le_size (by simp), fun o2 ho20 => ?_⟩⟩⟩
                have s10 := Same.new (.tup [V.int ((e.1.1 : Int) + ((SX.S st.1.2.2).length : Int)), V.int ((e.1.2 : Int) + 1)]) hc20
                have g10 : upd H9 c2 (.tup [V.int ((e.1.1 : Int) + ((SX.S st.1.2.2).length : Int)), V.int ((e.1.2 : Int) + 1)]) c2 = some (costHO (cadd e.1 (sw st))) := by
                  rw [upd_same]
                  unfold costHO cadd sw
                  rw [if_pos tu, SX.S_len]; rfl
                generalize upd H9 c2 (.tup [V.int ((e.1.1 : Int) + ((SX.S st.1.2.2).length : Int)), V.int ((e.1.2 : Int) + 1)]) = H10 at *
                have s11 := Same.new (.tup [V.ref rt, V.ref t]) ho20
                exact fin _ _ c2 o2 (s10.trans s11) (s11 _ _ g10) upd_same
              · have tu : ¬ st.2.2 = 1 := fun z => by
                  rw [z] at c1
                  exact c1 (decide_eq_true rfl)
                refine ⟨_, rfl, x, _, _, rfl, hx9, sf_offer _ _ _, _, rfl, ⟨_, rfl, ct, _, _, _, rfl, rfl, SqT.of hct9, rfl, _, rfl, _, _, rfl, rfl, _, rfl, ct, _, _, _, rfl, rfl, SqT.of hct9, rfl, _, _, rfl, rfl, le_size (by simp), fun c2 hc20 => ⟨_, rfl, _, rfl, le_size (by simp), fun o2 ho20 => ?_⟩⟩⟩
                have s10 := Same.new (.tup [V.int ((e.1.1 : Int) + 0), V.int ((e.1.2 : Int) + 1)]) hc20
                have g10 : upd H9 c2 (.tup [V.int ((e.1.1 : Int) + 0), V.int ((e.1.2 : Int) + 1)]) c2 = some (costHO (cadd e.1 (sw st))) := by
                  rw [upd_same]
                  unfold costHO cadd sw
                  rw [if_neg tu]; rfl
                generalize upd H9 c2 (.tup [V.int ((e.1.1 : Int) + 0), V.int ((e.1.2 : Int) + 1)]) = H10 at *
                have s11 := Same.new (.tup [V.ref rt, V.ref t]) ho20
                exact fin _ _ c2 o2 (s10.trans s11) (s11 _ _ g10) upd_same
            · intro σ H9 hJ
              rw [eJv] at hJ
              obtain ⟨v5, v8, v9, v10, v11, rs', cf', ps', rfl, S9, dj9, hcf9, hsame, hpl9, x9⟩ := hJ
              have hrl9 := few ms rs' hms hreach dj9.cov
              have hDl9 : (insD D e.2).length ≤ rs'.length := nodup_sub _ rs' dj9.dn dj9.dr
              rw [hss.1] at hpl9 dj9
              have djE := dj9.mark (Of' := fun r s => r ∈ insD D e.2 ∧ s ∈ stepsL as r) (fun r s h => .inl (by
                rcases mem_insD.mp h.1 with h1 | rfl
                · exact .inl ⟨h1, h.2⟩
                · obtain ⟨j, hj⟩ := List.mem_iff_getElem?.mp h.2
                  exact .inr ⟨rfl, j, (List.getElem?_eq_some_iff.mp hj).1, hj⟩)) (fun _ h => .inl h)
              refine ⟨(n - (insD D e.2).length) * 201 + ps'.length, ?_, ?_⟩
              · by_cases hD : e.2 ∈ D
                · have := hsame hD
                  subst this
                  unfold insD
                  rw [if_pos hD]
                  omega
                · have eD : (insD D e.2).length = D.length + 1 := by unfold insD; rw [if_neg hD]; rfl
                  omega
              · rw [eIv]
                refine ⟨_, _, _, _, _, _, _, _, _, rs', cf', insD D e.2, _, ps', rfl, rfl, S9, djE, hD1, ?_⟩
                by_cases hD : e.2 ∈ D
                · have := hsame hD
                  subst this
                  unfold insD
                  rw [if_pos hD]
                  omega
                · have eD : (insD D e.2).length = D.length + 1 := by unfold insD; rw [if_neg hD]; rfl
                  omega
          · have hcc : e.1 ≠ cf e.2 := of_decide_eq_false (by simpa using cc)
            obtain ⟨hD, dj1⟩ := dj.skip hvm hmin hcc hs1 hs2
            refine ⟨(n - D.length) * 201 + ps1.length, by omega, ?_⟩
            rw [eIv]
            exact ⟨_, _, _, _, _, _, _, _, _, rs, cf, D, _, ps1, rfl, rfl, S1, dj1, hev, by omega⟩
      · have hnil : ps = [] := by
          cases ps with
          | nil => rfl
          | cons p r => exact absurd rfl c
        refine kN _ ms (sx.trans S.sm) hms hreach fun r hr => hev r ?_
        exact dj.all (fun z h => by rw [hnil] at h; exact nomatch h) r hr
end
end J


set_option Elab.async false
set_option linter.all false
set_option maxRecDepth 100000
set_option maxHeartbeats 4000000
namespace J
open PySem L2
theorem rch_own {as : List Arc} {ms : List Nat} (h : OkAll as) {r : Rest} (q : Rch as ms r) : (∃ b ∈ as, r.1 = b.2.2) ∧ ∃ c ∈ as, r.2.1 = c.2.2 ∧ ∃ k, k ≤ 12 ∧ r.2.2 = c.2.1.drop k := by
  induction q with
  | @start s hs =>
    obtain ⟨g, i, j, a, b, _, _, ha, hb, _, _, _, rfl⟩ := start_of hs
    have ham := List.mem_of_getElem? ha
    exact ⟨⟨a, ham, rfl⟩, b, List.mem_of_getElem? hb, rfl, a.2.1.length, (h.2 a ham).2.2.1, rfl⟩
  | @step r s _ hs ih =>
    obtain ⟨i, a, ha, _, hc⟩ := step_of hs
    have ham := List.mem_of_getElem? ha
    obtain ⟨⟨b, hb, e1⟩, c, hc', e2, k, hk, e3⟩ := ih
    have hbl := (h.2 c hc').2.2.1
    have hwl := (h.2 a ham).2.2.1
    rcases hc with ⟨p, e, _⟩ | ⟨p, e, _⟩ <;> rw [e]
    · refine ⟨⟨a, ham, rfl⟩, c, hc', e2, min 12 (k + a.2.1.length), Nat.min_le_left _ _, ?_⟩
      show r.2.2.drop a.2.1.length = c.2.1.drop _
      rw [e3, List.drop_drop]
      by_cases z : k + a.2.1.length ≤ 12
      · rw [Nat.min_eq_right z]
      · rw [Nat.min_eq_left (by omega), List.drop_eq_nil_of_le (by omega), List.drop_eq_nil_of_le (by omega)]
    · refine ⟨⟨c, hc', e2⟩, a, ham, rfl, min 12 r.2.2.length, Nat.min_le_left _ _, ?_⟩
      show a.2.1.drop r.2.2.length = a.2.1.drop _
      by_cases z : r.2.2.length ≤ 12
      · rw [Nat.min_eq_right z]
      · rw [Nat.min_eq_left (by omega), List.drop_eq_nil_of_le (by omega), List.drop_eq_nil_of_le (by omega)]
def univ4 (as : List Arc) (gs : List Nat) : List Rest := gs.flatMap fun b => as.flatMap fun c => (List.range 13).map fun k => (b, c.2.2, c.2.1.drop k)
def Few4 (as : List Arc) : Prop := as.length ≤ 13 ∧ ∃ gs : List Nat, gs.length ≤ 4 ∧ ∀ a ∈ as, a.2.2 ∈ gs
theorem Cov.len4 {as : List Arc} {ms : List Nat} {rs : List Rest} (h : Cov as ms rs) (oka : OkAll as) (f : Few4 as) : rs.length ≤ 676 := by
  obtain ⟨hl, gs, hg, ha⟩ := f
  have h1 : ∀ b : Nat, (as.flatMap fun c => (List.range 13).map fun k => ((b, c.2.2, c.2.1.drop k) : Rest)).length ≤ 169 := fun b => by
    have q := flat_lenk (fun c : Arc => (List.range 13).map fun k => ((b, c.2.2, c.2.1.drop k) : Rest)) 13 (fun c => by simp) as
    omega
  have h2 : (univ4 as gs).length ≤ 676 := by
    have q := flat_lenk (fun b : Nat => as.flatMap fun c => (List.range 13).map fun k => ((b, c.2.2, c.2.1.drop k) : Rest)) 169 h1 gs
    unfold univ4
    omega
  refine Nat.le_trans (nodup_sub rs (univ4 as gs) h.1 fun r hr => ?_) h2
  obtain ⟨⟨b, hb, e1⟩, c, hc, e2, k, hk, e3⟩ := rch_own oka (h.2 r hr)
  have e : r = (b.2.2, c.2.2, c.2.1.drop k) := by rw [← e1, ← e2, ← e3]
  rw [e]
  exact List.mem_flatMap.mpr ⟨b.2.2, ha b hb, List.mem_flatMap.mpr ⟨c, hc, List.mem_map.mpr ⟨k, List.mem_range.mpr (by omega), rfl⟩⟩⟩
end J


set_option Elab.async false
set_option linter.all false
set_option maxRecDepth 100000
set_option maxHeartbeats 4000000
namespace J
open PySem L2
def spLaw (K : PySem.W.Frag) : Sp := fun vs H Q _ => ∃ (a : Addr) (ns : List Int), vs = [.ref a] ∧ SqL K H a (ns.map V.int) ∧ ns.length ≤ 63 ∧ ∀ H', Q (.bl true) H'
theorem LoomAt.exS {C : Addr} {H H' : Hp} {p q : Addr} {sg : List Nat} {us : List V} {as : List Arc} {xs : List V} (h : LoomAt C H q sg us as) (hp : H p = some (.lst xs)) (e : Ex p H H') : LoomAt C H' q sg us as := by
  obtain ⟨dx, T, h1, h2, h3, h4, h5⟩ := h
  refine ⟨dx, T, e _ _ ?_ h1, e _ _ ?_ h2, h3.ex e hp, h4, h5⟩
  · intro z; rw [z, hp] at h1; cases h1
  · intro z; rw [z, hp] at h2; cases h2
def DblR (as : List Arc) (g : Nat) (X Y : List Nat) : Prop := Reach as g ∧ Rw as g X ∧ Rw as g Y ∧ X.headD 0 ≠ Y.headD 0 ∧ rowEnd as g X = rowEnd as g Y ∧ txA as X = txA as Y ∧ X ≠ [] ∧ Y ≠ [] ∧ X.length + Y.length ≤ 800
structure Frm (C : Addr) (ns : List Int) (l p lm ar : Addr) (sg : List Nat) (us : List V) (as : List Arc) (H : Hp) : Prop where
  st : StAt ns l H p
  lo : LoomAt C H lm sg us as
  arl : H ar = some (.lst us)
  arcs : Arcs H us as
  nar : ar ≠ p
theorem Frm.ex {C : Addr} {ns : List Int} {l p lm ar : Addr} {sg : List Nat} {us : List V} {as : List Arc} {H H' : Hp} (h : Frm C ns l p lm ar sg us as H) (st : StAt ns l H' p) (x : Ex p H H') : Frm C ns l p lm ar sg us as H' := by
  obtain ⟨a, b, c, d, f, h1, h2, h3⟩ := h.st
  exact ⟨st, h.lo.exS h2 x, x _ _ h.nar h.arl, h.arcs.ex x h2, h.nar⟩
theorem Frm.same {C : Addr} {ns : List Int} {l p lm ar : Addr} {sg : List Nat} {us : List V} {as : List Arc} {H H' : Hp} (h : Frm C ns l p lm ar sg us as H) (s : Same H H') : Frm C ns l p lm ar sg us as H' := h.ex (h.st.same s) (Same.ex s)
def Four (as : List Arc) : Prop := as.length ≤ 14 ∧ ∃ gs : List Nat, gs.length ≤ 4 ∧ ∀ a ∈ as, a.2.2 ∈ gs
theorem few12 {as : List Arc} (oka : OkAll as) (f : Four as) : FewR as 728 := fun ms rs _ _ h => by
  obtain ⟨hl, gs, hg, ha⟩ := f
  have h1 : ∀ b : Nat, (as.flatMap fun c => (List.range 13).map fun k => ((b, c.2.2, c.2.1.drop k) : Rest)).length ≤ 182 := fun b => by
    have q := flat_lenk (fun c : Arc => (List.range 13).map fun k => ((b, c.2.2, c.2.1.drop k) : Rest)) 13 (fun c => by simp) as
    omega
  have h2 : (univ4 as gs).length ≤ 728 := by
    have q := flat_lenk (fun b : Nat => as.flatMap fun c => (List.range 13).map fun k => ((b, c.2.2, c.2.1.drop k) : Rest)) 182 h1 gs
    unfold univ4
    omega
  refine Nat.le_trans (nodup_sub rs (univ4 as gs) h.1 fun r hr => ?_) h2
  obtain ⟨⟨b, hb, e1⟩, c, hc, e2, k, hk, e3⟩ := rch_own oka (h.2 r hr)
  have e : r = (b.2.2, c.2.2, c.2.1.drop k) := by rw [← e1, ← e2, ← e3]
  rw [e]
  exact List.mem_flatMap.mpr ⟨b.2.2, ha b hb, List.mem_flatMap.mpr ⟨c, hc, List.mem_map.mpr ⟨k, List.mem_range.mpr (by omega), rfl⟩⟩⟩
def NE (as : List Arc) (ms : List Nat) : Prop := ∀ r, Rch as ms r → evenB r = false
def Told (as : List Arc) (ms : List Nat) (p : Addr) (H : Hp) (v : V) : Prop := (v = .non ∧ NE as ms) ∨ ∃ (t ra rb : Addr) (g : Nat) (X Y : List Nat) (e : Rest), v = .ref t ∧ H t = some (.tup [.int (g : Int), .ref ra, .ref rb]) ∧ H ra = some (.lst (nats X)) ∧ H rb = some (.lst (nats Y)) ∧ (t ≠ p ∧ ra ≠ p ∧ rb ≠ p) ∧ DblR as g X Y ∧ Rch as ms e ∧ evenB e = true
theorem Told.ex {as : List Arc} {ms : List Nat} {p : Addr} {H H' : Hp} {v : V} (h : Told as ms p H v) (x : Ex p H H') : Told as ms p H' v := by
  rcases h with h | ⟨t, ra, rb, g, X, Y, r, e, h1, h2, h3, n, k⟩
  · exact .inl h
  · exact .inr ⟨t, ra, rb, g, X, Y, r, e, x _ _ n.1 h1, x _ _ n.2.1 h2, x _ _ n.2.2 h3, n, k⟩
theorem signs_few {sg : List Nat} (h : Signs sg) : sg.length ≤ 4 := by
  have q : ∀ l ∈ ([[97], [97, 98], [97, 98, 99], [120, 122], [98, 100, 107, 122], [113, 119]] : List (List Nat)), l.length ≤ 4 := by decide
  exact q sg h
theorem LoomAt.okw {C : Addr} {H : Hp} {q : Addr} {sg : List Nat} {us : List V} {as : List Arc} (h : LoomAt C H q sg us as) : OkW sg as := by
  obtain ⟨dx, T, h1, h2, h3, h4, h5⟩ := h
  exact h4
theorem okW_snoc {sg : List Nat} {as : List Arc} {b : Arc} (h : OkW sg as) (hb : OkArc sg b) (hl : as.length ≤ 100) : OkW sg (as ++ [b]) := ⟨by simp, by rw [List.length_append]; simp; omega, fun c hc => by
  rcases List.mem_append.mp hc with q | q
  · exact h.2.2 c q
  · rw [List.mem_singleton.mp q]; exact hb⟩
/-- nothing leaves 0: no rest comes up -/
theorem far_none {as : List Arc} {ms : List Nat} (hm : ∀ x, x ∈ ms ↔ Reach as x) (h : ∀ a ∈ as, a.1 ≠ 0) {r : Rest} : ¬ Rch as ms r := fun q => by
  have only : ∀ x, Reach as x → x = 0 := fun x hx => by
    induction hx with
    | zero => rfl
    | step ha hr ih => exact absurd ih (h _ ha)
  induction q with
  | start hs =>
    obtain ⟨g, i, j, a, b, hg, _, ha, _, ea, _⟩ := start_of hs
    have := only g ((hm g).mp hg)
    exact h a (List.mem_of_getElem? ha) (by rw [ea, this])
  | step _ _ ih => exact ih
theorem txA_len12 {as : List Arc} (h : OkAll as) (r : List Nat) : (txA as r).length ≤ 12 * r.length := by
  rw [← rowText_txA]
  exact rowText_len h r
theorem Arcs.appendF {H : Hp} {us vs : List V} {as bs : List Arc} (h : Arcs H us as) (g : Arcs H vs bs) : Arcs H (us ++ vs) (as ++ bs) := by
  refine ⟨by rw [List.length_append, List.length_append, h.1, g.1], fun i a e => ?_⟩
  by_cases c : i < as.length
  · rw [List.getElem?_append_left c] at e
    obtain ⟨t, h1, h2⟩ := h.2 i a e
    exact ⟨t, by rw [List.getElem?_append_left (by rw [h.1]; exact c)]; exact h1, h2⟩
  · rw [List.getElem?_append_right (by omega)] at e
    obtain ⟨t, h1, h2⟩ := g.2 _ a e
    exact ⟨t, by rw [List.getElem?_append_right (by rw [h.1]; omega), h.1]; exact h1, h2⟩
theorem few_none {as : List Arc} (h : ∀ a ∈ as, a.1 ≠ 0) : FewR as 0 := fun ms rs _ hm c => by
  cases rs with
  | nil => exact Nat.le_refl _
  | cons r rs => exact absurd (c.2 r (by simp)) (far_none hm h)
section
variable {P : Program} {w : World} {K : PySem.W.Frag} {mg : Str → Option Value} {base : Heap}
theorem ok_law (T : Tx K mg) : FnOk P w K mg base CX0 8 T.f_law T.fd_law P_law (spLaw K) := by
  refine T.F_law.ok sc_law (fun vs H Q E h => ?_) (fun cdv A outer s0 H vs Q E hr h => ?_)
  · obtain ⟨a, ns, rfl, _⟩ := h
    rfl
  · obtain ⟨a, ns, rfl, hS, hlen, k⟩ := h
    have G_l_state : FnOk P w K mg base CX0 1 T.f_l_state T.fd_l_state P_l_state (spState K ns) := ok_l_state T ns
    have G_l_draw : FnOk P w K mg base CX0 1 T.f_l_draw T.fd_l_draw P_l_draw (spDraw ns) := ok_l_draw T ns
    have G_l_loom : FnOk P w K mg base CX0 3 T.f_l_loom T.fd_l_loom P_l_loom (spLoom ns) := ok_l_loom T ns
    have G_l_made : FnOk P w K mg base CX0 6 T.f_l_made T.fd_l_made P_l_made (spMade T.C_Loom) := ok_l_made T
    have G_Loom_init : FnOk P w K mg base CX0 4 T.f_Loom_init T.fd_Loom_init P_Loom_init (spInit T.C_Loom) := ok_Loom_init T
    have G_double : FnOk P w K mg base CX0 3 T.f_double T.fd_double P_double (spDouble T.C_Loom) := ok_double T
    have G_l_is_double : FnOk P w K mg base CX0 3 T.f_l_is_double T.fd_l_is_double P_l_is_double (spLDbl K) := ok_l_is_double T
    have G_rests : FnOk P w K mg base CX0 4 T.f_rests T.fd_rests P_rests (spRests T.C_Loom) := ok_rests T
    have G_one_way : FnOk P w K mg base CX0 4 T.f_one_way T.fd_one_way P_one_way (spOneWay T.C_Loom) := ok_one_way T
    have G_l_first_double : FnOk P w K mg base CX0 4 T.f_l_first_double T.fd_l_first_double P_l_first_double spFirst := ok_l_first_double T
    have G_l_joined : FnOk P w K mg base CX0 1 T.f_l_joined T.fd_l_joined P_l_joined spJoined := ok_l_joined T
    refine ⟨_, (pss_cons (ps_set (i := 1) sc_law.nd rfl (Or.inl rfl) (pe_call G_l_state (hr.mono (by decide)) rfl T.m_l_state T.F_l_state.kp T.b_l_state .nil pass0 (pa_cons (pv 0) pa_nil)))
        (pss_cons (ps_for PassesOwn.never rfl (pi_range1 rfl T.n_range (pa_cons pe_int pa_nil)) (pg_name (i := 2) sc_law.nd rfl (Or.inl rfl)) (pss_cons (ps_set (i := 3) sc_law.nd rfl (Or.inl rfl) (pe_call G_l_loom (hr.mono (by decide)) rfl T.m_l_loom T.F_l_loom.kp T.b_l_loom .nil pass0 (pa_cons (pv 1) pa_nil)))
        (pss_cons (ps_set (i := 4) sc_law.nd rfl (Or.inl rfl) (pe_ix (ix_tupK (K := K) rfl) (pv 3) pe_int (fun _ _ => rfl)))
        (pss_cons (ps_set (i := 5) sc_law.nd rfl (Or.inl rfl) (pe_call G_l_made (hr.mono (by decide)) rfl T.m_l_made T.F_l_made.kp T.b_l_made .nil pass0 (pa_cons (pv 3) pa_nil)))
        (C8.pss_cut (ps_asg (pe_call G_l_first_double (hr.mono (by decide)) rfl T.m_l_first_double T.F_l_first_double.kp T.b_l_first_double .nil pass0 (pa_cons (pv 4) (pa_cons pe_int (pa_cons pe_int pa_nil)))) (pg_tup rfl (pgs_cons (pg_name (i := 6) sc_law.nd rfl (Or.inl rfl)) (pgs_cons (pg_name (i := 7) sc_law.nd rfl (Or.inl rfl)) pgs_nil))))
        (C8.pss_cut (ps_set (i := 8) sc_law.nd rfl (Or.inl rfl) (pe_call G_one_way (hr.mono (by decide)) rfl T.m_one_way T.F_one_way.kp T.b_one_way .nil pass0 (pa_cons (pv 5) pa_nil)))
        (C8.pss_cut (ps_if (PW.pt (pw_and (pt_cmpR op_notN (pv 7) pe_non (nomark _)) (pw_and1 (pt_val (pv 8))))) (pss_one (ps_ret pe_bl)) pss_nil)
        (C8.pss_cut (ps_set (i := 9) sc_law.nd rfl (Or.inl rfl) (pe_call G_double (hr.mono (by decide)) rfl T.m_double T.F_double.kp T.b_double .nil pass0 (pa_cons (pv 5) pa_nil)))
        (C8.pss_cut (ps_if (pt_cmpR op_ne (pv 8) (pe_cmpR op_isN (pv 9) pe_non (nomark _)) (nomark _)) (pss_one (ps_ret pe_bl)) pss_nil)
        (C8.pss_cut (ps_if (pt_cmpR op_notN (pv 9) pe_non (nomark _)) (pss_cons (ps_if (PW.pt (pw_or (pt_not (pt_val (pe_call G_l_is_double (hr.mono (by decide)) rfl T.m_l_is_double T.F_l_is_double.kp T.b_l_is_double .nil pass0 (pa_cons (pv 4) (pa_cons (pv 9) pa_nil))))) (pw_or1 (pt_cmpR op_eq (pe_ix (ix_listK (K := K) rfl) (pe_ix (ix_tupK (K := K) rfl) (pv 9) pe_int (fun _ _ => rfl)) pe_int (fun _ _ => rfl)) (pe_ix (ix_listK (K := K) rfl) (pe_ix (ix_tupK (K := K) rfl) (pv 9) pe_int (fun _ _ => rfl)) pe_int (fun _ _ => rfl)) (nomark _))))) (pss_one (ps_ret pe_bl)) pss_nil)
        (pss_one (ps_if (PW.pt (pw_and (pt_cmpR op_le (pe_callB call_len_str rfl T.n_len (by decide +kernel) (pa_cons (pe_call G_l_joined (hr.mono (by decide)) rfl T.m_l_joined T.F_l_joined.kp T.b_l_joined .nil pass0 (pa_cons (pv 4) (pa_cons (pe_ix (ix_tupK (K := K) rfl) (pv 9) pe_int (fun _ _ => rfl)) pa_nil))) pa_nil)) (pv 6) (nomark _)) (pw_and1 (pt_cmpR op_isN (pv 7) pe_non (nomark _))))) (pss_one (ps_ret pe_bl)) pss_nil))) pss_nil)
        (C8.pss_cut (ps_set (i := 10) sc_law.nd rfl (Or.inl rfl) (pe_make T.M_Loom G_Loom_init (hr.mono (by decide)) rfl T.g_Loom T.b_Loom_init .nil pass0 (pa_cons (pe_ix (ix_tupK (K := K) rfl) (pv 3) pe_int (fun _ _ => rfl)) (pa_cons (pe_op op_cat (pe_lc (own := [("_law_here", 12), ("_law_word_here", 13), ("_law_after", 14)]) (g := (gTup K 3 (gCons (gName 12) (gCons (gName 13) (gCons (gName 14) gNil))))) rfl sc_law.nd (pi_list (pv 4)) (blkOk_by (N := N_law) (sc := defScope s_law) (by decide +kernel)) (fun _ _ _ _ _ => (pg_tup rfl (pgs_cons (pg_name (i := 12) sc_law.nd rfl (Or.inl rfl)) (pgs_cons (pg_name (i := 13) sc_law.nd rfl (Or.inl rfl)) (pgs_cons (pg_name (i := 14) sc_law.nd rfl (Or.inl rfl)) pgs_nil))))) (fun _ _ _ _ _ => pts_nil) (fun _ _ _ _ _ => (pe_tup (pa_cons pe_int (pa_cons (pv 13) (pa_cons pe_int pa_nil)))))) (pe_lc (own := [("_law_here", 12), ("_law_word_here", 13), ("_law_after", 14)]) (g := (gTup K 3 (gCons (gName 12) (gCons (gName 13) (gCons (gName 14) gNil))))) rfl sc_law.nd (pi_list (pv 4)) (blkOk_by (N := N_law) (sc := defScope s_law) (by decide +kernel)) (fun _ _ _ _ _ => (pg_tup rfl (pgs_cons (pg_name (i := 12) sc_law.nd rfl (Or.inl rfl)) (pgs_cons (pg_name (i := 13) sc_law.nd rfl (Or.inl rfl)) (pgs_cons (pg_name (i := 14) sc_law.nd rfl (Or.inl rfl)) pgs_nil))))) (fun _ _ _ _ _ => pts_nil) (fun _ _ _ _ _ => (pe_tup (pa_cons pe_int (pa_cons (pv 13) (pa_cons pe_int pa_nil))))))) pa_nil))))
        (C8.pss_cut (ps_if (PW.pt (pw_or (pt_not (pt_val (pe_call G_one_way (hr.mono (by decide)) rfl T.m_one_way T.F_one_way.kp T.b_one_way .nil pass0 (pa_cons (pv 10) pa_nil)))) (pw_or (pt_cmpR op_notN (pe_call G_double (hr.mono (by decide)) rfl T.m_double T.F_double.kp T.b_double .nil pass0 (pa_cons (pv 10) pa_nil)) pe_non (nomark _)) (pw_or1 (pt_cmpR (op_neD hr.units) (pe_call G_rests (hr.mono (by decide)) rfl T.m_rests T.F_rests.kp T.b_rests .nil pass0 (pa_cons (pv 10) pa_nil)) (pe_lst pa_nil) (nomark _)))))) (pss_one (ps_ret pe_bl)) pss_nil)
        (pss_cons (ps_set (i := 11) sc_law.nd rfl (Or.inl rfl) (pe_make T.M_Loom G_Loom_init (hr.mono (by decide)) rfl T.g_Loom T.b_Loom_init .nil pass0 (pa_cons (pe_ix (ix_tupK (K := K) rfl) (pv 3) pe_int (fun _ _ => rfl)) (pa_cons (pe_op op_cat (pv 4) (pe_lst (pa_cons (pe_ix (ix_listK (K := K) rfl) (pv 4) pe_int (fun _ _ => rfl)) pa_nil))) pa_nil))))
        (pss_one (ps_if (pt_val (pe_call G_one_way (hr.mono (by decide)) rfl T.m_one_way T.F_one_way.kp T.b_one_way .nil pass0 (pa_cons (pv 11) pa_nil))) (pss_one (ps_ret pe_bl)) pss_nil)))))))))))))))
        (pss_one (ps_ret pe_bl)))), ?_⟩
    refine ⟨_, rfl, a, rfl, hS, fun H1 p l s1 hp hl st1 => ?_⟩
    refine ⟨3, rfl, by decide, by decide, for_range (lo := 0) (n := 3) (fun i σ H' => ∃ v2 v3 v4 v5 v6 v7 v8 v9 v10 v11 : Option V, σ = [some (.ref a), some (.ref p), v2, v3, v4, v5, v6, v7, v8, v9, v10, v11, none, none, none] ∧ StAt ns l H' p) ?_ ?_ ?_⟩
    · exact ⟨none, none, none, none, none, none, none, none, none, none, rfl, st1⟩
    · rintro i σ H2 hi ⟨v2, v3, v4, v5, v6, v7, v8, v9, v10, v11, rfl, st2⟩
      refine ⟨_, rfl, p, l, rfl, st2, fun H3 q r sg us as x3 st3 hq hr0 htup hlst harc hok hsg hfour => ?_⟩
      have nrp : r ≠ p := (st2.ne hr0).1
      have nqp : q ≠ p := (st2.ne hq).1
      refine ⟨_, rfl, q, _, 1, _, rfl, rfl, SqT.of htup, rfl, ?_⟩
      refine ⟨_, rfl, q, r, sg, us, as, rfl, htup, hlst, harc, hok.w, hsg, fun H4 lm s4 hlm hloom => ?_⟩
      have oka := hok.all
      have hal := hok.2.1
      have four : Four as := ⟨by omega, hfour⟩
      have hwd := wdA_all oka
      have fr4 : Frm T.C_Loom ns l p lm r sg us as H4 := ⟨st3.same s4, hloom, s4 _ _ hlst, harc.same s4, nrp⟩
      have htup4 := s4 _ _ htup
      obtain ⟨ms, hm1, hm2⟩ := met_ex oka
      have hmu : ∀ ms' : List Nat, (∀ x, x ∈ ms' ↔ Reach as x) → ms'.Pairwise (· < ·) → ms' = ms := fun ms' h1 h2 => reach_uniq h2 hm2 h1 hm1
      have arcL4 : ArcL H4 r as := ⟨us, fr4.arl, fr4.arcs⟩
      refine ⟨fun σ' H' => ∃ (n : Nat) (o : Option Nat), σ' = [some (.ref a), some (.ref p), some (.int (0 + (i : Int))), some (.ref q), some (.ref r), some (.ref lm), some (.int (n : Int)), some (oV o), v8, v9, v10, v11, none, none, none] ∧ Same H4 H' ∧ FstD as ms 7 n o, ?_, ?_⟩
      · refine ⟨_, rfl, r, as, 7, 250, rfl, arcL4, oka, by omega, by decide, by decide, by decide, fun H5 t ms' n o s5 _ ht h1 h2 hf => ?_⟩
        rw [hmu ms' h2 h1] at hf
        refine ⟨t, _, rfl, SqT.of ht, rfl, _, _, rfl, _, _, rfl, rfl, ?_⟩
        exact ⟨n, o, rfl, s5, hf⟩
      rintro σ' H5 ⟨n, o, rfl, s5, hf⟩
      refine ⟨fun σ' H' => ∃ b : Bool, σ' = [some (.ref a), some (.ref p), some (.int (0 + (i : Int))), some (.ref q), some (.ref r), some (.ref lm), some (.int (n : Int)), some (oV o), some (.bl b), v9, v10, v11, none, none, none] ∧ Same H4 H' ∧ (b = true ↔ NE as ms), ?_, ?_⟩
      · refine ⟨_, rfl, lm, sg, us, as, rfl, fr4.lo.same s5, fun H6 b ms' s6 h1 h2 hb => ?_⟩
        rw [hmu ms' h1 h2] at hb
        exact ⟨b, rfl, s5.trans s6, hb⟩
      rintro σ' H6 ⟨b, rfl, s6, hb⟩
      refine ⟨fun σ' H' => σ' = [some (.ref a), some (.ref p), some (.int (0 + (i : Int))), some (.ref q), some (.ref r), some (.ref lm), some (.int (n : Int)), some (oV o), some (.bl b), v9, v10, v11, none, none, none] ∧ H' = H6, ?_, ?_⟩
      · cases o with
        | none =>
          refine ⟨_, rfl, rfl, _, rfl, ?_⟩
          refine ite2 (fun c => absurd c (by simp [oV])) fun _ => ?_
          exact ⟨rfl, rfl⟩
        | some m =>
          refine ⟨_, rfl, rfl, _, rfl, ?_⟩
          obtain ⟨g, X, Y, hg, d, _⟩ := hf.2.1 m rfl
          obtain ⟨e, he1, he2⟩ := alike_even hwd hm1 X Y g ((hm1 g).mp hg) d.1 d.2.1 d.2.2.1 d.2.2.2.2 d.2.2.2.1
          obtain rfl : b = false := by
            cases b with
            | false => rfl
            | true => rw [hb.mp rfl e he1] at he2; cases he2
          refine ite2 (fun _ => ?_) fun c => absurd rfl c
          refine ⟨_, rfl, _, rfl, ?_⟩
          refine ite2 (fun c => absurd c (by simp)) fun _ => ?_
          exact ⟨rfl, rfl⟩
      rintro σ' H7 ⟨rfl, rfl⟩
      have fr7 := fr4.same s6
      have htup7 := s6 _ _ htup4
      refine ⟨fun σ' H' => ∃ v9, σ' = [some (.ref a), some (.ref p), some (.int (0 + (i : Int))), some (.ref q), some (.ref r), some (.ref lm), some (.int (n : Int)), some (oV o), some (.bl b), some v9, v10, v11, none, none, none] ∧ Same H7 H' ∧ Told as ms p H' v9, ?_, ?_⟩
      · refine ⟨_, rfl, lm, sg, us, as, 728, rfl, fr7.lo, few12 oka four, by decide, fun H8 ms' s8 h1 h2 hne => ⟨_, rfl, s8, .inl ⟨rfl, by rw [← hmu ms' h2 h1]; exact hne⟩⟩, fun H8 ms' t ta tb g X Y r2 s8 ht0 ha0 hb0 hpw hms hR hev ht hta htb hg hP hX hY hXY hll => ?_⟩
        have st7 := fr7.st
        obtain ⟨p1, p2, p3, p4, p5⟩ := hP
        obtain ⟨b1, b2⟩ : r2.1 = r2.2.1 ∧ r2.2.2 = [] := by
          unfold evenB at hev
          rw [Bool.and_eq_true] at hev
          exact ⟨eq_of_beq hev.1, eq_of_beq hev.2⟩
        refine ⟨_, rfl, s8, .inr ⟨t, ta, tb, g, X, Y, r2, rfl, ht, hta, htb, ⟨(st7.ne ht0).1, (st7.ne ha0).1, (st7.ne hb0).1⟩, ⟨(hms g).mp hg, p1, p2, hXY, ?_, ?_, hX, hY, by omega⟩, by rw [← hmu ms' hms hpw]; exact hR, hev⟩⟩
        · rw [p3, p4, b1]
        · rw [b2, List.append_nil] at p5
          exact p5.symm
      rintro σ' H8 ⟨v9, rfl, s8, told⟩
      have fr8 := fr7.same s8
      refine ⟨fun σ' H' => σ' = [some (.ref a), some (.ref p), some (.int (0 + (i : Int))), some (.ref q), some (.ref r), some (.ref lm), some (.int (n : Int)), some (oV o), some (.bl b), some v9, v10, v11, none, none, none] ∧ H' = H8, ?_, ?_⟩
      · rcases told with ⟨rfl, ne⟩ | ⟨t, ra, rb, g, X, Y, e, rfl, ht, hra, hrb, np3, hdr, hRe, hev⟩
        · obtain rfl : b = true := hb.mpr ne
          refine ⟨_, rfl, _, rfl, rfl, rfl, _, rfl, ?_⟩
          refine ite2 (fun c => absurd c (by simp)) fun _ => ?_
          exact ⟨rfl, rfl⟩
        · obtain rfl : b = false := by
            cases b with
            | false => rfl
            | true => rw [hb.mp rfl e hRe] at hev; cases hev
          refine ⟨_, rfl, _, rfl, rfl, rfl, _, rfl, ?_⟩
          refine ite2 (fun c => absurd c (by simp)) fun _ => ?_
          exact ⟨rfl, rfl⟩
      rintro σ' H9 ⟨rfl, rfl⟩
      refine ⟨fun σ' H' => σ' = [some (.ref a), some (.ref p), some (.int (0 + (i : Int))), some (.ref q), some (.ref r), some (.ref lm), some (.int (n : Int)), some (oV o), some (.bl b), some v9, v10, v11, none, none, none] ∧ Same H9 H', ?_, ?_⟩
      · rcases told with ⟨rfl, ne⟩ | ⟨t, ra, rb, g, X, Y, e, rfl, ht, hra, hrb, np3, hdr, hRe, hev⟩
        · refine ⟨_, rfl, rfl, _, rfl, ?_⟩
          refine ite2 (fun c => absurd c (by simp)) fun _ => ?_
          exact ⟨rfl, Same.refl _⟩
        · refine ⟨_, rfl, rfl, _, rfl, ?_⟩
          refine ite2 (fun _ => ?_) fun c => absurd (by simp) c
          obtain ⟨dR, dX, dY, dh, dend, dtx, dX0, dY0, dlen⟩ := hdr
          have dne : X ≠ Y := fun z => dh (by rw [z])
          have isI : ∀ (R : List Nat), ∀ v ∈ nats R, It K H9 v := fun R v hv => by obtain ⟨n, _, rfl⟩ := List.mem_map.mp hv; exact .int _
          have nX := nats_len2 X
          have nY := nats_len2 Y
          have trp3 : Trp K H9 (.ref t) (some (.int (g : Int), some (nats X), some (nats Y))) := .three ht (.int _) (.seq (.inl hra) (isI X) (by omega)) (.seq (.inl hrb) (isI Y) (by omega))
          refine ⟨_, rfl, _, rfl, r, as, .ref t, _, rfl, ⟨us, fr8.arl, fr8.arcs⟩, oka, by omega, trp3, fun H10 b' s10 hb' => ?_⟩
          have hbv : b' = true := by
            rw [hb' ms hm1 hm2, dblB_of (pairB_of (dR.le oka) ((hm1 g).mpr dR) dX dY (by omega) (by omega)), decide_eq_false dne, decide_eq_true dend, decide_eq_true dtx]
            rfl
          subst hbv
          have fr11 := fr8.same s10
          obtain ⟨x0, X', rfl⟩ : ∃ x0 X', X = x0 :: X' := by
            cases X with
            | nil => exact absurd rfl dX0
            | cons x0 X' => exact ⟨_, _, rfl⟩
          obtain ⟨y0, Y', rfl⟩ : ∃ y0 Y', Y = y0 :: Y' := by
            cases Y with
            | nil => exact absurd rfl dY0
            | cons y0 Y' => exact ⟨_, _, rfl⟩
          have dh2 : x0 ≠ y0 := dh
          refine ⟨true, rfl, ?_⟩
          refine ite2 (fun c => absurd c (by simp)) fun _ => ?_
          refine ⟨_, rfl, t, _, 1, _, rfl, rfl, SqT.of (s10 _ _ ht), rfl, ra, _, 0, _, rfl, rfl, SqL.of (s10 _ _ hra), atI_nat (j := 0) rfl, ?_⟩
          refine ⟨_, rfl, t, _, 2, _, rfl, rfl, SqT.of (s10 _ _ ht), rfl, rb, _, 0, _, rfl, rfl, SqL.of (s10 _ _ hrb), atI_nat (j := 0) rfl, ?_⟩
          refine ⟨rfl, false, ?_, ?_⟩
          · congr 1
            exact decide_eq_false fun z => dh2 (by injection z with z; omega)
          refine ite2 (fun c => absurd c (by simp)) fun _ => ?_
          have hl2000 : (x0 :: X').length ≤ 2000 := by omega
          refine ⟨_, rfl, _, rfl, t, _, 1, _, rfl, rfl, SqT.of (s10 _ _ ht), rfl, r, ra, as, x0 :: X', rfl, ⟨us, fr11.arl, fr11.arcs⟩, oka, s10 _ _ hra, dX.rowIn, by omega, fun H12 s12 => ?_⟩
          rw [rowText_txA]
          have htl : (txA as (x0 :: X')).length ≤ 100000 := by
            have h12 := txA_len12 oka (x0 :: X')
            omega
          refine ⟨_, rfl, le_size (by rw [SX.S_len]; exact htl), ?_⟩
          refine ⟨_, rfl, _, _, rfl, rfl, _, rfl, ?_⟩
          have fin : ∀ H', Same H10 H' → Same H9 H' := fun H' s => s10.trans s
          refine ite2 (fun c => ?_) (fun c => ?_)
          · have c1 : (txA as (x0 :: X')).length ≤ n := by
              have := of_decide_eq_true c
              rw [SX.S_len] at this
              omega
            obtain ⟨b', hb1, _⟩ := hf.2.2 g ((hm1 g).mpr dR) (x0 :: X') (y0 :: Y') ⟨dX, dY, dne, dend, dtx⟩ c1
            subst hb1
            refine ⟨_, rfl, rfl, _, rfl, ?_⟩
            refine ite2 (fun c => absurd c (by simp [oV])) fun _ => ?_
            exact ⟨rfl, fin _ s12⟩
          · exact ⟨rfl, fin _ s12⟩
      rintro σ' H10 ⟨rfl, s10⟩
      have fr10 := fr8.same s10
      have htup10 := s10 _ _ (s8 _ _ htup7)
      have hul := fr10.arcs.1
      refine ⟨fun σ' H' => ∃ (lf : Addr) (ws : List V) (bs : List Arc), σ' = [some (.ref a), some (.ref p), some (.int (0 + (i : Int))), some (.ref q), some (.ref r), some (.ref lm), some (.int (n : Int)), some (oV o), some (.bl b), some v9, some (.ref lf), v11, none, none, none] ∧ Same H10 H' ∧ LoomAt T.C_Loom H' lf sg ws bs ∧ ∀ a ∈ bs, a.1 ≠ 0, ?_, ?_⟩
      · refine ⟨_, rfl, q, _, 0, _, rfl, rfl, SqT.of htup10, rfl, ?_⟩
        refine ⟨_, rfl, r, rfl, ⟨_, SqL.of fr10.arl⟩, fun D hD => lc_list (K := K) (a := r) (xs := us) (fun j H' => ∃ ws, H' D = some (.lst ws) ∧ Arcs H' ws ((as.take j).map fun a : Arc => (5, a.2.1, 6)) ∧ Same H10 H') ⟨[], upd_same, Arcs.nil _, Same.new _ hD⟩ (fun j H' _ ⟨_, _, _, sm⟩ => SqL.of (sm _ _ fr10.arl)) ?_ ?_⟩
        · rintro j x H11 hx ⟨ws, hDl, harc, sm⟩
          have hj := (List.getElem?_eq_some_iff.mp hx).1
          have haj : as[j]? = some as[j] := List.getElem?_eq_getElem (by omega)
          obtain ⟨tj, e1, e2⟩ := fr10.arcs.2 j _ haj
          generalize as[j] = aj at *
          rw [hx] at e1
          cases e1
          refine ⟨tj, _, rfl, SqT.of (sm _ _ e2), rfl, _, _, rfl, _, _, rfl, _, _, rfl, rfl, rfl, ?_⟩
          refine ⟨_, rfl, le_size (by simp), fun tn htn => ?_⟩
          have sn := Same.new (.tup [V.int 5, V.str (SX.S aj.2.1), V.int 6]) htn
          have gn : upd H11 tn (.tup [V.int 5, V.str (SX.S aj.2.1), V.int 6]) tn = some (arcHO (5, aj.2.1, 6)) := upd_same
          generalize upd H11 tn (.tup [V.int 5, V.str (SX.S aj.2.1), V.int 6]) = H12 at *
          have hwl := harc.1
          rw [List.length_map, List.length_take] at hwl
          refine ⟨ws, sn _ _ hDl, lt_size (by omega), ws ++ [.ref tn], upd_same, ?_, (sm.trans sn).updNew hD⟩
          rw [← take_snoc haj, List.map_append]
          exact Arcs.snoc ((harc.same sn).updL (sn _ _ hDl)) (by rw [upd_ne fun z => by rw [z, sn _ _ hDl] at gn; cases gn]; exact gn)
        rintro H11 ⟨ws, hDl, harc11, s11⟩
        rw [List.take_of_length_le (by omega)] at harc11
        have fr11 := fr10.same s11
        refine ⟨_, rfl, r, rfl, ⟨_, SqL.of fr11.arl⟩, fun D2 hD2 => lc_list (K := K) (a := r) (xs := us) (fun j H' => ∃ ws, H' D2 = some (.lst ws) ∧ Arcs H' ws ((as.take j).map fun a : Arc => (6, a.2.1, 5)) ∧ Same H11 H') ⟨[], upd_same, Arcs.nil _, Same.new _ hD2⟩ (fun j H' _ ⟨_, _, _, sm⟩ => SqL.of (sm _ _ fr11.arl)) ?_ ?_⟩
        · rintro j x H12 hx ⟨ws, hDl, harc, sm⟩
          have hj := (List.getElem?_eq_some_iff.mp hx).1
          have haj : as[j]? = some as[j] := List.getElem?_eq_getElem (by omega)
          obtain ⟨tj, e1, e2⟩ := fr11.arcs.2 j _ haj
          generalize as[j] = aj at *
          rw [hx] at e1
          cases e1
          refine ⟨tj, _, rfl, SqT.of (sm _ _ e2), rfl, _, _, rfl, _, _, rfl, _, _, rfl, rfl, rfl, ?_⟩
          refine ⟨_, rfl, le_size (by simp), fun tn htn => ?_⟩
          have sn := Same.new (.tup [V.int 6, V.str (SX.S aj.2.1), V.int 5]) htn
          have gn : upd H12 tn (.tup [V.int 6, V.str (SX.S aj.2.1), V.int 5]) tn = some (arcHO (6, aj.2.1, 5)) := upd_same
          generalize upd H12 tn (.tup [V.int 6, V.str (SX.S aj.2.1), V.int 5]) = H13 at *
          have hwl := harc.1
          rw [List.length_map, List.length_take] at hwl
          refine ⟨ws, sn _ _ hDl, lt_size (by omega), ws ++ [.ref tn], upd_same, ?_, (sm.trans sn).updNew hD2⟩
          rw [← take_snoc haj, List.map_append]
          exact Arcs.snoc ((harc.same sn).updL (sn _ _ hDl)) (by rw [upd_ne fun z => by rw [z, sn _ _ hDl] at gn; cases gn]; exact gn)
        rintro H12 ⟨ws2, hDl2, harc12, s12⟩
        rw [List.take_of_length_le (by omega)] at harc12
        have hw1 := harc11.1
        have hw2 := harc12.1
        rw [List.length_map] at hw1 hw2
        refine ⟨D, D2, _, _, rfl, rfl, s12 _ _ hDl, hDl2, le_size (by omega), fun D3 hD3 => ?_⟩
        have s13 := Same.new (.lst (ws ++ ws2)) hD3
        have g13 : upd H12 D3 (.lst (ws ++ ws2)) D3 = some (.lst (ws ++ ws2)) := upd_same
        generalize upd H12 D3 (.lst (ws ++ ws2)) = H13 at *
        have harc13 := ((harc11.same s12).appendF harc12).same s13
        generalize ebs : ((as.map fun a : Arc => ((5, a.2.1, 6) : Arc)) ++ as.map fun a : Arc => ((6, a.2.1, 5) : Arc)) = bs at *
        have hbl : bs.length = as.length + as.length := by rw [← ebs]; simp
        have hmem : ∀ b ∈ bs, ∃ a ∈ as, b = (5, a.2.1, 6) ∨ b = (6, a.2.1, 5) := fun b hb => by
          rw [← ebs] at hb
          rcases List.mem_append.mp hb with h | h
          · obtain ⟨a, ha, rfl⟩ := List.mem_map.mp h
            exact ⟨a, ha, .inl rfl⟩
          · obtain ⟨a, ha, rfl⟩ := List.mem_map.mp h
            exact ⟨a, ha, .inr rfl⟩
        have okbw : OkW sg bs := ⟨by have := hok.1; omega, by omega, fun b hb => by
          obtain ⟨a, ha, h⟩ := hmem b hb
          obtain ⟨_, hw, _⟩ := hok.2.2.1 a ha
          rcases h with rfl | rfl
          · exact ⟨by show (5 : Nat) ≤ 63; decide, hw, by show (6 : Nat) ≤ 63; decide⟩
          · exact ⟨by show (6 : Nat) ≤ 63; decide, hw, by show (5 : Nat) ≤ 63; decide⟩⟩
        have hb0 : ∀ b ∈ bs, b.1 ≠ 0 := fun b hb => by
          obtain ⟨a, ha, h⟩ := hmem b hb
          rcases h with rfl | rfl
          · exact (by decide : (5 : Nat) ≠ 0)
          · exact (by decide : (6 : Nat) ≠ 0)
        intro lf dx hx0 hdx0 hne
        have s2 : Same H13 (upd (upd H13 dx (.own lf)) lf (.ins T.C_Loom dx [])) := (Same.new _ hdx0).updNew hx0
        refine ⟨lf, dx, D3, sg, _, bs, rfl, upd_same, s2 _ _ g13, harc13.same s2, okbw, hsg, fun H14 Tp x3 hTp hTus hx3 => ⟨rfl, ?_⟩⟩
        have s14 : Same H13 H14 := fun b o e => x3 _ _ (ne_of_none e hx0) (s2 _ _ e)
        exact ⟨lf, _, bs, rfl, ((s11.trans s12).trans s13).trans s14, ⟨dx, Tp, hx3, hTus, harc13.same s14, okbw, hsg⟩, hb0⟩
      rintro σ' H11 ⟨lf, ws, bs, rfl, s11, hlf, hb0⟩
      have fr11 := fr10.same s11
      have htup11 := s11 _ _ htup10
      refine ⟨fun σ' H' => σ' = [some (.ref a), some (.ref p), some (.int (0 + (i : Int))), some (.ref q), some (.ref r), some (.ref lm), some (.int (n : Int)), some (oV o), some (.bl b), some v9, some (.ref lf), v11, none, none, none] ∧ Same H11 H', ?_, ?_⟩
      · refine ⟨_, rfl, lf, sg, ws, bs, rfl, hlf, fun H12 b' ms' s12 h1 h2 hb' => ?_⟩
        obtain rfl : b' = true := hb'.mpr fun r hr => absurd hr (far_none h1 hb0)
        refine ⟨true, rfl, ?_⟩
        refine ite2 (fun c => absurd c (by simp)) fun _ => ?_
        refine ⟨_, rfl, lf, sg, ws, bs, 0, rfl, hlf.same s12, few_none hb0, by decide, fun H13 ms2 s13 h1 h2 _ => ?_, fun H13 ms2 t2 ta tb g X Y r2 s13 _ _ _ h1 h2 hR hev _ _ _ _ _ _ _ _ _ => absurd hR (far_none h2 hb0)⟩
        refine ⟨rfl, _, rfl, ?_⟩
        refine ite2 (fun c => absurd c (by simp)) fun _ => ?_
        refine ⟨_, rfl, lf, sg, ws, bs, rfl, hlf.same (s12.trans s13), fun H14 t vs rs ms3 s14 _ ht hrs h1 h2 hcan => ?_⟩
        obtain rfl : rs = [] := List.eq_nil_iff_forall_not_mem.mpr fun y hy => far_none h1 hb0 ((hcan.mem y).mp hy)
        refine ⟨le_size (by simp), fun Z hZ => ?_⟩
        refine ⟨.list ([].map restD), .list [], .lst (SqL.of ((Same.new _ hZ) _ _ ht)) (dp_rests (hrs.same (Same.new _ hZ))), .lst (SqL.of upd_same) .nil, by decide, by decide, ?_⟩
        refine ⟨false, rfl, ?_⟩
        refine ite2 (fun c => absurd c (by simp)) fun _ => ?_
        exact ⟨rfl, ((s12.trans s13).trans s14).trans (Same.new _ hZ)⟩
      rintro σ' H12 ⟨rfl, s12⟩
      have fr12 := fr11.same s12
      have htup12 := s12 _ _ htup11
      obtain ⟨a0, ha0, ea0⟩ := hok.2.2.2
      obtain ⟨t0, e1, e2⟩ := fr12.arcs.2 0 a0 ha0
      refine ⟨_, rfl, q, _, 0, _, rfl, rfl, SqT.of htup12, rfl, ?_⟩
      refine ⟨_, rfl, _, rfl, r, us, 0, _, rfl, rfl, SqL.of fr12.arl, atI_nat (j := 0) e1, le_size (by simp), fun b1 hb1 => ?_⟩
      have s13 := Same.new (.lst [V.ref t0]) hb1
      have g13 : upd H12 b1 (.lst [V.ref t0]) b1 = some (.lst [V.ref t0]) := upd_same
      generalize upd H12 b1 (.lst [V.ref t0]) = H13 at *
      refine ⟨r, b1, _, _, rfl, rfl, s13 _ _ fr12.arl, g13, le_size (by simp; omega), fun b2 hb2 => ?_⟩
      have s14 := Same.new (.lst (us ++ [V.ref t0])) hb2
      have g14 : upd H13 b2 (.lst (us ++ [V.ref t0])) b2 = some (.lst (us ++ [V.ref t0])) := upd_same
      generalize upd H13 b2 (.lst (us ++ [V.ref t0])) = H14 at *
      have s24 := s13.trans s14
      have harc14 : Arcs H14 (us ++ [V.ref t0]) (as ++ [a0]) := Arcs.snoc (fr12.arcs.same s24) (s24 _ _ e2)
      have okb : OkW sg (as ++ [a0]) := okW_snoc hok.w (hok.2.2.1 a0 (List.mem_of_getElem? ha0)) (by omega)
      intro lg dx hx0 hdx0 hne
      have s2 : Same H14 (upd (upd H14 dx (.own lg)) lg (.ins T.C_Loom dx [])) := (Same.new _ hdx0).updNew hx0
      refine ⟨lg, dx, b2, sg, _, as ++ [a0], rfl, upd_same, s2 _ _ g14, harc14.same s2, okb, hsg, fun H15 Tp x3 hTp hTus hx3 => ⟨rfl, ?_⟩⟩
      have s15 : Same H14 H15 := fun b o e => x3 _ _ (ne_of_none e hx0) (s2 _ _ e)
      refine ⟨_, rfl, lg, sg, _, as ++ [a0], rfl, ⟨dx, Tp, hx3, hTus, harc14.same s15, okb, hsg⟩, fun H16 b' ms' s16 h1 h2 hb' => ?_⟩
      have hev : Rch (as ++ [a0]) ms' (a0.2.2, a0.2.2, a0.2.1.drop a0.2.1.length) := .start (start_mk (g := 0) (i := 0) (j := as.length) ((h1 0).mpr .zero) (by have := hok.1; omega) (by rw [List.getElem?_append_left (by have := hok.1; omega)]; exact ha0) (by rw [List.getElem?_append_right (Nat.le_refl _)]; simp) ea0 ea0 (List.prefix_refl _))
      obtain rfl : b' = false := by
        cases b' with
        | false => rfl
        | true =>
          have z := hb'.mp rfl _ hev
          simp [evenB] at z
      refine ⟨false, rfl, ?_⟩
      refine ite2 (fun c => absurd c (by simp)) fun _ => ?_
      exact ⟨_, _, _, _, _, _, _, _, _, _, rfl, (fr12.st.same s24).same (s15.trans s16)⟩
    · rintro σ H2 ⟨v2, v3, v4, v5, v6, v7, v8, v9, v10, v11, rfl, st2⟩
      exact k _
end
end J


set_option Elab.async false
set_option linter.all false
set_option maxRecDepth 100000
set_option maxHeartbeats 4000000
namespace J
open PySem L2
theorem all_mk {l : PySem.W.OpenLaw} {w : World} {K : PySem.W.Frag} {h : Heap} {mg : Str → Option Value} {fa f_InvalidLoom_init f_is_number f_is_sequence f_is_signs f_is_string_over f_is_word f_check_signs f_is_arc f_Loom_init f_Loom_eq f_met f_arcs_by_state f_starts f_steps f_explored f_is_even f_way_to f_grown f_pair_at f_rests f_one_way f_Search_init f_Search_offer f_double f_l_state f_l_draw f_l_is_integer f_l_word f_l_loom f_l_made f_l_leaving f_l_met f_l_joined f_l_end f_l_all_rows f_l_rows_within f_l_is_row f_l_is_double f_l_first_double f_law C_InvalidLoom C_Loom C_Search : Addr} (X : K.In h) (G : h.Ns mainGlobals mg) (hfa : mg "law" = some (.ref fa))
    {od_InvalidLoom_init an_InvalidLoom_init : Option Addr} {sl_InvalidLoom_init : Array (Option Value)} {oc_InvalidLoom_init kV_InvalidLoom_init dc_InvalidLoom_init pm_InvalidLoom_init cd_InvalidLoom_init ct_InvalidLoom_init : Value}
    {od_is_number an_is_number : Option Addr} {sl_is_number : Array (Option Value)} {oc_is_number kV_is_number dc_is_number pm_is_number cd_is_number ct_is_number : Value}
    {od_is_sequence an_is_sequence : Option Addr} {sl_is_sequence : Array (Option Value)} {oc_is_sequence kV_is_sequence dc_is_sequence pm_is_sequence cd_is_sequence ct_is_sequence : Value}
    {od_is_signs an_is_signs : Option Addr} {sl_is_signs : Array (Option Value)} {oc_is_signs kV_is_signs dc_is_signs pm_is_signs cd_is_signs ct_is_signs : Value}
    {od_is_string_over an_is_string_over : Option Addr} {sl_is_string_over : Array (Option Value)} {oc_is_string_over kV_is_string_over dc_is_string_over pm_is_string_over cd_is_string_over ct_is_string_over : Value}
    {od_is_word an_is_word : Option Addr} {sl_is_word : Array (Option Value)} {oc_is_word kV_is_word dc_is_word pm_is_word cd_is_word ct_is_word : Value}
    {od_check_signs an_check_signs : Option Addr} {sl_check_signs : Array (Option Value)} {oc_check_signs kV_check_signs dc_check_signs pm_check_signs cd_check_signs ct_check_signs : Value}
    {od_is_arc an_is_arc : Option Addr} {sl_is_arc : Array (Option Value)} {oc_is_arc kV_is_arc dc_is_arc pm_is_arc cd_is_arc ct_is_arc : Value}
    {od_Loom_init an_Loom_init : Option Addr} {sl_Loom_init : Array (Option Value)} {oc_Loom_init kV_Loom_init dc_Loom_init pm_Loom_init cd_Loom_init ct_Loom_init : Value}
    {od_Loom_eq an_Loom_eq : Option Addr} {sl_Loom_eq : Array (Option Value)} {oc_Loom_eq kV_Loom_eq dc_Loom_eq pm_Loom_eq cd_Loom_eq ct_Loom_eq : Value}
    {od_met an_met : Option Addr} {sl_met : Array (Option Value)} {oc_met kV_met dc_met pm_met cd_met ct_met : Value}
    {od_arcs_by_state an_arcs_by_state : Option Addr} {sl_arcs_by_state : Array (Option Value)} {oc_arcs_by_state kV_arcs_by_state dc_arcs_by_state pm_arcs_by_state cd_arcs_by_state ct_arcs_by_state : Value}
    {od_starts an_starts : Option Addr} {sl_starts : Array (Option Value)} {oc_starts kV_starts dc_starts pm_starts cd_starts ct_starts : Value}
    {od_steps an_steps : Option Addr} {sl_steps : Array (Option Value)} {oc_steps kV_steps dc_steps pm_steps cd_steps ct_steps : Value}
    {od_explored an_explored : Option Addr} {sl_explored : Array (Option Value)} {oc_explored kV_explored dc_explored pm_explored cd_explored ct_explored : Value}
    {od_is_even an_is_even : Option Addr} {sl_is_even : Array (Option Value)} {oc_is_even kV_is_even dc_is_even pm_is_even cd_is_even ct_is_even : Value}
    {od_way_to an_way_to : Option Addr} {sl_way_to : Array (Option Value)} {oc_way_to kV_way_to dc_way_to pm_way_to cd_way_to ct_way_to : Value}
    {od_grown an_grown : Option Addr} {sl_grown : Array (Option Value)} {oc_grown kV_grown dc_grown pm_grown cd_grown ct_grown : Value}
    {od_pair_at an_pair_at : Option Addr} {sl_pair_at : Array (Option Value)} {oc_pair_at kV_pair_at dc_pair_at pm_pair_at cd_pair_at ct_pair_at : Value}
    {od_rests an_rests : Option Addr} {sl_rests : Array (Option Value)} {oc_rests kV_rests dc_rests pm_rests cd_rests ct_rests : Value}
    {od_one_way an_one_way : Option Addr} {sl_one_way : Array (Option Value)} {oc_one_way kV_one_way dc_one_way pm_one_way cd_one_way ct_one_way : Value}
    {od_Search_init an_Search_init : Option Addr} {sl_Search_init : Array (Option Value)} {oc_Search_init kV_Search_init dc_Search_init pm_Search_init cd_Search_init ct_Search_init : Value}
    {od_Search_offer an_Search_offer : Option Addr} {sl_Search_offer : Array (Option Value)} {oc_Search_offer kV_Search_offer dc_Search_offer pm_Search_offer cd_Search_offer ct_Search_offer : Value}
    {od_double an_double : Option Addr} {sl_double : Array (Option Value)} {oc_double kV_double dc_double pm_double cd_double ct_double : Value}
    {od_l_state an_l_state : Option Addr} {sl_l_state : Array (Option Value)} {oc_l_state kV_l_state dc_l_state pm_l_state cd_l_state ct_l_state : Value}
    {od_l_draw an_l_draw : Option Addr} {sl_l_draw : Array (Option Value)} {oc_l_draw kV_l_draw dc_l_draw pm_l_draw cd_l_draw ct_l_draw : Value}
    {od_l_is_integer an_l_is_integer : Option Addr} {sl_l_is_integer : Array (Option Value)} {oc_l_is_integer kV_l_is_integer dc_l_is_integer pm_l_is_integer cd_l_is_integer ct_l_is_integer : Value}
    {od_l_word an_l_word : Option Addr} {sl_l_word : Array (Option Value)} {oc_l_word kV_l_word dc_l_word pm_l_word cd_l_word ct_l_word : Value}
    {od_l_loom an_l_loom : Option Addr} {sl_l_loom : Array (Option Value)} {oc_l_loom kV_l_loom dc_l_loom pm_l_loom cd_l_loom ct_l_loom : Value}
    {od_l_made an_l_made : Option Addr} {sl_l_made : Array (Option Value)} {oc_l_made kV_l_made dc_l_made pm_l_made cd_l_made ct_l_made : Value}
    {od_l_leaving an_l_leaving : Option Addr} {sl_l_leaving : Array (Option Value)} {oc_l_leaving kV_l_leaving dc_l_leaving pm_l_leaving cd_l_leaving ct_l_leaving : Value}
    {od_l_met an_l_met : Option Addr} {sl_l_met : Array (Option Value)} {oc_l_met kV_l_met dc_l_met pm_l_met cd_l_met ct_l_met : Value}
    {od_l_joined an_l_joined : Option Addr} {sl_l_joined : Array (Option Value)} {oc_l_joined kV_l_joined dc_l_joined pm_l_joined cd_l_joined ct_l_joined : Value}
    {od_l_end an_l_end : Option Addr} {sl_l_end : Array (Option Value)} {oc_l_end kV_l_end dc_l_end pm_l_end cd_l_end ct_l_end : Value}
    {od_l_all_rows an_l_all_rows : Option Addr} {sl_l_all_rows : Array (Option Value)} {oc_l_all_rows kV_l_all_rows dc_l_all_rows pm_l_all_rows cd_l_all_rows ct_l_all_rows : Value}
    {od_l_rows_within an_l_rows_within : Option Addr} {sl_l_rows_within : Array (Option Value)} {oc_l_rows_within kV_l_rows_within dc_l_rows_within pm_l_rows_within cd_l_rows_within ct_l_rows_within : Value}
    {od_l_is_row an_l_is_row : Option Addr} {sl_l_is_row : Array (Option Value)} {oc_l_is_row kV_l_is_row dc_l_is_row pm_l_is_row cd_l_is_row ct_l_is_row : Value}
    {od_l_is_double an_l_is_double : Option Addr} {sl_l_is_double : Array (Option Value)} {oc_l_is_double kV_l_is_double dc_l_is_double pm_l_is_double cd_l_is_double ct_l_is_double : Value}
    {od_l_first_double an_l_first_double : Option Addr} {sl_l_first_double : Array (Option Value)} {oc_l_first_double kV_l_first_double dc_l_first_double pm_l_first_double cd_l_first_double ct_l_first_double : Value}
    {od_law an_law : Option Addr} {sl_law : Array (Option Value)} {oc_law kV_law dc_law pm_law cd_law ct_law : Value}
    {nm_InvalidLoom q_InvalidLoom : Str} {ns_InvalidLoom : Addr} {bs_InvalidLoom : List Value} {sn_InvalidLoom : List Str} {sub_InvalidLoom : List Value} {ab_InvalidLoom : Bool} {col_InvalidLoom : Option Bool} {dd_InvalidLoom : Option Addr} {m0_InvalidLoom m1_InvalidLoom m2_InvalidLoom m3_InvalidLoom m5_InvalidLoom : Option Value}
    {t_MOST_SIGNS : Tok}
    {t_LONGEST_WORD : Tok}
    {t_LAST_STATE : Tok}
    {t_MOST_ARCS : Tok}
    (a_CSearch : PySem.W.nsIn K mainGlobals "Search" = some (some (.ref C_Search)))
    (a_CLoom : PySem.W.nsIn K mainGlobals "Loom" = some (some (.ref C_Loom)))
    (a_CInvalidLoom : PySem.W.nsIn K mainGlobals "InvalidLoom" = some (some (.ref C_InvalidLoom)))
    (a_InvalidLoom_init : PySem.W.findIn K (.ref C_InvalidLoom) "__init__" = some (some (.ref f_InvalidLoom_init)))
    (i_InvalidLoom_init : PySem.W.isFn K (.ref f_InvalidLoom_init) = true)
    (l_InvalidLoom_init : K.lookup f_InvalidLoom_init = some ⟨oc_InvalidLoom_init, od_InvalidLoom_init, .func (PySem.W.fnOf "__init__" "InvalidLoom.__init__" (defArgs s_InvalidLoom_init) (defBody s_InvalidLoom_init) (defScope s_InvalidLoom_init) .none kV_InvalidLoom_init dc_InvalidLoom_init pm_InvalidLoom_init an_InvalidLoom_init cd_InvalidLoom_init ct_InvalidLoom_init), sl_InvalidLoom_init⟩)
    (c_InvalidLoom_init : PySem.W.codeIn K cd_InvalidLoom_init "InvalidLoom.__init__" = true)
    (k_InvalidLoom_init : PySem.W.keepIn K (.ref f_InvalidLoom_init) = true)
    (a_is_number : PySem.W.nsIn K mainGlobals "is_number" = some (some (.ref f_is_number)))
    (l_is_number : K.lookup f_is_number = some ⟨oc_is_number, od_is_number, .func (PySem.W.fnOf "is_number" "is_number" (defArgs s_is_number) (defBody s_is_number) (defScope s_is_number) .none kV_is_number dc_is_number pm_is_number an_is_number cd_is_number ct_is_number), sl_is_number⟩)
    (c_is_number : PySem.W.codeIn K cd_is_number "is_number" = true)
    (k_is_number : PySem.W.keepIn K (.ref f_is_number) = true)
    (a_is_sequence : PySem.W.nsIn K mainGlobals "is_sequence" = some (some (.ref f_is_sequence)))
    (l_is_sequence : K.lookup f_is_sequence = some ⟨oc_is_sequence, od_is_sequence, .func (PySem.W.fnOf "is_sequence" "is_sequence" (defArgs s_is_sequence) (defBody s_is_sequence) (defScope s_is_sequence) .none kV_is_sequence dc_is_sequence pm_is_sequence an_is_sequence cd_is_sequence ct_is_sequence), sl_is_sequence⟩)
    (c_is_sequence : PySem.W.codeIn K cd_is_sequence "is_sequence" = true)
    (k_is_sequence : PySem.W.keepIn K (.ref f_is_sequence) = true)
    (a_is_signs : PySem.W.nsIn K mainGlobals "is_signs" = some (some (.ref f_is_signs)))
    (l_is_signs : K.lookup f_is_signs = some ⟨oc_is_signs, od_is_signs, .func (PySem.W.fnOf "is_signs" "is_signs" (defArgs s_is_signs) (defBody s_is_signs) (defScope s_is_signs) .none kV_is_signs dc_is_signs pm_is_signs an_is_signs cd_is_signs ct_is_signs), sl_is_signs⟩)
    (c_is_signs : PySem.W.codeIn K cd_is_signs "is_signs" = true)
    (k_is_signs : PySem.W.keepIn K (.ref f_is_signs) = true)
    (a_is_string_over : PySem.W.nsIn K mainGlobals "is_string_over" = some (some (.ref f_is_string_over)))
    (l_is_string_over : K.lookup f_is_string_over = some ⟨oc_is_string_over, od_is_string_over, .func (PySem.W.fnOf "is_string_over" "is_string_over" (defArgs s_is_string_over) (defBody s_is_string_over) (defScope s_is_string_over) .none kV_is_string_over dc_is_string_over pm_is_string_over an_is_string_over cd_is_string_over ct_is_string_over), sl_is_string_over⟩)
    (c_is_string_over : PySem.W.codeIn K cd_is_string_over "is_string_over" = true)
    (k_is_string_over : PySem.W.keepIn K (.ref f_is_string_over) = true)
    (a_is_word : PySem.W.nsIn K mainGlobals "is_word" = some (some (.ref f_is_word)))
    (l_is_word : K.lookup f_is_word = some ⟨oc_is_word, od_is_word, .func (PySem.W.fnOf "is_word" "is_word" (defArgs s_is_word) (defBody s_is_word) (defScope s_is_word) .none kV_is_word dc_is_word pm_is_word an_is_word cd_is_word ct_is_word), sl_is_word⟩)
    (c_is_word : PySem.W.codeIn K cd_is_word "is_word" = true)
    (k_is_word : PySem.W.keepIn K (.ref f_is_word) = true)
    (a_check_signs : PySem.W.nsIn K mainGlobals "check_signs" = some (some (.ref f_check_signs)))
    (l_check_signs : K.lookup f_check_signs = some ⟨oc_check_signs, od_check_signs, .func (PySem.W.fnOf "check_signs" "check_signs" (defArgs s_check_signs) (defBody s_check_signs) (defScope s_check_signs) .none kV_check_signs dc_check_signs pm_check_signs an_check_signs cd_check_signs ct_check_signs), sl_check_signs⟩)
    (c_check_signs : PySem.W.codeIn K cd_check_signs "check_signs" = true)
    (k_check_signs : PySem.W.keepIn K (.ref f_check_signs) = true)
    (a_is_arc : PySem.W.nsIn K mainGlobals "is_arc" = some (some (.ref f_is_arc)))
    (l_is_arc : K.lookup f_is_arc = some ⟨oc_is_arc, od_is_arc, .func (PySem.W.fnOf "is_arc" "is_arc" (defArgs s_is_arc) (defBody s_is_arc) (defScope s_is_arc) .none kV_is_arc dc_is_arc pm_is_arc an_is_arc cd_is_arc ct_is_arc), sl_is_arc⟩)
    (c_is_arc : PySem.W.codeIn K cd_is_arc "is_arc" = true)
    (k_is_arc : PySem.W.keepIn K (.ref f_is_arc) = true)
    (a_Loom_init : PySem.W.findIn K (.ref C_Loom) "__init__" = some (some (.ref f_Loom_init)))
    (i_Loom_init : PySem.W.isFn K (.ref f_Loom_init) = true)
    (l_Loom_init : K.lookup f_Loom_init = some ⟨oc_Loom_init, od_Loom_init, .func (PySem.W.fnOf "__init__" "Loom.__init__" (defArgs s_Loom_init) (defBody s_Loom_init) (defScope s_Loom_init) .none kV_Loom_init dc_Loom_init pm_Loom_init an_Loom_init cd_Loom_init ct_Loom_init), sl_Loom_init⟩)
    (c_Loom_init : PySem.W.codeIn K cd_Loom_init "Loom.__init__" = true)
    (k_Loom_init : PySem.W.keepIn K (.ref f_Loom_init) = true)
    (a_Loom_eq : PySem.W.findIn K (.ref C_Loom) "__eq__" = some (some (.ref f_Loom_eq)))
    (l_Loom_eq : K.lookup f_Loom_eq = some ⟨oc_Loom_eq, od_Loom_eq, .func (PySem.W.fnOf "__eq__" "Loom.__eq__" (defArgs s_Loom_eq) (defBody s_Loom_eq) (defScope s_Loom_eq) .none kV_Loom_eq dc_Loom_eq pm_Loom_eq an_Loom_eq cd_Loom_eq ct_Loom_eq), sl_Loom_eq⟩)
    (c_Loom_eq : PySem.W.codeIn K cd_Loom_eq "Loom.__eq__" = true)
    (k_Loom_eq : PySem.W.keepIn K (.ref f_Loom_eq) = true)
    (a_met : PySem.W.nsIn K mainGlobals "met" = some (some (.ref f_met)))
    (l_met : K.lookup f_met = some ⟨oc_met, od_met, .func (PySem.W.fnOf "met" "met" (defArgs s_met) (defBody s_met) (defScope s_met) .none kV_met dc_met pm_met an_met cd_met ct_met), sl_met⟩)
    (c_met : PySem.W.codeIn K cd_met "met" = true)
    (k_met : PySem.W.keepIn K (.ref f_met) = true)
    (a_arcs_by_state : PySem.W.nsIn K mainGlobals "arcs_by_state" = some (some (.ref f_arcs_by_state)))
    (l_arcs_by_state : K.lookup f_arcs_by_state = some ⟨oc_arcs_by_state, od_arcs_by_state, .func (PySem.W.fnOf "arcs_by_state" "arcs_by_state" (defArgs s_arcs_by_state) (defBody s_arcs_by_state) (defScope s_arcs_by_state) .none kV_arcs_by_state dc_arcs_by_state pm_arcs_by_state an_arcs_by_state cd_arcs_by_state ct_arcs_by_state), sl_arcs_by_state⟩)
    (c_arcs_by_state : PySem.W.codeIn K cd_arcs_by_state "arcs_by_state" = true)
    (k_arcs_by_state : PySem.W.keepIn K (.ref f_arcs_by_state) = true)
    (a_starts : PySem.W.nsIn K mainGlobals "starts" = some (some (.ref f_starts)))
    (l_starts : K.lookup f_starts = some ⟨oc_starts, od_starts, .func (PySem.W.fnOf "starts" "starts" (defArgs s_starts) (defBody s_starts) (defScope s_starts) .none kV_starts dc_starts pm_starts an_starts cd_starts ct_starts), sl_starts⟩)
    (c_starts : PySem.W.codeIn K cd_starts "starts" = true)
    (k_starts : PySem.W.keepIn K (.ref f_starts) = true)
    (a_steps : PySem.W.nsIn K mainGlobals "steps" = some (some (.ref f_steps)))
    (l_steps : K.lookup f_steps = some ⟨oc_steps, od_steps, .func (PySem.W.fnOf "steps" "steps" (defArgs s_steps) (defBody s_steps) (defScope s_steps) .none kV_steps dc_steps pm_steps an_steps cd_steps ct_steps), sl_steps⟩)
    (c_steps : PySem.W.codeIn K cd_steps "steps" = true)
    (k_steps : PySem.W.keepIn K (.ref f_steps) = true)
    (a_explored : PySem.W.nsIn K mainGlobals "explored" = some (some (.ref f_explored)))
    (l_explored : K.lookup f_explored = some ⟨oc_explored, od_explored, .func (PySem.W.fnOf "explored" "explored" (defArgs s_explored) (defBody s_explored) (defScope s_explored) .none kV_explored dc_explored pm_explored an_explored cd_explored ct_explored), sl_explored⟩)
    (c_explored : PySem.W.codeIn K cd_explored "explored" = true)
    (k_explored : PySem.W.keepIn K (.ref f_explored) = true)
    (a_is_even : PySem.W.nsIn K mainGlobals "is_even" = some (some (.ref f_is_even)))
    (l_is_even : K.lookup f_is_even = some ⟨oc_is_even, od_is_even, .func (PySem.W.fnOf "is_even" "is_even" (defArgs s_is_even) (defBody s_is_even) (defScope s_is_even) .none kV_is_even dc_is_even pm_is_even an_is_even cd_is_even ct_is_even), sl_is_even⟩)
    (c_is_even : PySem.W.codeIn K cd_is_even "is_even" = true)
    (k_is_even : PySem.W.keepIn K (.ref f_is_even) = true)
    (a_way_to : PySem.W.nsIn K mainGlobals "way_to" = some (some (.ref f_way_to)))
    (l_way_to : K.lookup f_way_to = some ⟨oc_way_to, od_way_to, .func (PySem.W.fnOf "way_to" "way_to" (defArgs s_way_to) (defBody s_way_to) (defScope s_way_to) .none kV_way_to dc_way_to pm_way_to an_way_to cd_way_to ct_way_to), sl_way_to⟩)
    (c_way_to : PySem.W.codeIn K cd_way_to "way_to" = true)
    (k_way_to : PySem.W.keepIn K (.ref f_way_to) = true)
    (a_grown : PySem.W.nsIn K mainGlobals "grown" = some (some (.ref f_grown)))
    (l_grown : K.lookup f_grown = some ⟨oc_grown, od_grown, .func (PySem.W.fnOf "grown" "grown" (defArgs s_grown) (defBody s_grown) (defScope s_grown) .none kV_grown dc_grown pm_grown an_grown cd_grown ct_grown), sl_grown⟩)
    (c_grown : PySem.W.codeIn K cd_grown "grown" = true)
    (k_grown : PySem.W.keepIn K (.ref f_grown) = true)
    (a_pair_at : PySem.W.nsIn K mainGlobals "pair_at" = some (some (.ref f_pair_at)))
    (l_pair_at : K.lookup f_pair_at = some ⟨oc_pair_at, od_pair_at, .func (PySem.W.fnOf "pair_at" "pair_at" (defArgs s_pair_at) (defBody s_pair_at) (defScope s_pair_at) .none kV_pair_at dc_pair_at pm_pair_at an_pair_at cd_pair_at ct_pair_at), sl_pair_at⟩)
    (c_pair_at : PySem.W.codeIn K cd_pair_at "pair_at" = true)
    (k_pair_at : PySem.W.keepIn K (.ref f_pair_at) = true)
    (a_rests : PySem.W.nsIn K mainGlobals "rests" = some (some (.ref f_rests)))
    (l_rests : K.lookup f_rests = some ⟨oc_rests, od_rests, .func (PySem.W.fnOf "rests" "rests" (defArgs s_rests) (defBody s_rests) (defScope s_rests) .none kV_rests dc_rests pm_rests an_rests cd_rests ct_rests), sl_rests⟩)
    (c_rests : PySem.W.codeIn K cd_rests "rests" = true)
    (k_rests : PySem.W.keepIn K (.ref f_rests) = true)
    (a_one_way : PySem.W.nsIn K mainGlobals "one_way" = some (some (.ref f_one_way)))
    (l_one_way : K.lookup f_one_way = some ⟨oc_one_way, od_one_way, .func (PySem.W.fnOf "one_way" "one_way" (defArgs s_one_way) (defBody s_one_way) (defScope s_one_way) .none kV_one_way dc_one_way pm_one_way an_one_way cd_one_way ct_one_way), sl_one_way⟩)
    (c_one_way : PySem.W.codeIn K cd_one_way "one_way" = true)
    (k_one_way : PySem.W.keepIn K (.ref f_one_way) = true)
    (a_Search_init : PySem.W.findIn K (.ref C_Search) "__init__" = some (some (.ref f_Search_init)))
    (i_Search_init : PySem.W.isFn K (.ref f_Search_init) = true)
    (l_Search_init : K.lookup f_Search_init = some ⟨oc_Search_init, od_Search_init, .func (PySem.W.fnOf "__init__" "Search.__init__" (defArgs s_Search_init) (defBody s_Search_init) (defScope s_Search_init) .none kV_Search_init dc_Search_init pm_Search_init an_Search_init cd_Search_init ct_Search_init), sl_Search_init⟩)
    (c_Search_init : PySem.W.codeIn K cd_Search_init "Search.__init__" = true)
    (k_Search_init : PySem.W.keepIn K (.ref f_Search_init) = true)
    (a_Search_offer : PySem.W.findIn K (.ref C_Search) "offer" = some (some (.ref f_Search_offer)))
    (i_Search_offer : PySem.W.isFn K (.ref f_Search_offer) = true)
    (l_Search_offer : K.lookup f_Search_offer = some ⟨oc_Search_offer, od_Search_offer, .func (PySem.W.fnOf "offer" "Search.offer" (defArgs s_Search_offer) (defBody s_Search_offer) (defScope s_Search_offer) .none kV_Search_offer dc_Search_offer pm_Search_offer an_Search_offer cd_Search_offer ct_Search_offer), sl_Search_offer⟩)
    (c_Search_offer : PySem.W.codeIn K cd_Search_offer "Search.offer" = true)
    (k_Search_offer : PySem.W.keepIn K (.ref f_Search_offer) = true)
    (a_double : PySem.W.nsIn K mainGlobals "double" = some (some (.ref f_double)))
    (l_double : K.lookup f_double = some ⟨oc_double, od_double, .func (PySem.W.fnOf "double" "double" (defArgs s_double) (defBody s_double) (defScope s_double) .none kV_double dc_double pm_double an_double cd_double ct_double), sl_double⟩)
    (c_double : PySem.W.codeIn K cd_double "double" = true)
    (k_double : PySem.W.keepIn K (.ref f_double) = true)
    (a_l_state : PySem.W.nsIn K mainGlobals "_law_state" = some (some (.ref f_l_state)))
    (l_l_state : K.lookup f_l_state = some ⟨oc_l_state, od_l_state, .func (PySem.W.fnOf "_law_state" "_law_state" (defArgs s_l_state) (defBody s_l_state) (defScope s_l_state) .none kV_l_state dc_l_state pm_l_state an_l_state cd_l_state ct_l_state), sl_l_state⟩)
    (c_l_state : PySem.W.codeIn K cd_l_state "_law_state" = true)
    (k_l_state : PySem.W.keepIn K (.ref f_l_state) = true)
    (a_l_draw : PySem.W.nsIn K mainGlobals "_law_draw" = some (some (.ref f_l_draw)))
    (l_l_draw : K.lookup f_l_draw = some ⟨oc_l_draw, od_l_draw, .func (PySem.W.fnOf "_law_draw" "_law_draw" (defArgs s_l_draw) (defBody s_l_draw) (defScope s_l_draw) .none kV_l_draw dc_l_draw pm_l_draw an_l_draw cd_l_draw ct_l_draw), sl_l_draw⟩)
    (c_l_draw : PySem.W.codeIn K cd_l_draw "_law_draw" = true)
    (k_l_draw : PySem.W.keepIn K (.ref f_l_draw) = true)
    (a_l_is_integer : PySem.W.nsIn K mainGlobals "_law_is_integer" = some (some (.ref f_l_is_integer)))
    (l_l_is_integer : K.lookup f_l_is_integer = some ⟨oc_l_is_integer, od_l_is_integer, .func (PySem.W.fnOf "_law_is_integer" "_law_is_integer" (defArgs s_l_is_integer) (defBody s_l_is_integer) (defScope s_l_is_integer) .none kV_l_is_integer dc_l_is_integer pm_l_is_integer an_l_is_integer cd_l_is_integer ct_l_is_integer), sl_l_is_integer⟩)
    (c_l_is_integer : PySem.W.codeIn K cd_l_is_integer "_law_is_integer" = true)
    (k_l_is_integer : PySem.W.keepIn K (.ref f_l_is_integer) = true)
    (a_l_word : PySem.W.nsIn K mainGlobals "_law_word" = some (some (.ref f_l_word)))
    (l_l_word : K.lookup f_l_word = some ⟨oc_l_word, od_l_word, .func (PySem.W.fnOf "_law_word" "_law_word" (defArgs s_l_word) (defBody s_l_word) (defScope s_l_word) .none kV_l_word dc_l_word pm_l_word an_l_word cd_l_word ct_l_word), sl_l_word⟩)
    (c_l_word : PySem.W.codeIn K cd_l_word "_law_word" = true)
    (k_l_word : PySem.W.keepIn K (.ref f_l_word) = true)
    (a_l_loom : PySem.W.nsIn K mainGlobals "_law_loom" = some (some (.ref f_l_loom)))
    (l_l_loom : K.lookup f_l_loom = some ⟨oc_l_loom, od_l_loom, .func (PySem.W.fnOf "_law_loom" "_law_loom" (defArgs s_l_loom) (defBody s_l_loom) (defScope s_l_loom) .none kV_l_loom dc_l_loom pm_l_loom an_l_loom cd_l_loom ct_l_loom), sl_l_loom⟩)
    (c_l_loom : PySem.W.codeIn K cd_l_loom "_law_loom" = true)
    (k_l_loom : PySem.W.keepIn K (.ref f_l_loom) = true)
    (a_l_made : PySem.W.nsIn K mainGlobals "_law_made" = some (some (.ref f_l_made)))
    (l_l_made : K.lookup f_l_made = some ⟨oc_l_made, od_l_made, .func (PySem.W.fnOf "_law_made" "_law_made" (defArgs s_l_made) (defBody s_l_made) (defScope s_l_made) .none kV_l_made dc_l_made pm_l_made an_l_made cd_l_made ct_l_made), sl_l_made⟩)
    (c_l_made : PySem.W.codeIn K cd_l_made "_law_made" = true)
    (k_l_made : PySem.W.keepIn K (.ref f_l_made) = true)
    (a_l_leaving : PySem.W.nsIn K mainGlobals "_law_leaving" = some (some (.ref f_l_leaving)))
    (l_l_leaving : K.lookup f_l_leaving = some ⟨oc_l_leaving, od_l_leaving, .func (PySem.W.fnOf "_law_leaving" "_law_leaving" (defArgs s_l_leaving) (defBody s_l_leaving) (defScope s_l_leaving) .none kV_l_leaving dc_l_leaving pm_l_leaving an_l_leaving cd_l_leaving ct_l_leaving), sl_l_leaving⟩)
    (c_l_leaving : PySem.W.codeIn K cd_l_leaving "_law_leaving" = true)
    (k_l_leaving : PySem.W.keepIn K (.ref f_l_leaving) = true)
    (a_l_met : PySem.W.nsIn K mainGlobals "_law_met" = some (some (.ref f_l_met)))
    (l_l_met : K.lookup f_l_met = some ⟨oc_l_met, od_l_met, .func (PySem.W.fnOf "_law_met" "_law_met" (defArgs s_l_met) (defBody s_l_met) (defScope s_l_met) .none kV_l_met dc_l_met pm_l_met an_l_met cd_l_met ct_l_met), sl_l_met⟩)
    (c_l_met : PySem.W.codeIn K cd_l_met "_law_met" = true)
    (k_l_met : PySem.W.keepIn K (.ref f_l_met) = true)
    (a_l_joined : PySem.W.nsIn K mainGlobals "_law_joined" = some (some (.ref f_l_joined)))
    (l_l_joined : K.lookup f_l_joined = some ⟨oc_l_joined, od_l_joined, .func (PySem.W.fnOf "_law_joined" "_law_joined" (defArgs s_l_joined) (defBody s_l_joined) (defScope s_l_joined) .none kV_l_joined dc_l_joined pm_l_joined an_l_joined cd_l_joined ct_l_joined), sl_l_joined⟩)
    (c_l_joined : PySem.W.codeIn K cd_l_joined "_law_joined" = true)
    (k_l_joined : PySem.W.keepIn K (.ref f_l_joined) = true)
    (a_l_end : PySem.W.nsIn K mainGlobals "_law_end" = some (some (.ref f_l_end)))
    (l_l_end : K.lookup f_l_end = some ⟨oc_l_end, od_l_end, .func (PySem.W.fnOf "_law_end" "_law_end" (defArgs s_l_end) (defBody s_l_end) (defScope s_l_end) .none kV_l_end dc_l_end pm_l_end an_l_end cd_l_end ct_l_end), sl_l_end⟩)
    (c_l_end : PySem.W.codeIn K cd_l_end "_law_end" = true)
    (k_l_end : PySem.W.keepIn K (.ref f_l_end) = true)
    (a_l_all_rows : PySem.W.nsIn K mainGlobals "_law_all_rows" = some (some (.ref f_l_all_rows)))
    (l_l_all_rows : K.lookup f_l_all_rows = some ⟨oc_l_all_rows, od_l_all_rows, .func (PySem.W.fnOf "_law_all_rows" "_law_all_rows" (defArgs s_l_all_rows) (defBody s_l_all_rows) (defScope s_l_all_rows) .none kV_l_all_rows dc_l_all_rows pm_l_all_rows an_l_all_rows cd_l_all_rows ct_l_all_rows), sl_l_all_rows⟩)
    (c_l_all_rows : PySem.W.codeIn K cd_l_all_rows "_law_all_rows" = true)
    (k_l_all_rows : PySem.W.keepIn K (.ref f_l_all_rows) = true)
    (a_l_rows_within : PySem.W.nsIn K mainGlobals "_law_rows_within" = some (some (.ref f_l_rows_within)))
    (l_l_rows_within : K.lookup f_l_rows_within = some ⟨oc_l_rows_within, od_l_rows_within, .func (PySem.W.fnOf "_law_rows_within" "_law_rows_within" (defArgs s_l_rows_within) (defBody s_l_rows_within) (defScope s_l_rows_within) .none kV_l_rows_within dc_l_rows_within pm_l_rows_within an_l_rows_within cd_l_rows_within ct_l_rows_within), sl_l_rows_within⟩)
    (c_l_rows_within : PySem.W.codeIn K cd_l_rows_within "_law_rows_within" = true)
    (k_l_rows_within : PySem.W.keepIn K (.ref f_l_rows_within) = true)
    (a_l_is_row : PySem.W.nsIn K mainGlobals "_law_is_row" = some (some (.ref f_l_is_row)))
    (l_l_is_row : K.lookup f_l_is_row = some ⟨oc_l_is_row, od_l_is_row, .func (PySem.W.fnOf "_law_is_row" "_law_is_row" (defArgs s_l_is_row) (defBody s_l_is_row) (defScope s_l_is_row) .none kV_l_is_row dc_l_is_row pm_l_is_row an_l_is_row cd_l_is_row ct_l_is_row), sl_l_is_row⟩)
    (c_l_is_row : PySem.W.codeIn K cd_l_is_row "_law_is_row" = true)
    (k_l_is_row : PySem.W.keepIn K (.ref f_l_is_row) = true)
    (a_l_is_double : PySem.W.nsIn K mainGlobals "_law_is_double" = some (some (.ref f_l_is_double)))
    (l_l_is_double : K.lookup f_l_is_double = some ⟨oc_l_is_double, od_l_is_double, .func (PySem.W.fnOf "_law_is_double" "_law_is_double" (defArgs s_l_is_double) (defBody s_l_is_double) (defScope s_l_is_double) .none kV_l_is_double dc_l_is_double pm_l_is_double an_l_is_double cd_l_is_double ct_l_is_double), sl_l_is_double⟩)
    (c_l_is_double : PySem.W.codeIn K cd_l_is_double "_law_is_double" = true)
    (k_l_is_double : PySem.W.keepIn K (.ref f_l_is_double) = true)
    (a_l_first_double : PySem.W.nsIn K mainGlobals "_law_first_double" = some (some (.ref f_l_first_double)))
    (l_l_first_double : K.lookup f_l_first_double = some ⟨oc_l_first_double, od_l_first_double, .func (PySem.W.fnOf "_law_first_double" "_law_first_double" (defArgs s_l_first_double) (defBody s_l_first_double) (defScope s_l_first_double) .none kV_l_first_double dc_l_first_double pm_l_first_double an_l_first_double cd_l_first_double ct_l_first_double), sl_l_first_double⟩)
    (c_l_first_double : PySem.W.codeIn K cd_l_first_double "_law_first_double" = true)
    (k_l_first_double : PySem.W.keepIn K (.ref f_l_first_double) = true)
    (a_law : PySem.W.nsIn K mainGlobals "law" = some (some (.ref f_law)))
    (l_law : K.lookup f_law = some ⟨oc_law, od_law, .func (PySem.W.fnOf "law" "law" (defArgs s_law) (defBody s_law) (defScope s_law) .none kV_law dc_law pm_law an_law cd_law ct_law), sl_law⟩)
    (c_law : PySem.W.codeIn K cd_law "law" = true)
    (k_law : PySem.W.keepIn K (.ref f_law) = true)
    (pg_Loom : PySem.W.plainGet K C_Loom Str.empty = true)
    (hd_Loom : PySem.W.hasDictIn K C_Loom = true)
    (po_Loom : PySem.W.plainOver K C_Loom = true)
    (sa_Loom : PySem.W.findIn K (.ref C_Loom) "__setattr__" = some (some (.builtin "object.__setattr__")))
    (mk_Loom : PySem.W.makesIn K C_Loom = true)
    (kc_Loom : PySem.W.keepIn K (.ref C_Loom) = true)
    (na_Loom_signs : PySem.W.findIn K (.ref C_Loom) "signs" = some none)
    (na_Loom_arcs : PySem.W.findIn K (.ref C_Loom) "arcs" = some none)
    (pg_Search : PySem.W.plainGet K C_Search Str.empty = true)
    (hd_Search : PySem.W.hasDictIn K C_Search = true)
    (po_Search : PySem.W.plainOver K C_Search = true)
    (sa_Search : PySem.W.findIn K (.ref C_Search) "__setattr__" = some (some (.builtin "object.__setattr__")))
    (mk_Search : PySem.W.makesIn K C_Search = true)
    (kc_Search : PySem.W.keepIn K (.ref C_Search) = true)
    (na_Search_costs : PySem.W.findIn K (.ref C_Search) "costs" = some none)
    (na_Search_origins : PySem.W.findIn K (.ref C_Search) "origins" = some none)
    (na_Search_queue : PySem.W.findIn K (.ref C_Search) "queue" = some none)
    (kc_InvalidLoom : PySem.W.keepIn K (.ref C_InvalidLoom) = true)
    (e1_InvalidLoom : PySem.W.findIn K (.ref C_InvalidLoom) "__getattribute__" = some (some (.builtin "BaseException.__getattribute__")))
    (e2_InvalidLoom : PySem.W.findIn K (.ref C_InvalidLoom) "__getattr__" = some none)
    (e3_InvalidLoom : PySem.W.subIn K (.ref C_InvalidLoom) (.type "BaseException") = some true)
    (e4_InvalidLoom : PySem.W.hasDictIn K C_InvalidLoom = true)
    (e5_InvalidLoom : PySem.W.findIn K (.ref C_InvalidLoom) "__class__" = some (some (.builtin "object.__class__")))
    (e8_InvalidLoom : PySem.W.mroIn K C_InvalidLoom (.type "object") = some true)
    (ty_InvalidLoom : PySem.W.typeIn K (.ref C_InvalidLoom) = some (.type "type"))
    (xi_InvalidLoom : K.lookup C_InvalidLoom = some (excClassObj nm_InvalidLoom q_InvalidLoom C_InvalidLoom ns_InvalidLoom bs_InvalidLoom [.ref C_ReadError, .type "Exception", .type "BaseException", .type "object"] true sn_InvalidLoom sub_InvalidLoom ab_InvalidLoom col_InvalidLoom dd_InvalidLoom m0_InvalidLoom m1_InvalidLoom m2_InvalidLoom m3_InvalidLoom m5_InvalidLoom "Exception.__new__"))
    (tf_InvalidLoom : PySem.W.typeIn K (.ref f_InvalidLoom_init) = some (.type "function"))
    (sa_InvalidLoom : PySem.W.findIn K (.ref C_InvalidLoom) "__setattr__" = some (some (.builtin "object.__setattr__")))
    (no_InvalidLoom_part : PySem.W.findIn K (.ref C_InvalidLoom) "part" = some none)
    (no_InvalidLoom_at : PySem.W.findIn K (.ref C_InvalidLoom) "at" = some none)
    (e6 : PySem.W.specialIn K (.builtin "object.__class__") "__get__" = some (some (.builtin "getset_descriptor.__get__")))
    (e7 : PySem.W.takesIn K (.builtin "object.__class__") = some true)
    (ic_Loom : PySem.W.findIn K (.ref C_Loom) "__class__" = some (some (.builtin "object.__class__")))
    (ig : PySem.W.specialIn K (.builtin "object.__class__") "__get__" = some (some (.builtin "getset_descriptor.__get__")))
    (it : PySem.W.takesIn K (.builtin "object.__class__") = some true)
    (im_Loom : PySem.W.mroIn K C_Loom (.type "object") = some true)
    (si_InvalidLoom : PySem.W.subIn K (.ref C_InvalidLoom) (.type "int") = some false)
    (si_Loom : PySem.W.subIn K (.ref C_Loom) (.type "int") = some false)
    (eq_Loom : PySem.W.findIn K (.ref C_Loom) "__eq__" = some (some (.ref f_Loom_eq)))
    (fn_Loom_eq : PySem.W.isFn K (.ref f_Loom_eq) = true)
    (ne_Loom : PySem.W.findIn K (.ref C_Loom) "__ne__" = some (some (.builtin "object.__ne__")))
    (sl_InvalidLoom : PySem.W.subIn K (.ref C_InvalidLoom) (.type "list") = some false)
    (st_InvalidLoom : PySem.W.subIn K (.ref C_InvalidLoom) (.type "tuple") = some false)
    (sl_Loom : PySem.W.subIn K (.ref C_Loom) (.type "list") = some false)
    (st_Loom : PySem.W.subIn K (.ref C_Loom) (.type "tuple") = some false)
    (a_heappush : PySem.W.nsIn K mainGlobals "heappush" = some (some (.builtin "_heapq.heappush")))
    (a_heappop : PySem.W.nsIn K mainGlobals "heappop" = some (some (.builtin "_heapq.heappop")))
    (z_all : PySem.W.nsIn K mainGlobals "all" = some none)
    (z_any : PySem.W.nsIn K mainGlobals "any" = some none)
    (z_bool : PySem.W.nsIn K mainGlobals "bool" = some none)
    (z_enumerate : PySem.W.nsIn K mainGlobals "enumerate" = some none)
    (z_int : PySem.W.nsIn K mainGlobals "int" = some none)
    (z_isinstance : PySem.W.nsIn K mainGlobals "isinstance" = some none)
    (z_len : PySem.W.nsIn K mainGlobals "len" = some none)
    (z_list : PySem.W.nsIn K mainGlobals "list" = some none)
    (z_min : PySem.W.nsIn K mainGlobals "min" = some none)
    (z_range : PySem.W.nsIn K mainGlobals "range" = some none)
    (z_sorted : PySem.W.nsIn K mainGlobals "sorted" = some none)
    (z_str : PySem.W.nsIn K mainGlobals "str" = some none)
    (z_tuple : PySem.W.nsIn K mainGlobals "tuple" = some none)
    (z_zip : PySem.W.nsIn K mainGlobals "zip" = some none)
    (g_MOST_SIGNS : PySem.W.nsIn K mainGlobals "MOST_SIGNS" = some (some (.int 4 t_MOST_SIGNS)))
    (g_LONGEST_WORD : PySem.W.nsIn K mainGlobals "LONGEST_WORD" = some (some (.int 12 t_LONGEST_WORD)))
    (g_LAST_STATE : PySem.W.nsIn K mainGlobals "LAST_STATE" = some (some (.int 63 t_LAST_STATE)))
    (g_MOST_ARCS : PySem.W.nsIn K mainGlobals "MOST_ARCS" = some (some (.int 200 t_MOST_ARCS)))
    : ∃ fd : FuncData, (∀ (s : Shared) (v : Value), BindsTo s fd ⟨[v], []⟩ [("_law_script", v)]) ∧ ∀ base : Heap, K.In base → base.Ns mainGlobals mg → FnOk l.prog w K mg base CX0 8 fa fd P_law (spLaw K) := by
  have e := hfa.symm.trans (PySem.W.mg_of X G a_law)
  cases e
  have F_InvalidLoom_init := fun_mk (st := s_InvalidLoom_init) l_InvalidLoom_init c_InvalidLoom_init k_InvalidLoom_init
  have b_InvalidLoom_init := F_InvalidLoom_init.binds (ps := P_InvalidLoom_init) fun _ _ _ _ _ _ us hl => match us, hl with | [_, _, _], _ => rfl
  have F_is_number := fun_mk (st := s_is_number) l_is_number c_is_number k_is_number
  have b_is_number := F_is_number.binds (ps := P_is_number) fun _ _ _ _ _ _ us hl => match us, hl with | [_, _, _], _ => rfl
  have F_is_sequence := fun_mk (st := s_is_sequence) l_is_sequence c_is_sequence k_is_sequence
  have b_is_sequence := F_is_sequence.binds (ps := P_is_sequence) fun _ _ _ _ _ _ us hl => match us, hl with | [_, _, _], _ => rfl
  have F_is_signs := fun_mk (st := s_is_signs) l_is_signs c_is_signs k_is_signs
  have b_is_signs := F_is_signs.binds (ps := P_is_signs) fun _ _ _ _ _ _ us hl => match us, hl with | [_], _ => rfl
  have F_is_string_over := fun_mk (st := s_is_string_over) l_is_string_over c_is_string_over k_is_string_over
  have b_is_string_over := F_is_string_over.binds (ps := P_is_string_over) fun _ _ _ _ _ _ us hl => match us, hl with | [_, _, _, _], _ => rfl
  have F_is_word := fun_mk (st := s_is_word) l_is_word c_is_word k_is_word
  have b_is_word := F_is_word.binds (ps := P_is_word) fun _ _ _ _ _ _ us hl => match us, hl with | [_, _], _ => rfl
  have F_check_signs := fun_mk (st := s_check_signs) l_check_signs c_check_signs k_check_signs
  have b_check_signs := F_check_signs.binds (ps := P_check_signs) fun _ _ _ _ _ _ us hl => match us, hl with | [_], _ => rfl
  have F_is_arc := fun_mk (st := s_is_arc) l_is_arc c_is_arc k_is_arc
  have b_is_arc := F_is_arc.binds (ps := P_is_arc) fun _ _ _ _ _ _ us hl => match us, hl with | [_, _], _ => rfl
  have F_Loom_init := fun_mk (st := s_Loom_init) l_Loom_init c_Loom_init k_Loom_init
  have b_Loom_init := F_Loom_init.binds (ps := P_Loom_init) fun _ _ _ _ _ _ us hl => match us, hl with | [_, _, _], _ => rfl
  have F_Loom_eq := fun_mk (st := s_Loom_eq) l_Loom_eq c_Loom_eq k_Loom_eq
  have b_Loom_eq := F_Loom_eq.binds (ps := P_Loom_eq) fun _ _ _ _ _ _ us hl => match us, hl with | [_, _], _ => rfl
  have F_met := fun_mk (st := s_met) l_met c_met k_met
  have b_met := F_met.binds (ps := P_met) fun _ _ _ _ _ _ us hl => match us, hl with | [_], _ => rfl
  have F_arcs_by_state := fun_mk (st := s_arcs_by_state) l_arcs_by_state c_arcs_by_state k_arcs_by_state
  have b_arcs_by_state := F_arcs_by_state.binds (ps := P_arcs_by_state) fun _ _ _ _ _ _ us hl => match us, hl with | [_], _ => rfl
  have F_starts := fun_mk (st := s_starts) l_starts c_starts k_starts
  have b_starts := F_starts.binds (ps := P_starts) fun _ _ _ _ _ _ us hl => match us, hl with | [_], _ => rfl
  have F_steps := fun_mk (st := s_steps) l_steps c_steps k_steps
  have b_steps := F_steps.binds (ps := P_steps) fun _ _ _ _ _ _ us hl => match us, hl with | [_, _], _ => rfl
  have F_explored := fun_mk (st := s_explored) l_explored c_explored k_explored
  have b_explored := F_explored.binds (ps := P_explored) fun _ _ _ _ _ _ us hl => match us, hl with | [_], _ => rfl
  have F_is_even := fun_mk (st := s_is_even) l_is_even c_is_even k_is_even
  have b_is_even := F_is_even.binds (ps := P_is_even) fun _ _ _ _ _ _ us hl => match us, hl with | [_], _ => rfl
  have F_way_to := fun_mk (st := s_way_to) l_way_to c_way_to k_way_to
  have b_way_to := F_way_to.binds (ps := P_way_to) fun _ _ _ _ _ _ us hl => match us, hl with | [_, _], _ => rfl
  have F_grown := fun_mk (st := s_grown) l_grown c_grown k_grown
  have b_grown := F_grown.binds (ps := P_grown) fun _ _ _ _ _ _ us hl => match us, hl with | [_, _, _], _ => rfl
  have F_pair_at := fun_mk (st := s_pair_at) l_pair_at c_pair_at k_pair_at
  have b_pair_at := F_pair_at.binds (ps := P_pair_at) fun _ _ _ _ _ _ us hl => match us, hl with | [_, _], _ => rfl
  have F_rests := fun_mk (st := s_rests) l_rests c_rests k_rests
  have b_rests := F_rests.binds (ps := P_rests) fun _ _ _ _ _ _ us hl => match us, hl with | [_], _ => rfl
  have F_one_way := fun_mk (st := s_one_way) l_one_way c_one_way k_one_way
  have b_one_way := F_one_way.binds (ps := P_one_way) fun _ _ _ _ _ _ us hl => match us, hl with | [_], _ => rfl
  have F_Search_init := fun_mk (st := s_Search_init) l_Search_init c_Search_init k_Search_init
  have b_Search_init := F_Search_init.binds (ps := P_Search_init) fun _ _ _ _ _ _ us hl => match us, hl with | [_], _ => rfl
  have F_Search_offer := fun_mk (st := s_Search_offer) l_Search_offer c_Search_offer k_Search_offer
  have b_Search_offer := F_Search_offer.binds (ps := P_Search_offer) fun _ _ _ _ _ _ us hl => match us, hl with | [_, _, _, _], _ => rfl
  have F_double := fun_mk (st := s_double) l_double c_double k_double
  have b_double := F_double.binds (ps := P_double) fun _ _ _ _ _ _ us hl => match us, hl with | [_], _ => rfl
  have F_l_state := fun_mk (st := s_l_state) l_l_state c_l_state k_l_state
  have b_l_state := F_l_state.binds (ps := P_l_state) fun _ _ _ _ _ _ us hl => match us, hl with | [_], _ => rfl
  have F_l_draw := fun_mk (st := s_l_draw) l_l_draw c_l_draw k_l_draw
  have b_l_draw := F_l_draw.binds (ps := P_l_draw) fun _ _ _ _ _ _ us hl => match us, hl with | [_, _], _ => rfl
  have F_l_is_integer := fun_mk (st := s_l_is_integer) l_l_is_integer c_l_is_integer k_l_is_integer
  have b_l_is_integer := F_l_is_integer.binds (ps := P_l_is_integer) fun _ _ _ _ _ _ us hl => match us, hl with | [_], _ => rfl
  have F_l_word := fun_mk (st := s_l_word) l_l_word c_l_word k_l_word
  have b_l_word := F_l_word.binds (ps := P_l_word) fun _ _ _ _ _ _ us hl => match us, hl with | [_, _, _], _ => rfl
  have F_l_loom := fun_mk (st := s_l_loom) l_l_loom c_l_loom k_l_loom
  have b_l_loom := F_l_loom.binds (ps := P_l_loom) fun _ _ _ _ _ _ us hl => match us, hl with | [_], _ => rfl
  have F_l_made := fun_mk (st := s_l_made) l_l_made c_l_made k_l_made
  have b_l_made := F_l_made.binds (ps := P_l_made) fun _ _ _ _ _ _ us hl => match us, hl with | [_], _ => rfl
  have F_l_leaving := fun_mk (st := s_l_leaving) l_l_leaving c_l_leaving k_l_leaving
  have b_l_leaving := F_l_leaving.binds (ps := P_l_leaving) fun _ _ _ _ _ _ us hl => match us, hl with | [_, _], _ => rfl
  have F_l_met := fun_mk (st := s_l_met) l_l_met c_l_met k_l_met
  have b_l_met := F_l_met.binds (ps := P_l_met) fun _ _ _ _ _ _ us hl => match us, hl with | [_], _ => rfl
  have F_l_joined := fun_mk (st := s_l_joined) l_l_joined c_l_joined k_l_joined
  have b_l_joined := F_l_joined.binds (ps := P_l_joined) fun _ _ _ _ _ _ us hl => match us, hl with | [_, _], _ => rfl
  have F_l_end := fun_mk (st := s_l_end) l_l_end c_l_end k_l_end
  have b_l_end := F_l_end.binds (ps := P_l_end) fun _ _ _ _ _ _ us hl => match us, hl with | [_, _, _], _ => rfl
  have F_l_all_rows := fun_mk (st := s_l_all_rows) l_l_all_rows c_l_all_rows k_l_all_rows
  have b_l_all_rows := F_l_all_rows.binds (ps := P_l_all_rows) fun _ _ _ _ _ _ us hl => match us, hl with | [_, _, _, _], _ => rfl
  have F_l_rows_within := fun_mk (st := s_l_rows_within) l_l_rows_within c_l_rows_within k_l_rows_within
  have b_l_rows_within := F_l_rows_within.binds (ps := P_l_rows_within) fun _ _ _ _ _ _ us hl => match us, hl with | [_, _, _, _], _ => rfl
  have F_l_is_row := fun_mk (st := s_l_is_row) l_l_is_row c_l_is_row k_l_is_row
  have b_l_is_row := F_l_is_row.binds (ps := P_l_is_row) fun _ _ _ _ _ _ us hl => match us, hl with | [_, _, _], _ => rfl
  have F_l_is_double := fun_mk (st := s_l_is_double) l_l_is_double c_l_is_double k_l_is_double
  have b_l_is_double := F_l_is_double.binds (ps := P_l_is_double) fun _ _ _ _ _ _ us hl => match us, hl with | [_, _], _ => rfl
  have F_l_first_double := fun_mk (st := s_l_first_double) l_l_first_double c_l_first_double k_l_first_double
  have b_l_first_double := F_l_first_double.binds (ps := P_l_first_double) fun _ _ _ _ _ _ us hl => match us, hl with | [_, _, _], _ => rfl
  have F_law := fun_mk (st := s_law) l_law c_law k_law
  have b_law := F_law.binds (ps := P_law) fun _ _ _ _ _ _ us hl => match us, hl with | [_], _ => rfl
  exact ⟨_, fun s v => .of_eq rfl, fun base _ _ => ok_law {
    f_InvalidLoom_init := _
    fd_InvalidLoom_init := _
    F_InvalidLoom_init := F_InvalidLoom_init
    b_InvalidLoom_init := b_InvalidLoom_init
    f_is_number := _
    fd_is_number := _
    F_is_number := F_is_number
    b_is_number := b_is_number
    m_is_number := PySem.W.mg_of X G a_is_number
    f_is_sequence := _
    fd_is_sequence := _
    F_is_sequence := F_is_sequence
    b_is_sequence := b_is_sequence
    m_is_sequence := PySem.W.mg_of X G a_is_sequence
    f_is_signs := _
    fd_is_signs := _
    F_is_signs := F_is_signs
    b_is_signs := b_is_signs
    m_is_signs := PySem.W.mg_of X G a_is_signs
    f_is_string_over := _
    fd_is_string_over := _
    F_is_string_over := F_is_string_over
    b_is_string_over := b_is_string_over
    m_is_string_over := PySem.W.mg_of X G a_is_string_over
    f_is_word := _
    fd_is_word := _
    F_is_word := F_is_word
    b_is_word := b_is_word
    m_is_word := PySem.W.mg_of X G a_is_word
    f_check_signs := _
    fd_check_signs := _
    F_check_signs := F_check_signs
    b_check_signs := b_check_signs
    m_check_signs := PySem.W.mg_of X G a_check_signs
    f_is_arc := _
    fd_is_arc := _
    F_is_arc := F_is_arc
    b_is_arc := b_is_arc
    m_is_arc := PySem.W.mg_of X G a_is_arc
    f_Loom_init := _
    fd_Loom_init := _
    F_Loom_init := F_Loom_init
    b_Loom_init := b_Loom_init
    f_Loom_eq := _
    fd_Loom_eq := _
    F_Loom_eq := F_Loom_eq
    b_Loom_eq := b_Loom_eq
    f_met := _
    fd_met := _
    F_met := F_met
    b_met := b_met
    m_met := PySem.W.mg_of X G a_met
    f_arcs_by_state := _
    fd_arcs_by_state := _
    F_arcs_by_state := F_arcs_by_state
    b_arcs_by_state := b_arcs_by_state
    m_arcs_by_state := PySem.W.mg_of X G a_arcs_by_state
    f_starts := _
    fd_starts := _
    F_starts := F_starts
    b_starts := b_starts
    m_starts := PySem.W.mg_of X G a_starts
    f_steps := _
    fd_steps := _
    F_steps := F_steps
    b_steps := b_steps
    m_steps := PySem.W.mg_of X G a_steps
    f_explored := _
    fd_explored := _
    F_explored := F_explored
    b_explored := b_explored
    m_explored := PySem.W.mg_of X G a_explored
    f_is_even := _
    fd_is_even := _
    F_is_even := F_is_even
    b_is_even := b_is_even
    m_is_even := PySem.W.mg_of X G a_is_even
    f_way_to := _
    fd_way_to := _
    F_way_to := F_way_to
    b_way_to := b_way_to
    m_way_to := PySem.W.mg_of X G a_way_to
    f_grown := _
    fd_grown := _
    F_grown := F_grown
    b_grown := b_grown
    m_grown := PySem.W.mg_of X G a_grown
    f_pair_at := _
    fd_pair_at := _
    F_pair_at := F_pair_at
    b_pair_at := b_pair_at
    m_pair_at := PySem.W.mg_of X G a_pair_at
    f_rests := _
    fd_rests := _
    F_rests := F_rests
    b_rests := b_rests
    m_rests := PySem.W.mg_of X G a_rests
    f_one_way := _
    fd_one_way := _
    F_one_way := F_one_way
    b_one_way := b_one_way
    m_one_way := PySem.W.mg_of X G a_one_way
    f_Search_init := _
    fd_Search_init := _
    F_Search_init := F_Search_init
    b_Search_init := b_Search_init
    f_Search_offer := _
    fd_Search_offer := _
    F_Search_offer := F_Search_offer
    b_Search_offer := b_Search_offer
    f_double := _
    fd_double := _
    F_double := F_double
    b_double := b_double
    m_double := PySem.W.mg_of X G a_double
    f_l_state := _
    fd_l_state := _
    F_l_state := F_l_state
    b_l_state := b_l_state
    m_l_state := PySem.W.mg_of X G a_l_state
    f_l_draw := _
    fd_l_draw := _
    F_l_draw := F_l_draw
    b_l_draw := b_l_draw
    m_l_draw := PySem.W.mg_of X G a_l_draw
    f_l_is_integer := _
    fd_l_is_integer := _
    F_l_is_integer := F_l_is_integer
    b_l_is_integer := b_l_is_integer
    m_l_is_integer := PySem.W.mg_of X G a_l_is_integer
    f_l_word := _
    fd_l_word := _
    F_l_word := F_l_word
    b_l_word := b_l_word
    m_l_word := PySem.W.mg_of X G a_l_word
    f_l_loom := _
    fd_l_loom := _
    F_l_loom := F_l_loom
    b_l_loom := b_l_loom
    m_l_loom := PySem.W.mg_of X G a_l_loom
    f_l_made := _
    fd_l_made := _
    F_l_made := F_l_made
    b_l_made := b_l_made
    m_l_made := PySem.W.mg_of X G a_l_made
    f_l_leaving := _
    fd_l_leaving := _
    F_l_leaving := F_l_leaving
    b_l_leaving := b_l_leaving
    m_l_leaving := PySem.W.mg_of X G a_l_leaving
    f_l_met := _
    fd_l_met := _
    F_l_met := F_l_met
    b_l_met := b_l_met
    m_l_met := PySem.W.mg_of X G a_l_met
    f_l_joined := _
    fd_l_joined := _
    F_l_joined := F_l_joined
    b_l_joined := b_l_joined
    m_l_joined := PySem.W.mg_of X G a_l_joined
    f_l_end := _
    fd_l_end := _
    F_l_end := F_l_end
    b_l_end := b_l_end
    m_l_end := PySem.W.mg_of X G a_l_end
    f_l_all_rows := _
    fd_l_all_rows := _
    F_l_all_rows := F_l_all_rows
    b_l_all_rows := b_l_all_rows
    m_l_all_rows := PySem.W.mg_of X G a_l_all_rows
    f_l_rows_within := _
    fd_l_rows_within := _
    F_l_rows_within := F_l_rows_within
    b_l_rows_within := b_l_rows_within
    m_l_rows_within := PySem.W.mg_of X G a_l_rows_within
    f_l_is_row := _
    fd_l_is_row := _
    F_l_is_row := F_l_is_row
    b_l_is_row := b_l_is_row
    m_l_is_row := PySem.W.mg_of X G a_l_is_row
    f_l_is_double := _
    fd_l_is_double := _
    F_l_is_double := F_l_is_double
    b_l_is_double := b_l_is_double
    m_l_is_double := PySem.W.mg_of X G a_l_is_double
    f_l_first_double := _
    fd_l_first_double := _
    F_l_first_double := F_l_first_double
    b_l_first_double := b_l_first_double
    m_l_first_double := PySem.W.mg_of X G a_l_first_double
    f_law := _
    fd_law := _
    F_law := F_law
    b_law := b_law
    m_law := PySem.W.mg_of X G a_law
    g_heappush := PySem.W.mg_of X G a_heappush
    g_heappop := PySem.W.mg_of X G a_heappop
    n_all := PySem.W.mg_none_of X G z_all
    n_any := PySem.W.mg_none_of X G z_any
    n_bool := PySem.W.mg_none_of X G z_bool
    n_enumerate := PySem.W.mg_none_of X G z_enumerate
    n_int := PySem.W.mg_none_of X G z_int
    n_isinstance := PySem.W.mg_none_of X G z_isinstance
    n_len := PySem.W.mg_none_of X G z_len
    n_list := PySem.W.mg_none_of X G z_list
    n_min := PySem.W.mg_none_of X G z_min
    n_range := PySem.W.mg_none_of X G z_range
    n_sorted := PySem.W.mg_none_of X G z_sorted
    n_str := PySem.W.mg_none_of X G z_str
    n_tuple := PySem.W.mg_none_of X G z_tuple
    n_zip := PySem.W.mg_none_of X G z_zip
    t_MOST_SIGNS := t_MOST_SIGNS
    g_MOST_SIGNS := PySem.W.mg_of X G g_MOST_SIGNS
    t_LONGEST_WORD := t_LONGEST_WORD
    g_LONGEST_WORD := PySem.W.mg_of X G g_LONGEST_WORD
    t_LAST_STATE := t_LAST_STATE
    g_LAST_STATE := PySem.W.mg_of X G g_LAST_STATE
    t_MOST_ARCS := t_MOST_ARCS
    g_MOST_ARCS := PySem.W.mg_of X G g_MOST_ARCS
    C_Loom := C_Loom
    M_Loom := ⟨mk_Loom, a_Loom_init, i_Loom_init, kc_Loom⟩
    cl_Loom := ⟨pg_Loom, hd_Loom, po_Loom, sa_Loom⟩
    g_Loom := PySem.W.mg_of X G a_CLoom
    na_Loom_signs := na_Loom_signs
    na_Loom_arcs := na_Loom_arcs
    C_Search := C_Search
    M_Search := ⟨mk_Search, a_Search_init, i_Search_init, kc_Search⟩
    cl_Search := ⟨pg_Search, hd_Search, po_Search, sa_Search⟩
    g_Search := PySem.W.mg_of X G a_CSearch
    na_Search_costs := na_Search_costs
    na_Search_origins := na_Search_origins
    na_Search_queue := na_Search_queue
    me_Search_offer := ⟨a_Search_offer, i_Search_offer, k_Search_offer⟩
    C_InvalidLoom := C_InvalidLoom
    g_InvalidLoom := PySem.W.mg_of X G a_CInvalidLoom
    kc_InvalidLoom := kc_InvalidLoom
    E_InvalidLoom := ⟨e1_InvalidLoom, e2_InvalidLoom, e3_InvalidLoom, e4_InvalidLoom, e5_InvalidLoom, e6, e7, e8_InvalidLoom⟩
    ty_InvalidLoom := ty_InvalidLoom
    X_InvalidLoom := { gC := PySem.W.mg_of X G a_CInvalidLoom, cls := ⟨_, _, _, _, _, _, _, _, _, _, _, _, _, _, _, xi_InvalidLoom, by first | rfl | decide +kernel⟩, sa := sa_InvalidLoom, ga := e1_InvalidLoom, gg := e2_InvalidLoom, no := fun f hf => by simp only [List.mem_cons, List.not_mem_nil, or_false] at hf; rcases hf with rfl | rfl <;> assumption, iC := a_InvalidLoom_init, tC := tf_InvalidLoom, kC := kc_InvalidLoom, exC := e3_InvalidLoom, tyC := ty_InvalidLoom, hdC := e4_InvalidLoom, fn := ⟨_, _, _, _, _, _, _, _, _, l_InvalidLoom_init, c_InvalidLoom_init⟩ }
    ic_Loom := ic_Loom
    ig := ig
    it := it
    im_Loom := im_Loom
    si_InvalidLoom := si_InvalidLoom
    si_Loom := si_Loom
    eq_Loom := eq_Loom
    fn_Loom_eq := fn_Loom_eq
    ne_Loom := ne_Loom
    sl_InvalidLoom := sl_InvalidLoom
    st_InvalidLoom := st_InvalidLoom
    sl_Loom := sl_Loom
    st_Loom := st_Loom }⟩
theorem walk {l : PySem.W.OpenLaw} {q : Program} {loose : List Str} {XP : (Str → Option Value) → Heap → Prop} {YP : World → Heap → Prop} {d : DefRec} {K : Params → PySem.W.Frag} (hn : l.most = some 63) (hdf : d.params.defaults = [])
    (hY : ∀ (w : World) (h : Heap), YP w h → (K w.params).In h)
    (F : ∀ (w : World) (mg : Str → Option Value) (fa : Addr) (h : Heap), (K w.params).In h → h.Ns mainGlobals mg → mg d.name = some (.ref fa) →
      ∃ fd : FuncData, (∀ (s : Shared) (u : Value), BindsTo s fd ⟨[u], []⟩ [("_law_script", u)]) ∧ ∀ base : Heap, (K w.params).In base → base.Ns mainGlobals mg → FnOk l.prog w (K w.params) mg base CX0 8 fa fd P_law (spLaw (K w.params))) :
    PySem.W.WalkO q loose XP YP l.row.toRowW d [] (fun f vs => PySem.call f vs) :=
  L2.walk_of (n := 63) (k := 8) (x := "_law_script") (CX := fun _ => CX0) (sp := fun w => spLaw (K w.params)) hn (by decide) hdf ⟨rfl, by decide, by decide⟩ hY F (fun _ _ a ns hl _ hS => ⟨a, ns, rfl, hS, hl, fun _ => rfl⟩) fun _ _ _ _ _ z => z
end J

open PySem PySem.W PyProof.Rows in
set_option maxRecDepth 100000 in
set_option maxHeartbeats 0 in
theorem PySem.Challenge.cw_onewayread_k10_whole_one_way_by_all_rows_holds : PySem.Challenge.rw_onewayread_k10_whole_one_way_by_all_rows.Holds := by
  w_on; o_law; k_head; (case hw => w_witness2)
  k_fill
  refine J.walk (l := PySem.Challenge.rw_onewayread_k10_whole_one_way_by_all_rows) rfl rfl (fun w h Y => PySem.W.kIn_of Y) ?F
  case F =>
    intro w mg fa h KX G hmg
    refine' J.all_mk KX G hmg ?a_CSearch ?a_CLoom ?a_CInvalidLoom ?a_InvalidLoom_init ?i_InvalidLoom_init ?l_InvalidLoom_init ?c_InvalidLoom_init ?k_InvalidLoom_init ?a_is_number ?l_is_number ?c_is_number ?k_is_number ?a_is_sequence ?l_is_sequence ?c_is_sequence ?k_is_sequence ?a_is_signs ?l_is_signs ?c_is_signs ?k_is_signs ?a_is_string_over ?l_is_string_over ?c_is_string_over ?k_is_string_over ?a_is_word ?l_is_word ?c_is_word ?k_is_word ?a_check_signs ?l_check_signs ?c_check_signs ?k_check_signs ?a_is_arc ?l_is_arc ?c_is_arc ?k_is_arc ?a_Loom_init ?i_Loom_init ?l_Loom_init ?c_Loom_init ?k_Loom_init ?a_Loom_eq ?l_Loom_eq ?c_Loom_eq ?k_Loom_eq ?a_met ?l_met ?c_met ?k_met ?a_arcs_by_state ?l_arcs_by_state ?c_arcs_by_state ?k_arcs_by_state ?a_starts ?l_starts ?c_starts ?k_starts ?a_steps ?l_steps ?c_steps ?k_steps ?a_explored ?l_explored ?c_explored ?k_explored ?a_is_even ?l_is_even ?c_is_even ?k_is_even ?a_way_to ?l_way_to ?c_way_to ?k_way_to ?a_grown ?l_grown ?c_grown ?k_grown ?a_pair_at ?l_pair_at ?c_pair_at ?k_pair_at ?a_rests ?l_rests ?c_rests ?k_rests ?a_one_way ?l_one_way ?c_one_way ?k_one_way ?a_Search_init ?i_Search_init ?l_Search_init ?c_Search_init ?k_Search_init ?a_Search_offer ?i_Search_offer ?l_Search_offer ?c_Search_offer ?k_Search_offer ?a_double ?l_double ?c_double ?k_double ?a_l_state ?l_l_state ?c_l_state ?k_l_state ?a_l_draw ?l_l_draw ?c_l_draw ?k_l_draw ?a_l_is_integer ?l_l_is_integer ?c_l_is_integer ?k_l_is_integer ?a_l_word ?l_l_word ?c_l_word ?k_l_word ?a_l_loom ?l_l_loom ?c_l_loom ?k_l_loom ?a_l_made ?l_l_made ?c_l_made ?k_l_made ?a_l_leaving ?l_l_leaving ?c_l_leaving ?k_l_leaving ?a_l_met ?l_l_met ?c_l_met ?k_l_met ?a_l_joined ?l_l_joined ?c_l_joined ?k_l_joined ?a_l_end ?l_l_end ?c_l_end ?k_l_end ?a_l_all_rows ?l_l_all_rows ?c_l_all_rows ?k_l_all_rows ?a_l_rows_within ?l_l_rows_within ?c_l_rows_within ?k_l_rows_within ?a_l_is_row ?l_l_is_row ?c_l_is_row ?k_l_is_row ?a_l_is_double ?l_l_is_double ?c_l_is_double ?k_l_is_double ?a_l_first_double ?l_l_first_double ?c_l_first_double ?k_l_first_double ?a_law ?l_law ?c_law ?k_law ?pg_Loom ?hd_Loom ?po_Loom ?sa_Loom ?mk_Loom ?kc_Loom ?na_Loom_signs ?na_Loom_arcs ?pg_Search ?hd_Search ?po_Search ?sa_Search ?mk_Search ?kc_Search ?na_Search_costs ?na_Search_origins ?na_Search_queue ?kc_InvalidLoom ?e1_InvalidLoom ?e2_InvalidLoom ?e3_InvalidLoom ?e4_InvalidLoom ?e5_InvalidLoom ?e8_InvalidLoom ?ty_InvalidLoom ?xi_InvalidLoom ?tf_InvalidLoom ?sa_InvalidLoom ?no_InvalidLoom_part ?no_InvalidLoom_at ?e6 ?e7 ?ic_Loom ?ig ?it ?im_Loom ?si_InvalidLoom ?si_Loom ?eq_Loom ?fn_Loom_eq ?ne_Loom ?sl_InvalidLoom ?st_InvalidLoom ?sl_Loom ?st_Loom ?a_heappush ?a_heappop ?z_all ?z_any ?z_bool ?z_enumerate ?z_int ?z_isinstance ?z_len ?z_list ?z_min ?z_range ?z_sorted ?z_str ?z_tuple ?z_zip ?g_MOST_SIGNS ?g_LONGEST_WORD ?g_LAST_STATE ?g_MOST_ARCS
    (case a_CSearch => k_is)
    (case a_CLoom => k_is)
    (case a_CInvalidLoom => k_is)
    (case a_InvalidLoom_init => k_is)
    (case i_InvalidLoom_init => k_is)
    (case l_InvalidLoom_init => k_is)
    (case c_InvalidLoom_init => k_is)
    (case k_InvalidLoom_init => k_is)
    (case a_is_number => k_is)
    (case l_is_number => k_is)
    (case c_is_number => k_is)
    (case k_is_number => k_is)
    (case a_is_sequence => k_is)
    (case l_is_sequence => k_is)
    (case c_is_sequence => k_is)
    (case k_is_sequence => k_is)
    (case a_is_signs => k_is)
    (case l_is_signs => k_is)
    (case c_is_signs => k_is)
    (case k_is_signs => k_is)
    (case a_is_string_over => k_is)
    (case l_is_string_over => k_is)
    (case c_is_string_over => k_is)
    (case k_is_string_over => k_is)
    (case a_is_word => k_is)
    (case l_is_word => k_is)
    (case c_is_word => k_is)
    (case k_is_word => k_is)
    (case a_check_signs => k_is)
    (case l_check_signs => k_is)
    (case c_check_signs => k_is)
    (case k_check_signs => k_is)
    (case a_is_arc => k_is)
    (case l_is_arc => k_is)
    (case c_is_arc => k_is)
    (case k_is_arc => k_is)
    (case a_Loom_init => k_is)
    (case i_Loom_init => k_is)
    (case l_Loom_init => k_is)
    (case c_Loom_init => k_is)
    (case k_Loom_init => k_is)
    (case a_Loom_eq => k_is)
    (case l_Loom_eq => k_is)
    (case c_Loom_eq => k_is)
    (case k_Loom_eq => k_is)
    (case a_met => k_is)
    (case l_met => k_is)
    (case c_met => k_is)
    (case k_met => k_is)
    (case a_arcs_by_state => k_is)
    (case l_arcs_by_state => k_is)
    (case c_arcs_by_state => k_is)
    (case k_arcs_by_state => k_is)
    (case a_starts => k_is)
    (case l_starts => k_is)
    (case c_starts => k_is)
    (case k_starts => k_is)
    (case a_steps => k_is)
    (case l_steps => k_is)
    (case c_steps => k_is)
    (case k_steps => k_is)
    (case a_explored => k_is)
    (case l_explored => k_is)
    (case c_explored => k_is)
    (case k_explored => k_is)
    (case a_is_even => k_is)
    (case l_is_even => k_is)
    (case c_is_even => k_is)
    (case k_is_even => k_is)
    (case a_way_to => k_is)
    (case l_way_to => k_is)
    (case c_way_to => k_is)
    (case k_way_to => k_is)
    (case a_grown => k_is)
    (case l_grown => k_is)
    (case c_grown => k_is)
    (case k_grown => k_is)
    (case a_pair_at => k_is)
    (case l_pair_at => k_is)
    (case c_pair_at => k_is)
    (case k_pair_at => k_is)
    (case a_rests => k_is)
    (case l_rests => k_is)
    (case c_rests => k_is)
    (case k_rests => k_is)
    (case a_one_way => k_is)
    (case l_one_way => k_is)
    (case c_one_way => k_is)
    (case k_one_way => k_is)
    (case a_Search_init => k_is)
    (case i_Search_init => k_is)
    (case l_Search_init => k_is)
    (case c_Search_init => k_is)
    (case k_Search_init => k_is)
    (case a_Search_offer => k_is)
    (case i_Search_offer => k_is)
    (case l_Search_offer => k_is)
    (case c_Search_offer => k_is)
    (case k_Search_offer => k_is)
    (case a_double => k_is)
    (case l_double => k_is)
    (case c_double => k_is)
    (case k_double => k_is)
    (case a_l_state => k_is)
    (case l_l_state => k_is)
    (case c_l_state => k_is)
    (case k_l_state => k_is)
    (case a_l_draw => k_is)
    (case l_l_draw => k_is)
    (case c_l_draw => k_is)
    (case k_l_draw => k_is)
    (case a_l_is_integer => k_is)
    (case l_l_is_integer => k_is)
    (case c_l_is_integer => k_is)
    (case k_l_is_integer => k_is)
    (case a_l_word => k_is)
    (case l_l_word => k_is)
    (case c_l_word => k_is)
    (case k_l_word => k_is)
    (case a_l_loom => k_is)
    (case l_l_loom => k_is)
    (case c_l_loom => k_is)
    (case k_l_loom => k_is)
    (case a_l_made => k_is)
    (case l_l_made => k_is)
    (case c_l_made => k_is)
    (case k_l_made => k_is)
    (case a_l_leaving => k_is)
    (case l_l_leaving => k_is)
    (case c_l_leaving => k_is)
    (case k_l_leaving => k_is)
    (case a_l_met => k_is)
    (case l_l_met => k_is)
    (case c_l_met => k_is)
    (case k_l_met => k_is)
    (case a_l_joined => k_is)
    (case l_l_joined => k_is)
    (case c_l_joined => k_is)
    (case k_l_joined => k_is)
    (case a_l_end => k_is)
    (case l_l_end => k_is)
    (case c_l_end => k_is)
    (case k_l_end => k_is)
    (case a_l_all_rows => k_is)
    (case l_l_all_rows => k_is)
    (case c_l_all_rows => k_is)
    (case k_l_all_rows => k_is)
    (case a_l_rows_within => k_is)
    (case l_l_rows_within => k_is)
    (case c_l_rows_within => k_is)
    (case k_l_rows_within => k_is)
    (case a_l_is_row => k_is)
    (case l_l_is_row => k_is)
    (case c_l_is_row => k_is)
    (case k_l_is_row => k_is)
    (case a_l_is_double => k_is)
    (case l_l_is_double => k_is)
    (case c_l_is_double => k_is)
    (case k_l_is_double => k_is)
    (case a_l_first_double => k_is)
    (case l_l_first_double => k_is)
    (case c_l_first_double => k_is)
    (case k_l_first_double => k_is)
    (case a_law => k_is)
    (case l_law => k_is)
    (case c_law => k_is)
    (case k_law => k_is)
    (case pg_Loom => k_is)
    (case hd_Loom => k_is)
    (case po_Loom => k_is)
    (case sa_Loom => k_is)
    (case mk_Loom => k_is)
    (case kc_Loom => k_is)
    (case na_Loom_signs => k_is)
    (case na_Loom_arcs => k_is)
    (case pg_Search => k_is)
    (case hd_Search => k_is)
    (case po_Search => k_is)
    (case sa_Search => k_is)
    (case mk_Search => k_is)
    (case kc_Search => k_is)
    (case na_Search_costs => k_is)
    (case na_Search_origins => k_is)
    (case na_Search_queue => k_is)
    (case kc_InvalidLoom => k_is)
    (case e1_InvalidLoom => k_is)
    (case e2_InvalidLoom => k_is)
    (case e3_InvalidLoom => k_is)
    (case e4_InvalidLoom => k_is)
    (case e5_InvalidLoom => k_is)
    (case e8_InvalidLoom => k_is)
    (case ty_InvalidLoom => k_is)
    (case xi_InvalidLoom => k_is)
    (case tf_InvalidLoom => k_is)
    (case sa_InvalidLoom => k_is)
    (case no_InvalidLoom_part => k_is)
    (case no_InvalidLoom_at => k_is)
    (case e6 => k_is)
    (case e7 => k_is)
    (case ic_Loom => k_is)
    (case ig => k_is)
    (case it => k_is)
    (case im_Loom => k_is)
    (case si_InvalidLoom => k_is)
    (case si_Loom => k_is)
    (case eq_Loom => k_is)
    (case fn_Loom_eq => k_is)
    (case ne_Loom => k_is)
    (case sl_InvalidLoom => k_is)
    (case st_InvalidLoom => k_is)
    (case sl_Loom => k_is)
    (case st_Loom => k_is)
    (case a_heappush => k_is)
    (case a_heappop => k_is)
    (case z_all => k_is)
    (case z_any => k_is)
    (case z_bool => k_is)
    (case z_enumerate => k_is)
    (case z_int => k_is)
    (case z_isinstance => k_is)
    (case z_len => k_is)
    (case z_list => k_is)
    (case z_min => k_is)
    (case z_range => k_is)
    (case z_sorted => k_is)
    (case z_str => k_is)
    (case z_tuple => k_is)
    (case z_zip => k_is)
    (case g_MOST_SIGNS => k_is)
    (case g_LONGEST_WORD => k_is)
    (case g_LAST_STATE => k_is)
    (case g_MOST_ARCS => k_is)
