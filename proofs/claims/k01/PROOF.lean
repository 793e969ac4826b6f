import PyProof.Rows.All
import Wide.All
import OpenK.AllK
import Wide.FinOn
import KE.KExcIs
import KE.KExcInit
import HandS.ForMost
import HandS.ForExc
import HandS.ExcInit
import HandS.ExcField
import HandS.MakeKw
import HandS.IsInst
import HandS.ExcValue
import PyProof.ReprRoads
import HandS.AnyAll
import HandS.GenOver
import HandS.GenList
import HandS.Walk
import HandS.Style
import HandS.Codes
import HandS.Wide
import KE.GoesMore
import KE.GoesEnum
import HandS.Star
import HandS.SortOrd
import HandS.SortRule
import HandS.TupLe
import PyProof.TupleOfGen
import HandS.TupAny
import HandS.SetFor
import HandS.Strs
import HandS.Deep
import HandS.Defaults
import HandS.TupSets
import HandS.EndTab
import PySem.Challenge.RW_bothandall_k01_whole_closures_and_closed
-- M1
set_option Elab.async false
set_option linter.all false
set_option maxRecDepth 100000
set_option maxHeartbeats 4000000
namespace EX
open PySem PySem.W PySem.Calls PyProof.Rows
/-- an exception object as its class leaves it -/
abbrev raw (C t : Addr) : Obj := { cls := .ref C, data := .fields #[.ref t, .none, .none, .none, .bool false, .none] }
section
variable {M : Model} {A : Around} {E : Value → Shared → Prop} {h : Heap} {g : Array GenState} {d : Drawn} {t : Nat} {os : OsState}
variable {nm q : Str} {C N : Addr} {bs bm bmB : List Value} {hdct : Bool} {sn : List Str} {sub : List Value} {ab : Bool} {col : Option Bool} {dd : Option Addr} {k0 k1 k2 k3 k5 : Option Value} {B newId initId : String}

/-- the check ahead of the class's maker, whatever stands behind the class, keywords too -/
theorem newChecked (F : ExcBaseFacts B newId initId bmB) (same : ∀ X : String, bm.contains (.type X) = bmB.contains (.type X)) {rest : List Value} {kw : List (Str × Value)} {Q : Unit → Shared → Prop}
    (at_ : h.get? C = some (excClassObj nm q C N bs bm hdct sn sub ab col dd k0 k1 k2 k3 k5 newId)) (go : Q () ⟨h, g, d, t, os⟩) :
    wpAny M A (checkBuiltinCall newId ⟨.ref C :: rest, kw⟩) Q E ⟨h, g, d, t, os⟩ := by
  have hasB : (Value.ref C :: bm).contains (.type B) = true := by
    rw [List.contains_cons, same, F.hasB, Bool.or_true]
  have ns := F.noStar
  simp only [checkBuiltinCall, F.newKind, F.newSplit, F.newRow]
  repeat (first
    | refine wpAny_loadPart_at at_ ?_
    | (refine wpAny_isSubtype_exc at_ ?_; rw [hasB])
    | refine wpAny_staticBase_exc at_ ?_
    | refine wpAny_madeBy_exc at_ ?_
    | simp only [bne_self_eq_false, Bool.false_eq_true, if_false]
    | wp_step)
  all_goals first | exact go | skip
end

section
variable {prog : Program} {w : World} {A : Around} {E : Value → Shared → Prop} {R : Result → Shared → Prop} {h : Heap} {g : Array GenState} {d : Drawn} {t : Nat} {os : OsState}
variable {nm q : Str} {C N : Addr} {bs bm bmB : List Value} {hdct : Bool} {sn : List Str} {sub : List Value} {ab : Bool} {col : Option Bool} {dd : Option Addr} {k0 k1 k2 k3 k5 : Option Value} {B newId initId : String}

/-- the maker lays the arguments' tuple and the object -/
theorem newLaid (F : ExcBaseFacts B newId initId bmB) (same : ∀ X : String, bm.contains (.type X) = bmB.contains (.type X)) {rest : List Value} {kw : List (Str × Value)}
    (at_ : h.get? C = some (excClassObj nm q C N bs bm hdct sn sub ab col dd k0 k1 k2 k3 k5 newId)) (few : rest.length ≤ sizeLine)
    (go : R (.ok (.ret (.ref (h.objs.size + 1)))) ⟨(h.push (kdv_tup rest)).push (raw C h.objs.size), g, d, t, os⟩) :
    codeAny (model prog w) A (.builtin newId ⟨.ref C :: rest, kw⟩) R ⟨h, g, d, t, os⟩ := by
  have fe := F.ends
  have c1 : (Value.ref C :: bm).contains (.type B) = true := by
    rw [List.contains_cons, same, F.hasB, Bool.or_true]
  have c2 : (Value.ref C :: bm).contains (.type "AttributeError") = false := by
    rw [List.contains_cons, same, F.noAttr]
    rfl
  have c3 : (Value.ref C :: bm).contains (.type "NameError") = false := by
    rw [List.contains_cons, same, F.noName]
    rfl
  refine codeAny_builtinAt F.entry ?_
  unfold Builtin.«BaseException.__new__»
  refine PySem.wpAt_bind ?_
  show PySem.wpAt _ _ _ (stack >>= _) _ _ _
  refine PySem.wpAt_bind (PySem.wpAt_stack fun _ _ => PySem.wpAt_of_wpAny ?_)
  wp_walk
  refine PySem.wpAt_of_wpAny ?_
  rw [F.owner]
  repeat (first
    | with_reducible refine wpAny_madeHere_exc F.canon at_ ?_
    | with_reducible refine wpAny_loadPart_at at_ ?_
    | (with_reducible refine wpAny_isSubtype_exc at_ ?_; first | rw [c1] | rw [c2] | rw [c3])
    | wp_step)
  show R _ _
  rw [Heap.size_push]
  exact go

/-- type.__call__ on such a class whose __init__ is a def of the text -/
theorem typeCalled (F : ExcBaseFacts B newId initId bmB) (same : ∀ X : String, bm.contains (.type X) = bmB.contains (.type X)) {rest : List Value} {kw : List (Str × Value)} {fI : Addr} {Q : Fin → Shared → Prop}
    (at_ : h.get? C = some (excClassObj nm q C N bs bm hdct sn sub ab col dd k0 k1 k2 k3 k5 newId)) (few : rest.length ≤ sizeLine)
    (li : Looks (model prog w) h (typeLookup (.ref C) "__init__") (some (.ref fI))) (lb : ∀ self, Looks (model prog w) h (bindSpecial (.ref fI) self) (.ref fI, [self]))
    (go : codeAny (model prog w) A (.call (.ref fI) ⟨.ref (h.objs.size + 1) :: rest, kw⟩)
      (fun r s' => match r with | .ok (.ret v) => v = .none ∧ Q (.done (.ret (.ref (h.objs.size + 1)))) s' | .ok _ => False | .error e => E e s')
      ⟨(h.push (kdv_tup rest)).push (raw C h.objs.size), g, d, t, os⟩) :
    wpAny (model prog w) A (Builtin.«type.__call__» ⟨.ref C :: rest, kw⟩) Q E ⟨h, g, d, t, os⟩ := by
  repeat (first
    | with_reducible refine wpAny_loadPart_at at_ ?_
    | with_reducible refine wpAny_madeBy_exc at_ ?_
    | wp_step)
  refine codeAny_call_builtin_code (Code.quiet_builtin _ F.quiet) (newChecked F same at_ (newLaid F same at_ few ?_))
  show wpAny _ _ _ _ _ _
  have old : ∀ b o, h.get? b = some o → ((h.push (kdv_tup rest)).push (raw C h.objs.size)).get? b = some o := fun _ _ e => Heap.get?_push_of_some _ (Heap.get?_push_of_some _ e)
  have at2 := old _ _ at_
  have new : ((h.push (kdv_tup rest)).push (raw C h.objs.size)).get? (h.objs.size + 1) = some (raw C h.objs.size) := by
    heap_get
  have own : (Value.ref C :: bm).contains (.ref C) = true := by
    simp
  have l1 := li.keeps old
  have l2 := (lb (.ref (h.objs.size + 1))).keeps old
  unfold isInstance
  repeat (first
    | with_reducible refine wpAny_loadPart_at new ?_
    | (with_reducible refine wpAny_isSubtype_exc at2 ?_; rw [own])
    | wp_step)
  show wpAny _ _ (typeLookup (.ref C) _) _ _ _
  refine l1.at ?_
  refine wpAny_holding (wpAny_bind (l2.at ?_))
  refine wpAny_bind (wpAny_call (codeAny_mono go fun r s' z => ?_))
  cases r with
  | error e => exact z
  | ok fl =>
    cases fl with
    | ret v =>
      obtain ⟨e, z⟩ := z
      subst e
      first
        | exact wpAny_pure (wpAny_pure z)
        | (wp_walk; exact z)
    | next => exact z.elim
    | brk => exact z.elim
    | cont => exact z.elim

/-- the class called -/
theorem ownCalled (F : ExcBaseFacts B newId initId bmB) (same : ∀ X : String, bm.contains (.type X) = bmB.contains (.type X)) {rest : List Value} {kw : List (Str × Value)} {fI : Addr}
    (at_ : h.get? C = some (excClassObj nm q C N bs bm hdct sn sub ab col dd k0 k1 k2 k3 k5 newId)) (few : rest.length ≤ sizeLine)
    (li : Looks (model prog w) h (typeLookup (.ref C) "__init__") (some (.ref fI))) (lb : ∀ self, Looks (model prog w) h (bindSpecial (.ref fI) self) (.ref fI, [self]))
    (go : codeAny (model prog w) (A.under (.builtin "type.__call__" ⟨.ref C :: rest, kw⟩)) (.call (.ref fI) ⟨.ref (h.objs.size + 1) :: rest, kw⟩) (InitBack (h.objs.size + 1) R)
      ⟨(h.push (kdv_tup rest)).push (raw C h.objs.size), g, d, t, os⟩) :
    codeAny (model prog w) A (.call (.ref C) ⟨rest, kw⟩) R ⟨h, g, d, t, os⟩ := by
  have f1 := tc_lookup
  have f2 := tc_bind (.ref C)
  have f3 := tc_sub
  have ty : (⟨h, g, d, t, os⟩ : Shared).TypeIs (.ref C) "type" := ⟨_, at_, rfl⟩
  refine codeAny_of_tree ?_
  show wpAny _ _ (callAny (.ref C) _) _ _ _
  repeat (any_goals (first | assumption | with_reducible refine wpAny_loadPart_at at_ ?_ | wp_step))
  refine ⟨rfl, ?_⟩
  refine codeAny_call_builtin_at (Code.quiet_builtin _ (by decide +kernel)) entry_typeCall ?_
  have chk : ∀ {Q : Unit → Shared → Prop} {A : Around} {E : Value → Shared → Prop}, Q () ⟨h, g, d, t, os⟩ → wpAny (model prog w) A (checkBuiltinCall "type.__call__" ⟨.ref C :: rest, kw⟩) Q E ⟨h, g, d, t, os⟩ := by
    intro Q A E z
    simp only [checkBuiltinCall, tc_kind, tc_split]
    repeat (any_goals (first | assumption | with_reducible refine wpAny_loadPart_at at_ ?_ | with_reducible refine wpAny_onRaise ?_ | with_reducible refine wpAny_map ?_ | wp_step))
  refine chk (typeCalled F same at_ few li lb (codeAny_mono go fun r s' z => ?_))
  cases r with
  | error e => exact z
  | ok fl => cases fl <;> exact z
end
end EX

-- M2
set_option Elab.async false
set_option linter.all false
set_option maxRecDepth 100000
set_option maxHeartbeats 4000000
namespace EX
open PySem PySem.W PySem.Calls PyProof.Rows
abbrev exB : List Value := [.type "Exception", .type "BaseException", .type "object"]
/-- what a store of f asks of the class at C -/
structure StoC (K : Frag) (C : Addr) (f : Str) : Prop where
  over : excOver K C exB = true
  tak : takerIn K C f = some none
  sa : findIn K (.ref C) "__setattr__" = some (some (.builtin "object.__setattr__"))
  hd : hasDictIn K C = true
section
open Builtin Builtin.ObjectAttr
variable {prog : Program} {w : World} {A : Around} {R : Result → Shared → Prop} {hp : Heap} {g : Array GenState} {d : Drawn} {t : Nat} {os : OsState} {K : Frag}
/-- the first field of an exception: its dict is laid -/
theorem firstField {f : Str} {tk : Tok} {v : Value} {x C t0 : Addr} (T : StoC K C f) (X : K.In hp) (hx : hp.get? x = some (raw C t0))
    (go : ∀ h' tk' dx, (∀ b o, b ≠ x → hp.get? b = some o → h'.get? b = some o) → hp.objs.size ≤ dx → dx ≠ x →
      h'.get? x = some { cls := .ref C, dict := some dx, data := .fields #[.ref t0, .none, .none, .none, .bool false, .none] } →
      h'.Ns1 dx (fun y => if y = f then some v else none) → R (.ok (.ret .none)) ⟨h', g, d, tk', os⟩) :
    codeAny (model prog w) A (.call (.builtin "object.__setattr__") ⟨[.ref x, .str f tk, v], []⟩) R ⟨hp, g, d, t, os⟩ := by
  have I : InstAt hp x (raw C t0) C none := ⟨hx, rfl, rfl, trivial⟩
  obtain ⟨cd, hcd, hdd⟩ := any_some T.hd
  have lc : Looks (model prog w) hp (classData C) cd := looks_clsIn X hcd
  have xs : x ≠ hp.objs.size := Nat.ne_of_lt (Heap.lt_size hx)
  refine osa_openX PySem.F.store_Exception X I T.over T.tak fun b => ?_
  obtain ⟨c1, c2, c3, c4, c5, c6, c7, c8, c9, c10, c11⟩ := cd
  have hdd' : c6 = true := hdd
  subst hdd'
  show wpAny _ _ (storeInOwnDict (.ref x) (.ref C) (.str f tk) f v b) _ _ _
  unfold storeInOwnDict ownDictForStores
  repeat (first
    | with_reducible refine HandSPX.store_in_new ?_ ?_
    | with_reducible refine wpAny_loadPart_at hx ?_
    | with_reducible refine lc.at ?_
    | wp_step)
  · exact ⟨_, #[], _, (Heap.get?_update_ne _ _ _ _ xs.symm).trans (Heap.get?_push_at rfl rfl), rfl, fun e he => absurd he (by simp), fun _ => rfl⟩
  · intro h' tk' hn hs
    have hx2 : (hp.push { cls := .type "dict", data := .dict #[] }).get? x = some (raw C t0) := Heap.get?_push_of_some _ hx
    refine go h' tk' hp.objs.size (fun b o nb ho => ?_) (Nat.le_refl _) xs.symm ?_ hn
    · have e1 := hs.2 b (Nat.ne_of_lt (Heap.lt_size ho))
      exact e1.trans ((Heap.get?_update_ne _ _ _ _ nb).trans (Heap.get?_push_of_some _ ho))
    · exact (hs.2 x xs).trans (Heap.get?_update_self _ hx2 rfl)
end

/-- what the written part says of an own class of errors, with one field f and its own __init__ -/
structure ErrC (K : Frag) (mg : Str → Option Value) (x f : Str) (C fI : Addr) : Prop where
  gC : mg x = some (.ref C)
  kC : keepIn K (.ref C) = true
  ini : excInitIn K C exB "Exception.__new__" = true
  sto : StoC K C f
  iC : findIn K (.ref C) "__init__" = some (some (.ref fI))
  tI : typeIn K (.ref fI) = some (.type "function")
  exC : subIn K (.ref C) (.type "BaseException") = some true
  tyC : typeIn K (.ref C) = some (.type "type")
end EX

namespace EX
open PySem PySem.Spec PyProof.Rows L2
section
variable {X : Cx} {pins : List (Addr × Obj)} {σ : L2.St} {H : Hp} {s : Shared} {a C : Addr} {f : Str} {y : V} {u : Value}
/-- self.f = y on a new exception -/
theorem field_put {Q : Unit → Shared → Prop} {E : Value → Shared → Prop} {A : Around} (T : StoC X.K C f) (I : Inv X pins σ H s) (e : H a = some (exo a C none)) (ry : RelV y u)
    (go : ∀ dx s', H dx = none → dx ≠ a → Inv X pins σ (upd (upd H dx (exd dx [(f, y)])) a (exo a C (some dx))) s' → Q () s') : wpAny (model X.prog X.w) A (setAttr (.ref a) f u) Q E s := by
  obtain ⟨t1, ho⟩ := exo_at I.hok e
  obtain ⟨hp, g, d, t, os⟩ := s
  refine PySem.W.set_plain I.kIn (ox := raw C t1) (od := none) ⟨ho, rfl, rfl, trivial⟩ T.sa ?_
  refine firstField T I.kIn ho fun h' tk' dx keep big ne hx hn => ?_
  have nH : H dx = none := I.hok.fresh big
  have n1 : ∀ {b : Addr} {o : Obj}, hp.get? b = some o → b ≠ dx := fun {b o} q => Nat.ne_of_lt (Nat.lt_of_lt_of_le (Heap.lt_size q) big)
  have n2 : ∀ {b : Addr}, H b = none → b ≠ a := fun {b} n z => by
    rw [z, e] at n
    cases n
  refine go dx _ nH ne (I.un (t' := tk') ?_ fun b o q => ?_)
  · exact {
      keep := fun b o q n _ _ => keep b o (n2 n) q
      slot := fun b o q n _ _ => ⟨o.slots, keep b o (n2 n) q⟩
      free := fun b o q n _ => by
        rw [upd_ne (n2 n), upd_ne (n1 q)]
        exact n
      there := fun b o q _ => by
        by_cases hb : b = a
        · rw [hb]
          exact ⟨_, hx⟩
        · exact ⟨o, keep b o hb q⟩
      tups := fun b xs q => by
        rw [upd_ne (at_ne e q exo_tup), upd_ne (ne_of_none q nH)]
        exact q
      frzs := fun b o v q => by
        rw [upd_ne (at_ne e q exo_frz), upd_ne (ne_of_none q nH)]
        exact q
      tbls := fun b ps q => ⟨#[], by
        rw [upd_ne (at_ne e q exo_tbl), upd_ne (ne_of_none q nH), q]
        simp⟩ }
  · by_cases hb : b = a
    · subst hb
      rw [upd_same] at q
      cases q
      exact exo_ok hx
    · rw [upd_ne hb] at q
      by_cases hd : b = dx
      · subst hd
        rw [upd_same] at q
        cases q
        exact exd_ok hn (relO_put (fs := []) ry fun _ => True.intro)
      · rw [upd_ne hd] at q
        refine (I.hok b o q).stay (fun c v hc z => keep c v ?_ z) (fun c hc => ?_) fun c xs hc => ?_
        · rcases hc with hc | hc
          · rw [hc]
            exact hb
          · exact at_ne e hc exo_own
        · rw [upd_ne (at_ne e hc exo_own), upd_ne (ne_of_none hc nH)]
          exact hc
        · rw [upd_ne (at_ne e hc exo_tup), upd_ne (ne_of_none hc nH)]
          exact hc
end
/-- self.f = e, self a new exception -/
def tPut (K : PySem.W.Frag) (f : Str) (to te : TE) : TS := fun D σ H => te σ H fun y H1 => to σ H1 fun x H2 => ∃ a C : Addr, x = .ref a ∧ StoC K C f ∧ H2 a = some (exo a C none) ∧
  ∀ dx, H2 dx = none → dx ≠ a → D.nx σ (upd (upd H2 dx (exd dx [(f, y)])) a (exo a C (some dx)))
theorem ps_put {X : Cx} {o e : Expr} {to te : TE} {f : Str} {p pos : Pos} (ho : PE X o to) (he : PE X e te) (hs : swapsWith e (some (.Attribute o f p)) pos.line X.env = pure false := by rfl) :
    PS X (.Assign [.Attribute o f p] e pos) (tPut X.K f to te) := by
  refine ⟨fun pins s σ H D I h => ?_⟩
  refine plainObj_wpAny_Assign_Attribute (thn (he.run pins s σ H _ I h) fun v s1 ⟨y, H1, I1, r1, q1⟩ => thn (ho.run pins s1 σ H1 _ I1 q1) fun u s2 ⟨x, H2, I2, r2, a, C, ex, T, ea, q⟩ => ?_) hs
  subst ex
  obtain rfl : u = Value.ref a := r2
  exact field_put T I2 ea r1 fun dx s' n ne J => ⟨σ, _, J, q dx n ne⟩

/-! ### __init__ -/
def iA (f : Str) (p1 p2 : Pos) : Arguments := { posonlyargs := [], args := [{ arg := "self", annotation := none, pos := p1 }, { arg := f, annotation := none, pos := p2 }], vararg := none, kwonlyargs := [], kw_defaults := [], kwarg := none, defaults := [] }
def iB (f : Str) (q1 q2 q3 q4 : Pos) : List Stmt := [.Assign [.Attribute (.Name "self" q1) f q2] (.Name f q3) q4]
def iS (f : Str) : Scope := { kind := .function, names := [(PySem.Str.ofString "self", .local), (f, .local)], isGenerator := false, isCoroutine := false, more := [] }
def spInit (K : PySem.W.Frag) (f : Str) : Sp := fun vs H Q _ => ∃ (a C : Addr) (v : V), vs = [.ref a, v] ∧ StoC K C f ∧ H a = some (exo a C none) ∧
  ∀ dx, H dx = none → dx ≠ a → Q .non (upd (upd H dx (exd dx [(f, v)])) a (exo a C (some dx)))
/-- what a field's name must be for the walk of __init__ -/
structure FieldOk (f : Str) : Prop where
  sc : FnScope ["self", f] ["self", f] (iS f)
  vis : Vis (iS f) f
  db : (f == ("__debug__" : Str)) = false
  cd : (f == ("__classdict__" : Str)) = false
section
variable {P : Program} {w : World} {K : PySem.W.Frag} {mg : Str → Option Value} {base : Heap}
theorem ok_init {f qual : Str} {st : Stmt} {fI : Addr} {fd : FuncData} {p1 p2 q1 q2 q3 q4 : Pos} (N : FieldOk f) (F : Fun K "__init__" qual st fI fd) (eB : defBody st = iB f q1 q2 q3 q4) (eS : defScope st = iS f) :
    FnOk P w K mg base CX0 1 fI fd ["self", f] (spInit K f) := by
  refine F.ok (N := ["self", f]) (by rw [eS]; exact N.sc) (fun vs H Q E h => ?_) (fun cdv A outer s H vs Q E hr h => ?_)
  · obtain ⟨a, C, v, rfl, _⟩ := h
    rfl
  · obtain ⟨a, C, v, rfl, T, ea, q⟩ := h
    rw [eB, eS]
    refine ⟨_, pss_one (ps_put (pv 0) (pv 1 rfl N.vis N.db N.cd)), ?_⟩
    exact ⟨v, rfl, .ref a, rfl, a, C, rfl, T, ea, q⟩
end
theorem field_thing : FieldOk "thing" := ⟨⟨rfl, rfl, rfl, by decide +kernel, rfl, by decide +kernel, by decide +kernel⟩, .inl rfl, by decide, by decide⟩
theorem field_certificate : FieldOk "certificate" := ⟨⟨rfl, rfl, rfl, by decide +kernel, rfl, by decide +kernel, by decide +kernel⟩, .inl rfl, by decide, by decide⟩
theorem field_most : FieldOk "most" := ⟨⟨rfl, rfl, rfl, by decide +kernel, rfl, by decide +kernel, by decide +kernel⟩, .inl rfl, by decide, by decide⟩
theorem field_at : FieldOk "at" := ⟨⟨rfl, rfl, rfl, by decide +kernel, rfl, by decide +kernel, by decide +kernel⟩, .inl rfl, by decide, by decide⟩
theorem field_promise : FieldOk "promise" := ⟨⟨rfl, rfl, rfl, by decide +kernel, rfl, by decide +kernel, by decide +kernel⟩, .inl rfl, by decide, by decide⟩
end EX

-- M3
set_option Elab.async false
set_option linter.all false
set_option maxRecDepth 100000
set_option maxHeartbeats 4000000
namespace EX
open PySem PySem.Spec PyProof.Rows L2
/-- how __init__'s arguments come, written or by name -/
structure BindI (K : PySem.W.Frag) (fd : FuncData) (f : Str) : Prop where
  pos : ∀ (s : Shared) (u w : Value), BindsTo s fd ⟨[u, w], []⟩ [("self", u), (f, w)]
  kw : ∀ (s : Shared) (u w : Value), BindsTo s fd ⟨[u], [(f, w)]⟩ [("self", u), (f, w)]
/-- a class of errors with all that its making needs -/
structure ErrOk (P : Program) (w : World) (K : PySem.W.Frag) (mg : Str → Option Value) (base : Heap) (x f : Str) (C : Addr) : Prop where
  ex : ∃ (fI : Addr) (fd : FuncData), ErrC K mg x f C fI ∧ BindI K fd f ∧ FnOk P w K mg base CX0 1 fI fd ["self", f] (spInit K f)
/-- the two forms of the call -/
inductive Form (f : Str) (u : Value) : List Value → List (Str × Value) → Prop
  | pos : Form f u [u] []
  | kw : Form f u [] [(f, u)]
section
variable {X : Cx} {pins : List (Addr × Obj)} {σ : L2.St} {H : Hp} {s : Shared} {x f : Str} {C : Addr} {v : V} {u : Value} {us : List Value} {kws : List (Str × Value)}
/-- the class called: what is laid -/
theorem made_core {R : Value → Shared → Prop} (O : ErrOk X.prog X.w X.K X.mg X.base x f C) (hr : Room 2 X.A) (I : Inv X pins σ H s) (rv : RelV v u) (fm : Form f u us kws)
    (go : ∀ (a : Addr) (h2 : Heap) (s' : Shared), s.heap.objs.size ≤ a → (∀ b o, s.heap.get? b = some o → h2.get? b = some o) → Inv X pins σ (upd H a (exo a C none)) { s with heap := h2 } →
      CE X.stack X.prog X.w (upd H a (exo a C none)) { s with heap := h2 } (fun r H2 => r = .non ∧ ∃ d, H d = none ∧ d ≠ a ∧ H2 = upd (upd (upd H a (exo a C none)) d (exd d [(f, v)])) a (exo a C (some d))) .none s' → R (.ref a) s') :
    wpAny (model X.prog X.w) X.A (call (.ref C) us kws) R X.xe s := by
  obtain ⟨fI, fd, T, B, F⟩ := O.ex
  obtain ⟨hp, g, dr, tk, os⟩ := s
  obtain ⟨nm, N, qn, bs, bm, hdct, sn, sub, ab, col, dd, k0, k1, k2, k3, k5, hC, same⟩ := PySem.W.excInit_of I.kIn T.ini
  have hsz : hp.objs.size ≤ hp.objs.size + 1 := Nat.le_succ _
  have few : us.length ≤ sizeLine := by
    rw [sizeLine_eq]
    cases fm <;> simp
  have old : ∀ b o, hp.get? b = some o → ((hp.push (PySem.W.kdv_tup us)).push (raw C hp.objs.size)).get? b = some o := fun b o e => Heap.get?_push_of_some _ (Heap.get?_push_of_some _ e)
  have new : ((hp.push (PySem.W.kdv_tup us)).push (raw C hp.objs.size)).get? (hp.objs.size + 1) = some (raw C hp.objs.size) := by
    heap_get
  have I2 : Inv X pins σ (upd H (hp.objs.size + 1) (exo (hp.objs.size + 1) C none)) ⟨(hp.push (PySem.W.kdv_tup us)).push (raw C hp.objs.size), g, dr, tk, os⟩ :=
    I.laid (t' := tk) (a := hp.objs.size + 1) (o := exo (hp.objs.size + 1) C none) (h' := (hp.push (PySem.W.kdv_tup us)).push (raw C hp.objs.size)) old hsz (exo_ok new)
  have nH : H (hp.objs.size + 1) = none := I.hok.fresh hsz
  have rel : Vals [V.ref (hp.objs.size + 1), v] [Value.ref (hp.objs.size + 1), u] := .cons rfl (.cons rv .nil)
  have hb : BindsTo ⟨(hp.push (PySem.W.kdv_tup us)).push (raw C hp.objs.size), g, dr, tk, os⟩ fd ⟨Value.ref (hp.objs.size + 1) :: us, kws⟩ ((["self", f] : List Str).zip [Value.ref (hp.objs.size + 1), u]) := by
    cases fm with
    | pos => exact B.pos _ _ _
    | kw => exact B.kw _ _ _
  have asked : spInit X.K f [V.ref (hp.objs.size + 1), v] (upd H (hp.objs.size + 1) (exo (hp.objs.size + 1) C none))
      (fun r H2 => r = .non ∧ ∃ d, H d = none ∧ d ≠ hp.objs.size + 1 ∧ H2 = upd (upd (upd H (hp.objs.size + 1) (exo (hp.objs.size + 1) C none)) d (exd d [(f, v)])) (hp.objs.size + 1) (exo (hp.objs.size + 1) C (some d)))
      (fun _ _ _ => False) := by
    refine ⟨_, C, v, rfl, T.sto, upd_same, fun dx nd ne => ⟨rfl, dx, ?_, ne, rfl⟩⟩
    rw [upd_ne ne] at nd
    exact nd
  refine wpAny_call (ownCalled PySem.F.excBase_Exception same hC few (PySem.W.looks_findIn I.kIn T.iC) (fun self => PySem.W.bind_fn I.kIn self T.tI)
    (codeAny_mono (F.run _ X.stack _ _ ⟨Value.ref (hp.objs.size + 1) :: us, kws⟩ [Value.ref (hp.objs.size + 1), u] _ _ (fun _ _ _ => False) (hr.make C us kws) (I2.env0.make C us kws) hb rel asked) fun r s' z => ?_))
  cases r with
  | error er => exact z.elim
  | ok fl =>
    cases fl with
    | ret ur =>
      obtain ⟨r, H2, z1, z2, z3, z4, z5, z6, z7⟩ := z
      subst z6
      obtain rfl : ur = Value.none := z5
      exact ⟨rfl, go _ _ s' hsz old I2 ⟨.non, H2, z1, z2, z3, z4, rfl, rfl, z7⟩⟩
    | next => exact z.elim
    | brk => exact z.elim
    | cont => exact z.elim
theorem upd_swap {H : Hp} {a b : Addr} {o o' u : HO} (h : b ≠ a) : upd (upd (upd H a o) b o') a u = upd (upd H b o') a u := by
  funext c
  by_cases e : c = a
  · rw [e, upd_same, upd_same]
  · rw [upd_ne e, upd_ne e]
    by_cases e2 : c = b
    · rw [e2, upd_same, upd_same]
    · rw [upd_ne e2, upd_ne e2, upd_ne e]
/-- as a value -/
theorem made_val {Q : VK} (O : ErrOk X.prog X.w X.K X.mg X.base x f C) (hr : Room 2 X.A) (I : Inv X pins σ H s) (rv : RelV v u) (fm : Form f u us kws)
    (h : ∀ a d, H a = none → H d = none → d ≠ a → Q (.ref a) (upd (upd H d (exd d [(f, v)])) a (exo a C (some d)))) :
    wpAny (model X.prog X.w) X.A (call (.ref C) us kws) (EP X pins σ Q) X.xe s := by
  refine made_core O hr I rv fm fun a h2 s' big keep I2 z => ?_
  obtain ⟨r, H2, J, _, _, d, nd, ne, e⟩ := I2.after z
  subst e
  have na : H a = none := I.hok.fresh big
  rw [upd_swap ne] at J
  exact ⟨.ref a, _, J, rfl, h a d na nd ne⟩
/-- as something to raise -/
theorem made_mk {Q : XK} (O : ErrOk X.prog X.w X.K X.mg X.base x f C) (hr : Room 2 X.A) (I : Inv X pins σ H s) (rv : RelV v u) (fm : Form f u us kws)
    (h : ∀ d, H d = none → Q (.ref C) (some d) (upd H d (.xd [(f, v)]))) :
    wpAny (model X.prog X.w) X.A (call (.ref C) us kws) (MkP X pins σ Q) X.xe s := by
  have O' := O
  obtain ⟨fI, fd, T, _, _⟩ := O'.ex
  refine made_core O hr I rv fm fun a h2 s' big keep I2 z => ?_
  obtain ⟨r, H2, z1, z2, z3, z4, z5, _, d, nd, ne, e⟩ := z
  have na : H a = none := I.hok.fresh big
  have ea : H2 a = some (exo a C (some d)) := by
    rw [e, upd_same]
  have ed : H2 d = some (exd d [(f, v)]) := by
    rw [e, upd_ne ne, upd_same]
  obtain ⟨hp, g, dr, tk, os⟩ := s
  obtain ⟨h3, g3, d3, t3, os3⟩ := s'
  refine mk_end (raises_own T.exC T.tyC) I big keep z3 z4 z1 z2 ea ed nd ?_
  have e2 : upd (del H2 a) d (.xd [(f, v)]) = upd H d (.xd [(f, v)]) := by
    funext b
    by_cases hb : b = d
    · rw [hb, upd_same, upd_same]
    · rw [upd_ne hb, upd_ne hb]
      by_cases hb2 : b = a
      · rw [hb2, del_same, na]
      · rw [del_ne hb2, e, upd_ne hb2, upd_ne hb, upd_ne hb2]
  rw [e2]
  exact h d nd
end
/-- C(e), a new error as a value; H': what stood, the error and its dict -/
def tErr (C : Addr) (f : Str) (te : TE) : TE := fun σ H Q => te σ H fun v H1 => ∀ a d, H1 a = none → H1 d = none → d ≠ a → Q (.ref a) (upd (upd H1 d (exd d [(f, v)])) a (exo a C (some d)))
/-- .. to be raised -/
def tErrM (C : Addr) (f : Str) (te : TE) : L2.St → Hp → XK → Prop := fun σ H Q => te σ H fun v H1 => ∀ d, H1 d = none → Q (.ref C) (some d) (upd H1 d (.xd [(f, v)]))
section
variable {X : Cx} {x f : Str} {C : Addr} {e : Expr} {te : TE} {p pos kp : Pos}
theorem errC_of {P : Program} {w : World} {K : PySem.W.Frag} {mg : Str → Option Value} {base : Heap} (O : ErrOk P w K mg base x f C) : mg x = some (.ref C) ∧ PySem.W.keepIn K (.ref C) = true := by
  obtain ⟨_, _, T, _⟩ := O.ex
  exact ⟨T.gC, T.kC⟩
/-- a reading that may be weakened behind -/
def tWk (t : TE) : TE := fun σ H Q => ∃ W : VK, t σ H W ∧ ∀ v H1, W v H1 → Q v H1
theorem pe_wk {X : Cx} {e : Expr} {t : TE} (h : PE X e t) : PE X e (tWk t) := ⟨fun pins s σ H Q I ⟨W, hw, imp⟩ =>
  thn (h.run pins s σ H W I hw) fun u s1 ⟨v, H1, I1, r, q⟩ => ⟨v, H1, I1, r, imp v H1 q⟩⟩
/-- the one argument of such a call, evaluated -/
theorem arg_one {fv : Value} {Q : Value → Shared → Prop} {pins : List (Addr × Obj)} {s : Shared} {σ : L2.St} {H : Hp} {W : VK} (kf : PySem.W.keepIn X.K fv = true) (he : PE X e te) (I : Inv X pins σ H s) (h : te σ H W)
    (hs : starEach [e] X.env = (false, eval e X.env) :: starEach [] X.env)
    (go : ∀ u s1 v H1, Inv X pins σ H1 s1 → RelV v u → W v H1 → wpAny (model X.prog X.w) X.A (call fv [u] []) Q X.xe s1) :
    wpAny (model X.prog X.w) X.A (callWith pos fv [] (backTo pos (starEach [e] X.env)) []) Q X.xe s := by
  refine PySem.W.callWith_K (h₀ := X.base) I.ok.mod.kin kf ?_ hs (by rfl)
  rw [hs]
  show wpAny _ _ (spliced ((false, eval e X.env) :: backTo pos (starEach [] X.env))) _ _ s
  exact Calls.spliced_cons (thn (he.run pins s σ H _ I h) fun u s1 ⟨v, H1, I1, r1, q1⟩ => Calls.spliced_nil ⟨I1.kIn, go u s1 v H1 I1 r1 q1⟩)
theorem arg_kw {fv : Value} {Q : Value → Shared → Prop} {pins : List (Addr × Obj)} {s : Shared} {σ : L2.St} {H : Hp} {W : VK} (kf : PySem.W.keepIn X.K fv = true) (he : PE X e te) (I : Inv X pins σ H s) (h : te σ H W)
    (go : ∀ u s1 v H1, Inv X pins σ H1 s1 → RelV v u → W v H1 → wpAny (model X.prog X.w) X.A (call fv [] [(f, u)]) Q X.xe s1) :
    wpAny (model X.prog X.w) X.A (callWith pos fv [] (backTo pos (starEach [] X.env)) (backToKw pos (keywordEach [⟨some f, e, kp⟩] X.env))) Q X.xe s := by
  refine PySem.W.callWith_KW0 (h₀ := X.base) I.ok.mod.kin kf (by rfl) (thn ((pk_cons (pe_wk he) pk_nil).run pos pins s σ H (fun vs H1 => ∃ v, vs = [v] ∧ W v H1) I ?_) fun us s1 ⟨vs, H1, I1, r1, v, ev, q⟩ => ⟨I1.kIn, ?_⟩) (by rfl)
  · exact ⟨W, h, fun v H1 q => ⟨v, rfl, q⟩⟩
  · subst ev
    cases r1 with
    | cons rv rn =>
      cases rn
      exact go _ s1 v H1 I1 rv q
theorem pe_err (O : ErrOk X.prog X.w X.K X.mg X.base x f C) (hr : Room 2 X.A) (hg : Gl X x) (he : PE X e te) (hdb : (x == ("__debug__" : Str)) = false := by decide)
    (hs : starEach [e] X.env = (false, eval e X.env) :: starEach [] X.env := by rfl) : PE X (.Call (.Name x p) [e] [] pos) (tErr C f te) := by
  refine ⟨fun pins s σ H Q I h => ?_⟩
  refine wpAny_Call_Name_kw (ld_glob I hg (errC_of O).1 ?_ hdb)
  exact arg_one (errC_of O).2 he I h hs fun u s1 v H1 I1 rv q => made_val O hr I1 rv .pos q
theorem pe_errK (O : ErrOk X.prog X.w X.K X.mg X.base x f C) (hr : Room 2 X.A) (hg : Gl X x) (he : PE X e te) (hdb : (x == ("__debug__" : Str)) = false := by decide) :
    PE X (.Call (.Name x p) [] [⟨some f, e, kp⟩] pos) (tErr C f te) := by
  refine ⟨fun pins s σ H Q I h => ?_⟩
  refine wpAny_Call_Name_kw (ld_glob I hg (errC_of O).1 ?_ hdb)
  exact arg_kw (errC_of O).2 he I h fun u s1 v H1 I1 rv q => made_val O hr I1 rv .kw q
theorem pmk_err (O : ErrOk X.prog X.w X.K X.mg X.base x f C) (hr : Room 2 X.A) (hg : Gl X x) (he : PE X e te) (hdb : (x == ("__debug__" : Str)) = false := by decide)
    (hs : starEach [e] X.env = (false, eval e X.env) :: starEach [] X.env := by rfl) : PMk X (.Call (.Name x p) [e] [] pos) (tErrM C f te) := by
  intro pins s σ H Q I h
  refine wpAny_Call_Name_kw (ld_glob I hg (errC_of O).1 ?_ hdb)
  exact arg_one (errC_of O).2 he I h hs fun u s1 v H1 I1 rv q => made_mk O hr I1 rv .pos q
theorem pmk_errK (O : ErrOk X.prog X.w X.K X.mg X.base x f C) (hr : Room 2 X.A) (hg : Gl X x) (he : PE X e te) (hdb : (x == ("__debug__" : Str)) = false := by decide) :
    PMk X (.Call (.Name x p) [] [⟨some f, e, kp⟩] pos) (tErrM C f te) := by
  intro pins s σ H Q I h
  refine wpAny_Call_Name_kw (ld_glob I hg (errC_of O).1 ?_ hdb)
  exact arg_kw (errC_of O).2 he I h fun u s1 v H1 I1 rv q => made_mk O hr I1 rv .kw q
end
end EX

-- M4
set_option Elab.async false
set_option linter.all false
set_option maxRecDepth 100000
set_option maxHeartbeats 4000000
namespace EX
open PySem PySem.Spec PyProof.Rows L2
/-- what a class of errors must say for its instances to be read and asked -/
structure AskC (K : PySem.W.Frag) (C : Addr) : Prop where
  hg : PySem.W.findIn K (.ref C) "__getattribute__" = some (some (.builtin "BaseException.__getattribute__"))
  hk : PySem.W.findIn K (.ref C) "__getattr__" = some none
  hs : PySem.W.subIn K (.ref C) (.type "BaseException") = some true
  hd : PySem.W.hasDictIn K C = true
  ha : PySem.W.findIn K (.ref C) "__class__" = some (some (.builtin "object.__class__"))
  hn : PySem.W.specialIn K (.builtin "object.__class__") "__get__" = some (some (.builtin "getset_descriptor.__get__"))
  ht : PySem.W.takesIn K (.builtin "object.__class__") = some true
  hm : PySem.W.mroIn K C (.type "object") = some true
section
variable {X : Cx}
/-- x.n, x an error that was not raised -/
def tGetE (K : PySem.W.Frag) (n : Str) (te : TE) : TE := fun σ H Q => te σ H fun x H1 => ∃ (a C d : Addr) (fs : List (Str × V)) (v : V), x = .ref a ∧ AskC K C ∧ PySem.W.findIn K (.ref C) n = some none ∧ H1 a = some (exo a C (some d)) ∧ H1 d = some (exd d fs) ∧
  fs.lookup n = some v ∧ Q v H1
theorem pe_getE {e : Expr} {te : TE} {n : Str} {pos : Pos} (he : PE X e te) (hb : attributeBase e n X.env (eval e X.env) = eval e X.env := by rfl) : PE X (.Attribute e n pos) (tGetE X.K n te) := by
  refine ⟨fun pins s σ H Q I h => ?_⟩
  refine attr_of hb (thn (he.run pins s σ H _ I h) fun u s1 ⟨x, H1, I1, rx, a, C, d, fs, v, ex, T, no, ea, ed, l, q⟩ => ?_)
  subst ex
  obtain rfl : u = Value.ref a := rx
  obtain ⟨t1, ho⟩ := exo_at I1.hok ea
  obtain ⟨mA, hns, hr⟩ := exd_at I1.hok ed
  obtain ⟨od, hod, hl⟩ := lookIn_ns hns
  obtain ⟨u, hu, ru⟩ := RelO.some_of (v := v) (o := mA n) (by rw [← l]; exact hr n)
  have J : PySem.W.InstAt s1.heap a { cls := .ref C, dict := some d, data := .fields #[.ref t1, .none, .none, .none, .bool false, .none] } C (some od) := ⟨ho, rfl, rfl, hod⟩
  exact HandSPX.exc_get I1.kIn J T.hg T.hk T.hs (PySem.W.findObj_own T.hd no rfl (by rw [hl, hu])) (handed_of ru) ⟨v, H1, I1.tok _, ru, q⟩
/-- isinstance(x, c), x an error that was not raised -/
def rIsV (K : PySem.W.Frag) : List V → Hp → VK → Prop := fun xs H Q => ∃ (a C : Addr) (dd : Option Addr) (c : V) (cv : Value) (b : Bool), xs = [.ref a, c] ∧ AskC K C ∧ H a = some (exo a C dd) ∧ (∀ d, dd = some d → ∃ fs, H d = some (exd d fs)) ∧
  ClsV c cv ∧ PySem.W.kitOne K (.ref C) cv = some b ∧ Q (.bl b) H
theorem err_inst {pins : List (Addr × Obj)} {σ : L2.St} {H : Hp} {s : Shared} {a C : Addr} {dd : Option Addr} (I : Inv X pins σ H s) (ea : H a = some (exo a C dd)) (ed : ∀ d, dd = some d → ∃ fs, H d = some (exd d fs)) :
    ∃ (oe : Obj) (od : Option Obj), PySem.W.InstAt s.heap a oe C od := by
  obtain ⟨t1, ho⟩ := exo_at I.hok ea
  cases dd with
  | none => exact ⟨_, none, ho, rfl, rfl, trivial⟩
  | some d =>
    obtain ⟨fs, hd⟩ := ed d rfl
    obtain ⟨mA, hns, _⟩ := exd_at I.hok hd
    obtain ⟨od, hod, _⟩ := lookIn_ns hns
    exact ⟨_, some od, ho, rfl, rfl, hod⟩
theorem call_isV : CallR X (.builtin "isinstance") (rIsV X.K) := by
  intro pins s σ H xs us Q I r h
  obtain ⟨a, C, dd, c, cv, b, rfl, T, ea, ed, kc, e, q⟩ := h
  obtain ⟨u1, u2, rfl, r1, r2⟩ := vals2 r
  have e2 := kc.eq r2
  subst e2
  cases (show u1 = Value.ref a from r1)
  obtain ⟨oe, od, J⟩ := err_inst I ea ed
  have hc : (PySem.W.clsIn X.K C).isSome = true := by
    obtain ⟨cd, hcd, _⟩ := PySem.W.any_some T.hd
    rw [hcd]
    rfl
  exact PySem.W.kia_one (PySem.W.kitx_exc hc T.hg T.hk T.hs T.ha T.hn T.ht T.hm) I.kIn J e (fun z => nomatch z) fun tk => ⟨.bl b, H, I.tok tk, rfl, q⟩
/-- isinstance(x, (c1, c2, ..)) -/
def rIsVT (K : PySem.W.Frag) : List V → Hp → VK → Prop := fun xs H Q => ∃ (a C : Addr) (dd : Option Addr) (tp : Addr) (cs : List V) (us : List Value) (b : Bool), xs = [.ref a, .ref tp] ∧ AskC K C ∧ H a = some (exo a C dd) ∧ (∀ d, dd = some d → ∃ fs, H d = some (exd d fs)) ∧
  H tp = some (.tup cs) ∧ Paired ClsV cs us ∧ PySem.W.kitAny K (.ref C) us = some b ∧ Q (.bl b) H
theorem call_isVT : CallR X (.builtin "isinstance") (rIsVT X.K) := by
  intro pins s σ H xs us Q I r h
  obtain ⟨a, C, dd, tp, cs, ws, b, rfl, T, ea, ed, hT, kc, e, q⟩ := h
  obtain ⟨u1, u2, rfl, r1, r2⟩ := vals2 r
  cases (show u1 = Value.ref a from r1)
  cases (show u2 = Value.ref tp from r2)
  obtain ⟨oe, od, J⟩ := err_inst I ea ed
  have hc : (PySem.W.clsIn X.K C).isSome = true := by
    obtain ⟨cd, hcd, _⟩ := PySem.W.any_some T.hd
    rw [hcd]
    rfl
  obtain ⟨_, its, rv, o, h1, h2, n, h3⟩ := (show ObjOk X.prog X.w H s.heap tp (.tup cs) from I.hok tp _ hT)
  have e3 := ClsV.all kc rv
  subst e3
  obtain ⟨oc, od', dt, sl⟩ := o
  simp only at h2 h3
  subst h2 h3
  exact PySem.W.kia_tup (PySem.W.kitx_exc hc T.hg T.hk T.hs T.ha T.hn T.ht T.hm) I.kIn J h1 e (fun z => nomatch z) fun tk => ⟨.bl b, H, I.tok tk, rfl, q⟩
/-- an error's class without own __init__, called without arguments -/
def tErr0 (C : Addr) : TE := fun σ H Q => ∀ a, H a = none → Q (.ref a) (upd H a (exo a C none))
theorem pe_err0 {x : Str} {C : Addr} {p pos : Pos} (q : PySem.W.excIn X.K C exB "Exception.__new__") (gC : X.mg x = some (.ref C)) (kC : PySem.W.keepIn X.K (.ref C) = true) (hg : Gl X x) (hdb : (x == ("__debug__" : Str)) = false := by decide) :
    PE X (.Call (.Name x p) [] [] pos) (tErr0 C) := by
  refine ⟨fun pins s σ H Q I h => ?_⟩
  refine wpAny_Call_Name_kw (ld_glob I hg gC ?_ hdb)
  refine PySem.W.callWith_KW0 (h₀ := X.base) (kws := []) I.ok.mod.kin kC (by rfl) (thn (pk_nil.run pos pins s σ H (fun vs H1 => vs = [] ∧ H1 = H) I ⟨rfl, rfl⟩) fun us s1 ⟨vs, H1, I1, r1, ev, eH⟩ => ⟨I1.kIn, ?_⟩) (by rfl)
  subst ev eH
  cases r1
  show wpAny _ _ (call (.ref C) []) _ _ _
  obtain ⟨bm, N, nm, qn, bs, hdct, sn, sub, ab, col, dd, k0, k1, k2, k3, k5, mN, hC, hN, hni, T⟩ := exc_obj I1.kIn q
  refine wpAny_call_exc_subT PySem.F.excBase_Exception T hC hN hni (fun h' a hm => ?_) (Nat.zero_le _)
  have hn : H1 a = none := I1.hok.gone hm.new
  obtain ⟨t, ht, _, _⟩ := hm.there
  exact ⟨.ref a, upd H1 a (exo a C none), I1.laidN hm.keeps hm.new hn (exo_ok ht), rfl, h a hn⟩
end
end EX

-- M5
set_option Elab.async false
set_option linter.all false
set_option maxRecDepth 100000
set_option maxHeartbeats 4000000
/-! Data of any kind among the values, and what repr says of it. -/
namespace EX
open PySem PySem.Spec PyProof.Rows L2
mutual
/-- the heap bears d at v; no dict of it is sys.modules -/
inductive RD (h : Heap) : Value → PyData → Prop
  | none : RD h .none .none
  | bool (b : Bool) : RD h (.bool b) (.bool b)
  | int (i : Int) (t : Tok) : RD h (.int i t) (.int i)
  | str (x : Str) (t : Tok) : RD h (.str x t) (.str x)
  | list {a : Addr} {o : Obj} {vs : Array Value} {n : Nat} {ds : List PyData} (e : h.get? a = some o) (c : o.cls = .type "list") (q : o.data = .seq vs n) (r : RDs h vs.toList ds) : RD h (.ref a) (.list ds)
  | tuple {a : Addr} {o : Obj} {vs : Array Value} {n : Nat} {ds : List PyData} (e : h.get? a = some o) (c : o.cls = .type "tuple") (q : o.data = .seq vs n) (r : RDs h vs.toList ds) : RD h (.ref a) (.tuple ds)
  | dict {a : Addr} {o : Obj} {es : Array DictEntry} {n : Nat} {kds : List (PyData × PyData)} (e : h.get? a = some o) (c : o.cls = .type "dict") (q : o.data = .dict es n) (z : (a == sysModules) = false)
      (r1 : RDs h (es.toList.map (·.key)) (kds.map (·.1))) (r2 : RDs h (es.toList.map (·.val)) (kds.map (·.2))) : RD h (.ref a) (.dict kds)
inductive RDs (h : Heap) : List Value → List PyData → Prop
  | nil : RDs h [] []
  | cons {v : Value} {vs : List Value} {d : PyData} {ds : List PyData} (r : RD h v d) (rs : RDs h vs ds) : RDs h (v :: vs) (d :: ds)
end
mutual
theorem RD.reads {h : Heap} : ∀ {v : Value} {d : PyData}, RD h v d → ∃ as, Reads h v d as
  | _, _, .none => ⟨_, .none⟩
  | _, _, .bool b => ⟨_, .bool b⟩
  | _, _, .int i t => ⟨_, .int i t⟩
  | _, _, .str x t => ⟨_, .str x t⟩
  | _, _, .list e c q r => let ⟨_, k⟩ := RDs.reads r; ⟨_, .list e c q k⟩
  | _, _, .tuple e c q r => let ⟨_, k⟩ := RDs.reads r; ⟨_, .tuple e c q k⟩
  | _, _, .dict e c q _ r1 r2 => let ⟨_, k1⟩ := RDs.reads r1; let ⟨_, k2⟩ := RDs.reads r2; ⟨_, .dict e c q k1 k2⟩
theorem RDs.reads {h : Heap} : ∀ {vs : List Value} {ds : List PyData}, RDs h vs ds → ∃ as, ReadsAll h vs ds as
  | _, _, .nil => ⟨_, .nil⟩
  | _, _, .cons r rs => let ⟨_, k1⟩ := RD.reads r; let ⟨_, k2⟩ := RDs.reads rs; ⟨_, .cons k1 k2⟩
end
section
variable {prog : Program} {w : World} {h : Heap}
mutual
/-- each part shows as its own text -/
theorem RD.shows : ∀ {v : Value} {d : PyData}, RD h v d → d.showable = true → d.shown.length ≤ sizeLine → ∃ bs, ReadAtMost h d.depth bs ∧ ReprK prog w bs h d.depth v d.shown
  | _, _, .none, _, _ => by
    refine ⟨[], fun _ z => (nomatch z), ?_⟩
    simp only [PyData.shown]
    exact ReprK.of_is ReprIs.none _ _ _
  | _, _, .bool b, _, _ => by
    refine ⟨[], fun _ z => (nomatch z), ?_⟩
    simp only [PyData.shown]
    exact ReprK.of_is (ReprIs.bool b) _ _ _
  | _, _, .int i t, hs, _ => by
    refine ⟨[], fun _ z => (nomatch z), ?_⟩
    simp only [PyData.shown]
    have hs' : i.natAbs.log2 < 1920 := by simpa [PyData.showable] using hs
    exact ReprK.of_is (ReprIs.int t hs') _ _ _
  | _, _, .str x t, _, hz => by
    refine ⟨[], fun _ z => (nomatch z), ?_⟩
    simp only [PyData.shown] at hz ⊢
    exact ReprK.of_is (ReprIs.str x t hz) _ _ _
  | _, _, .list (a := a) (vs := vs) (ds := ds) e c q r, hs, hz => by
    simp only [PyData.shown] at hz
    obtain ⟨as, ra⟩ := RDs.reads r
    have rd : Reads h (.ref a) (.list ds) _ := Reads.list e c q ra
    obtain ⟨bs, hb, k⟩ := RDs.shows r (by simpa [PyData.showable] using hs) fun t m => Nat.le_trans (listText_mem_le m) hz
    have dl : PyData.depthAll ds < (PyData.list ds).depth := by
      simp only [PyData.depth]
      omega
    have na : a ∉ bs := not_mem_of_deeper rd dl hb
    refine ⟨a :: bs, ReadAtMost.cons rd (by simp only [PyData.depth]; omega) hb, ?_⟩
    simp only [PyData.depth, PyData.shown]
    obtain ⟨l⟩ := vs
    cases l with
    | nil =>
      cases (show RDs h [] ds from r)
      simp only [PyData.shownAll, listText_nil]
      exact ReprK.listEmpty e c q
    | cons x l =>
      have kl := k.length_eq
      exact ReprK.list e c q na (by simpa using kl) fun i y ey => k.item i y (by simpa using ey)
  | _, _, .tuple (a := a) (ds := ds) e c q r, hs, hz => by
    simp only [PyData.shown] at hz
    obtain ⟨as, ra⟩ := RDs.reads r
    have rd : Reads h (.ref a) (.tuple ds) _ := Reads.tuple e c q ra
    obtain ⟨bs, hb, k⟩ := RDs.shows r (by simpa [PyData.showable] using hs) fun t m => Nat.le_trans (tupleText_mem_le m) hz
    have dl : PyData.depthAll ds < (PyData.tuple ds).depth := by
      simp only [PyData.depth]
      omega
    have na : a ∉ bs := not_mem_of_deeper rd dl hb
    refine ⟨a :: bs, ReadAtMost.cons rd (by simp only [PyData.depth]; omega) hb, ?_⟩
    simp only [PyData.depth, PyData.shown]
    exact ReprK.tuple e c q na k
  | _, _, .dict (a := a) (es := es) (kds := kds) e c q z r1 r2, hs, hz => by
    simp only [PyData.shown] at hz
    obtain ⟨as1, ra1⟩ := RDs.reads r1
    obtain ⟨as2, ra2⟩ := RDs.reads r2
    have rd : Reads h (.ref a) (.dict kds) _ := Reads.dict e c q ra1 ra2
    obtain ⟨s1, s2⟩ := PyData.showableKv_split kds (by simpa [PyData.showable] using hs)
    have z1 : ∀ t ∈ PyData.shownAll (kds.map (·.1)), t.length ≤ sizeLine := fun t m => by
      obtain ⟨p, hp, hl⟩ := PyData.shownKv_key_le kds t m
      exact Nat.le_trans hl (Nat.le_trans (dictText_mem_le hp) hz)
    have z2 : ∀ t ∈ PyData.shownAll (kds.map (·.2)), t.length ≤ sizeLine := fun t m => by
      obtain ⟨p, hp, hl⟩ := PyData.shownKv_val_le kds t m
      exact Nat.le_trans hl (Nat.le_trans (dictText_mem_le hp) hz)
    obtain ⟨b1, hb1, k1⟩ := RDs.shows r1 s1 z1
    obtain ⟨b2, hb2, k2⟩ := RDs.shows r2 s2 z2
    have d1 := PyData.depthAll_keys_le kds
    have d2 := PyData.depthAll_vals_le kds
    have hb : ReadAtMost h (PyData.depthKv kds) (b1 ++ b2) := (hb1.mono d1).append (hb2.mono d2)
    have dl : PyData.depthKv kds < (PyData.dict kds).depth := by
      simp only [PyData.depth]
      omega
    have na : a ∉ b1 ++ b2 := not_mem_of_deeper rd dl hb
    refine ⟨a :: (b1 ++ b2), ReadAtMost.cons rd (by simp only [PyData.depth]; omega) hb, ?_⟩
    simp only [PyData.depth, PyData.shown, PyData.shownKv_eq]
    have m1 := k1.more_le (fun b hb => List.mem_append_left b2 hb) d1
    have m2 := k2.more_le (fun b hb => List.mem_append_right b1 hb) d2
    exact ReprK.dict e c q z na (ReprEntriesK.of_two es.toList _ _ m1 m2)
theorem RDs.shows : ∀ {vs : List Value} {ds : List PyData}, RDs h vs ds → PyData.showableAll ds = true → (∀ t ∈ PyData.shownAll ds, t.length ≤ sizeLine) →
    ∃ bs, ReadAtMost h (PyData.depthAll ds) bs ∧ ReprAllK prog w bs h (PyData.depthAll ds) vs (PyData.shownAll ds)
  | _, _, .nil, _, _ => by
    refine ⟨[], fun _ z => (nomatch z), ?_⟩
    simp only [PyData.shownAll]
    exact .nil
  | _, _, .cons (d := d) (ds := ds) r rs, hs, hz => by
    simp only [PyData.showableAll, Bool.and_eq_true] at hs
    simp only [PyData.shownAll] at hz
    obtain ⟨b1, hb1, k1⟩ := RD.shows r hs.1 (hz _ List.mem_cons_self)
    obtain ⟨b2, hb2, k2⟩ := RDs.shows rs hs.2 fun t m => hz t (List.mem_cons_of_mem _ m)
    have l1 : d.depth ≤ PyData.depthAll (d :: ds) := by
      simp only [PyData.depthAll]
      exact Nat.le_max_left _ _
    have l2 : PyData.depthAll ds ≤ PyData.depthAll (d :: ds) := by
      simp only [PyData.depthAll]
      exact Nat.le_max_right _ _
    refine ⟨b1 ++ b2, (hb1.mono l1).append (hb2.mono l2), ?_⟩
    have q1 := (k1.more fun b hb => List.mem_append_left b2 hb).level_le l1
    have q2 := k2.more_le (fun b hb => List.mem_append_right b1 hb) l2
    simp only [PyData.shownAll]
    exact .cons q1 q2
end
end
end EX

-- M6
set_option Elab.async false
set_option linter.all false
set_option maxRecDepth 100000
set_option maxHeartbeats 4000000
namespace EX
open PySem PySem.Spec PyProof.Rows L2
section
variable {prog : Program} {w : World} {A : Around} {E : Value → Shared → Prop} {s : Shared} {Q : Value → Shared → Prop}
/-- repr of data that the heap bears -/
theorem repr_data {v : Value} {d : PyData} (r : RD s.heap v d) (hs : d.showable = true) (hz : d.shown.length ≤ sizeLine) (hg : A.guards = some []) (hu : A.units + (d.depth + 2) < cLine)
    (go : ∀ h' u tk, (∀ b o, s.heap.get? b = some o → h'.get? b = some o) → Q (.str d.shown u) { s with heap := h', toks := tk }) : wpAny (model prog w) A (call (.builtin "repr") [v]) Q E s := by
  have hg1 : A.in1.guards = some [] := hg
  cases r with
  | none =>
    have q := go s.heap s.toks (s.toks + 1) fun _ _ e => e
    simp only [PyData.shown] at q
    exact P.repr_of_none q
  | bool b =>
    have q := go s.heap s.toks (s.toks + 1) fun _ _ e => e
    simp only [PyData.shown] at q
    exact P.repr_of_bool q
  | int i t =>
    have q := go s.heap s.toks (s.toks + 1) fun _ _ e => e
    simp only [PyData.shown] at q
    exact P.repr_of_int (by simpa [PyData.showable] using hs) q
  | str x t =>
    have q := go s.heap s.toks (s.toks + 1) fun _ _ e => e
    simp only [PyData.shown] at q hz
    exact P.repr_of_str q hz
  | @list a o vs n ds e c q rr =>
    simp only [PyData.shown] at hz
    simp only [PyData.depth] at hu
    have hu1 : A.in1.units + (PyData.depthAll ds + 1) < cLine := by
      show A.units + 1 + (PyData.depthAll ds + 1) < cLine
      omega
    obtain ⟨as, ra⟩ := RDs.reads rr
    obtain ⟨bs, hb, k⟩ := RDs.shows (prog := prog) (w := w) rr (by simpa [PyData.showable] using hs) fun t m => Nat.le_trans (listText_mem_le m) hz
    have na : a ∉ bs := not_mem_of_deeper (Reads.list e c q ra) (by simp only [PyData.depth]; omega) hb
    have fin : ∀ h' u tk, (∀ b o, s.heap.get? b = some o → h'.get? b = some o) → ∃ x t, Value.str (listText (PyData.shownAll ds)) u = .str x t ∧ Q (.str (listText (PyData.shownAll ds)) u) { s with heap := h', toks := tk } := fun h' u tk kk => by
      have qq := go h' u tk kk
      simp only [PyData.shown] at qq
      exact ⟨_, _, rfl, qq⟩
    refine call_repr_slot (by omega) (T := "list") ⟨o, e, c⟩ F.slot_list_repr.toG ?_
    obtain ⟨l⟩ := vs
    cases l with
    | nil =>
      cases (show RDs s.heap [] ds from rr)
      simp only [PyData.shownAll, listText_nil] at fin
      exact call_list_repr_empty ⟨o, e, c⟩ e q (fin s.heap _ _ fun _ _ x => x)
    | cons x l =>
      have kl := k.length_eq
      exact call_list_reprK e c q na (by simpa using kl) (fun i y ey => k.item i y (by simpa using ey)) hg1 (fun b _ => Clear.nil b) hu1 (fun _ _ x => x) fin hz
  | @tuple a o vs n ds e c q rr =>
    simp only [PyData.shown] at hz
    simp only [PyData.depth] at hu
    have hu1 : A.in1.units + (PyData.depthAll ds + 1) < cLine := by
      show A.units + 1 + (PyData.depthAll ds + 1) < cLine
      omega
    obtain ⟨as, ra⟩ := RDs.reads rr
    obtain ⟨bs, hb, k⟩ := RDs.shows (prog := prog) (w := w) rr (by simpa [PyData.showable] using hs) fun t m => Nat.le_trans (tupleText_mem_le m) hz
    have na : a ∉ bs := not_mem_of_deeper (Reads.tuple e c q ra) (by simp only [PyData.depth]; omega) hb
    have fin : ∀ h' u tk, (∀ b o, s.heap.get? b = some o → h'.get? b = some o) → ∃ x t, Value.str (tupleText (PyData.shownAll ds)) u = .str x t ∧ Q (.str (tupleText (PyData.shownAll ds)) u) { s with heap := h', toks := tk } := fun h' u tk kk => by
      have qq := go h' u tk kk
      simp only [PyData.shown] at qq
      exact ⟨_, _, rfl, qq⟩
    refine call_repr_slot (by omega) (T := "tuple") ⟨o, e, c⟩ F.slot_tuple_repr ?_
    exact call_tuple_reprK e c q na k hg1 (fun b _ => Clear.nil b) hu1 (fun _ _ x => x) fin hz
  | @dict a o es n kds e c q z r1 r2 =>
    simp only [PyData.shown] at hz
    simp only [PyData.depth] at hu
    have hu1 : A.in1.units + (PyData.depthKv kds + 1) < cLine := by
      show A.units + 1 + (PyData.depthKv kds + 1) < cLine
      omega
    obtain ⟨as1, ra1⟩ := RDs.reads r1
    obtain ⟨as2, ra2⟩ := RDs.reads r2
    obtain ⟨s1, s2⟩ := PyData.showableKv_split kds (by simpa [PyData.showable] using hs)
    have z1 : ∀ t ∈ PyData.shownAll (kds.map (·.1)), t.length ≤ sizeLine := fun t m => by
      obtain ⟨p, hp, hl⟩ := PyData.shownKv_key_le kds t m
      exact Nat.le_trans hl (Nat.le_trans (dictText_mem_le hp) hz)
    have z2 : ∀ t ∈ PyData.shownAll (kds.map (·.2)), t.length ≤ sizeLine := fun t m => by
      obtain ⟨p, hp, hl⟩ := PyData.shownKv_val_le kds t m
      exact Nat.le_trans hl (Nat.le_trans (dictText_mem_le hp) hz)
    obtain ⟨b1, hb1, k1⟩ := RDs.shows (prog := prog) (w := w) r1 s1 z1
    obtain ⟨b2, hb2, k2⟩ := RDs.shows (prog := prog) (w := w) r2 s2 z2
    have d1 := PyData.depthAll_keys_le kds
    have d2 := PyData.depthAll_vals_le kds
    have na : a ∉ b1 ++ b2 := not_mem_of_deeper (Reads.dict e c q ra1 ra2) (by simp only [PyData.depth]; omega) ((hb1.mono d1).append (hb2.mono d2))
    have m1 := k1.more_le (fun b hb => List.mem_append_left b2 hb) d1
    have m2 := k2.more_le (fun b hb => List.mem_append_right b1 hb) d2
    have fin : ∀ h' u tk, (∀ b o, s.heap.get? b = some o → h'.get? b = some o) → ∃ x t, Value.str (dictText (PyData.shownKv kds)) u = .str x t ∧ Q (.str (dictText (PyData.shownKv kds)) u) { s with heap := h', toks := tk } := fun h' u tk kk => by
      have qq := go h' u tk kk
      simp only [PyData.shown] at qq
      exact ⟨_, _, rfl, qq⟩
    rw [PyData.shownKv_eq] at fin hz
    refine call_repr_slot (by omega) (T := "dict") ⟨o, e, c⟩ F.slot_dict_repr ?_
    exact call_dict_reprK e c q z na (ReprEntriesK.of_two es.toList _ _ m1 m2) hg1 (fun b _ => Clear.nil b) hu1 (fun _ _ x => x) fin hz
end

/-! ### data in the abstract heap: its objects all lie where N allows -/
def keyD : Key → PyData
  | .inl i => .int i
  | .inr z => .str z
mutual
inductive DV (N : Addr → Prop) (H : Hp) : V → PyData → Prop
  | non : DV N H .non .none
  | bl (b : Bool) : DV N H (.bl b) (.bool b)
  | int (i : Int) : DV N H (.int i) (.int i)
  | str (x : Str) : DV N H (.str x) (.str x)
  | lst {a : Addr} {xs : List V} {ds : List PyData} (e : H a = some (.lst xs)) (n : N a) (r : DVs N H xs ds) : DV N H (.ref a) (.list ds)
  | tup {a : Addr} {xs : List V} {ds : List PyData} (e : H a = some (.tup xs)) (n : N a) (r : DVs N H xs ds) : DV N H (.ref a) (.tuple ds)
  | dic {a : Addr} {kvs : List (Key × V)} {kds : List (PyData × PyData)} (e : H a = some (.dK kvs)) (n : N a) (r : DVk N H kvs kds) : DV N H (.ref a) (.dict kds)
inductive DVs (N : Addr → Prop) (H : Hp) : List V → List PyData → Prop
  | nil : DVs N H [] []
  | cons {x : V} {xs : List V} {d : PyData} {ds : List PyData} (r : DV N H x d) (rs : DVs N H xs ds) : DVs N H (x :: xs) (d :: ds)
inductive DVk (N : Addr → Prop) (H : Hp) : List (Key × V) → List (PyData × PyData) → Prop
  | nil : DVk N H [] []
  | cons {k : Key} {x : V} {kvs : List (Key × V)} {d : PyData} {kds : List (PyData × PyData)} (r : DV N H x d) (rs : DVk N H kvs kds) :
      DVk N H ((k, x) :: kvs) ((keyD k, d) :: kds)
end
mutual
theorem DV.keep {N N' : Addr → Prop} {H H' : Hp} (k : ∀ a o, N a → H a = some o → H' a = some o ∧ N' a) : ∀ {x : V} {d : PyData}, DV N H x d → DV N' H' x d
  | _, _, .non => .non
  | _, _, .bl b => .bl b
  | _, _, .int i => .int i
  | _, _, .str x => .str x
  | _, _, .lst e n r => .lst (k _ _ n e).1 (k _ _ n e).2 (DVs.keep k r)
  | _, _, .tup e n r => .tup (k _ _ n e).1 (k _ _ n e).2 (DVs.keep k r)
  | _, _, .dic e n r => .dic (k _ _ n e).1 (k _ _ n e).2 (DVk.keep k r)
theorem DVs.keep {N N' : Addr → Prop} {H H' : Hp} (k : ∀ a o, N a → H a = some o → H' a = some o ∧ N' a) : ∀ {xs : List V} {ds : List PyData}, DVs N H xs ds → DVs N' H' xs ds
  | _, _, .nil => .nil
  | _, _, .cons r rs => .cons (DV.keep k r) (DVs.keep k rs)
theorem DVk.keep {N N' : Addr → Prop} {H H' : Hp} (k : ∀ a o, N a → H a = some o → H' a = some o ∧ N' a) : ∀ {kvs : List (Key × V)} {kds : List (PyData × PyData)}, DVk N H kvs kds → DVk N' H' kvs kds
  | _, _, .nil => .nil
  | _, _, .cons r rs => .cons (DV.keep k r) (DVk.keep k rs)
end
section
variable {P : Program} {w : World} {H : Hp} {h : Heap} {N : Addr → Prop}
mutual
theorem DV.rd (hok : HOk P w H h) : ∀ {x : V} {d : PyData}, DV N H x d → ∀ {u : Value}, RelV x u → RD h u d
  | _, _, .non, u, r => by
    obtain rfl : u = Value.none := r
    exact .none
  | _, _, .bl b, u, r => by
    obtain rfl : u = Value.bool b := r
    exact .bool b
  | _, _, .int i, u, r => by
    obtain ⟨t, rfl⟩ : ∃ t, u = Value.int i t := r
    exact .int i t
  | _, _, .str x, u, r => by
    obtain ⟨t, rfl⟩ : ∃ t, u = Value.str x t := r
    exact .str x t
  | _, _, .lst (a := a) (xs := xs) e _ rr, u, r => by
    obtain rfl : u = Value.ref a := r
    obtain ⟨_, its, n, rv, ho⟩ := (show ObjOk P w H h a (.lst xs) from hok a _ e)
    exact .list ho rfl rfl (DVs.rd hok rr rv)
  | _, _, .tup (a := a) (xs := xs) e _ rr, u, r => by
    obtain rfl : u = Value.ref a := r
    obtain ⟨_, its, rv, o, ho, hc, n, hd⟩ := (show ObjOk P w H h a (.tup xs) from hok a _ e)
    exact .tuple ho hc hd (DVs.rd hok rr rv)
  | _, _, .dic (a := a) (kvs := kvs) (kds := kds) e _ rr, u, r => by
    obtain rfl : u = Value.ref a := r
    obtain ⟨_, z, vs, rel, o, es, ep, ho, hx, hd, _, hp, _⟩ := (show ObjOk P w H h a (.dK kvs) from hok a _ e)
    obtain ⟨r1, r2⟩ := DVk.rd hok rr rel hp
    exact .dict ho hx.1 hd z r1 r2
theorem DVs.rd (hok : HOk P w H h) : ∀ {xs : List V} {ds : List PyData}, DVs N H xs ds → ∀ {us : List Value}, Vals xs us → RDs h us ds
  | _, _, .nil, us, r => by
    cases r
    exact .nil
  | _, _, .cons r rs, us, q => by
    cases q with
    | cons q1 q2 => exact .cons (DV.rd hok r q1) (DVs.rd hok rs q2)
theorem DVk.rd (hok : HOk P w H h) : ∀ {kvs : List (Key × V)} {kds : List (PyData × PyData)}, DVk N H kvs kds → ∀ {vs : List (Key × Value)} {es : List DictEntry}, KV kvs vs → Pairs (mixKind P w) es vs →
    RDs h (es.map (·.key)) (kds.map (·.1)) ∧ RDs h (es.map (·.val)) (kds.map (·.2))
  | _, _, .nil, vs, es, q, p => by
    cases q
    cases p
    exact ⟨.nil, .nil⟩
  | _, _, .cons (k := k) r rs, vs, es, q, p => by
    cases q with
    | @cons _ kv _ vs' q1 q2 =>
      cases p with
      | @cons en _ es' _ i1 i2 p2 =>
        obtain ⟨a1, a2⟩ := DVk.rd hok rs q2 p2
        obtain ⟨k', v'⟩ := kv
        obtain ⟨rfl, rv⟩ := q1
        refine ⟨.cons ?_ a1, .cons ?_ a2⟩
        · have i1' : keyIs k en.key = true := i1
          cases k with
          | inl i =>
            obtain ⟨t, et⟩ := Value.isInt_shape (k := i) (v := en.key) i1'
            show RD h en.key (.int i)
            rw [et]
            exact .int i t
          | inr z =>
            obtain ⟨t, et⟩ := Value.isStrOf_shape (x := z) (v := en.key) i1'
            show RD h en.key (.str z)
            rw [et]
            exact .str z t
        · show RD h en.val _
          rw [i2]
          exact DV.rd hok r rv
end
end
/-- repr(x), x data -/
def rRepr (A : Around) : List V → Hp → VK → Prop := fun xs H Q => ∃ (N : Addr → Prop) (x : V) (d : PyData), xs = [x] ∧ DV N H x d ∧ d.showable = true ∧ d.shown.length ≤ sizeLine ∧ A.guards = some [] ∧ A.units + (d.depth + 2) < cLine ∧ Q (.str d.shown) H
theorem call_repr {X : Cx} : CallR X (.builtin "repr") (rRepr X.A) := by
  intro pins s σ H xs us Q I r h
  obtain ⟨N, x, d, rfl, dv, hs, hz, hg, hu, q⟩ := h
  obtain ⟨u, rfl, ru⟩ := vals1 r
  exact repr_data (dv.rd I.hok ru) hs hz hg hu fun h' u' tk k => ⟨.str d.shown, H, I.kept (t' := tk) k, ⟨u', rfl⟩, q⟩
end EX

-- G1
set_option Elab.async false
set_option linter.all false
set_option maxRecDepth 100000
set_option maxHeartbeats 4000000
/-! A generator expression whose elements are any expressions, asked by all. -/
namespace GE
open PySem PySem.Spec PyProof.Rows L2 GxR
/-- the context of a generator expression's frame -/
abbrev gcx (X : Cx) (A' : Around) (s : Shared) (H : Hp) (ce : Env) (fp : List Addr) : Cx :=
  { X with A := A', s_0 := s, H_0 := H, env := ce, outer := X.stack, stack := ce :: X.stack, ex := fp, calm := true, fn := fun _ => false, pn := [], xe := fun _ _ => False }
abbrev gEnv (X : Cx) (scope : Scope) (C : Addr) (code : Value) : Env := genEnv scope (cloFrom X.env.cells scope.names []) C code builtinsNs X.env
section
variable {X : Cx} {pins : List (Addr × Obj)} {σ : L2.St} {H : Hp} {s s' : Shared}
theorem gen_start {A' : Around} {scope : Scope} {own : List (Str × Nat)} {fp : List Addr} {code : Value} {mN : Str → Option Value} (I : Inv X pins σ H s) (ok : BlkOk X.N X.env.scope scope own) (hN : X.N.Nodup) (hcell : ∀ y ∈ scope.names, y.2 ≠ .cell)
    (hfp : ∀ b ∈ fp, FpOk X pins H b ∧ b < s.heap.objs.size) (hA : A'.handled = none) (hF : A'.frames = some (gEnv X scope s.heap.objs.size code :: X.stack))
    (kp : ∀ b o, s.heap.get? b = some o → s'.heap.get? b = some o) (os : s'.os = s.os) (hb : AllBare s'.gens) (hn : s'.heap.Ns s.heap.objs.size mN) :
    Inv (gcx X A' s H (gEnv X scope s.heap.objs.size code) fp) [] (wipe σ (own.map (·.2))) H s' := by
  have hfree : ∀ y ∈ scope.names, y.2 = .free → ∃ c, X.env.cells.lookup y.1 = some c := fun y hy e => by
    rcases ok.free y hy e with k | k
    · exact I.ok.has _ (.inl k)
    · exact I.ok.has _ (.inr k)
  have cm : ∀ {y c}, (y, c) ∈ cloFrom X.env.cells scope.names [] → X.env.cells.lookup y = some c ∧ c < s.heap.objs.size := fun {y c} hm => by
    rcases cloFrom_mem hm with hm | ⟨h1, rfl⟩
    · cases hm
    · obtain ⟨c, hc⟩ := hfree _ h1 rfl
      rw [hc]
      obtain ⟨w, z⟩ := I.cell _ _ hc
      exact ⟨rfl, z.lt⟩
  have mem : ∀ {y c}, (cloFrom X.env.cells scope.names []).lookup y = some c → X.env.cells.lookup y = some c ∧ c < s.heap.objs.size := fun {y c} e => cm (PySem.mem_of_lookup e)
  have look : ∀ {y}, scope.names.lookup y = some .free → ∃ c, (cloFrom X.env.cells scope.names []).lookup y = some c ∧ X.env.cells.lookup y = some c := fun {y} hl => by
    obtain ⟨c', e'⟩ := mem_lookup (cloFrom_has (cells := X.env.cells) (acc := []) (PySem.mem_of_lookup hl))
    exact ⟨c', e', (mem e').1⟩
  have okB : (gcx X A' s H (gEnv X scope s.heap.objs.size code) fp).Ok := by
    refine ⟨I.ok.mod, ok.kind, I.ok.glob, rfl, Nat.le_refl _, fun y z c e1 e2 => I.ok.inj y z c (mem e1).1 (mem e2).1, fun y hy => ?_, fun y c z e => ?_, fun _ => hA, hF, .inr ⟨rfl, rfl⟩, fun b hb => ⟨?_, fun y c e z => ?_⟩, I.bs, Nat.le_trans I.ok.bsz I.sz, fun b o e hb => ?_, fun b hb z => ?_, I.stack, I.stkFree⟩
    · have hy : scope.names.lookup y = some .cell ∨ scope.names.lookup y = some .free := hy
      rcases hy with hy | hy
      · exact absurd rfl (hcell _ (PySem.mem_of_lookup hy))
      · obtain ⟨c, h1, _⟩ := look hy
        exact ⟨c, h1⟩
    · have z : false = true := z
      cases z
    · show b ≠ s.heap.objs.size
      exact Nat.ne_of_lt (hfp b hb).2
    · have e : (cloFrom X.env.cells scope.names []).lookup y = some c := e
      exact (hfp b hb).1.2.2.2.2.1 y c (mem e).1 z
    · rcases (hfp b hb).1.2.2.2.1 with z | z
      · exact I.ok.noex b o e z
      · exact absurd (Nat.lt_of_lt_of_le (Heap.lt_size e) (Nat.le_trans I.ok.bsz z)) (Nat.lt_irrefl _)
    · rcases List.mem_cons.mp (I.stkSub b z) with z | z
      · exact (hfp b hb).1.2.1 z
      · exact (hfp b hb).1.2.2.1 z
  refine ⟨okB, os, hb, Un.kept kp, ⟨mN, hn, fun i y av e1 e2 e3 => ?_⟩, fun y c e => ?_, I.hok.fresh (Nat.le_refl _), fun y c e => ?_, fun p hp => absurd (show p ∈ ([] : List (Addr × Obj)) ++ [] from hp) (by simp), I.hok.kept kp, by rw [wipe_length]; exact I.len⟩
  · obtain ⟨e2, hne⟩ := wipe_some e2
    have no : ∀ k, scope.names.lookup y = some k → ¬ (k = .local ∨ k = .cell) := fun k e hh => by
      rcases ok.own _ (PySem.mem_of_lookup e) hh with e' | e'
      · obtain ⟨p, hp, hpy⟩ := List.mem_map.mp e'
        have e3 := ok.ix p hp
        have : p.1 = y := hpy
        rw [this] at e3
        exact hne (List.mem_map.mpr ⟨p, hp, nodup_ix hN e3 e1⟩)
      · exact e' (List.mem_of_getElem? e1)
    have hfr : scope.names.lookup y = some .free := by
      have e3 : Vis scope y := e3
      rcases e3 with e3 | e3 | e3
      · exact absurd (.inl rfl) (no _ e3)
      · exact absurd (.inr rfl) (no _ e3)
      · exact e3
    obtain ⟨m, hn, hl⟩ := I.loc
    have hvis : Vis X.env.scope y := (ok.free _ (PySem.mem_of_lookup hfr) rfl).elim (fun k => .inr (.inl k)) (fun k => .inr (.inr k))
    obtain ⟨w, r, q⟩ := hl i y av e1 e2 hvis
    refine ⟨w, r, .inr ⟨.inr hfr, ?_⟩⟩
    obtain ⟨c, h1, h2⟩ := look hfr
    rcases q with ⟨k, _⟩ | ⟨_, c', e', z⟩
    · have k : X.env.scope.names.lookup y = some .local := k
      rcases ok.free _ (PySem.mem_of_lookup hfr) rfl with k' | k' <;> rw [show X.env.scope.names.lookup y = _ from k'] at k <;> cases k
    · rw [h2] at e'; cases e'
      exact ⟨c, h1, z.keeps kp⟩
  · obtain ⟨w, z⟩ := I.cell y c (mem e).1
    exact ⟨w, z.keeps kp⟩
  · exact I.freeC y c (mem e).1
end
end GE

-- G2
set_option Elab.async false
set_option linter.all false
set_option maxRecDepth 100000
set_option maxHeartbeats 4000000
namespace GE
open PySem PySem.Spec PyProof.Rows L2 GxR GenW
abbrev genE (elt tg iter : Expr) (ifs : List Expr) (scope : Scope) (pos : Pos) : Expr := .GeneratorExp elt [⟨tg, iter, ifs, 0⟩] scope pos
abbrev gLoop (e : Expr) (it : Addr) (ce : Env) : Code := .compLoop e 0 (.ref it) .none ce
abbrev gBegin (e : Expr) (it : Addr) (ce : Env) : Code := .compStart e 0 (.ref it) .none ce
/-- the generator's object -/
def IsG (o : Obj) (g : Nat) : Prop := ∃ nm qn, o = { cls := .type "generator", data := .fields #[.int g 0, nm, qn] }
/-- what is known while it sleeps or is done -/
def Here (Xg : Cx) (ga : Addr) (go : Obj) (H : Hp) (s : Shared) : Prop := ∃ (pn : List (Addr × Obj)) (σ : L2.St), Inv Xg pn σ H s ∧ (ga, go) ∈ pn
/-- what the consumer leaves as it is -/
structure Woke (s s' : Shared) : Prop where
  heap : s'.heap = s.heap
  os : s'.os = s.os
  bare : AllBare s'.gens
def YG (Xg : Cx) (ga : Addr) (go : Obj) (QF : Hp → Prop) : Protocol := fun _ _ v s kap =>
  ∃ (b : Bool) (H : Hp), v = .bool b ∧ Here Xg ga go H s ∧ (b = false → QF H) ∧ (b = true → ∀ s', Woke s s' → kap (.send .none) s')
def RG (Xg : Cx) (ga : Addr) (go : Obj) (QT : Hp → Prop) : GenEnd := fun _ _ r s => r = .ok .next ∧ ∃ H, Here Xg ga go H s ∧ QT H
section
variable {Xg : Cx} {elt tg iter : Expr} {ifs : List Expr} {scope : Scope} {pos : Pos} {Ag : Around} {J : It} {fp : List Addr} {it : Addr} {tn : Nat → Heap → Prop} {g : TG} {tt : TT} {te : TE} {σ0 : L2.St} {vs : List Nat} {QT QF : Hp → Prop} {ga : Addr} {go : Obj}
theorem seg_allLoop (hA : Xg.A = Ag.over (gLoop (genE elt tg iter ifs scope pos) it Xg.env) []) (hc : Xg.calm = true) (hx : Xg.xe = fun _ _ => False) (hco : Xg.env.scope.isCoroutine = false)
    (T : Turn Xg.prog Xg.w Xg.K tg J fp it tn) (hfp : ∀ b ∈ fp, b ≠ Xg.env.locals ∧ b ∉ Xg.fs ∧ b ∈ Xg.ex ∧ (∀ x c, Xg.env.cells.lookup x = some c → c ≠ b) ∧ (∀ p ∈ Xg.pn, p.1 ≠ b) ∧ ga ≠ b)
    (pg : PG Xg tg g) (pt : PTs Xg ifs tt) (pe : PE Xg elt te) (W : Nat → Nat → Hp → Prop)
    (turn : ∀ i m H, W i m H → (J.stop i H ∧ QT H) ∨ (J.go i H ∧ ∃ Nx : Hp → Prop, (∀ H', Nx H' → ∃ m', m' < m ∧ W (i + 1) m' H') ∧ ∀ x H', J.yld i H x H' → g x σ0 H' fun σ2 H2 => wipe σ2 vs = σ0 ∧ tt σ2 H2 fun b H3 =>
      if b = true then te σ2 H3 fun y H4 => ∃ k : Bool, y = .bl k ∧ if k = true then Nx H4 else QF H4 else Nx H3)) :
    ∀ (m N i : Nat) (s₀ s : Shared) (H : Hp), m + 1 ≤ N → W i m H → Inv Xg [(ga, go)] σ0 H s → tn i s.heap → (∀ b ∈ fp, H b = none) →
      Seg (model Xg.prog Xg.w) Ag (RG Xg ga go QT) (YG Xg ga go QF) N s₀ (gLoop (genE elt tg iter ifs scope pos) it Xg.env) ((model Xg.prog Xg.w).den (gLoop (genE elt tg iter ifs scope pos) it Xg.env)) [] s := by
  intro m
  induction m using Nat.strongRecOn with
  | ind m ih =>
    intro N i s₀ s H hN w0 I st nfp
    have stat : ∀ {H' : Hp}, (∀ b ∈ fp, H' b = none) → ∀ b ∈ fp, FpOk Xg [(ga, go)] H' b := fun {H'} hn b hb => by
      obtain ⟨f1, f2, f3, f4, f5, f6⟩ := hfp b hb
      refine ⟨hn b hb, f1, f2, .inl f3, f4, fun p hp => ?_⟩
      rcases List.mem_append.mp hp with hp | hp
      · exact f5 p hp
      · rw [List.mem_singleton.mp hp]
        exact f6
    show Seg _ Ag _ _ _ s₀ _ ((compTurn (genE elt tg iter ifs scope pos) 0 (.ref it) .none Xg.env).onRaise (leaving Xg.env)) [] s
    rw [compTurn_gen, Sem.onRaise_eq_wrap]
    refine seg_bind_wrap (wpAny_standAt ?_)
    rcases turn i m H w0 with ⟨stop, qt⟩ | ⟨go', Nx, hNx, step⟩
    · have td := T.done Xg rfl rfl rfl hc i [(ga, go)] s σ0 H (fun _ _ => False) I (stat nfp) st stop
      rw [hA] at td
      refine seg_bind_wrap (thnF td fun r s1 ⟨hr, I1⟩ => ?_)
      subst hr
      exact seg_end (.ok .next) ⟨rfl, H, ⟨_, _, I1, List.mem_singleton.mpr rfl⟩, qt⟩
    · have ti := T.item Xg rfl rfl rfl hc i [(ga, go)] s σ0 H (fun _ _ => False) I (stat nfp) st go'
      rw [hA] at ti
      refine seg_bind_wrap (thnF ti fun r s1 ⟨u, hr, h1⟩ => ?_)
      subst hr
      refine seg_bind_wrap (thnF h1 fun _ s2 ⟨x, H2, I2, r2, y2, st2, n2⟩ => ?_)
      have I2' := I2.pinned (stat n2) (T.obj _ _ st2)
      have rg := pg.run _ s2 σ0 H2 x u _ I2' r2 (step x H2 y2)
      rw [hA, hx] at rg
      refine seg_bind_wrap (thnF rg fun _ s3 ⟨σ3, H3, I3, hw3, q3⟩ => ?_)
      have rt := pt.run _ s3 σ3 H3 _ I3 q3
      rw [hA, hx] at rt
      refine seg_bind_wrap (thnF rt fun b s4 ⟨H4, I4, q4⟩ => ?_)
      -- the turn's end
      have fin : ∀ {s' : Shared} {H' : Hp}, Inv Xg ([(ga, go)] ++ pinsAt fp s2.heap) σ3 H' s' → Nx H' → ∃ m', m' < m ∧ W (i + 1) m' H' ∧ Inv Xg [(ga, go)] σ0 H' s' ∧ tn (i + 1) s'.heap ∧ ∀ b ∈ fp, H' b = none := fun {s' H'} I' nx => by
        obtain ⟨m', hm, w'⟩ := hNx H' nx
        have pin' : ∀ b ∈ fp, ∀ o, s2.heap.get? b = some o → s'.heap.get? b = some o ∧ H' b = none := fun b hb o e =>
          let z := I'.pin (b, o) (List.mem_append_right _ (List.mem_append_right _ (mem_pinsAt hb e)))
          ⟨z.1, z.2.1⟩
        have hl : σ0.length = σ3.length := by rw [← hw3, wipe_length]
        refine ⟨m', hm, w', I'.unpinned.weak hl (fun j v e => ?_), T.keep _ _ _ st2 fun b hb o e => (pin' b hb o e).1, fun b hb => ?_⟩
        · rw [← hw3] at e
          exact (wipe_some e).1
        · obtain ⟨o, e, _⟩ := T.obj _ _ st2 b hb
          exact (pin' b hb o e).2
      cases b with
      | false =>
        simp only [Bool.false_eq_true, if_false] at q4 ⊢
        obtain ⟨m', hm, w', I', st', n'⟩ := fin I4 q4
        exact seg_again rfl (ih m' hm N (i + 1) s₀ s4 H4 (by omega) w' I' st' n')
      | true =>
        simp only [if_true] at q4 ⊢
        have hy : ∀ v, yieldOut Xg.env v = yieldValue v := fun v => by simp only [yieldOut, hco, Bool.false_eq_true, if_false]
        simp only [hy]
        rw [Sem.bind_eq_wrap', Sem.bind_eq_wrap', Sem.wrap_wrap, Sem.wrap_wrap]
        have re := pe.run _ s4 σ3 H4 _ I4 q4
        rw [hA, hx] at re
        refine seg_wrap (thnF re fun v s5 ⟨y, H5, I5, r5, k, ey, q5⟩ => ?_)
        subst ey
        obtain rfl : v = Value.bool k := r5
        obtain ⟨N', rfl⟩ : ∃ N', N = N' + 1 := ⟨N - 1, by omega⟩
        refine seg_at (seg_yield rfl rfl rfl ⟨k, H5, rfl, ⟨_, _, I5, List.mem_append_left _ (List.mem_singleton.mpr rfl)⟩, fun e => ?_, fun e s6 wk => ?_⟩)
        · subst e
          exact q5
        · subst e
          obtain ⟨m', hm, w', I', st', n'⟩ := fin I5 (by simpa using q5)
          obtain ⟨hh, gg, dd, ttk, oo⟩ := s6
          obtain rfl : hh = s5.heap := wk.heap
          obtain rfl : oo = s5.os := wk.os
          have J6 : Inv Xg [(ga, go)] σ0 H5 { s5 with gens := gg, drawn := dd, toks := ttk } := I'.call' rfl (Un.kept fun _ _ e => e) I'.hok wk.bare (ch := []) fun b z => absurd z (by simp)
          exact seg_again rfl (ih m' hm N' (i + 1) _ _ H5 (by omega) w' J6 st' n')
end
end GE

-- G3
set_option Elab.async false
set_option linter.all false
set_option maxRecDepth 100000
set_option maxHeartbeats 4000000
namespace GE
open PySem PySem.Spec PyProof.Rows L2 GxR GenW
section
variable {Xg : Cx} {elt tg iter : Expr} {ifs : List Expr} {scope : Scope} {pos : Pos} {Ag : Around} {J : It} {fp : List Addr} {it : Addr} {tn : Nat → Heap → Prop} {QT QF : Hp → Prop} {ga : Addr} {go : Obj}
/-- its start: once more iter(), or not -/
theorem seg_allBegin {K : PySem.W.Frag} {N : Nat} {s₀ s : Shared} {R : GenEnd} {Y : Protocol} {ce : Env} {prog : Program} {w : World} (T : Turn prog w K tg J fp it tn) (st : tn 0 s.heap)
    (loop : Seg (model prog w) Ag R Y N s₀ (gLoop (genE elt tg iter ifs scope pos) it ce) ((model prog w).den (gLoop (genE elt tg iter ifs scope pos) it ce)) [] s) :
    Seg (model prog w) Ag R Y N s₀ (gBegin (genE elt tg iter ifs scope pos) it ce) ((model prog w).den (gBegin (genE elt tg iter ifs scope pos) it ce)) [] s := by
  show Seg _ Ag _ _ _ s₀ _ ((compStart (genE elt tg iter ifs scope pos) 0 (.ref it) .none ce).onRaise (leaving ce)) [] s
  unfold compStart
  rw [Sem.onRaise_eq_wrap]
  show Seg _ Ag _ _ _ s₀ _ ((ask >>= _).wrap _ _ _ _) [] s
  refine seg_bind_wrap (wpAny_askSetting ?_)
  split
  · exact seg_again rfl loop
  · first
      | exact seg_bind_wrap (wpAny_rule (seg_bind_wrap (wpAny_standAt (seg_bind_wrap (T.self _ 0 s _ _ st (seg_again rfl loop))))))
      | (refine seg_bind_wrap (wpAny_rule ?_); show Seg _ Ag _ _ _ s₀ _ ((standAt iter.pos >>= _).wrap _ _ _ _) [] s; exact seg_bind_wrap (wpAny_standAt (seg_bind_wrap (T.self _ 0 s _ _ st (seg_again rfl loop)))))
/-- all asks it to its end, or to the first False -/
theorem all_drain {prog : Program} {w : World} {A : Around} {R : Result → Shared → Prop} {g : Nat} (hX : Xg.base.NoLimit) (hh : A.handled = none) (hd : A.depth < recursionLimit) (hgo : IsG go g)
    (hT : ∀ s H h', Here Xg ga go H s → QT H → (∀ b o, s.heap.get? b = some o → h'.get? b = some o) → R (.ok (.ret (.bool true))) { s.setGen g .finished with heap := h' })
    (hF : ∀ s H gs, Here Xg ga go H s → QF H → gs.bare = true → R (.ok (.ret (.bool false))) (s.setGen g gs)) :
    ∀ (N : Nat) (s : Shared), s.heap.IsGen ga g → s.heap.NoLimit → (∃ gs, s.gens[g]? = some gs ∧ gs.Goes (model prog w) A.in1.in1 (RG Xg ga go QT) (YG Xg ga go QF) N (.send .none) (s.setGen g .running)) →
      codeAny (model prog w) A (.builtin "all.loop" ⟨[.ref ga], []⟩) R s := by
  have here : ∀ {s : Shared} {H : Hp}, Here Xg ga go H s → s.heap.IsGen ga g ∧ s.heap.NoLimit := fun {s H} ⟨pn, σ, I, hm⟩ => by
    obtain ⟨nm, qn, e⟩ := hgo
    have z := (I.pin (ga, go) (List.mem_append_right _ hm)).1
    refine ⟨⟨go, nm, qn, z, ?_⟩, hX.keeps I.bk⟩
    subst e
    exact ⟨rfl, rfl, rfl⟩
  intro N
  induction N with
  | zero =>
    intro s hg hl ⟨gs, hgs, goes⟩
    have hgl : g < s.gens.size := (Array.getElem?_eq_some_iff.mp hgs).1
    refine codeAny_builtin F.entry_all_loop ?_
    rw [Around.under_plainId F.plain_all_loop _]
    show wpAny _ A.in1 (pyNext (.ref ga) >>= _) _ _ s
    refine wpAny_bind (wpAny_pyNext_genexpQ (A := A.in1) (P := fun _ _ s₁ => ∃ H, Here Xg ga go H s₁ ∧ QT H) hh hl hd hg hgs goes (fun v s₁ gs' hb hv => ?_) (fun s₁ hp h' hk => ?_))
    · obtain ⟨b, H, rfl, hH, q1, q2⟩ := hv
      refine wpAny_bind (wpAny_holding (wpAny_truthy_bool ?_))
      refine wpAny_bind (wpAny_letGo ?_)
      cases b with
      | true =>
        obtain ⟨pn, σ, I, hm⟩ := id hH
        exact False.elim (q2 rfl s₁ ⟨rfl, rfl, I.bare⟩)
      | false =>
        simp only [Bool.false_eq_true, if_false]
        refine wpAny_bind (wpAny_rule (wpAny_pure ?_))
        exact hF _ H _ hH (q1 rfl) hb
    · obtain ⟨H, hH, q⟩ := hp
      exact wpAny_bind (wpAny_rule (wpAny_pure (hT _ H _ hH q hk)))
  | succ N ih =>
    intro s hg hl ⟨gs, hgs, goes⟩
    have hgl : g + 1 ≤ s.gens.size := (Array.getElem?_eq_some_iff.mp hgs).1
    refine codeAny_builtin F.entry_all_loop ?_
    rw [Around.under_plainId F.plain_all_loop _]
    show wpAny _ A.in1 (pyNext (.ref ga) >>= _) _ _ s
    refine wpAny_bind (wpAny_gsz (n := g + 1) hgl (wpAny_pyNext_genexpQ (A := A.in1) (P := fun _ _ s₁ => ∃ H, Here Xg ga go H s₁ ∧ QT H) hh hl hd hg hgs goes (fun v s₁ gs' hb hv hsz => ?_) (fun s₁ hp h' hk hsz => ?_)))
    · obtain ⟨b, H, rfl, hH, q1, q2⟩ := hv
      refine wpAny_bind (wpAny_holding (wpAny_truthy_bool ?_))
      refine wpAny_bind (wpAny_letGo ?_)
      cases b with
      | true =>
        simp only [if_true]
        obtain ⟨pn, σ, I, hm⟩ := id hH
        obtain ⟨h1, h2⟩ := here hH
        have hlt : g < s₁.gens.size := by
          have e := setGen_size s₁ g gs'
          omega
        have wk : Woke s₁ ((s₁.setGen g gs').setGen g .running) := ⟨rfl, rfl, allBare_setGen (allBare_setGen I.bare hb) rfl⟩
        exact wpAny_pure ⟨plainId_quiet F.plain_all_loop _, ih _ h1 h2 ⟨gs', setGen_at hlt, q2 rfl _ wk⟩⟩
      | false =>
        simp only [Bool.false_eq_true, if_false]
        refine wpAny_bind (wpAny_rule (wpAny_pure ?_))
        exact hF _ H _ hH (q1 rfl) hb
    · obtain ⟨H, hH, q⟩ := hp
      exact wpAny_bind (wpAny_rule (wpAny_pure (hT _ H _ hH q hk)))
end
end GE

-- G4
set_option Elab.async false
set_option linter.all false
set_option maxRecDepth 100000
set_option maxHeartbeats 4000000
namespace GE
open PySem PySem.Spec PyProof.Rows L2 GxR GenW
section
variable {X : Cx} {pins : List (Addr × Obj)} {σ : L2.St} {H : Hp} {s : Shared}
/-- a generator made: what is known then. s4: the state ahead of its frame; s5: behind its making -/
structure Made (X : Cx) (pins : List (Addr × Obj)) (σ : L2.St) (elt tg iter : Expr) (ifs : List Expr) (scope : Scope) (pos : Pos) (J : It) (H2 : Hp) (it : Addr) (fp : List Addr) (tn : Nat → Heap → Prop) (code : Value) (s4 s5 : Shared) (ga : Addr) (g : Nat) (go : Obj) : Prop where
  inv : Inv X pins σ H2 s4
  turn : Turn X.prog X.w X.K tg J fp it tn
  st : tn 0 s4.heap
  fp : ∀ b ∈ fp, FpOk X pins H2 b ∧ b < s4.heap.objs.size
  keep : ∀ b o, s4.heap.get? b = some o → s5.heap.get? b = some o
  os : s5.os = s4.os
  bare : AllBare s5.gens
  ns : ∃ mN, s5.heap.Ns s4.heap.objs.size mN
  big : s4.heap.objs.size < ga
  obj : s5.heap.get? ga = some go
  isg : IsG go g
  gen : s5.gens[g]? = some (.fresh (gBegin (genE elt tg iter ifs scope pos) it (gEnv X scope s4.heap.objs.size code)))
theorem gen_eval {c P : Addr} {elt tg iter : Expr} {ifs : List Expr} {gpos : Pos} {scope : Scope} {own : List (Str × Nat)} {wi : TI} {k : Nat} {Q' : Value → Shared → Prop} {Rr : It → Hp → Prop}
    (hr : Room k X.A) (TB : TabB X.base X.mg c P) (hcode : X.env.code = .ref c) (ok : BlkOk X.N X.env.scope scope own) (hcell : ∀ y ∈ scope.names, y.2 ≠ .cell) (hco : scope.isCoroutine = false) (h0 : scope.names.lookup (".0" : Str) = some NameKind.local)
    (hi : PI X tg iter wi) (hs : ∀ v, genFold iter X.env v = pure v) (I : Inv X pins σ H s) (h : wi σ H fun J H1 => TabG H1 P ∧ ∀ H2, Tabbed P H1 H2 → Rr J H2)
    (hQ : ∀ J H2 it fp tn code s4 s5 ga g go, Made X pins σ elt tg iter ifs scope gpos J H2 it fp tn code s4 s5 ga g go → Rr J H2 → Q' (.ref ga) s5) :
    wpAny (model X.prog X.w) X.A (eval (genE elt tg iter ifs scope gpos) X.env) Q' X.xe s := by
  have hfree : ∀ y ∈ scope.names, y.2 = .free → ∃ c, X.env.cells.lookup y.1 = some c := fun y hy e => by
    rcases ok.free y hy e with k | k
    · exact I.ok.has _ (.inl k)
    · exact I.ok.has _ (.inr k)
  refine wpAny_GeneratorExp_make hco (closure_ok hfree) hcell h0 ok.kind (by have := hr.dp; omega) ?_ hs
  refine thn (hi.run pins s σ H _ I h) fun xv s1 hx => thn hx fun itv s2 h2 => ?_
  obtain ⟨it, fp, tn, J, H1, e, I2, T, st2, f2, ⟨ps, hP, ht⟩, q⟩ := h2
  subst e
  have hPs : s2.heap.get? P = some { cls := .none, data := .fields ps } := I2.hok P _ hP
  have cd : PySem.W.CodeHd s2.heap c P := TB.code.keeps I2.bk
  have nP : ∀ b ∈ fp, b ≠ P := fun b hb z => by
    have n := (f2 b hb).1
    rw [z, hP] at n
    cases n
  have hcP : cStatics ≠ P := fun e => by
    obtain ⟨_, hns, _⟩ := I2.nolimit
    obtain ⟨o', es, ep, ho, hd, _⟩ := hns
    rw [e, hPs] at ho
    cases ho
    cases hd
  have cont : ∀ (code : Value) (h3 : Heap) (tk : Nat) (more : Array Value), Heap.ExtBut P s2.heap h3 → s2.heap.objs.size ≤ h3.objs.size → h3.get? P = some { cls := .none, data := .fields (ps ++ more) } → TriplesOk (ps ++ more).toList →
      wpAny (model X.prog X.w) X.A (builtinsFor X.env.globals X.env.builtins) (fun bi s₄ =>
        ∀ h', h'.Ns s₄.heap.objs.size (fun y => if y = ".0" then some (.ref it) else none) → Heap.SameBut s₄.heap.objs.size (s₄.heap.push { cls := .type "frame", data := .dict #[] }) h' →
          Q' (.ref h'.objs.size) { s₄ with
            gens := s₄.gens.push (.fresh (.compStart (.GeneratorExp elt [⟨tg, iter, ifs, 0⟩] scope gpos) 0 (.ref it) .none (genEnv scope (cloFrom X.env.cells scope.names []) s₄.heap.objs.size code bi X.env))),
            toks := s₄.toks + 1 + 1 + 1,
            heap := h'.push { cls := .type "generator", data := .fields #[.int s₄.gens.size 0, .str "<genexpr>" (s₄.toks + 1), .str (X.env.qual ++ "<genexpr>") (s₄.toks + 1 + 1)] } }) X.xe { s2 with heap := h3, toks := tk } := by
    intro code h3 tk more hx hsz hP3 ht3
    obtain ⟨bm, ob, e1, e2, e3, e4, e5, e6, e7, e8⟩ := TB.bm
    have keep3 : ∀ b u, b ≠ P → s2.heap.get? b = some u → h3.get? b = some u := fun b u hb e => hx b u hb e
    have J4 : Inv X pins σ (upd H1 P (.tbl (ps ++ more))) { s2 with heap := h3, toks := tk } := inv_tab (g' := s2.gens) (d' := s2.drawn) (t' := tk) I2 hP keep3 hP3 I2.bare
    refine wpAny_builtinsFor (m := X.mg) (by rw [I2.ok.glob]; exact (I2.mod.glob.keeps I2.bk).extBut hx TB.gP) e1 e2 (keep3 _ _ e4 (I2.bk _ _ e5)) e6 e7 e8 ?_
    intro h' hn' hs'
    have hsz' : h'.objs.size = h3.objs.size + 1 := by
      rw [hs'.1]
      exact Heap.size_push ..
    have keep' : ∀ b o, h3.get? b = some o → h'.get? b = some o := fun b o e => hs'.extBut b o (Nat.ne_of_lt (Heap.lt_size e)) (Heap.get?_push_of_some _ e)
    refine hQ J (upd H1 P (.tbl (ps ++ more))) it fp tn code { s2 with heap := h3, toks := tk } _ h'.objs.size s2.gens.size { cls := .type "generator", data := .fields #[.int s2.gens.size 0, .str "<genexpr>" (tk + 1), .str (X.env.qual ++ "<genexpr>") (tk + 1 + 1)] } ?_ (q _ ⟨⟨ps ++ more, upd_same, ht3⟩, fun b hb => upd_ne hb⟩)
    exact {
      inv := J4
      turn := T
      st := T.keep _ _ _ st2 fun b hb o e => keep3 b o (nP b hb) e
      fp := fun b hb => by
        refine ⟨⟨(upd_ne (nP b hb)).trans (f2 b hb).1, (f2 b hb).2⟩, ?_⟩
        obtain ⟨o, e, _⟩ := T.obj _ _ st2 b hb
        exact Heap.lt_size (keep3 b o (nP b hb) e)
      keep := fun b o e => Heap.get?_push_of_some _ (keep' b o e)
      os := rfl
      bare := I2.bare.push rfl
      ns := ⟨_, hn'.push _⟩
      big := by
        show h3.objs.size < h'.objs.size
        omega
      obj := Heap.get?_push_size _ rfl
      isg := ⟨_, _, rfl⟩
      gen := Array.getElem?_push_size .. }
  refine ⟨I2.nolimit, ?_⟩
  cases hf : codeAmong gpos ps.toList with
  | none =>
    refine wpAny_genexprCodeX hcode (cd.code hPs ht) (cd.tab hPs) hf fun c' h' tk hx hge hlt hco' _ htab' _ => ?_
    obtain ⟨o1, vs, f1, tf, fl, tg', inF, tx, tt, op, _, _, _, _, _, _, _, _, _, htr, _⟩ := hco'
    exact cont _ h' tk _ hx (Nat.le_trans hge (Nat.le_of_lt hlt)) htab'.2 htr
  | some cv =>
    refine wpAny_genexprCode_hit hcode (cd.code hPs ht) hf ?_
    exact cont cv s2.heap s2.toks #[] (Heap.ExtBut.refl _ _) (Nat.le_refl _) (by simpa using hPs) (by simpa using ht)
end
end GE

-- G5
set_option Elab.async false
set_option linter.all false
set_option maxRecDepth 100000
set_option maxHeartbeats 4000000
namespace GE
open PySem PySem.Spec PyProof.Rows L2 GxR GenW
/-- all(elt for tg in iter if ..): W by the turn and a measure, Nx what a turn is to reach; ahead of the walk the def's table may grow -/
def tAllG (P : Addr) (wi : TI) (g : TG) (tt : TT) (te : TE) (vs : List Nat) : TE := fun σ H Q => wi σ H fun J H1 => TabG H1 P ∧ ∀ H2, Tabbed P H1 H2 → ∃ W : Nat → Nat → Hp → Prop, (∃ m, W 0 m H2) ∧ ∀ i m H, W i m H →
  (J.stop i H ∧ Q (.bl true) H) ∨ (J.go i H ∧ ∃ Nx : Hp → Prop, (∀ H', Nx H' → ∃ m', m' < m ∧ W (i + 1) m' H') ∧ ∀ x H', J.yld i H x H' → g x (wipe σ vs) H' fun σ2 H2 => wipe σ2 vs = wipe σ vs ∧ tt σ2 H2 fun b H3 =>
    if b = true then te σ2 H3 fun y H4 => ∃ k : Bool, y = .bl k ∧ if k = true then Nx H4 else Q (.bl false) H4 else Nx H3)
section
variable {X : Cx} {pins : List (Addr × Obj)} {σ : L2.St} {H : Hp} {s : Shared}
/-- the around of an element -/
abbrev gAr (X : Cx) (e : Expr) (it : Addr) (ce : Env) : Around := (X.A.in1.in1).over (gLoop e it ce) []
theorem room_gAr {k : Nat} {elt tg iter : Expr} {ifs : List Expr} {scope : Scope} {pos : Pos} {it : Addr} {ce : Env} (hr : Room (k + 1) X.A) : Room k (gAr X (genE elt tg iter ifs scope pos) it ce) := by
  refine ⟨hr.hd, ?_, ?_⟩
  · have e : (gAr X (genE elt tg iter ifs scope pos) it ce).depth ≤ X.A.depth + 1 := Nat.le_of_eq rfl
    have := hr.dp
    omega
  · have e : (gAr X (genE elt tg iter ifs scope pos) it ce).units ≤ X.A.units + 1 + 1 + 3 := Nat.le_of_eq rfl
    have := hr.un
    omega
theorem frames_gAr {elt tg iter : Expr} {ifs : List Expr} {scope : Scope} {pos : Pos} {it : Addr} {ce : Env} {l : List Env} (h : X.A.frames = some l) : (gAr X (genE elt tg iter ifs scope pos) it ce).frames = some (ce :: l) := by
  show pushEnvs [ce] (pushEnvs [] X.A.frames) = _
  rw [h]
  rfl
/-- back in the def -/
theorem Made.back {elt tg iter : Expr} {ifs : List Expr} {scope : Scope} {pos : Pos} {J : It} {H2 H' : Hp} {it : Addr} {fp : List Addr} {tn : Nat → Heap → Prop} {code : Value} {s4 s5 s s' : Shared} {ga : Addr} {g : Nat} {go : Obj} {A' : Around} {ce : Env}
    (M : Made X pins σ elt tg iter ifs scope pos J H2 it fp tn code s4 s5 ga g go) (h : Here (gcx X A' s4 H2 ce fp) ga go H' s) (os : s'.os = s.os) (bare : AllBare s'.gens) (k : ∀ b o, s.heap.get? b = some o → s'.heap.get? b = some o) : Inv X pins σ H' s' := by
  obtain ⟨pn, σ', I, _⟩ := h
  refine M.inv.call' (ch := fp) (os.trans I.os) (I.base.trans (Un.kept k)) (I.hok.kept k) bare fun b hb => ?_
  obtain ⟨f0, f1, f2, f3, f4, f5⟩ := (M.fp b hb).1
  exact ⟨f3, f1, f4, f5⟩
theorem pe_allG {c P : Addr} {elt tg iter : Expr} {ifs : List Expr} {p pos gpos : Pos} {scope : Scope} {own : List (Str × Nat)} {wi : TI} {g : TG} {tt : TT} {te : TE} {k : Nat}
    (hc : X.calm = true) (hN : X.N.Nodup) (hr : Room (k + 1) X.A) (hg : Gl X "all") (hm : X.mg "all" = none) (hb : bootBuiltins "all" = some (.builtin "all")) (TB : TabB X.base X.mg c P) (hcode : X.env.code = .ref c)
    (hi : PI X tg iter wi) (ok : BlkOk X.N X.env.scope scope own) (hcell : ∀ y ∈ scope.names, y.2 ≠ .cell) (hco : scope.isCoroutine = false) (h0 : scope.names.lookup (".0" : Str) = some NameKind.local)
    (hpg : ∀ (A' : Around) (s : Shared) (H : Hp) (C : Addr) (code : Value) (fp : List Addr), Room k A' → PG (gcx X A' s H (gEnv X scope C code) fp) tg g)
    (hpt : ∀ (A' : Around) (s : Shared) (H : Hp) (C : Addr) (code : Value) (fp : List Addr), Room k A' → PTs (gcx X A' s H (gEnv X scope C code) fp) ifs tt)
    (hpe : ∀ (A' : Around) (s : Shared) (H : Hp) (C : Addr) (code : Value) (fp : List Addr), Room k A' → PE (gcx X A' s H (gEnv X scope C code) fp) elt te)
    (hs : ∀ v, genFold iter X.env v = pure v := by intro _; rfl)
    (he : starEach [genE elt tg iter ifs scope gpos] X.env = (false, eval (genE elt tg iter ifs scope gpos) X.env) :: starEach [] X.env := by rfl) :
    PE X (.Call (.Name "all" p) [genE elt tg iter ifs scope gpos] [] pos) (tAllG P wi g tt te (own.map (·.2))) := by
  refine ⟨fun pins s σ H Q I h => ?_⟩
  refine wpAny_Call_Name_kw (ld_blt I hg hm hb ?_)
  refine PyProof.Rows.callWith_builtin1 ?_ he (by rfl)
  rw [he]
  show wpAny _ _ (spliced ((false, eval (genE elt tg iter ifs scope gpos) X.env) :: backTo pos (starEach [] X.env))) _ _ s
  refine Calls.spliced_cons (gen_eval (Rr := fun J H2 => _) hr TB hcode ok hcell hco h0 hi hs I h fun J H2 it fp tn code s4 s5 ga gn go M rr => ?_)
  obtain ⟨W, ⟨m0, w0⟩, turn⟩ := rr
  refine Calls.spliced_nil ?_
  have hlim : X.base.NoLimit := I.ok.mod.nolimit
  generalize hce : gEnv X scope s4.heap.objs.size code = ce
  have ceL : ce.locals = s4.heap.objs.size := by
    rw [← hce]
    rfl
  have gaP := M.obj
  obtain ⟨mN, hns⟩ := M.ns
  -- the frame at its start
  have I0 : Inv (gcx X (gAr X (genE elt tg iter ifs scope gpos) it ce) s4 H2 ce fp) [] (wipe σ (own.map (·.2))) H2 s5 := by
    rw [← hce]
    exact gen_start M.inv ok hN hcell M.fp hr.hd (frames_gAr M.inv.ok.frames) M.keep M.os M.bare hns
  have dgo : ∀ v, go.data ≠ .cell v := fun v z => by
    obtain ⟨nm, qn, e⟩ := M.isg
    rw [e] at z
    cases z
  have gaS : ∀ b, b < s4.heap.objs.size → ga ≠ b := fun b hb => Nat.ne_of_gt (Nat.lt_trans hb M.big)
  have I1 : Inv (gcx X (gAr X (genE elt tg iter ifs scope gpos) it ce) s4 H2 ce fp) [(ga, go)] (wipe σ (own.map (·.2))) H2 s5 := by
    refine I0.pins_of fun p hp => ?_
    rw [List.mem_singleton.mp hp]
    refine ⟨gaP, M.inv.hok.fresh (Nat.le_of_lt M.big), ?_, fun hb => ?_, dgo⟩
    · show ga ≠ ce.locals
      rw [ceL]
      exact Nat.ne_of_gt M.big
    · obtain ⟨_, o, ho, _⟩ := M.inv.stack.mem hb
      exact gaS ga (Heap.lt_size ho) rfl
  have bareAll : ∀ {s : Shared} {H : Hp}, Here (gcx X (gAr X (genE elt tg iter ifs scope gpos) it ce) s4 H2 ce fp) ga go H s → AllBare s.gens := fun {s H} ⟨_, _, I, _⟩ => I.bare
  have isG : s5.heap.IsGen ga gn := by
    obtain ⟨nm, qn, e⟩ := M.isg
    refine ⟨go, nm, qn, gaP, ?_⟩
    rw [e]
    exact ⟨rfl, rfl, rfl⟩
  have hwk : Inv (gcx X (gAr X (genE elt tg iter ifs scope gpos) it ce) s4 H2 ce fp) [(ga, go)] (wipe σ (own.map (·.2))) H2 (s5.setGen gn .running) :=
    I1.call' rfl (Un.kept fun _ _ e => e) I1.hok (allBare_setGen M.bare rfl) (ch := []) fun b z => absurd z (by simp)
  have st5 : tn 0 s5.heap := M.turn.keep _ _ _ M.st fun b _ o e => M.keep b o e
  refine call_function_tree F.kind_all F.plain_all F.entry_all (F.args_all1 _) ?_
  unfold Builtin.«all»
  refine wpAny_bind (m := oneArg "all" _) (wpAny_pure ?_)
  refine wpAny_bind (wpAny_pyIter_gen isG ?_)
  refine wpAny_pure ⟨plainId_quiet F.plain_all_loop _, all_drain (Xg := gcx X (gAr X (genE elt tg iter ifs scope gpos) it ce) s4 H2 ce fp) (QT := fun H => Q (.bl true) H) (QF := fun H => Q (.bl false) H) (g := gn) hlim hr.hd (by have := hr.dp; omega) M.isg
    (fun s' H' h' hh q kk => ?_) (fun s' H' gs hh q hb' => ?_) (m0 + 1) s5 isG (hlim.keeps I1.bk) ⟨_, M.gen, rfl, ?_⟩⟩
  · exact ⟨.bl true, H', M.back hh rfl (allBare_setGen (bareAll hh) rfl) kk, rfl, q⟩
  · exact ⟨.bl false, H', M.back hh rfl (allBare_setGen (bareAll hh) hb') fun _ _ e => e, rfl, q⟩
  · rw [hce]
    refine seg_allBegin M.turn st5 ?_
    have pg := hpg (gAr X (genE elt tg iter ifs scope gpos) it ce) s4 H2 s4.heap.objs.size code fp (room_gAr hr)
    have pt := hpt (gAr X (genE elt tg iter ifs scope gpos) it ce) s4 H2 s4.heap.objs.size code fp (room_gAr hr)
    have pe := hpe (gAr X (genE elt tg iter ifs scope gpos) it ce) s4 H2 s4.heap.objs.size code fp (room_gAr hr)
    rw [hce] at pg pt pe
    have hcoE : ce.scope.isCoroutine = false := by
      rw [← hce]
      exact hco
    refine seg_allLoop (Xg := gcx X (gAr X (genE elt tg iter ifs scope gpos) it ce) s4 H2 ce fp) (vs := own.map (·.2)) rfl rfl rfl hcoE M.turn (fun b hb => ?_) pg pt pe W (fun i m H w => turn i m H w) m0 (m0 + 1) 0 _ _ H2 (Nat.le_refl _) w0 hwk st5 (fun b hb => (M.fp b hb).1.1)
    exact ⟨(I0.ok.exf b hb).1, I0.ok.exfs b hb, hb, (I0.ok.exf b hb).2, fun p hp => absurd (show p ∈ ([] : List (Addr × Obj)) from hp) (by simp), gaS b (M.fp b hb).2⟩
end
end GE

-- R0
set_option Elab.async false
set_option linter.all false
set_option maxRecDepth 100000
set_option maxHeartbeats 4000000
/-! The program's own text, its first parts: heaps, tables of code objects, walks of generator expressions. -/
namespace EX
open PySem PySem.Spec PyProof.Rows L2
def top (i : Nat) : Stmt := PySem.Challenge.pw_bothandall_k01_whole_closures_and_closed.main.body.getD i (.Pass ⟨0, 0, 0, 0⟩)
theorem tYes_is (σ : L2.St) (H : Hp) (Q : Bool → Hp → Prop) : tYes σ H Q = Q true H := rfl
/-- all these are tables of code objects -/
def Tb (Ps : List Addr) (H : Hp) : Prop := ∀ P ∈ Ps, GxR.TabG H P
/-- the heap has grown, and those tables -/
structure Gr (Ps : List Addr) (H H' : Hp) : Prop where
  keep : ∀ b o, b ∉ Ps → H b = some o → H' b = some o
  t1 : Tb Ps H
  t2 : Tb Ps H'
theorem Gr.refl {Ps : List Addr} {H : Hp} (t : Tb Ps H) : Gr Ps H H := ⟨fun _ _ _ e => e, t, t⟩
theorem Gr.trans {Ps : List Addr} {H H1 H2 : Hp} (x : Gr Ps H H1) (y : Gr Ps H1 H2) : Gr Ps H H2 := ⟨fun b o n e => y.keep b o n (x.keep b o n e), x.t1, y.t2⟩
/-- what is no table stands -/
theorem Gr.at {Ps : List Addr} {H H' : Hp} (x : Gr Ps H H') {b : Addr} {o : HO} (e : H b = some o) (n : ∀ ps, o ≠ .tbl ps) : H' b = some o := x.keep b o (fun hb => by
  obtain ⟨ps, h, _⟩ := x.t1 b hb
  rw [e] at h
  exact n ps (Option.some.inj h)) e
theorem Gr.tup {Ps : List Addr} {H H' : Hp} (x : Gr Ps H H') {b : Addr} {xs : List V} (e : H b = some (.tup xs)) : H' b = some (.tup xs) := x.at e fun ps z => by cases z
theorem Gr.lst {Ps : List Addr} {H H' : Hp} (x : Gr Ps H H') {b : Addr} {xs : List V} (e : H b = some (.lst xs)) : H' b = some (.lst xs) := x.at e fun ps z => by cases z
theorem Gr.free {Ps : List Addr} {H H' : Hp} (x : Gr Ps H H') {b : Addr} (e : H' b = none) : H b = none := by
  cases q : H b with
  | none => rfl
  | some o =>
    by_cases hb : b ∈ Ps
    · obtain ⟨ps, h, _⟩ := x.t2 b hb
      rw [e] at h
      cases h
    · rw [x.keep b o hb q] at e
      cases e
theorem Gr.new {Ps : List Addr} {H : Hp} {p : Addr} {o : HO} (t : Tb Ps H) (h : H p = none) : Gr Ps H (upd H p o) := by
  have k : ∀ b x, H b = some x → upd H p o b = some x := fun b x e => by
    rw [upd_ne (ne_of_none e h)]
    exact e
  exact ⟨fun b x _ e => k b x e, t, fun P hP => let ⟨ps, h1, h2⟩ := t P hP; ⟨ps, k _ _ h1, h2⟩⟩
theorem Gr.of {Ps : List Addr} {P : Addr} {H H' : Hp} (t : Tb Ps H) (hP : P ∈ Ps) (x : GxR.Tabbed P H H') : Gr Ps H H' := by
  refine ⟨fun b o n e => ?_, t, fun P' hP' => ?_⟩
  · rw [x.2 b (fun z => n (by rw [z]; exact hP))]
    exact e
  · by_cases z : P' = P
    · rw [z]
      exact x.1
    · obtain ⟨ps, h1, h2⟩ := t P' hP'
      exact ⟨ps, by rw [x.2 P' z]; exact h1, h2⟩
/-- a walk of all(..): Pv by the turn and the heap -/
theorem all_it {J : It} {n : Nat} {G : Hp → Prop} {Y : Nat → Hp → V → Hp → Prop} (w : Walk J n G Y) {g : TG} {tt : TT} {te : TE} {vs : List Nat} {σ : L2.St} {H1 : Hp} {QT QF : Hp → Prop} (Pv : Nat → Hp → Prop) (h0 : Pv 0 H1) (hG : ∀ i H, i ≤ n → Pv i H → G H)
    (hs : ∀ i x H H', i < n → Pv i H → Y i H x H' → g x (wipe σ vs) H' fun σ2 H2 => wipe σ2 vs = wipe σ vs ∧ tt σ2 H2 fun b H3 => if b = true then te σ2 H3 fun y H4 => ∃ k : Bool, y = .bl k ∧ if k = true then Pv (i + 1) H4 else QF H4 else Pv (i + 1) H3) (hd : ∀ H, Pv n H → QT H) :
    ∃ W : Nat → Nat → Hp → Prop, (∃ m, W 0 m H1) ∧ ∀ i m H, W i m H →
      (J.stop i H ∧ QT H) ∨ (J.go i H ∧ ∃ Nx : Hp → Prop, (∀ H', Nx H' → ∃ m', m' < m ∧ W (i + 1) m' H') ∧ ∀ x H', J.yld i H x H' → g x (wipe σ vs) H' fun σ2 H2 => wipe σ2 vs = wipe σ vs ∧ tt σ2 H2 fun b H3 =>
        if b = true then te σ2 H3 fun y H4 => ∃ k : Bool, y = .bl k ∧ if k = true then Nx H4 else QF H4 else Nx H3) := by
  refine ⟨fun i m H => m = n - i ∧ i ≤ n ∧ Pv i H, ⟨n, by simp, Nat.zero_le _, h0⟩, ?_⟩
  rintro i m H ⟨rfl, hi, p⟩
  have q := hG i H hi p
  by_cases hlt : i < n
  · refine .inr ⟨w.goes i H hlt q, Pv (i + 1), fun H' p' => ⟨n - (i + 1), by omega, rfl, hlt, p'⟩, fun x H' y => hs i x H H' hlt p (w.yields i H x H' hlt q y)⟩
  · have e : i = n := by omega
    subst e
    exact .inl ⟨w.stops H q, hd H p⟩
section
variable {P : Program} {w : World} {K : PySem.W.Frag} {mg : Str → Option Value} {base : Heap}
/-- a def by its body, its code object at c -/
theorem Fun.okC {x qual : Str} {st : Stmt} {f c : Addr} {fd : FuncData} {N ps : List Str} {k : Nat} {sp : Sp} (F : Fun K x qual st f fd) (hc : fd.code = .ref c) (S : FnScope N ps (defScope st)) (len : ∀ vs H Q E, sp vs H Q E → vs.length = ps.length)
    (hbody : ∀ (A : Around) (outer : List Env) (s : Shared) (H : Hp) (vs : List V) (Q : VK) (E : XK), Room k (A.deeper (envOfC qual (defScope st) s.heap.objs.size f (.ref c))) → sp vs H Q E →
      ∃ t, PSs (cxOf CX0 P w K mg base N qual (defScope st) f (.ref c) A outer s H E).nox (defBody st) t ∧ t { nx := fun _ H' => Q .non H', rt := Q } (start N vs) H) : FnOk P w K mg base CX0 (k + 1) f fd ps sp := by
  obtain ⟨oc, od, kV, doc, pm, an, cdv, ct, osl, rfl, lk, hcd⟩ := F.ex
  obtain rfl : cdv = .ref c := hc
  refine fn_of lk hcd S len fun A outer s H vs Q E hr hsp => ?_
  obtain ⟨t, h, q⟩ := hbody A outer s H vs Q E hr hsp
  exact ⟨t, h.nox, q⟩
end
end EX

-- R1
set_option Elab.async false
set_option linter.all false
set_option maxRecDepth 100000
set_option maxHeartbeats 4000000
/-! kinds -/
namespace EX
open PySem PySem.Spec PyProof.Rows L2
abbrev sIsInt : Stmt := top 6
abbrev sFrom : Stmt := top 7
abbrev sBelow : Stmt := top 8
abbrev sAsc : Stmt := top 9
theorem scIsInt : FnScope ["thing"] ["thing"] (defScope sIsInt) := ⟨rfl, rfl, rfl, by decide +kernel, rfl, by decide +kernel, by decide +kernel⟩
theorem scFrom : FnScope ["thing", "low", "high"] ["thing", "low", "high"] (defScope sFrom) := ⟨rfl, rfl, rfl, by decide +kernel, rfl, by decide +kernel, by decide +kernel⟩
def nBelow : List Str := ["thing", "bound", "item"]
theorem scBelow : FnScope nBelow ["thing", "bound"] (defScope sBelow) := ⟨rfl, rfl, rfl, by decide +kernel, rfl, by decide +kernel, by decide +kernel⟩
def nAsc : List Str := ["integers", "at"]
theorem scAsc : FnScope nAsc ["integers"] (defScope sAsc) := ⟨rfl, rfl, rfl, by decide +kernel, rfl, by decide +kernel, by decide +kernel⟩
/-- one reading fewer: and, the left one True -/
theorem pe_ty {X : Cx} {x : Str} {n : String} {pos : Pos} (hg : Gl X x) (hm : X.mg x = none) (hv : bootBuiltins x = some (.type n)) (hn : x ≠ "__name__" := by decide) (hd : (x == ("__debug__" : Str)) = false := by decide) : PE X (.Name x pos) (tC (.ty n)) := pe_bltn hg hm hv rfl hn hd
theorem ifT {c : Bool} {A B : Prop} (hc : c = true) (h : A) : if c = true then A else B := by
  rw [if_pos hc]
  exact h
theorem ifF {c : Bool} {A B : Prop} (hc : c = false) (h : B) : if c = true then A else B := by
  rw [hc, if_neg Bool.false_ne_true]
  exact h
section
variable {P : Program} {w : World} {K : PySem.W.Frag} {mg : Str → Option Value} {base : Heap}
def spIsInt : Sp := fun vs H Q _ => ∃ i : Int, vs = [.int i] ∧ Q (.bl true) H
theorem ok_isInt {f : Addr} {fd : FuncData} {k : Nat} (F : Fun K "is_integer" "is_integer" sIsInt f fd) (mi : mg "isinstance" = none) (mn : mg "int" = none) (mb : mg "bool" = none) : FnOk P w K mg base CX0 (k + 1) f fd ["thing"] spIsInt := by
  refine F.ok scIsInt (fun vs H Q E h => ?_) (fun cdv A outer s H vs Q E hr h => ?_)
  · obtain ⟨i, rfl, _⟩ := h
    rfl
  · obtain ⟨i, rfl, q⟩ := h
    refine ⟨_, pss_one (ps_ret (pe_and (pe_callB call_isi (by rfl) mi (by decide +kernel) (pa_cons (pv 0) (pa_cons (pe_ty (n := "int") (by rfl) mn (by decide +kernel)) pa_nil))) (pe_one (pe_not (pe_callB call_isi (by rfl) mi (by decide +kernel) (pa_cons (pv 0) (pa_cons (pe_ty (n := "bool") (by rfl) mb (by decide +kernel)) pa_nil))))))), ?_⟩
    refine ⟨_, rfl, _, _, _, _, true, rfl, .ty _, .base (.int i), kit_ty (by decide +kernel), true, rfl, iteT ⟨_, rfl, _, _, _, _, false, rfl, .ty _, .base (.int i), kit_ty (by decide +kernel), false, rfl, q⟩⟩
def spFrom : Sp := fun vs H Q _ => ∃ i lo hi : Int, vs = [.int i, .int lo, .int hi] ∧ Q (.bl (decide (lo ≤ i ∧ i ≤ hi))) H
theorem ok_from {f fI : Addr} {fd fdI : FuncData} {k : Nat} (F : Fun K "is_integer_from" "is_integer_from" sFrom f fd) (GI : FnOk P w K mg base CX0 (k + 1) fI fdI ["thing"] spIsInt) (gI : mg "is_integer" = some (.ref fI)) (kI : PySem.W.keepIn K (.ref fI) = true) (bI : Binds K fdI ["thing"] []) :
    FnOk P w K mg base CX0 (k + 2) f fd ["thing", "low", "high"] spFrom := by
  refine F.ok scFrom (fun vs H Q E h => ?_) (fun cdv A outer s H vs Q E hr h => ?_)
  · obtain ⟨i, lo, hi, rfl, _⟩ := h
    rfl
  · obtain ⟨i, lo, hi, rfl, q⟩ := h
    refine ⟨_, pss_one (ps_ret (pe_and (pe_call GI hr (by rfl) gI kI bI .nil pass0 (pa_cons (pv 0) pa_nil)) (pe_one (pe_chain op_le op_le (pv 1) (pv 0) (pv 2))))), ?_⟩
    refine ⟨_, rfl, i, rfl, true, rfl, iteT ⟨_, rfl, _, rfl, _, _, rfl, rfl, _, rfl, ?_⟩⟩
    by_cases c : lo ≤ i
    · refine ifT (decide_eq_true c) ⟨_, rfl, _, _, rfl, rfl, ?_⟩
      have e : decide (i ≤ hi) = decide (lo ≤ i ∧ i ≤ hi) := by simp [c]
      show Q (.bl (decide (i ≤ hi))) H
      rw [e]
      exact q
    · refine ifF (decide_eq_false c) ?_
      have e : decide (lo ≤ i ∧ i ≤ hi) = false := by simp [c]
      rw [e] at q
      exact q
/-- a tuple of whole numbers -/
abbrev Ints (H : Hp) (a : Addr) (l : List Int) : Prop := H a = some (.tup (l.map V.int))
def spBelow (Ps : List Addr) : Sp := fun vs H Q _ => ∃ (a : Addr) (l : List Int) (n : Int), vs = [.ref a, .int n] ∧ Ints H a l ∧ (∀ i ∈ l, 0 ≤ i ∧ i < n) ∧ Tb Ps H ∧ ∀ H', Gr Ps H H' → Q (.bl true) H'
theorem ok_below {f fI c P' : Addr} {fd fdI : FuncData} {k : Nat} {Ps : List Addr} (F : Fun K "are_integers_below" "are_integers_below" sBelow f fd) (hc : fd.code = .ref c) (TB : GxR.TabB base mg c P') (hP : P' ∈ Ps)
    (GI : FnOk P w K mg base CX0 (k + 2) fI fdI ["thing", "low", "high"] spFrom) (gI : mg "is_integer_from" = some (.ref fI)) (kI : PySem.W.keepIn K (.ref fI) = true) (bI : Binds K fdI ["thing", "low", "high"] [])
    (mi : mg "isinstance" = none) (mt : mg "tuple" = none) (ma : mg "all" = none) : FnOk P w K mg base CX0 (k + 4) f fd ["thing", "bound"] (spBelow Ps) := by
  refine Fun.okC F hc scBelow (fun vs H Q E h => ?_) (fun A outer s H vs Q E hr h => ?_)
  · obtain ⟨a, l, n, rfl, _⟩ := h
    rfl
  · obtain ⟨a, l, n, rfl, hA, hl, hT, q⟩ := h
    refine ⟨_, pss_one (ps_ret (pe_and (pe_callB call_isi (by rfl) mi (by decide +kernel) (pa_cons (pv 0) (pa_cons (pe_ty (n := "tuple") (by rfl) mt (by decide +kernel)) pa_nil)))
      (pe_one (GE.pe_allG (own := [("item", 2)]) (g := gName 2) (tt := tYes) rfl scBelow.nd hr (by rfl) ma (by decide +kernel) TB rfl (pi_tup (pv 0)) (blkOk_by (own := [("item", 2)]) (N := nBelow) (sc := defScope sBelow) (by decide +kernel)) (by decide +kernel) rfl rfl
        (fun _ _ _ _ _ _ _ => pg_name (i := 2) scBelow.nd rfl (Or.inl rfl)) (fun _ _ _ _ _ _ _ => pts_nil)
        (fun _ _ _ _ _ _ hr' => pe_call GI hr' (by rfl) gI kI bI .nil pass0 (pa_cons (pv 2) (pa_cons pe_int (pa_cons (pe_op op_sub (pv 1) pe_int) pa_nil)))))))), ?_⟩
    refine ⟨_, rfl, _, _, _, _, true, rfl, .ty _, .base (.tup hA), kit_ty (by decide +kernel), true, rfl, iteT ⟨_, rfl, a, rfl, ⟨_, .inl (.inl hA)⟩, hT _ hP, fun H2 tb => ?_⟩⟩
    have g2 := Gr.of hT hP tb
    refine all_it (walk_tup (xs := l.map V.int)) (fun i H' => Gr Ps H H') g2 (fun i H' _ g => .inl (.inl (g.tup hA))) ?_ (fun H' g => q H' g)
    rintro i x H' _ hi g ⟨rfl, ex⟩
    obtain ⟨z, hz, rfl⟩ : ∃ z, l[i]? = some z ∧ x = V.int z := by
      rw [List.getElem?_map] at ex
      cases e : l[i]? with
      | none =>
        rw [e] at ex
        cases ex
      | some z =>
        rw [e] at ex
        exact ⟨z, rfl, (Option.some.inj ex).symm⟩
    refine ⟨rfl, ?_⟩
    rw [tYes_is, if_pos rfl]
    have b := hl z (List.mem_of_getElem? hz)
    refine ⟨_, rfl, _, rfl, _, _, rfl, rfl, z, 0, n - 1, rfl, _, rfl, ?_⟩
    rw [decide_eq_true (by omega), if_pos rfl]
    exact g
/-- rising -/
def Rises (l : List Int) : Prop := ∀ (i : Nat) (x y : Int), l[i]? = some x → l[i + 1]? = some y → x < y
def spAsc (Ps : List Addr) : Sp := fun vs H Q _ => ∃ (a : Addr) (l : List Int), vs = [.ref a] ∧ Ints H a l ∧ l.length < 1000 ∧ Rises l ∧ Tb Ps H ∧ ∀ H', Gr Ps H H' → Q (.bl true) H'
theorem ok_asc {f c P' : Addr} {fd : FuncData} {k : Nat} {Ps : List Addr} (F : Fun K "is_ascending" "is_ascending" sAsc f fd) (hc : fd.code = .ref c) (TB : GxR.TabB base mg c P') (hP : P' ∈ Ps)
    (ml : mg "len" = none) (mr : mg "range" = none) (ma : mg "all" = none) : FnOk P w K mg base CX0 (k + 2) f fd ["integers"] (spAsc Ps) := by
  refine Fun.okC F hc scAsc (fun vs H Q E h => ?_) (fun A outer s H vs Q E hr h => ?_)
  · obtain ⟨a, l, rfl, _⟩ := h
    rfl
  · obtain ⟨a, l, rfl, hA, hlen, hl, hT, q⟩ := h
    refine ⟨_, pss_one (ps_ret (GE.pe_allG (own := [("at", 1)]) (g := gName 1) (tt := tYes) (te := tOp (rI0 fun i j => V.bl (decide (i < j))) (tOp (rIxT K) (tVar 0) (tVar 1)) (tOp (rIxT K) (tVar 0) (tOp (rI0 fun i j => V.int (i + j)) (tVar 1) (tC (.int 1))))) rfl scAsc.nd hr (by rfl) ma (by decide +kernel) TB rfl
        (pi_range1 (by rfl) mr (pa_cons (pe_op op_sub (pe_callB call_len_seq (by rfl) ml PySem.boot_len (pa_cons (pv 0) pa_nil)) pe_int) pa_nil)) (blkOk_by (own := [("at", 1)]) (N := nAsc) (sc := defScope sAsc) (by decide +kernel)) (by decide +kernel) rfl rfl
        (fun _ _ _ _ _ _ _ => pg_name (i := 1) scAsc.nd rfl (Or.inl rfl)) (fun _ _ _ _ _ _ _ => pts_nil)
        (fun _ _ _ _ _ _ hr' => pe_cmpR op_lt (pe_ix ix_tup (pv 0) (pv 1) (fun _ _ => rfl)) (pe_ix ix_tup (pv 0) (pe_op op_add (pv 1) pe_int) (fun _ _ => rfl)) (nomark _)))), ?_⟩
    refine ⟨_, rfl, a, _, rfl, .inr (.inl (.inl hA)), ?_⟩
    rw [List.length_map]
    refine ⟨_, _, rfl, rfl, _, rfl, by omega, by omega, hT _ hP, fun H2 tb => ?_⟩
    have g2 := Gr.of hT hP tb
    refine all_it walk_range (fun i H' => Gr Ps H H') g2 (fun i H' _ g => trivial) ?_ (fun H' g => q H' g)
    rintro i x H' _ hi g ⟨rfl, rfl⟩
    refine ⟨rfl, ?_⟩
    rw [tYes_is, if_pos rfl]
    have h1 : i < l.length := by omega
    have h2 : i + 1 < l.length := by omega
    have e1 : (l.map V.int)[i]? = some (V.int l[i]) := by simp [h1]
    have e2 : (l.map V.int)[i + 1]? = some (V.int l[i + 1]) := by simp [h2]
    have t := g.tup hA
    refine ⟨_, rfl, _, rfl, a, _, _, _, rfl, congrArg V.int (Int.zero_add _), .inl (.inl t), atI_nat (j := i) e1, _, rfl, _, rfl, _, _, rfl, rfl, a, _, _, _, rfl, congrArg V.int (show (0 : Int) + (i : Int) + 1 = ((i + 1 : Nat) : Int) by omega), .inl (.inl t), atI_nat (j := i + 1) e2, _, _, rfl, rfl, _, rfl, ?_⟩
    have lt := hl i _ _ (List.getElem?_eq_getElem h1) (List.getElem?_eq_getElem h2)
    rw [decide_eq_true lt, if_pos rfl]
    exact g
end
end EX

-- R2
set_option Elab.async false
set_option linter.all false
set_option maxRecDepth 100000
set_option maxHeartbeats 4000000
/-! facts, rules, their checks -/
namespace EX
open PySem PySem.Spec PyProof.Rows L2
abbrev sIsLot : Stmt := top 13
abbrev sIsRule : Stmt := top 14
abbrev sAreRules : Stmt := top 15
abbrev sReqN : Stmt := top 16
abbrev sReqR : Stmt := top 17
abbrev sReqL : Stmt := top 18
def nIsRule : List Str := ["m", "thing", "ifs", "fact"]
def nAreRules : List Str := ["m", "thing", "rule"]
theorem scIsLot : FnScope ["m", "thing"] ["m", "thing"] (defScope sIsLot) := ⟨rfl, rfl, rfl, by decide +kernel, rfl, by decide +kernel, by decide +kernel⟩
theorem scIsRule : FnScope nIsRule ["m", "thing"] (defScope sIsRule) := ⟨rfl, rfl, rfl, by decide +kernel, rfl, by decide +kernel, by decide +kernel⟩
theorem scAreRules : FnScope nAreRules ["m", "thing"] (defScope sAreRules) := ⟨rfl, rfl, rfl, by decide +kernel, rfl, by decide +kernel, by decide +kernel⟩
theorem scReqN : FnScope ["m"] ["m"] (defScope sReqN) := ⟨rfl, rfl, rfl, by decide +kernel, rfl, by decide +kernel, by decide +kernel⟩
theorem scReqR : FnScope ["m", "rules"] ["m", "rules"] (defScope sReqR) := ⟨rfl, rfl, rfl, by decide +kernel, rfl, by decide +kernel, by decide +kernel⟩
theorem scReqL : FnScope ["m", "rules", "lot"] ["m", "rules", "lot"] (defScope sReqL) := ⟨rfl, rfl, rfl, by decide +kernel, rfl, by decide +kernel, by decide +kernel⟩
/-- a rule: its ifs, its fact -/
abbrev Rule := List Int × Int
structure GoodLot (m : Int) (l : List Int) : Prop where
  within : ∀ i ∈ l, 0 ≤ i ∧ i < m
  rises : Rises l
  few : l.length < 1000
structure GoodRule (m : Int) (r : Rule) : Prop where
  ifs : GoodLot m r.1
  fact : 0 ≤ r.2 ∧ r.2 < m
  out : r.2 ∉ r.1
structure GoodRules (m : Int) (rs : List Rule) : Prop where
  all : ∀ r ∈ rs, GoodRule m r
  few : rs.length ≤ 8
def RuleAt (H : Hp) (r : Rule) (x : V) : Prop := ∃ t la, x = .ref t ∧ H t = some (.tup [.ref la, .int r.2]) ∧ Ints H la r.1
def RulesAt (H : Hp) (a : Addr) (rs : List Rule) : Prop := ∃ xs, H a = some (.tup xs) ∧ Paired (RuleAt H) rs xs
theorem Gr.rule {Ps : List Addr} {H H' : Hp} {r : Rule} {x : V} (g : Gr Ps H H') (h : RuleAt H r x) : RuleAt H' r x := let ⟨t, la, e, h1, h2⟩ := h; ⟨t, la, e, g.tup h1, g.tup h2⟩
theorem Gr.rules {Ps : List Addr} {H H' : Hp} {a : Addr} {rs : List Rule} (g : Gr Ps H H') (h : RulesAt H a rs) : RulesAt H' a rs := let ⟨xs, h1, h2⟩ := h; ⟨xs, g.tup h1, Paired.mapP h2 fun _ _ q => g.rule q⟩
theorem paired_get {α β : Type} {F : α → β → Prop} : ∀ {xs : List α} {us : List β} {i : Nat} {u : β}, Paired F xs us → us[i]? = some u → ∃ x, xs[i]? = some x ∧ F x u
  | _, _, _, _, .nil, e => by simp at e
  | _, _, 0, u, .cons a b, e => by
    simp at e
    subst e
    exact ⟨_, rfl, a⟩
  | _, _, i + 1, u, .cons a b, e => by
    obtain ⟨x, h1, h2⟩ := paired_get (i := i) (u := u) b (by simpa using e)
    exact ⟨x, by simpa using h1, h2⟩
theorem lt_size {n : Nat} (h : n ≤ 1000) : n ≤ sizeLine := Nat.le_of_lt (small1000 h)
theorem flat_ints (l : List Int) : (l.map V.int).all flatV = true := by
  rw [List.all_map]
  exact List.all_eq_true.mpr fun _ _ => rfl
theorem inV_ints (i : Int) : ∀ l : List Int, inV (.int i) (l.map V.int) = decide (i ∈ l)
  | [] => by simp [inV]
  | j :: l => by
    have ih := inV_ints i l
    unfold inV at ih ⊢
    rw [List.map_cons, List.any_cons, ih]
    have q : eqV (.int j) (.int i) = decide (j = i) := by
      show (j == i) = _
      by_cases z : j = i <;> simp [z]
    rw [q]
    by_cases e : i = j
    · subst e
      simp
    · have n1 : ¬ (j = i) := fun z => e z.symm
      simp [e, n1]
section
variable {P : Program} {w : World} {K : PySem.W.Frag} {mg : Str → Option Value} {base : Heap}
def spIsLot (Ps : List Addr) : Sp := fun vs H Q _ => ∃ (m : Int) (a : Addr) (l : List Int), vs = [.int m, .ref a] ∧ Ints H a l ∧ GoodLot m l ∧ Tb Ps H ∧ ∀ H', Gr Ps H H' → Q (.bl true) H'
theorem ok_isLot {f fB fA : Addr} {fd fdB fdA : FuncData} {k : Nat} {Ps : List Addr} (F : Fun K "is_lot_of_facts" "is_lot_of_facts" sIsLot f fd)
    (GB : FnOk P w K mg base CX0 (k + 4) fB fdB ["thing", "bound"] (spBelow Ps)) (gB : mg "are_integers_below" = some (.ref fB)) (kB : PySem.W.keepIn K (.ref fB) = true) (bB : Binds K fdB ["thing", "bound"] [])
    (GA : FnOk P w K mg base CX0 (k + 4) fA fdA ["integers"] (spAsc Ps)) (gA : mg "is_ascending" = some (.ref fA)) (kA : PySem.W.keepIn K (.ref fA) = true) (bA : Binds K fdA ["integers"] []) : FnOk P w K mg base CX0 (k + 5) f fd ["m", "thing"] (spIsLot Ps) := by
  refine F.ok scIsLot (fun vs H Q E h => ?_) (fun cdv A outer s H vs Q E hr h => ?_)
  · obtain ⟨m, a, l, rfl, _⟩ := h
    rfl
  · obtain ⟨m, a, l, rfl, hA, G, hT, q⟩ := h
    refine ⟨_, pss_one (ps_ret (pe_and (pe_call GB hr (by rfl) gB kB bB .nil pass0 (pa_cons (pv 1) (pa_cons (pv 0) pa_nil))) (pe_one (pe_call GA hr (by rfl) gA kA bA .nil pass0 (pa_cons (pv 1) pa_nil))))), ?_⟩
    exact ⟨_, rfl, _, rfl, a, l, m, rfl, hA, G.within, hT, fun H1 g1 => ⟨true, rfl, iteT ⟨_, rfl, a, l, rfl, g1.tup hA, G.few, G.rises, g1.t2, fun H2 g2 => q H2 (g1.trans g2)⟩⟩⟩
def spIsRule (Ps : List Addr) : Sp := fun vs H Q _ => ∃ (m : Int) (x : V) (r : Rule), vs = [.int m, x] ∧ RuleAt H r x ∧ GoodRule m r ∧ Tb Ps H ∧ ∀ H', Gr Ps H H' → Q (.bl true) H'
theorem ok_isRule {f fL fI : Addr} {fd fdL fdI : FuncData} {k : Nat} {Ps : List Addr} (F : Fun K "is_rule" "is_rule" sIsRule f fd)
    (GL : FnOk P w K mg base CX0 (k + 5) fL fdL ["m", "thing"] (spIsLot Ps)) (gL : mg "is_lot_of_facts" = some (.ref fL)) (kL : PySem.W.keepIn K (.ref fL) = true) (bL : Binds K fdL ["m", "thing"] [])
    (GI : FnOk P w K mg base CX0 (k + 5) fI fdI ["thing", "low", "high"] spFrom) (gI : mg "is_integer_from" = some (.ref fI)) (kI : PySem.W.keepIn K (.ref fI) = true) (bI : Binds K fdI ["thing", "low", "high"] [])
    (mi : mg "isinstance" = none) (mt : mg "tuple" = none) (ml : mg "len" = none) : FnOk P w K mg base CX0 (k + 6) f fd ["m", "thing"] (spIsRule Ps) := by
  refine F.ok scIsRule (fun vs H Q E h => ?_) (fun cdv A outer s H vs Q E hr h => ?_)
  · obtain ⟨m, x, r, rfl, _⟩ := h
    rfl
  · obtain ⟨m, x, r, rfl, ⟨t, la, rfl, ht, hA⟩, G, hT, q⟩ := h
    refine ⟨_, pss_cons (ps_if (PW.pt (pw_or (pt_not (pt_val (pe_callB call_isi (by rfl) mi (by decide +kernel) (pa_cons (pv 1) (pa_cons (pe_ty (n := "tuple") (by rfl) mt (by decide +kernel)) pa_nil)))))
        (pw_or1 (pt_cmpR op_ne (pe_callB call_len_seq (by rfl) ml PySem.boot_len (pa_cons (pv 1) pa_nil)) pe_int (nomark _))))) (pss_one (ps_ret pe_bl)) pss_nil) <|
      pss_cons (ps_asg (pv 1) (pg_tup (by rfl) (pgs_cons (pg_name (i := 2) scIsRule.nd rfl (.inl rfl)) (pgs_cons (pg_name (i := 3) scIsRule.nd rfl (.inl rfl)) pgs_nil)))) <|
      pss_one (ps_ret (pe_and (pe_call GL hr (by rfl) gL kL bL .nil pass0 (pa_cons (pv 0) (pa_cons (pv 2) pa_nil))) (pe_and (pe_call GI hr (by rfl) gI kI bI .nil pass0 (pa_cons (pv 3) (pa_cons pe_int (pa_cons (pe_op op_sub (pv 0) pe_int) pa_nil))))
        (pe_one (pe_cmpR op_notIn_seq (pv 3) (pv 2) (by rfl)))))), ?_⟩
    refine ⟨_, rfl, _, _, _, _, true, rfl, .ty _, .base (.tup ht), kit_ty (by decide +kernel), _, rfl, iteF ⟨_, rfl, t, _, rfl, .inr (.inl (.inl ht)), rfl, _, rfl, ?_⟩⟩
    refine iteF ⟨_, rfl, t, _, rfl, .inl (.inl ht), rfl, _, _, rfl, _, _, rfl, rfl, ?_⟩
    refine ⟨_, rfl, _, rfl, m, la, r.1, rfl, hA, G.ifs, hT, fun H1 g1 => ⟨true, rfl, iteT ⟨_, rfl, _, rfl, _, _, rfl, rfl, r.2, 0, m - 1, rfl, _, rfl, ?_⟩⟩⟩
    have b := G.fact
    rw [decide_eq_true (by omega), if_pos rfl]
    refine ⟨_, rfl, _, rfl, la, _, rfl, .inr (.inl (.inl (g1.tup hA))), rfl, flat_ints _, ?_⟩
    rw [inV_ints, decide_eq_false G.out]
    exact q H1 g1
def spReqN : Sp := fun vs H Q _ => ∃ m : Int, vs = [.int m] ∧ (1 ≤ m ∧ m ≤ 6) ∧ Q .non H
theorem ok_reqN {f fI : Addr} {fd fdI : FuncData} {k : Nat} {tk : Tok} (F : Fun K "require_number" "require_number" sReqN f fd)
    (GI : FnOk P w K mg base CX0 (k + 2) fI fdI ["thing", "low", "high"] spFrom) (gI : mg "is_integer_from" = some (.ref fI)) (kI : PySem.W.keepIn K (.ref fI) = true) (bI : Binds K fdI ["thing", "low", "high"] [])
    (gM : mg "MOST_FACTS" = some (.int 6 tk)) : FnOk P w K mg base CX0 (k + 3) f fd ["m"] spReqN := by
  refine F.ok scReqN (fun vs H Q E h => ?_) (fun cdv A outer s H vs Q E hr h => ?_)
  · obtain ⟨m, rfl, _⟩ := h
    rfl
  · obtain ⟨m, rfl, b, q⟩ := h
    refine ⟨_, pss_one (ps_if (pt_not (pt_val (pe_call GI hr (by rfl) gI kI bI .nil pass0 (pa_cons (pv 0) (pa_cons pe_int (pa_cons (pe_glob (v := .int 6) rfl gM ⟨_, rfl⟩) pa_nil)))))) (pss_one ps_never) pss_nil), ?_⟩
    refine ⟨_, rfl, m, 1, 6, rfl, _, rfl, ?_⟩
    rw [decide_eq_true b]
    exact iteF q
def spAreRules (Ps : List Addr) : Sp := fun vs H Q _ => ∃ (m : Int) (a : Addr) (rs : List Rule), vs = [.int m, .ref a] ∧ RulesAt H a rs ∧ GoodRules m rs ∧ (1 ≤ m ∧ m ≤ 6) ∧ Tb Ps H ∧ ∀ H', Gr Ps H H' → Q (.bl true) H'
theorem ok_areRules {f fR fN c P' : Addr} {fd fdR fdN : FuncData} {k : Nat} {Ps : List Addr} {tk : Tok} (F : Fun K "are_rules" "are_rules" sAreRules f fd) (hc : fd.code = .ref c) (TB : GxR.TabB base mg c P') (hP : P' ∈ Ps)
    (GR : FnOk P w K mg base CX0 (k + 6) fR fdR ["m", "thing"] (spIsRule Ps)) (gR : mg "is_rule" = some (.ref fR)) (kR : PySem.W.keepIn K (.ref fR) = true) (bR : Binds K fdR ["m", "thing"] [])
    (GN : FnOk P w K mg base CX0 (k + 7) fN fdN ["m"] spReqN) (gN : mg "require_number" = some (.ref fN)) (kN : PySem.W.keepIn K (.ref fN) = true) (bN : Binds K fdN ["m"] [])
    (mi : mg "isinstance" = none) (mt : mg "tuple" = none) (ml : mg "len" = none) (ma : mg "all" = none) (gM : mg "MOST_RULES" = some (.int 8 tk)) : FnOk P w K mg base CX0 (k + 8) f fd ["m", "thing"] (spAreRules Ps) := by
  refine Fun.okC F hc scAreRules (fun vs H Q E h => ?_) (fun A outer s H vs Q E hr h => ?_)
  · obtain ⟨m, a, rs, rfl, _⟩ := h
    rfl
  · obtain ⟨m, a, rs, rfl, ⟨xs, hA, hX⟩, G, hm, hT, q⟩ := h
    refine ⟨_, pss_cons (ps_expr (pe_call GN hr (by rfl) gN kN bN .nil pass0 (pa_cons (pv 0) pa_nil))) <|
      pss_cons (ps_if (PW.pt (pw_or (pt_not (pt_val (pe_callB call_isi (by rfl) mi (by decide +kernel) (pa_cons (pv 1) (pa_cons (pe_ty (n := "tuple") (by rfl) mt (by decide +kernel)) pa_nil)))))
        (pw_or1 (pt_cmpR op_gt (pe_callB call_len_seq (by rfl) ml PySem.boot_len (pa_cons (pv 1) pa_nil)) (pe_glob (v := .int 8) rfl gM ⟨_, rfl⟩) (nomark _))))) (pss_one (ps_ret pe_bl)) pss_nil) <|
      pss_one (ps_ret (GE.pe_allG (own := [("rule", 2)]) (g := gName 2) (tt := tYes) rfl scAreRules.nd hr (by rfl) ma (by decide +kernel) TB rfl (pi_tup (pv 1)) (blkOk_by (own := [("rule", 2)]) (N := nAreRules) (sc := defScope sAreRules) (by decide +kernel)) (by decide +kernel) rfl rfl
        (fun _ _ _ _ _ _ _ => pg_name (i := 2) scAreRules.nd rfl (Or.inl rfl)) (fun _ _ _ _ _ _ _ => pts_nil)
        (fun _ _ _ _ _ _ hr' => pe_call GR hr' (by rfl) gR kR bR .nil pass0 (pa_cons (pv 0) (pa_cons (pv 2) pa_nil))))), ?_⟩
    have len : xs.length = rs.length := (Paired.length hX).symm
    refine ⟨_, rfl, m, rfl, hm, ?_⟩
    refine ⟨_, rfl, _, _, _, _, true, rfl, .ty _, .base (.tup hA), kit_ty (by decide +kernel), _, rfl, iteF ⟨_, rfl, a, _, rfl, .inr (.inl (.inl hA)), _, _, rfl, rfl, _, rfl, ?_⟩⟩
    have few := G.few
    rw [len, decide_eq_false (by omega)]
    refine iteF ⟨_, rfl, a, rfl, ⟨_, .inl (.inl hA)⟩, hT _ hP, fun H2 tb => ?_⟩
    have g2 := Gr.of hT hP tb
    refine all_it (walk_tup (xs := xs)) (fun i H' => Gr Ps H H') g2 (fun i H' _ g => .inl (.inl (g.tup hA))) ?_ (fun H' g => q H' g)
    rintro i x H' _ hi g ⟨rfl, ex⟩
    obtain ⟨r, hr2, hx⟩ := paired_get hX ex
    refine ⟨rfl, ?_⟩
    rw [tYes_is, if_pos rfl]
    exact ⟨_, rfl, _, rfl, m, x, r, rfl, g.rule hx, G.all r (List.mem_of_getElem? hr2), g.t2, fun H3 g3 => ⟨true, rfl, iteT (g.trans g3)⟩⟩
def spReqR (Ps : List Addr) : Sp := fun vs H Q _ => ∃ (m : Int) (a : Addr) (rs : List Rule), vs = [.int m, .ref a] ∧ RulesAt H a rs ∧ GoodRules m rs ∧ (1 ≤ m ∧ m ≤ 6) ∧ Tb Ps H ∧ ∀ H', Gr Ps H H' → Q .non H'
theorem ok_reqR {f fA : Addr} {fd fdA : FuncData} {k : Nat} {Ps : List Addr} (F : Fun K "require_rules" "require_rules" sReqR f fd)
    (GA : FnOk P w K mg base CX0 (k + 8) fA fdA ["m", "thing"] (spAreRules Ps)) (gA : mg "are_rules" = some (.ref fA)) (kA : PySem.W.keepIn K (.ref fA) = true) (bA : Binds K fdA ["m", "thing"] []) : FnOk P w K mg base CX0 (k + 9) f fd ["m", "rules"] (spReqR Ps) := by
  refine F.ok scReqR (fun vs H Q E h => ?_) (fun cdv A outer s H vs Q E hr h => ?_)
  · obtain ⟨m, a, rs, rfl, _⟩ := h
    rfl
  · obtain ⟨m, a, rs, rfl, hA, G, hm, hT, q⟩ := h
    refine ⟨_, pss_one (ps_if (pt_not (pt_val (pe_call GA hr (by rfl) gA kA bA .nil pass0 (pa_cons (pv 0) (pa_cons (pv 1) pa_nil))))) (pss_one ps_never) pss_nil), ?_⟩
    exact ⟨_, rfl, _, rfl, m, a, rs, rfl, hA, G, hm, hT, fun H1 g1 => ⟨true, rfl, iteF (q H1 g1)⟩⟩
def spReqL (Ps : List Addr) : Sp := fun vs H Q _ => ∃ (m : Int) (a b : Addr) (rs : List Rule) (l : List Int), vs = [.int m, .ref a, .ref b] ∧ RulesAt H a rs ∧ Ints H b l ∧ GoodRules m rs ∧ GoodLot m l ∧ (1 ≤ m ∧ m ≤ 6) ∧ Tb Ps H ∧ ∀ H', Gr Ps H H' → Q .non H'
theorem ok_reqL {f fR fL : Addr} {fd fdR fdL : FuncData} {k : Nat} {Ps : List Addr} (F : Fun K "require_lot" "require_lot" sReqL f fd)
    (GR : FnOk P w K mg base CX0 (k + 9) fR fdR ["m", "rules"] (spReqR Ps)) (gR : mg "require_rules" = some (.ref fR)) (kR : PySem.W.keepIn K (.ref fR) = true) (bR : Binds K fdR ["m", "rules"] [])
    (GL : FnOk P w K mg base CX0 (k + 9) fL fdL ["m", "thing"] (spIsLot Ps)) (gL : mg "is_lot_of_facts" = some (.ref fL)) (kL : PySem.W.keepIn K (.ref fL) = true) (bL : Binds K fdL ["m", "thing"] []) : FnOk P w K mg base CX0 (k + 10) f fd ["m", "rules", "lot"] (spReqL Ps) := by
  refine F.ok scReqL (fun vs H Q E h => ?_) (fun cdv A outer s H vs Q E hr h => ?_)
  · obtain ⟨m, a, b, rs, l, rfl, _⟩ := h
    rfl
  · obtain ⟨m, a, b, rs, l, rfl, hA, hB, G, GL', hm, hT, q⟩ := h
    refine ⟨_, pss_cons (ps_expr (pe_call GR hr (by rfl) gR kR bR .nil pass0 (pa_cons (pv 0) (pa_cons (pv 1) pa_nil)))) <|
      pss_one (ps_if (pt_not (pt_val (pe_call GL hr (by rfl) gL kL bL .nil pass0 (pa_cons (pv 0) (pa_cons (pv 2) pa_nil))))) (pss_one ps_never) pss_nil), ?_⟩
    exact ⟨_, rfl, _, rfl, m, a, rs, rfl, hA, G, hm, hT, fun H1 g1 => ⟨_, rfl, _, rfl, m, b, l, rfl, g1.tup hB, GL', g1.t2, fun H2 g2 => ⟨true, rfl, iteF (q H2 (g1.trans g2))⟩⟩⟩
end
end EX

-- R3
set_option Elab.async false
set_option linter.all false
set_option maxRecDepth 100000
set_option maxHeartbeats 4000000
/-! lots asked -/
namespace EX
open PySem PySem.Spec PyProof.Rows L2
abbrev sHas : Stmt := top 19
abbrev sClosed : Stmt := top 20
def nHas : List Str := ["lot", "facts", "fact"]
def nClosed : List Str := ["rules", "lot", "ifs", "fact"]
theorem scHas : FnScope nHas ["lot", "facts"] (defScope sHas) := ⟨rfl, rfl, rfl, by decide +kernel, rfl, by decide +kernel, by decide +kernel⟩
theorem scClosed : FnScope nClosed ["rules", "lot"] (defScope sClosed) := ⟨rfl, rfl, rfl, by decide +kernel, rfl, by decide +kernel, by decide +kernel⟩
def hasB (la lb : List Int) : Bool := lb.all fun x => decide (x ∈ la)
def closedB (rs : List Rule) (l : List Int) : Bool := rs.all fun r => decide (r.2 ∈ l) || !hasB l r.1
/-- a list or a tuple of whole numbers -/
def SeqI (H : Hp) (a : Addr) (l : List Int) : Prop := H a = some (.lst (l.map V.int)) ∨ H a = some (.tup (l.map V.int))
theorem Gr.seqI {Ps : List Addr} {H H' : Hp} {a : Addr} {l : List Int} (g : Gr Ps H H') (h : SeqI H a l) : SeqI H' a l := h.elim (fun z => .inl (g.lst z)) fun z => .inr (g.tup z)
theorem SeqI.sq {K : PySem.W.Frag} {H : Hp} {a : Addr} {l : List Int} (h : SeqI H a l) : SqL K H a (l.map V.int) ∨ SqT K H a (l.map V.int) := h.elim (fun z => .inl (.inl (.inl z))) fun z => .inr (.inl (.inl z))
theorem ints_get {l : List Int} {i : Nat} {x : V} (ex : (l.map V.int)[i]? = some x) : ∃ z, l[i]? = some z ∧ x = V.int z := by
  rw [List.getElem?_map] at ex
  cases e : l[i]? with
  | none =>
    rw [e] at ex
    cases ex
  | some z =>
    rw [e] at ex
    exact ⟨z, rfl, (Option.some.inj ex).symm⟩
theorem take_snoc {α : Type} {l : List α} {i : Nat} {x : α} (h : l[i]? = some x) : l.take (i + 1) = l.take i ++ [x] := by
  rw [List.take_add_one, h]
  rfl
theorem all_false {α : Type} {p : α → Bool} {l : List α} {i : Nat} {x : α} (h : l[i]? = some x) (e : p x = false) : l.all p = false := by
  cases c : l.all p with
  | false => rfl
  | true =>
    have := List.all_eq_true.mp c x (List.mem_of_getElem? h)
    rw [e] at this
    cases this
theorem all_snoc {α : Type} {p : α → Bool} {l : List α} {i : Nat} {x : α} (h : l[i]? = some x) (c : (l.take i).all p = true) (e : p x = true) : (l.take (i + 1)).all p = true := by
  rw [take_snoc h, List.all_append, c]
  simp [e]
section
variable {P : Program} {w : World} {K : PySem.W.Frag} {mg : Str → Option Value} {base : Heap}
def spHas (Ps : List Addr) : Sp := fun vs H Q _ => ∃ (a b : Addr) (la lb : List Int), vs = [.ref a, .ref b] ∧ SeqI H a la ∧ Ints H b lb ∧ Tb Ps H ∧ ∀ H', Gr Ps H H' → Q (.bl (hasB la lb)) H'
theorem ok_has {f c P' : Addr} {fd : FuncData} {k : Nat} {Ps : List Addr} (F : Fun K "has_all" "has_all" sHas f fd) (hc : fd.code = .ref c) (TB : GxR.TabB base mg c P') (hP : P' ∈ Ps) (ma : mg "all" = none) : FnOk P w K mg base CX0 (k + 2) f fd ["lot", "facts"] (spHas Ps) := by
  refine Fun.okC F hc scHas (fun vs H Q E h => ?_) (fun A outer s H vs Q E hr h => ?_)
  · obtain ⟨a, b, la, lb, rfl, _⟩ := h
    rfl
  · obtain ⟨a, b, la, lb, rfl, hA, hB, hT, q⟩ := h
    refine ⟨_, pss_one (ps_ret (GE.pe_allG (own := [("fact", 2)]) (g := gName 2) (tt := tYes) (te := tOp (rIn K false) (tVar 2) (tVar 0)) rfl scHas.nd hr (by rfl) ma (by decide +kernel) TB rfl (pi_tup (pv 1)) (blkOk_by (own := [("fact", 2)]) (N := nHas) (sc := defScope sHas) (by decide +kernel)) (by decide +kernel) rfl rfl
        (fun _ _ _ _ _ _ _ => pg_name (i := 2) scHas.nd rfl (Or.inl rfl)) (fun _ _ _ _ _ _ _ => pts_nil)
        (fun _ _ _ _ _ _ _ => pe_cmpR op_in_seq (pv 2) (pv 0) (by rfl)))), ?_⟩
    refine ⟨_, rfl, b, rfl, ⟨_, .inl (.inl hB)⟩, hT _ hP, fun H2 tb => ?_⟩
    have g2 := Gr.of hT hP tb
    refine all_it (walk_tup (xs := lb.map V.int)) (fun i H' => Gr Ps H H' ∧ (lb.take i).all (fun x => decide (x ∈ la)) = true) ⟨g2, rfl⟩ (fun i H' _ g => .inl (.inl (g.1.tup hB))) ?_ (fun H' g => ?_)
    · rintro i x H' _ hi ⟨g, t⟩ ⟨rfl, ex⟩
      obtain ⟨z, hz, rfl⟩ := ints_get ex
      refine ⟨rfl, ?_⟩
      rw [tYes_is, if_pos rfl]
      refine ⟨_, rfl, _, rfl, a, _, rfl, (g.seqI hA).sq, rfl, flat_ints _, _, rfl, ?_⟩
      rw [inV_ints]
      by_cases m : z ∈ la
      · exact ifT (by simpa using m) ⟨g, all_snoc hz t (decide_eq_true m)⟩
      · refine ifF (by simpa using m) ?_
        have e : hasB la lb = false := all_false hz (decide_eq_false m)
        have q' := q _ g
        rw [e] at q'
        exact q'
    · have e : hasB la lb = true := by
        have t := g.2
        rw [List.length_map, List.take_length] at t
        exact t
      have q' := q _ g.1
      rw [e] at q'
      exact q'
def spClosed (Ps : List Addr) : Sp := fun vs H Q _ => ∃ (a b : Addr) (rs : List Rule) (l : List Int), vs = [.ref a, .ref b] ∧ RulesAt H a rs ∧ Ints H b l ∧ Tb Ps H ∧ ∀ H', Gr Ps H H' → Q (.bl (closedB rs l)) H'
theorem ok_closed {f fH c P' : Addr} {fd fdH : FuncData} {k : Nat} {Ps : List Addr} (F : Fun K "is_closed" "is_closed" sClosed f fd) (hc : fd.code = .ref c) (TB : GxR.TabB base mg c P') (hP : P' ∈ Ps) (ma : mg "all" = none)
    (GH : FnOk P w K mg base CX0 (k + 2) fH fdH ["lot", "facts"] (spHas Ps)) (gH : mg "has_all" = some (.ref fH)) (kH : PySem.W.keepIn K (.ref fH) = true) (bH : Binds K fdH ["lot", "facts"] []) : FnOk P w K mg base CX0 (k + 4) f fd ["rules", "lot"] (spClosed Ps) := by
  refine Fun.okC F hc scClosed (fun vs H Q E h => ?_) (fun A outer s H vs Q E hr h => ?_)
  · obtain ⟨a, b, rs, l, rfl, _⟩ := h
    rfl
  · obtain ⟨a, b, rs, l, rfl, ⟨xs, hA, hX⟩, hB, hT, q⟩ := h
    refine ⟨_, pss_one (ps_ret (GE.pe_allG (own := [("ifs", 2), ("fact", 3)]) (g := gTup K 2 (gCons (gName 2) (gCons (gName 3) gNil))) (tt := tYes) (te := tOrV (tOp (rIn K false) (tVar 3) (tVar 1)) (tNotV (tCall (spHas Ps) [] E0 (tCons (tVar 1) (tCons (tVar 2) tNil))))) rfl scClosed.nd hr (by rfl) ma (by decide +kernel) TB rfl (pi_tup (pv 0)) (blkOk_by (own := [("ifs", 2), ("fact", 3)]) (N := nClosed) (sc := defScope sClosed) (by decide +kernel)) (by decide +kernel) rfl rfl
        (fun _ _ _ _ _ _ _ => pg_tup (by rfl) (pgs_cons (pg_name (i := 2) scClosed.nd rfl (.inl rfl)) (pgs_cons (pg_name (i := 3) scClosed.nd rfl (.inl rfl)) pgs_nil))) (fun _ _ _ _ _ _ _ => pts_nil)
        (fun _ _ _ _ _ _ hr' => pe_or (pe_cmpR op_in_seq (pv 3) (pv 1) (by rfl)) (pe_one (pe_not (pe_call GH hr' (by rfl) gH kH bH .nil pass0 (pa_cons (pv 1) (pa_cons (pv 2) pa_nil)))))))), ?_⟩
    refine ⟨_, rfl, a, rfl, ⟨_, .inl (.inl hA)⟩, hT _ hP, fun H2 tb => ?_⟩
    have g2 := Gr.of hT hP tb
    have len : xs.length = rs.length := (Paired.length hX).symm
    refine all_it (walk_tup (xs := xs)) (fun i H' => Gr Ps H H' ∧ (rs.take i).all (fun r => decide (r.2 ∈ l) || !hasB l r.1) = true) ⟨g2, rfl⟩ (fun i H' _ g => .inl (.inl (g.1.tup hA))) ?_ (fun H' g => ?_)
    · rintro i x H' _ hi ⟨g, t⟩ ⟨rfl, ex⟩
      obtain ⟨r, hr2, hx⟩ := paired_get hX ex
      obtain ⟨tr, li, rfl, ht, hI⟩ := g.rule hx
      refine ⟨tr, _, rfl, .inl (.inl ht), rfl, _, _, rfl, _, _, rfl, rfl, rfl, ?_⟩
      rw [tYes_is, if_pos rfl]
      refine ⟨_, rfl, _, rfl, b, _, rfl, .inr (.inl (.inl (g.tup hB))), rfl, flat_ints _, _, rfl, ?_⟩
      rw [inV_ints]
      by_cases m : r.2 ∈ l
      · refine ifT (by simpa using m) ⟨true, rfl, iteT ⟨g, all_snoc hr2 t (by simp [m])⟩⟩
      · refine ifF (by simpa using m) ⟨_, rfl, _, rfl, b, li, l, r.1, rfl, .inr (g.tup hB), hI, g.t2, fun H3 g3 => ⟨_, rfl, _, rfl, ?_⟩⟩
        by_cases hh : hasB l r.1 = true
        · refine ifF (by rw [hh]; rfl) ?_
          have e : closedB rs l = false := all_false hr2 (by simp [m, hh])
          have q' := q _ (g.trans g3)
          rw [e] at q'
          exact q'
        · exact ifT (by simpa using hh) ⟨g.trans g3, all_snoc hr2 t (by simp [hh])⟩
    · have e : closedB rs l = true := by
        have t := g.2
        rw [len, List.take_length] at t
        exact t
      have q' := q _ g.1
      rw [e] at q'
      exact q'
end
end EX

-- R4
set_option Elab.async false
set_option linter.all false
set_option maxRecDepth 100000
set_option maxHeartbeats 4000000
/-! enumerate of a tuple -/
namespace EX
open PySem PySem.Spec PyProof.Rows L2
/-- the iterator that enumerate asks a tuple for -/
abbrev tIt (l : Addr) : Obj := { cls := .type "tuple_iterator", data := .fields #[.ref l, .int 0 0] }
/-- enumerate's own record -/
abbrev enO (it : Addr) : Obj := { cls := .type "enumerate", data := .fields #[.none, .bool false, .ref it, rawInt 0, .none, .none] }
theorem enumT_new (l : Addr) (xs : Array Value) : Meets (Builtin.«enumerate.__new__» ⟨[.type "enumerate", .ref l], []⟩) (fun _ R s => s.heap.IsTuple l xs ∧ R (.ok (.ret (.ref (s.heap.push (tIt l)).objs.size))) { s with heap := (s.heap.push (tIt l)).push (enO s.heap.objs.size) }) :=
  .of_wp fun prog w A R s z => by
    obtain ⟨hh, gg, dd, tt, oo⟩ := s
    obtain ⟨hT, z⟩ := z
    have isE := sub_enumerate
    have go : ∀ {B : Around} {E : Value → Shared → Prop} {Q : Value → Shared → Prop}, Q (.ref hh.objs.size) ⟨hh.push (tIt l), gg, dd, tt, oo⟩ → wpAny (model prog w) B (pyIter (.ref l)) Q E ⟨hh, gg, dd, tt, oo⟩ := fun q => wpAny_pyIter_tuple (s := ⟨hh, gg, dd, tt, oo⟩) hT q
    wp_walk using go
    refine wpAny_stack_any fun st => wpAny_pure ?_
    split
    · rename_i cc _ _ _ _ _
      cases (cc == Value.type "enumerate")
      · wp_walk using go
        exact ⟨_, rfl, z⟩
      · wp_walk using go
        exact ⟨_, rfl, z⟩
    · wp_walk using go
      exact ⟨_, rfl, z⟩
theorem call_enumT {prog : Program} {w : World} {A : Around} {E : Value → Shared → Prop} {s : Shared} {l : Addr} {xs : Array Value} {Q : Value → Shared → Prop} (hT : s.heap.IsTuple l xs)
    (q : ∀ h1, IsEnum h1 (s.heap.objs.size + 1) s.heap.objs.size 0 .none → h1.IsTupleIter s.heap.objs.size l 0 → (∀ b o, s.heap.get? b = some o → h1.get? b = some o) → Q (.ref (s.heap.objs.size + 1)) { s with heap := h1 }) :
    wpAny (model prog w) A (call (.type "enumerate") [.ref l]) Q E s := by
  have z2 : (s.heap.push (tIt l)).objs.size = s.heap.objs.size + 1 := Heap.size_push ..
  refine callType_new F.called_enumerate (by decide) (F.typeCall_enumerate_1 _) (F.newCall_enumerate_1 _) (fun obj => F.args_object_init_2 obj _) F.entry_enumerate_new (enumT_new l xs) ⟨hT, ?_⟩
  show _ ∧ _
  rw [z2]
  have e1 : IsEnum ((s.heap.push (tIt l)).push (enO s.heap.objs.size)) (s.heap.objs.size + 1) s.heap.objs.size 0 .none := by
    have z := Heap.get?_push_size (s.heap.push (tIt l)) (o := enO s.heap.objs.size) rfl
    rw [z2] at z
    exact z
  exact ⟨⟨_, e1, rfl⟩, q _ e1 ⟨_, Heap.get?_push_of_some _ (Heap.get?_push_size _ rfl), rfl, rfl⟩ fun b o x => Heap.get?_push_of_some _ (Heap.get?_push_of_some _ x)⟩
/-- the items of the tuple at a in new pairs -/
def ItE (K : PySem.W.Frag) (a : Addr) : It where
  go := fun i H => ∃ (xs : List V) (x : V), SqT K H a xs ∧ xs[i]? = some x
  yld := fun i H v H' => ∃ T x, v = .ref T ∧ H T = none ∧ H' = upd H T (.tup [.int (i : Nat), x]) ∧ ∀ xs, SqT K H a xs → xs[i]? = some x
  stop := fun i H => ∃ xs : List V, SqT K H a xs ∧ xs.length = i
theorem turn_enumT {P : Program} {w : World} {K : PySem.W.Frag} {elts : List Expr} {kk : Nat} {tpos : Pos} (a e it : Addr) :
    Turn P w K (.Tuple elts kk tpos) (ItE K a) [e, it] e (fun i h => (∃ old, IsEnum h e it ((i : Nat) : Int) old) ∧ h.IsTupleIter it a i ∧ e ≠ it) where
  mem := by simp
  obj := fun i h st b hb => by
    obtain ⟨⟨old, he⟩, ⟨o, ho, hc, hd⟩, _⟩ := st
    rcases List.mem_cons.mp hb with z | z
    · rw [z]
      exact ⟨_, he, fun v q => by cases q⟩
    · exact ⟨o, by rw [List.mem_singleton.mp z]; exact ho, fun v q => by rw [hd] at q; cases q⟩
  keep := fun i h h' st k => by
    obtain ⟨⟨old, he⟩, hi, ne⟩ := st
    exact ⟨⟨old, k e (by simp) _ he⟩, hi.at fun o q => k it (by simp) o q, ne⟩
  item := by
    intro X hP hw hK hc i pins s σ H E I hf st hg
    subst hP hw hK
    obtain ⟨⟨old, he⟩, hit, ne⟩ := st
    obtain ⟨xs, x, hq, hx⟩ := hg
    obtain ⟨its, rv, p, hz⟩ := I.tuple hq
    obtain ⟨u, hu, ru⟩ := rv.get hx
    have el : e < s.heap.objs.size := Heap.lt_size he
    have il : it < s.heap.objs.size := by
      obtain ⟨_, q, _⟩ := hit
      exact Heap.lt_size q
    have pT : s.heap.IsTuple a its.toArray := p
    have ai : a ≠ it := fun z => by
      obtain ⟨o1, h1, c1, d1⟩ := hit
      obtain ⟨o2, h2, c2, n2, d2⟩ := pT
      rw [z, h1] at h2
      cases h2
      rw [d1] at d2
      cases d2
    have ae : e ∉ [it, a] := fun z => by
      rcases List.mem_cons.mp z with z | z
      · exact ne z
      · obtain ⟨o2, h2, c2, n2, d2⟩ := pT
        rw [← List.mem_singleton.mp z, he] at h2
        cases h2
        cases d2
    have lt : i < its.toArray.size := by
      have := (List.getElem?_eq_some_iff.mp hu).1
      simpa using this
    refine wpAny_pyNext_enum_itemD (Draws.tuple (A := X.A.in1) (I.ok.hd hc) it a ai its.toArray) he ⟨hit, pT⟩ lt ne ae fun u' h' tk hP ho st' hT hsz hk => ?_
    have eu : u' = u := by
      have z : its.toArray[i]? = some u := by simpa using hu
      rw [z] at hP
      exact (Option.some.inj hP).symm
    subst eu
    refine ⟨_, rfl, wpAny_letOwnedTupleGo_enum (s := { s with heap := h', toks := tk + 1 }) ho fun h2 he2 sb => ?_⟩
    have hT2 := (sb.2 _ (Nat.ne_of_gt el)).trans hT
    have I1 : Inv X pins σ (upd H s.heap.objs.size (.tup [.int (i : Nat), x])) { s with heap := h2, toks := tk + 1 } :=
      I.turnedNew (ch := [e, it]) (fun b ob hb q => (sb.2 b (fun z => hb (by simp [z]))).trans (hk b ob (fun z => hb (by simp [z])) (fun z => hb (by simp [z])) q)) hf (Nat.le_refl _)
        ⟨by show 2 ≤ sizeLine; decide, [.int i tk, u'], .cons ⟨_, rfl⟩ (.cons ru .nil), ⟨_, hT2, rfl, _, rfl⟩⟩
    refine ⟨.ref s.heap.objs.size, _, I1, rfl, ⟨_, x, rfl, I.hok.fresh (Nat.le_refl _), rfl, fun ys hy => by rw [I.tuple_inj hy hq]; exact hx⟩, ⟨⟨u', ?_⟩, st'.1.at fun o q => (sb.2 it (Ne.symm ne)).trans q, ne⟩, fun b hb => ?_⟩
    · rw [show ((i + 1 : Nat) : Int) = (i : Int) + 1 by omega]
      exact he2
    · have lb : b < s.heap.objs.size := by
        rcases List.mem_cons.mp hb with z | z
        · rw [z]; exact el
        · rw [List.mem_singleton.mp z]; exact il
      rw [upd_ne (Nat.ne_of_lt lb)]
      exact (hf b hb).1
  done := by
    intro X hP hw hK hc i pins s σ H E I hf st hg
    subst hP hw hK
    obtain ⟨⟨old, he⟩, hit, ne⟩ := st
    obtain ⟨xs, hq, hx⟩ := hg
    obtain ⟨its, rv, p, hz⟩ := I.tuple hq
    obtain ⟨f0, f1, f2, f3, f4, f5⟩ := hf it (by simp)
    have pT : s.heap.IsTuple a its.toArray := p
    have ai : a ≠ it := fun z => by
      obtain ⟨o1, h1, c1, d1⟩ := hit
      obtain ⟨o2, h2, c2, n2, d2⟩ := pT
      rw [z, h1] at h2
      cases h2
      rw [d1] at d2
      cases d2
    have li : its.toArray.size = i := by
      rw [List.size_toArray, ← rv.length]
      exact hx
    have D := Draws.tuple (prog := X.prog) (w := X.w) (A := X.A.in1) (I.ok.hd hc) it a ai its.toArray
    refine wpAny_pyNext_enum_endD D he (by rw [li]; exact ⟨hit, pT⟩) fun h' eb => ⟨rfl, I.turned (t' := s.toks) (fun b o hb q => eb b o hb q) f0 f1 f3 f4 f5⟩
  self := fun A i s Q E st h => by
    obtain ⟨⟨_, he⟩, _⟩ := st
    exact wpAny_pyIter_enum he h
def iEnT (K : PySem.W.Frag) (ta : TA) : TI := fun σ H R => ta σ H fun vs H1 => ∃ a xs, vs = [.ref a] ∧ SqT K H1 a xs ∧ R (ItE K a) H1
theorem pi_enumT {X : Cx} {e : Expr} {ta : TA} {p pos tpos : Pos} {elts : List Expr} {kk : Nat} (hg : Gl X "enumerate") (hm : X.mg "enumerate" = none) (ha : PA X [e] ta) (hs : starEach [e] X.env = [(false, eval e X.env)] := by rfl) :
    PI X (.Tuple elts kk tpos) (.Call (.Name "enumerate" p) [e] [] pos) (iEnT X.K ta) := by
  refine ⟨fun pins s σ H R I h => ?_⟩
  refine Call_ (ld_blt I hg hm boot_enumerate (PyProof.Rows.callWith_type1 (thn (ha.run pos pins s σ H _ I h) fun us s1 ⟨vs, H1, I1, r1, q1⟩ => ?_) hs rfl))
  obtain ⟨a, xs, rfl, hq, q⟩ := q1
  cases r1 with
  | cons r rr =>
    cases rr
    cases r
    obtain ⟨its, rv, p', hz⟩ := I1.tuple hq
    refine call_enumT (xs := its.toArray) p' fun h' he hit hk => wpAny_pyIter_enum he ?_
    have I2 : Inv X pins σ H1 { s1 with heap := h' } := I1.kept (t' := s1.toks) hk
    refine ⟨s1.heap.objs.size + 1, [s1.heap.objs.size + 1, s1.heap.objs.size], _, _, H1, rfl, I2, turn_enumT a (s1.heap.objs.size + 1) s1.heap.objs.size, ⟨⟨.none, he⟩, hit, Nat.succ_ne_self _⟩, fun b hb => ?_, q⟩
    have le : s1.heap.objs.size ≤ b := by
      rcases List.mem_cons.mp hb with z | z
      · rw [z]; exact Nat.le_succ _
      · rw [List.mem_singleton.mp z]; exact Nat.le_refl _
    exact I1.fpOk le (I1.hok.fresh le)
theorem walk_enumT {K : PySem.W.Frag} {a : Addr} {xs : List V} : Walk (ItE K a) xs.length (fun H => SqT K H a xs) (YPair (fun i => some (.int (i : Nat))) (fun i => xs[i]?)) := by
  refine ⟨fun i _ hi q => ⟨xs, xs[i], q, by simp [hi]⟩, fun _ q => ⟨xs, q, rfl⟩, fun i H v H' _ q y => ?_⟩
  obtain ⟨T, x, h1, h2, h3, h4⟩ := y
  exact ⟨T, .int (i : Nat), x, h1, h2, h3, rfl, h4 xs q⟩
end EX

-- R5
set_option Elab.async false
set_option linter.all false
set_option maxRecDepth 100000
set_option maxHeartbeats 4000000
/-! closures, in plain Lean -/
namespace EX
open PySem PySem.Spec PyProof.Rows L2
/-- closed under the rules -/
def Shut (rs : List Rule) (d : List Int) : Prop := ∀ r ∈ rs, (∀ x ∈ r.1, x ∈ d) → r.2 ∈ d
theorem hasB_iff {la lb : List Int} : hasB la lb = true ↔ ∀ x ∈ lb, x ∈ la := by
  unfold hasB
  rw [List.all_eq_true]
  exact ⟨fun h x m => of_decide_eq_true (h x m), fun h x m => decide_eq_true (h x m)⟩
theorem closedB_iff {rs : List Rule} {d : List Int} : closedB rs d = true ↔ Shut rs d := by
  unfold closedB Shut
  rw [List.all_eq_true]
  constructor
  · intro h r m hx
    have q := h r m
    rw [hasB_iff.mpr hx] at q
    simpa using q
  · intro h r m
    by_cases c : hasB d r.1 = true
    · simp [h r m (hasB_iff.mp c)]
    · simp [c]
/-- the facts that steps put -/
def factsOf (rs : List Rule) (fs : List Nat) : List Int := fs.map fun n => (rs.getD n ([], 0)).2
structure SI (rs : List Rule) (l : List Int) (fs : List Nat) : Prop where
  bound : ∀ n ∈ fs, n < rs.length
  sound : ∀ d, (∀ x ∈ l, x ∈ d) → Shut rs d → ∀ x ∈ factsOf rs fs, x ∈ d
  nd : (l ++ factsOf rs fs).Nodup
  cnt : fs.length + rs.countP (fun r => decide (r.2 ∉ l ++ factsOf rs fs)) ≤ rs.length
theorem countP_less {α : Type} {p q : α → Bool} : ∀ {l : List α}, (∀ x ∈ l, q x = true → p x = true) → (∃ x ∈ l, p x = true ∧ q x = false) → l.countP q + 1 ≤ l.countP p
  | [], _, ⟨x, m, _⟩ => by simp at m
  | y :: l, h, ⟨x, m, hp, hq⟩ => by
    have mono : l.countP q ≤ l.countP p := by
      refine List.countP_mono_left fun z mz => h z (List.mem_cons_of_mem _ mz)
    rw [List.countP_cons, List.countP_cons]
    rcases List.mem_cons.mp m with e | m
    · subst e
      rw [hp, hq]
      simp
      exact mono
    · have ih := countP_less (l := l) (fun z mz => h z (List.mem_cons_of_mem _ mz)) ⟨x, m, hp, hq⟩
      have hy := h y List.mem_cons_self
      by_cases c : q y = true
      · rw [c, hy c]
        simp
        omega
      · have c' : q y = false := by simpa using c
        rw [c']
        simp
        omega
theorem SI.nil {rs : List Rule} {l : List Int} (nd : l.Nodup) : SI rs l [] := by
  refine ⟨fun n m => by simp at m, fun d _ _ x m => by simp [factsOf] at m, by simpa [factsOf] using nd, ?_⟩
  rw [List.length_nil, Nat.zero_add]
  exact List.countP_le_length
theorem factsOf_snoc {rs : List Rule} {fs : List Nat} {i : Nat} {r : Rule} (h : rs[i]? = some r) : factsOf rs (fs ++ [i]) = factsOf rs fs ++ [r.2] := by
  unfold factsOf
  rw [List.map_append, List.map_singleton]
  have e : rs.getD i ([], 0) = r := by
    rw [List.getD_eq_getElem?_getD, h]
    rfl
  rw [e]
theorem SI.snoc {rs : List Rule} {l : List Int} {fs : List Nat} {i : Nat} {r : Rule} (s : SI rs l fs) (h : rs[i]? = some r) (out : r.2 ∉ l ++ factsOf rs fs) (has : ∀ x ∈ r.1, x ∈ l ++ factsOf rs fs) : SI rs l (fs ++ [i]) := by
  have hm : r ∈ rs := List.mem_of_getElem? h
  have e := factsOf_snoc (fs := fs) h
  refine ⟨fun n m => ?_, fun d hl hd x m => ?_, ?_, ?_⟩
  · rcases List.mem_append.mp m with m | m
    · exact s.bound n m
    · rw [List.mem_singleton.mp m]
      exact (List.getElem?_eq_some_iff.mp h).1
  · rw [e] at m
    have in_d : ∀ y ∈ l ++ factsOf rs fs, y ∈ d := fun y my => (List.mem_append.mp my).elim (hl y) (s.sound d hl hd y)
    rcases List.mem_append.mp m with m | m
    · exact s.sound d hl hd x m
    · rw [List.mem_singleton.mp m]
      exact hd r hm fun y my => in_d y (has y my)
  · rw [e, ← List.append_assoc]
    refine List.nodup_append.mpr ⟨s.nd, by simp, fun a ma b mb z => ?_⟩
    rw [List.mem_singleton.mp mb] at z
    exact out (z ▸ ma)
  · have less := countP_less (p := fun r => decide (r.2 ∉ l ++ factsOf rs fs)) (q := fun r => decide (r.2 ∉ l ++ factsOf rs (fs ++ [i]))) (l := rs) (fun x _ q => by
        have q := of_decide_eq_true q
        refine decide_eq_true fun z => q ?_
        rw [e]
        rcases List.mem_append.mp z with z | z
        · exact List.mem_append_left _ z
        · exact List.mem_append_right _ (List.mem_append_left _ z))
      ⟨r, hm, decide_eq_true out, by
        refine decide_eq_false fun z => z ?_
        rw [e]
        exact List.mem_append_right _ (List.mem_append_right _ (List.mem_singleton.mpr rfl))⟩
    have c := s.cnt
    rw [List.length_append, List.length_singleton]
    omega
/-- the closure of a lot, as a rising tuple -/
structure IsClo (rs : List Rule) (l c : List Int) : Prop where
  pw : c.Pairwise (· < ·)
  sub : ∀ x ∈ l, x ∈ c
  shut : Shut rs c
  least : ∀ d, (∀ x ∈ l, x ∈ d) → Shut rs d → ∀ x ∈ c, x ∈ d
theorem pw_ext : ∀ {a b : List Int}, a.Pairwise (· < ·) → b.Pairwise (· < ·) → (∀ x, x ∈ a ↔ x ∈ b) → a = b
  | [], [], _, _, _ => rfl
  | [], y :: b, _, _, h => by simpa using (h y)
  | x :: a, [], _, _, h => by simpa using (h x)
  | x :: a, y :: b, ha, hb, h => by
    obtain ⟨h1, h2⟩ := List.pairwise_cons.mp ha
    obtain ⟨h3, h4⟩ := List.pairwise_cons.mp hb
    have e : x = y := by
      have p1 := (h x).mp List.mem_cons_self
      have p2 := (h y).mpr List.mem_cons_self
      rcases List.mem_cons.mp p1 with z | z
      · exact z
      · rcases List.mem_cons.mp p2 with w | w
        · exact w.symm
        · have q1 := h3 x z
          have q2 := h1 y w
          omega
    subst e
    rw [pw_ext h2 h4 fun z => ?_]
    constructor
    · intro m
      rcases List.mem_cons.mp ((h z).mp (List.mem_cons_of_mem _ m)) with e | e
      · have := h1 z m
        omega
      · exact e
    · intro m
      rcases List.mem_cons.mp ((h z).mpr (List.mem_cons_of_mem _ m)) with e | e
      · have := h3 z m
        omega
      · exact e
theorem IsClo.unique {rs : List Rule} {l c d : List Int} (x : IsClo rs l c) (y : IsClo rs l d) : c = d :=
  pw_ext x.pw y.pw fun z => ⟨fun m => x.least d y.sub y.shut z m, fun m => y.least c x.sub x.shut z m⟩
theorem rises_pw : ∀ {l : List Int}, Rises l → l.Pairwise (· < ·)
  | [], _ => .nil
  | [x], _ => by simp
  | x :: y :: r, h => by
    have ih := rises_pw (l := y :: r) fun i a b ha hb => h (i + 1) a b (by simpa using ha) (by simpa using hb)
    have xy : x < y := h 0 x y rfl rfl
    refine List.pairwise_cons.mpr ⟨fun z m => ?_, ih⟩
    rcases List.mem_cons.mp m with e | m
    · rw [e]
      exact xy
    · exact Int.lt_trans xy ((List.pairwise_cons.mp ih).1 z m)
theorem pw_rises {l : List Int} (h : l.Pairwise (· < ·)) : Rises l := fun i x y hx hy => by
  obtain ⟨h1, e1⟩ := List.getElem?_eq_some_iff.mp hx
  obtain ⟨h2, e2⟩ := List.getElem?_eq_some_iff.mp hy
  have := List.pairwise_iff_getElem.mp h i (i + 1) h1 h2 (Nat.lt_succ_self i)
  rw [e1, e2] at this
  exact this
theorem pw_nodup {l : List Int} (h : l.Pairwise (· < ·)) : l.Nodup := h.imp fun a b => by omega
theorem sorted_pw {l m : List Int} (p : m.Perm l) (le : m.Pairwise (· ≤ ·)) (nd : l.Nodup) : m.Pairwise (· < ·) := by
  have nd' : m.Pairwise (· ≠ ·) := p.nodup_iff.mpr nd
  exact (le.and nd').imp fun ⟨h1, h2⟩ => by omega
/-- what the steps leave, sorted, is the closure -/
theorem SI.clo {rs : List Rule} {l : List Int} {fs : List Nat} {c : List Int} (s : SI rs l fs) (shut : Shut rs (l ++ factsOf rs fs)) (p : c.Perm (l ++ factsOf rs fs)) (le : c.Pairwise (· ≤ ·)) : IsClo rs l c := by
  have mem : ∀ x, x ∈ c ↔ x ∈ l ++ factsOf rs fs := fun x => p.mem_iff
  refine ⟨sorted_pw p le s.nd, fun x m => (mem x).mpr (List.mem_append_left _ m), fun r hr h => (mem _).mpr (shut r hr fun x m => (mem x).mp (h x m)), fun d hl hd x m => ?_⟩
  rcases List.mem_append.mp ((mem x).mp m) with m | m
  · exact hl x m
  · exact s.sound d hl hd x m
end EX

-- R6
set_option Elab.async false
set_option linter.all false
set_option maxRecDepth 100000
set_option maxHeartbeats 4000000
/-! the steps -/
namespace EX
open PySem PySem.Spec PyProof.Rows L2
abbrev sSteps : Stmt := top 21
def nSteps : List Str := ["rules", "lot", "held", "steps", "many", "at", "ifs", "fact"]
theorem scSteps : FnScope nSteps ["rules", "lot"] (defScope sSteps) := ⟨rfl, rfl, rfl, by decide +kernel, rfl, by decide +kernel, by decide +kernel⟩
theorem Gr.set {Ps : List Addr} {H H' : Hp} {h : Addr} {xs ys : List V} (g : Gr Ps H H') (n : H h = none) (e : H' h = some (.lst xs)) : Gr Ps H (upd H' h (.lst ys)) := by
  refine ⟨fun b o hb eb => ?_, g.t1, fun P hP => ?_⟩
  · rw [upd_ne (ne_of_none eb n)]
    exact g.keep b o hb eb
  · obtain ⟨ps, h1, h2⟩ := g.t2 P hP
    refine ⟨ps, ?_, h2⟩
    rw [upd_ne (fun z => by rw [z, e] at h1; cases h1)]
    exact h1
/-- numbers as values -/
def natsV (fs : List Nat) : List V := List.map (fun (n : Nat) => V.int (n : Int)) fs
theorem natsV_len (fs : List Nat) : (natsV fs).length = fs.length := by simp [natsV]
/-- held and steps within -/
structure Held (Ps : List Addr) (rs : List Rule) (l : List Int) (h p : Addr) (H : Hp) (fs : List Nat) (H' : Hp) : Prop where
  g : Gr Ps H H'
  nh : H h = none
  np : H p = none
  ne : h ≠ p
  held : H' h = some (.lst ((l ++ factsOf rs fs).map V.int))
  steps : H' p = some (.lst (natsV fs))
  si : SI rs l fs
theorem Held.mono {Ps : List Addr} {rs : List Rule} {l : List Int} {h p : Addr} {H H1 H2 : Hp} {fs : List Nat} (x : Held Ps rs l h p H fs H1) (g : Gr Ps H1 H2) : Held Ps rs l h p H fs H2 :=
  ⟨x.g.trans g, x.nh, x.np, x.ne, g.lst x.held, g.lst x.steps, x.si⟩
theorem Held.few {Ps : List Addr} {rs : List Rule} {l : List Int} {h p : Addr} {H H1 : Hp} {fs : List Nat} (x : Held Ps rs l h p H fs H1) : fs.length ≤ rs.length := by
  have := x.si.cnt
  omega
section
variable {P : Program} {w : World} {K : PySem.W.Frag} {mg : Str → Option Value} {base : Heap}
def spSteps (Ps : List Addr) : Sp := fun vs H Q _ => ∃ (a b : Addr) (rs : List Rule) (l : List Int), vs = [.ref a, .ref b] ∧ RulesAt H a rs ∧ Ints H b l ∧ l.Nodup ∧ l.length ≤ 100 ∧ rs.length ≤ 100 ∧ Tb Ps H ∧
  ∀ (p : Addr) (fs : List Nat) (H' : Hp), Gr Ps H H' → H p = none → H' p = some (.lst (natsV fs)) → SI rs l fs → Shut rs (l ++ factsOf rs fs) → Q (.ref p) H'
theorem ok_steps {f fH : Addr} {fd fdH : FuncData} {k : Nat} {Ps : List Addr} (F : Fun K "steps_from" "steps_from" sSteps f fd)
    (GH : FnOk P w K mg base CX0 (k + 2) fH fdH ["lot", "facts"] (spHas Ps)) (gH : mg "has_all" = some (.ref fH)) (kH : PySem.W.keepIn K (.ref fH) = true) (bH : Binds K fdH ["lot", "facts"] [])
    (ml : mg "list" = none) (mn : mg "len" = none) (me : mg "enumerate" = none) : FnOk P w K mg base CX0 (k + 3) f fd ["rules", "lot"] (spSteps Ps) := by
  refine F.ok scSteps (fun vs H Q E h => ?_) (fun cdv A outer s H vs Q E hr h => ?_)
  · obtain ⟨a, b, rs, l, rfl, _⟩ := h
    rfl
  · obtain ⟨a, b, rs, l, rfl, hA, hB, nd, l100, r100, hT, q⟩ := h
    refine ⟨_, pss_cons (ps_set (i := 2) scSteps.nd rfl (.inl rfl) (pe_callTy call_list_of (by rfl) ml (by decide +kernel) (pa_cons (pv 1) pa_nil))) <|
      pss_cons (ps_set (i := 3) scSteps.nd rfl (.inl rfl) (pe_lst pa_nil)) <|
      pss_cons (ps_set (i := 4) scSteps.nd rfl (.inl rfl) (pe_un un_neg pe_int)) <|
      pss_cons (ps_while PassesOwn.never (pt_cmpR op_lt (pv 4) (pe_callB call_len_seq (by rfl) mn PySem.boot_len (pa_cons (pv 3) pa_nil)) (nomark _))
        (pss_cons (ps_set (i := 4) scSteps.nd rfl (.inl rfl) (pe_callB call_len_seq (by rfl) mn PySem.boot_len (pa_cons (pv 3) pa_nil))) <|
        pss_one (ps_for PassesOwn.never rfl (pi_enumT (by rfl) me (pa_cons (pv 0) pa_nil))
          (pg_tup (by rfl) (pgs_cons (pg_name (i := 5) scSteps.nd rfl (.inl rfl)) (pgs_cons (pg_tup (by rfl) (pgs_cons (pg_name (i := 6) scSteps.nd rfl (.inl rfl)) (pgs_cons (pg_name (i := 7) scSteps.nd rfl (.inl rfl)) pgs_nil))) pgs_nil)))
          (pss_one (ps_if (PW.pt (pw_and (pt_cmpR op_notIn_seq (pv 7) (pv 2) (by rfl)) (pw_and1 (pt_val (pe_call GH hr (by rfl) gH kH bH .nil pass0 (pa_cons (pv 2) (pa_cons (pv 6) pa_nil)))))))
            (pss_cons (ps_expr (pe_bm PySem.F.plainAttrs_list PySem.F.slot_list_append PySem.F.type_list_append mt_append (pv 2) (pa_cons (pv 7) pa_nil))) <|
              pss_one (ps_expr (pe_bm PySem.F.plainAttrs_list PySem.F.slot_list_append PySem.F.type_list_append mt_append (pv 3) (pa_cons (pv 5) pa_nil)))) pss_nil))))) <|
      pss_one (ps_ret (pv 3)), ?_⟩
    refine ⟨_, rfl, b, _, rfl, .inr (.inl (.inl hB)), fun h nh => ?_⟩
    have g1 : Gr Ps H (upd H h (.lst (l.map V.int))) := Gr.new hT nh
    refine ⟨(by show 0 ≤ sizeLine; exact Nat.zero_le _), fun p np => ?_⟩
    have g2 := g1.trans (Gr.new (o := .lst []) g1.t2 np)
    have np0 : H p = none := g1.free np
    have hp : h ≠ p := ne_of_none upd_same np
    have S0 : Held Ps rs l h p H [] (upd (upd H h (.lst (l.map V.int))) p (.lst [])) := ⟨g2, nh, np0, hp, by rw [upd_ne hp, upd_same]; simp [factsOf], upd_same, SI.nil nd⟩
    refine ⟨_, rfl, fun m σ H' => ∃ (fs : List Nat) (many : Int) (v5 v6 v7 : Option V), σ = [some (.ref a), some (.ref b), some (.ref h), some (.ref p), some (.int many), v5, v6, v7] ∧ Held Ps rs l h p H fs H' ∧ -1 ≤ many ∧ many ≤ fs.length ∧ ((many : Int) = fs.length → Shut rs (l ++ factsOf rs fs)) ∧ m = ((rs.length : Int) - many).toNat,
      ⟨_, [], -1, none, none, none, rfl, S0, by omega, by simp, fun e => absurd e (by simp), rfl⟩, ?_⟩
    rintro m σ H1 ⟨fs, many, v5, v6, v7, rfl, S, m1, m2, shut, rfl⟩
    have few := S.few
    refine ⟨_, rfl, _, rfl, p, _, rfl, .inl (.inl (.inl S.steps)), _, _, rfl, rfl, _, rfl, ?_⟩
    rw [natsV_len]
    by_cases c : many < fs.length
    · refine ifT (decide_eq_true c) ⟨fun σ' H' => ∃ (fs2 : List Nat) (v5 v6 v7 : Option V), σ' = [some (.ref a), some (.ref b), some (.ref h), some (.ref p), some (.int fs.length), v5, v6, v7] ∧ Held Ps rs l h p H fs2 H' ∧ fs.length ≤ fs2.length ∧ (fs2.length = fs.length → Shut rs (l ++ factsOf rs fs2)), ?_, ?_⟩
      · rintro σ' H' ⟨fs2, w5, w6, w7, rfl, S2, le, sh⟩
        have few2 := S2.few
        exact ⟨_, by omega, fs2, fs.length, w5, w6, w7, rfl, S2, by omega, by omega, fun e => sh (by omega), rfl⟩
      · refine ⟨_, rfl, p, _, rfl, .inl (.inl (.inl S.steps)), ?_⟩
        rw [natsV_len]
        obtain ⟨xs, hX0, hX⟩ := hA
        have len : xs.length = rs.length := (Paired.length hX).symm
        refine ⟨_, rfl, a, xs, rfl, .inl (.inl (S.g.tup hX0)), ?_⟩
        refine for_it (walk_enumT (xs := xs)) (fun i σ' H' => ∃ (fs2 : List Nat) (v5 v6 v7 : Option V), σ' = [some (.ref a), some (.ref b), some (.ref h), some (.ref p), some (.int fs.length), v5, v6, v7] ∧ Held Ps rs l h p H fs2 H' ∧ fs.length ≤ fs2.length ∧ (fs2.length = fs.length → Shut (rs.take i) (l ++ factsOf rs fs2)))
          ⟨fs, v5, v6, v7, rfl, S, Nat.le_refl _, fun _ r m => by simp at m⟩ (fun i σ' H' _ z => ?_) ?_ ?_
        · obtain ⟨fs2, _, _, _, _, S2, _⟩ := z
          exact .inl (.inl (S2.g.tup hX0))
        · rintro i x σ' H2 H3 hi ⟨fs2, w5, w6, w7, rfl, S2, le, sh⟩ ⟨T, y1, y2, rfl, nT, rfl, e1, e2⟩
          obtain rfl := (Option.some.inj e1).symm
          obtain ⟨r, hr2, hx⟩ := paired_get hX e2
          have S3 := S2.mono (Gr.new (o := .tup [.int (i : Nat), y2]) S2.g.t2 nT)
          have few2 := S2.few
          obtain ⟨tr, li, rfl, ht, hI⟩ := S3.g.rule hx
          refine ⟨T, _, rfl, .inl (.inl upd_same), rfl, _, _, rfl, _, _, rfl, tr, _, rfl, .inl (.inl ht), rfl, _, _, rfl, _, _, rfl, rfl, rfl, ?_⟩
          refine ⟨_, rfl, _, rfl, h, _, rfl, .inl (.inl (.inl S3.held)), rfl, flat_ints _, _, rfl, ?_⟩
          rw [inV_ints]
          have nextSame : Shut (rs.take i) (l ++ factsOf rs fs2) → ((∀ x ∈ r.1, x ∈ l ++ factsOf rs fs2) → r.2 ∈ l ++ factsOf rs fs2) → Shut (rs.take (i + 1)) (l ++ factsOf rs fs2) := fun z1 z2 r' m => by
            rw [take_snoc hr2] at m
            rcases List.mem_append.mp m with m | m
            · exact z1 r' m
            · rw [List.mem_singleton.mp m]
              exact z2
          by_cases c1 : r.2 ∈ l ++ factsOf rs fs2
          · exact ifF (show (!decide (r.2 ∈ l ++ factsOf rs fs2)) = false by rw [decide_eq_true c1]; rfl) (ifF rfl ⟨fs2, _, _, _, rfl, S3, le, fun e => nextSame (sh e) fun _ => c1⟩)
          · refine ifT (show (!decide (r.2 ∈ l ++ factsOf rs fs2)) = true by rw [decide_eq_false c1]; rfl) ⟨_, rfl, _, rfl, h, li, l ++ factsOf rs fs2, r.1, rfl, .inl S3.held, hI, S3.g.t2, fun H4 g4 => ?_⟩
            have S4 := S3.mono g4
            refine ⟨_, rfl, ?_⟩
            by_cases c2 : hasB (l ++ factsOf rs fs2) r.1 = true
            · refine ifT c2 ?_
              have hasx := hasB_iff.mp c2
              have SI2 := S4.si.snoc hr2 c1 hasx
              have hlen : (l ++ factsOf rs fs2).length < sizeLine := small1000 (by rw [List.length_append]; unfold factsOf; rw [List.length_map]; omega)
              have plen : fs2.length < sizeLine := small1000 (by omega)
              refine ⟨_, rfl, .inl ⟨rfl, _, .inl (.inl S4.held)⟩, _, rfl, h, _, _, rfl, rfl, S4.held, by rw [List.length_map]; exact hlen, ?_⟩
              have g5 : Gr Ps H (upd H4 h (.lst ((l ++ factsOf rs fs2).map V.int ++ [V.int r.2]))) := S4.g.set S4.nh S4.held
              have ep : upd H4 h (.lst ((l ++ factsOf rs fs2).map V.int ++ [V.int r.2])) p = some (.lst (natsV fs2)) := by
                rw [upd_ne (Ne.symm S4.ne)]
                exact S4.steps
              refine ⟨_, rfl, .inl ⟨rfl, _, .inl (.inl ep)⟩, _, rfl, p, _, _, rfl, rfl, ep, by rw [natsV_len]; exact plen, ?_⟩
              refine ⟨fs2 ++ [i], _, _, _, rfl, ⟨g5.set S4.np ep, S4.nh, S4.np, S4.ne, ?_, ?_, SI2⟩, by rw [List.length_append]; omega, fun e => ?_⟩
              · rw [upd_ne S4.ne, upd_same, factsOf_snoc hr2, ← List.append_assoc, List.map_append (l₁ := l ++ factsOf rs fs2)]
                rfl
              · rw [upd_same]
                simp [natsV]
              · rw [List.length_append, List.length_singleton] at e
                omega
            · refine ifF (by simpa using c2) ⟨fs2, _, _, _, rfl, S4, le, fun e => nextSame (sh e) fun z => absurd (hasB_iff.mpr z) c2⟩
        · rintro σ' H' ⟨fs2, w5, w6, w7, rfl, S2, le, sh⟩
          rw [len, List.take_length] at sh
          exact ⟨fs2, _, _, _, rfl, S2, le, sh⟩
    · refine ifF (decide_eq_false c) ⟨_, rfl, ?_⟩
      exact q p fs H1 S.g S.np S.steps S.si (shut (by omega))
end
end EX

-- R7
set_option Elab.async false
set_option linter.all false
set_option maxRecDepth 100000
set_option maxHeartbeats 4000000
/-! closed up; the closure -/
namespace EX
open PySem PySem.Spec PyProof.Rows L2
abbrev sUp : Stmt := top 22
abbrev sClosure : Stmt := top 24
def nUp : List Str := ["rules", "lot", "put", "at"]
theorem scUp : FnScope nUp ["rules", "lot"] (defScope sUp) := ⟨rfl, rfl, rfl, by decide +kernel, rfl, by decide +kernel, by decide +kernel⟩
theorem scClosure : FnScope ["m", "rules", "lot"] ["m", "rules", "lot"] (defScope sClosure) := ⟨rfl, rfl, rfl, by decide +kernel, rfl, by decide +kernel, by decide +kernel⟩
section
variable {P : Program} {w : World} {K : PySem.W.Frag} {mg : Str → Option Value} {base : Heap}
def spUp (Ps : List Addr) : Sp := fun vs H Q _ => ∃ (a b : Addr) (rs : List Rule) (l : List Int), vs = [.ref a, .ref b] ∧ RulesAt H a rs ∧ Ints H b l ∧ l.Nodup ∧ l.length ≤ 30 ∧ rs.length ≤ 30 ∧ Tb Ps H ∧
  ∀ (p : Addr) (c : List Int) (H' : Hp), Gr Ps H H' → H p = none → Ints H' p c → IsClo rs l c → Q (.ref p) H'
theorem ok_up {f fS : Addr} {fd fdS : FuncData} {k : Nat} {Ps : List Addr} (F : Fun K "closed_up" "closed_up" sUp f fd)
    (GS : FnOk P w K mg base CX0 (k + 3) fS fdS ["rules", "lot"] (spSteps Ps)) (gS : mg "steps_from" = some (.ref fS)) (kS : PySem.W.keepIn K (.ref fS) = true) (bS : Binds K fdS ["rules", "lot"] [])
    (mt : mg "tuple" = none) (ms : mg "sorted" = none) : FnOk P w K mg base CX0 (k + 4) f fd ["rules", "lot"] (spUp Ps) := by
  refine F.ok scUp (fun vs H Q E h => ?_) (fun cdv A outer s H vs Q E hr h => ?_)
  · obtain ⟨a, b, rs, l, rfl, _⟩ := h
    rfl
  · obtain ⟨a, b, rs, l, rfl, hA, hB, nd, l30, r30, hT, q⟩ := h
    refine ⟨_, pss_cons (ps_setLc (i := 2) (own := [("at", 3)]) (g := gName 3) (tt := tYes) (te := tOp (rIxT K) (tOp (rIxT K) (tVar 0) (tVar 3)) (tC (.int 1))) rfl scUp.nd rfl rfl (sw_true rfl rfl rfl (by decide +kernel))
        (pi_list (pe_call GS hr (by rfl) gS kS bS .nil pass0 (pa_cons (pv 0) (pa_cons (pv 1) pa_nil)))) (blkOk_by (own := [("at", 3)]) (N := nUp) (sc := defScope sUp) (by decide +kernel)) (fun _ _ _ _ _ => pg_name (i := 3) scUp.nd rfl (Or.inl rfl)) (fun _ _ _ _ _ => pts_nil)
        (fun _ _ _ _ _ => pe_ix ix_tup (pe_ix ix_tup (pv 0) (pv 3) (fun _ _ => rfl)) pe_int (fun _ _ => rfl))) <|
      pss_one (ps_ret (pe_callTy call_tuple_of (by rfl) mt (by decide +kernel) (pa_cons (pe_callB cr_sorted (by rfl) ms (by decide +kernel) (pa_cons (pe_lst (StX.pa_star (pv 1) (StX.pa_star (pv 2) pa_nil))) pa_nil)) pa_nil))), ?_⟩
    refine ⟨_, rfl, _, rfl, a, b, rs, l, rfl, hA, hB, nd, by omega, by omega, hT, fun p fs H1 g1 np e1 si shut => ?_⟩
    refine ⟨p, rfl, ⟨_, .inl (.inl e1)⟩, fun D nD => ?_⟩
    have flen : fs.length ≤ rs.length := by
      have := si.cnt
      omega
    have nDp : p ≠ D := ne_of_none e1 nD
    refine lc_list (K := K) (a := p) (xs := natsV fs) (fun i H' => Gr Ps H1 H' ∧ H' D = some (.lst ((factsOf rs (fs.take i)).map V.int))) ⟨Gr.new g1.t2 nD, upd_same⟩ (fun i H' _ z => .inl (.inl (z.1.lst e1))) ?_ ?_
    · rintro i x H' hx ⟨g, eD⟩
      obtain ⟨n, hn, rfl⟩ : ∃ n, fs[i]? = some n ∧ x = V.int (n : Int) := by
        unfold natsV at hx
        rw [List.getElem?_map] at hx
        cases e : fs[i]? with
        | none =>
          rw [e] at hx
          cases hx
        | some n =>
          rw [e] at hx
          exact ⟨n, rfl, (Option.some.inj hx).symm⟩
      have nb := si.bound n (List.mem_of_getElem? hn)
      obtain ⟨xs, hX0, hX⟩ := (g1.trans g).rules hA
      have len : xs.length = rs.length := (Paired.length hX).symm
      have ex : xs[n]? = some (xs[n]'(by omega)) := List.getElem?_eq_getElem (by omega)
      obtain ⟨r, hr2, tr, li, et, ht, hI⟩ := paired_get hX ex
      refine ⟨rfl, ?_⟩
      rw [tYes_is, if_pos rfl]
      refine ⟨_, rfl, _, rfl, a, xs, _, _, rfl, rfl, .inl (.inl hX0), atI_nat (j := n) ex, tr, _, _, _, et, rfl, .inl (.inl ht), atI_nat (j := 1) (rfl : ([V.ref li, V.int r.2] : List V)[1]? = some (V.int r.2)), _, eD, ?_, ?_, ?_⟩
      · rw [List.length_map]
        unfold factsOf
        rw [List.length_map, List.length_take]
        exact small1000 (by omega)
      · exact g.set nD eD
      · rw [upd_same, take_snoc hn, factsOf_snoc hr2, List.map_append]
        rfl
    · rintro H' ⟨g, eD⟩
      rw [show (natsV fs).length = fs.length from natsV_len fs, List.take_length] at eD
      have gg := g1.trans g
      have flen2 : (factsOf rs fs).length ≤ 30 := by
        unfold factsOf
        rw [List.length_map]
        omega
      refine ⟨_, rfl, b, _, rfl, .inl (.inl (.inl (gg.tup hB))), _, rfl, D, _, rfl, .inr (.inl (.inl eD)), ?_, fun e ne => ?_⟩
      · rw [List.length_append, List.length_append, List.length_map, List.length_map]
        exact lt_size (by simp; omega)
      have ge := Gr.new (o := .lst (l.map V.int ++ ((factsOf rs fs).map V.int ++ []))) gg.t2 ne
      refine ⟨e, l ++ factsOf rs fs, rfl, .inl (.inl (by rw [upd_same, List.append_nil, List.map_append])), by rw [List.length_append]; omega, fun c p2 perm le np2 => ?_⟩
      have g2 := Gr.new (o := .lst (c.map V.int)) ge.t2 np2
      refine ⟨p2, c.map V.int, rfl, .inl ⟨.inl (.inl upd_same), fun t nt => ?_⟩⟩
      have g3 := Gr.new (o := .tup (c.map V.int)) g2.t2 nt
      have g4 := (gg.trans ge).trans (g2.trans g3)
      exact q t c _ g4 ((gg.trans (ge.trans g2)).free nt) upd_same (si.clo shut perm le)
def spClo (Ps : List Addr) : Sp := fun vs H Q _ => ∃ (m : Int) (a b : Addr) (rs : List Rule) (l : List Int), vs = [.int m, .ref a, .ref b] ∧ RulesAt H a rs ∧ Ints H b l ∧ GoodRules m rs ∧ GoodLot m l ∧ l.length ≤ 30 ∧ (1 ≤ m ∧ m ≤ 6) ∧ Tb Ps H ∧
  ∀ (p : Addr) (c : List Int) (H' : Hp), Gr Ps H H' → H p = none → Ints H' p c → IsClo rs l c → Q (.ref p) H'
theorem ok_closure {f fL fU : Addr} {fd fdL fdU : FuncData} {k : Nat} {Ps : List Addr} (F : Fun K "closure" "closure" sClosure f fd)
    (GL : FnOk P w K mg base CX0 (k + 10) fL fdL ["m", "rules", "lot"] (spReqL Ps)) (gL : mg "require_lot" = some (.ref fL)) (kL : PySem.W.keepIn K (.ref fL) = true) (bL : Binds K fdL ["m", "rules", "lot"] [])
    (GU : FnOk P w K mg base CX0 (k + 10) fU fdU ["rules", "lot"] (spUp Ps)) (gU : mg "closed_up" = some (.ref fU)) (kU : PySem.W.keepIn K (.ref fU) = true) (bU : Binds K fdU ["rules", "lot"] []) : FnOk P w K mg base CX0 (k + 11) f fd ["m", "rules", "lot"] (spClo Ps) := by
  refine F.ok scClosure (fun vs H Q E h => ?_) (fun cdv A outer s H vs Q E hr h => ?_)
  · obtain ⟨m, a, b, rs, l, rfl, _⟩ := h
    rfl
  · obtain ⟨m, a, b, rs, l, rfl, hA, hB, GR, Gl, l30, hm, hT, q⟩ := h
    refine ⟨_, pss_cons (ps_expr (pe_call GL hr (by rfl) gL kL bL .nil pass0 (pa_cons (pv 0) (pa_cons (pv 1) (pa_cons (pv 2) pa_nil))))) <|
      pss_one (ps_ret (pe_call GU hr (by rfl) gU kU bU .nil pass0 (pa_cons (pv 1) (pa_cons (pv 2) pa_nil)))), ?_⟩
    have few := GR.few
    exact ⟨_, rfl, _, rfl, _, rfl, m, a, b, rs, l, rfl, hA, hB, GR, Gl, hm, hT, fun H1 g1 => ⟨_, rfl, _, rfl, a, b, rs, l, rfl, g1.rules hA, g1.tup hB, pw_nodup (rises_pw Gl.rises), l30, by omega, g1.t2, fun p c H2 g2 np e ic => q p c H2 (g1.trans g2) (g1.free np) e ic⟩⟩
end
end EX

-- R8
set_option Elab.async false
set_option linter.all false
set_option maxRecDepth 100000
set_option maxHeartbeats 4000000
/-! sorted of tuples of whole numbers, of any lengths -/
namespace EX
open PySem PySem.Spec PyProof.Rows L2
/-- by the first place that differs, then by the lengths -/
def lexZ (fin : Bool) : List Int → List Int → Bool
  | [], _ => fin
  | _ :: _, [] => fin
  | x :: xs, y :: ys => if x = y then lexZ fin xs ys else decide (x < y)
def lexL (a b : List Int) : Bool := lexZ (decide (a.length < b.length)) a b
theorem lexL_nil (b : List Int) : lexL [] b = decide (0 < b.length) := rfl
theorem lexL_nil2 (x : Int) (a : List Int) : lexL (x :: a) [] = false := by simp [lexL, lexZ]
theorem lexL_cons (x y : Int) (a b : List Int) : lexL (x :: a) (y :: b) = if x = y then lexL a b else decide (x < y) := by
  unfold lexL
  simp only [lexZ, List.length_cons, Nat.add_lt_add_iff_right]
theorem lexL_asym : ∀ a b : List Int, lexL a b = true → lexL b a = false
  | [], [], _ => rfl
  | [], y :: b, _ => lexL_nil2 y b
  | x :: a, [], h => by
    rw [lexL_nil2] at h
    cases h
  | x :: a, y :: b, h => by
    rw [lexL_cons] at h ⊢
    by_cases e : x = y
    · rw [if_pos e] at h
      rw [if_pos e.symm]
      exact lexL_asym a b h
    · rw [if_neg e] at h
      rw [if_neg fun z => e z.symm]
      have := of_decide_eq_true h
      exact decide_eq_false (by omega)
theorem lexL_tr : ∀ a b c : List Int, lexL a b = false → lexL b c = false → lexL a c = false
  | a, b, [], _, _ => by
    cases a with
    | nil => rfl
    | cons x a => exact lexL_nil2 x a
  | [], [], z :: c, _, h => h
  | [], y :: b, z :: c, h, _ => by
    rw [lexL_nil] at h
    simp at h
  | x :: a, [], z :: c, _, h => by
    rw [lexL_nil] at h
    simp at h
  | x :: a, y :: b, z :: c, h1, h2 => by
    rw [lexL_cons] at h1 h2 ⊢
    by_cases e : x = y
    · rw [if_pos e] at h1
      by_cases f : y = z
      · rw [if_pos f] at h2
        rw [if_pos (e.trans f)]
        exact lexL_tr a b c h1 h2
      · rw [if_neg f] at h2
        rw [if_neg (by omega)]
        rw [e]
        exact h2
    · rw [if_neg e] at h1
      have p := of_decide_eq_false h1
      by_cases f : y = z
      · rw [if_neg (by omega)]
        exact decide_eq_false (by omega)
      · rw [if_neg f] at h2
        have q := of_decide_eq_false h2
        rw [if_neg (by omega)]
        exact decide_eq_false (by omega)
theorem swo_lexL {α : Type} (k : α → List Int) : SrtO.Swo fun v u => lexL (k v) (k u) := ⟨fun x y h => lexL_asym _ _ h, fun x y z h1 h2 => lexL_tr _ _ _ h2 h1⟩
theorem lexL_eq : ∀ a b : List Int, lexL a b = false → lexL b a = false → a = b
  | [], [], _, _ => rfl
  | [], y :: b, h, _ => by
    rw [lexL_nil] at h
    simp at h
  | x :: a, [], _, h => by
    rw [lexL_nil] at h
    simp at h
  | x :: a, y :: b, h1, h2 => by
    rw [lexL_cons] at h1 h2
    by_cases e : x = y
    · rw [if_pos e] at h1
      rw [if_pos e.symm] at h2
      rw [e, lexL_eq a b h1 h2]
    · rw [if_neg e] at h1
      rw [if_neg fun z => e z.symm] at h2
      have p := of_decide_eq_false h1
      have q := of_decide_eq_false h2
      omega
/-- the value v is a tuple of these whole numbers -/
def LotV (h : Heap) (v : Value) (l : List Int) : Prop := ∃ (a : Addr) (o : Obj) (its : Array Value) (n : Nat), v = .ref a ∧ h.get? a = some o ∧ o.cls = .type "tuple" ∧ o.data = .seq its n ∧ IntsAre its.toList l
theorem LotV.keeps {h h' : Heap} {v : Value} {l : List Int} (p : LotV h v l) (k : ∀ b o, h.get? b = some o → o.cls = .type "tuple" → h'.get? b = some o) : LotV h' v l := by
  obtain ⟨a, o, its, n, e, ho, hc, hd, hi⟩ := p
  exact ⟨a, o, its, n, e, k _ _ ho hc, hc, hd, hi⟩
section
variable {prog : Program} {w : World} {A : Around} {E : Value → Shared → Prop} {s : Shared} {Q : Bool → Shared → Prop}
theorem katLex_ints {b fin : Bool} : ∀ {xs ys : List Value} {ns ms : List Int} (i : Nat), IntsAre xs ns → IntsAre ys ms → Q (lexZ fin ns ms) s → PySem.W.KatLex prog w A b fin Q (xs.zip ys) i s
  | _, _, _, _, i, .nil, _, h => PySem.W.kat_nil h
  | _, _, _, _, i, .cons p t hx, .nil, h => PySem.W.kat_nil h
  | _, _, _, _, i, .cons p t hx, .cons q u hy, h => by
    refine PySem.W.kat_cons (wpAny_eqBool_int ?_)
    by_cases e : p = q
    · have e2 : (p == q) = true := beq_iff_eq.mpr e
      rw [e2]
      refine PySem.W.kat_yes (katLex_ints (i + 1) hx hy ?_)
      simp only [lexZ] at h
      rw [if_pos e] at h
      exact h
    · have e2 : (p == q) = false := beq_eq_false_iff_ne.mpr e
      rw [e2]
      refine PySem.W.kat_no (TS.oneLt_ints _ ?_)
      simp only [lexZ] at h
      rw [if_neg e] at h
      exact h
/-- what «<» says of two tuples, place by place -/
theorem lexAt_ints : ∀ (ns ms pre1 pre2 : List Int) (fin : Bool), pre1.length = pre2.length →
    Ob.lexAt (fun j => decide ((pre1 ++ ns).getD j 0 = (pre2 ++ ms).getD j 0)) (fun j => decide ((pre1 ++ ns).getD j 0 < (pre2 ++ ms).getD j 0)) fin pre1.length (min ns.length ms.length) = lexZ fin ns ms
  | [], ms, _, _, fin, _ => by
    rw [List.length_nil, Nat.zero_min]
    rfl
  | x :: ns, [], _, _, fin, _ => by
    rw [List.length_nil, Nat.min_zero]
    rfl
  | x :: ns, y :: ms, pre1, pre2, fin, hl => by
    have g1 : (pre1 ++ x :: ns).getD pre1.length 0 = x := by simp
    have g2 : (pre2 ++ y :: ms).getD pre1.length 0 = y := by rw [hl]; simp
    rw [List.length_cons, List.length_cons, Nat.succ_min_succ, Ob.lexAt_succ]
    simp only [g1, g2]
    have ih := lexAt_ints ns ms (pre1 ++ [x]) (pre2 ++ [y]) fin (by simp [hl])
    rw [List.append_assoc, List.append_assoc, List.length_append] at ih
    simp only [List.singleton_append, List.length_singleton] at ih
    by_cases e : x = y
    · rw [if_pos (decide_eq_true e), ih]
      simp only [lexZ]
      rw [if_pos e]
    · rw [if_neg (by simpa using e)]
      simp only [lexZ]
      rw [if_neg e]
/-- the same through the slot alone -/
theorem lots_slot {prog : Program} {w : World} {A : Around} {s : Shared} {a b : Addr} {o1 o2 : Obj} {xs ys : Array Value} {n1 n2 : Nat} {ns ms : List Int} (h1 : s.heap.get? a = some o1) (c1 : o1.cls = .type "tuple") (d1 : o1.data = .seq xs n1) (i1 : IntsAre xs.toList ns)
    (h2 : s.heap.get? b = some o2) (c2 : o2.cls = .type "tuple") (d2 : o2.data = .seq ys n2) (i2 : IntsAre ys.toList ms) {Q : Value → Shared → Prop} {E : Value → Shared → Prop} (q : Q (.bool (lexL ns ms)) s) : wpAny (model prog w) A (call (.builtin "tuple.__lt__") [.ref a, .ref b]) Q E s := by
  have e1 : xs.size = ns.length := by
    rw [← i1.length]
    simp
  have e2 : ys.size = ms.length := by
    rw [← i2.length]
    simp
  have at1 : ∀ j (h1 : j < xs.size), ∃ t, xs[j] = .int (ns.getD j 0) t := fun j h1 => PyProof.Rows.IntsAre.int_at i1 _ _ (by simp [h1])
  have at2 : ∀ j (h1 : j < ys.size), ∃ t, ys[j] = .int (ms.getD j 0) t := fun j h1 => PyProof.Rows.IntsAre.int_at i2 _ _ (by simp [h1])
  have z := lexAt_ints ns ms [] [] (decide (ns.length < ms.length)) rfl
  simp only [List.nil_append, List.length_nil] at z
  obtain ⟨cls, dd, data, sl⟩ := o1
  obtain ⟨cls2, dd2, data2, sl2⟩ := o2
  simp only at c1 d1 c2 d2
  subst c1 d1 c2 d2
  refine call_meets F.slot_tuple_lt ⟨_, h1, rfl⟩ F.entry_tuple_lt (F.args_tuple_lt_2 _ _) (Ob.tuple_ltAt a b xs ys n1 n2 dd dd2 sl sl2 (fun j => decide (ns.getD j 0 = ms.getD j 0)) (fun j => decide (ns.getD j 0 < ms.getD j 0))) ⟨h1, h2, fun j h1 h2 => ?_, fun j h1 h2 _ => ?_, ?_⟩
  · obtain ⟨t, et⟩ := at1 j h1
    obtain ⟨t', et'⟩ := at2 j h2
    rw [et, et']
    have z : (ns.getD j 0 == ms.getD j 0) = decide (ns.getD j 0 = ms.getD j 0) := by
      by_cases q : ns.getD j 0 = ms.getD j 0
      · rw [decide_eq_true q]; exact beq_iff_eq.mpr q
      · rw [decide_eq_false q]; exact beq_eq_false_iff_ne.mpr q
    rw [← z]
    exact SeqAt.EqAt.int_int _ _ _ _
  · obtain ⟨t, et⟩ := at1 j h1
    obtain ⟨t', et'⟩ := at2 j h2
    rw [et, et']
    exact Ob.RcOp.lt_int _ _ _ _
  · rw [e1, e2, z]
    exact q
theorem lots_lt {A : Around} {s : Shared} {a b : Addr} {o1 o2 : Obj} {xs ys : Array Value} {n1 n2 : Nat} {ns ms : List Int} (h1 : s.heap.get? a = some o1) (c1 : o1.cls = .type "tuple") (d1 : o1.data = .seq xs n1) (i1 : IntsAre xs.toList ns)
    (h2 : s.heap.get? b = some o2) (c2 : o2.cls = .type "tuple") (d2 : o2.data = .seq ys n2) (i2 : IntsAre ys.toList ms) (hu : A.units < cLine) : Ob.RcOp .Lt A s (.ref a) (.ref b) (lexL ns ms) := by
  have e1 : xs.size = ns.length := by
    rw [← i1.length]
    simp
  have e2 : ys.size = ms.length := by
    rw [← i2.length]
    simp
  have at1 : ∀ j (h1 : j < xs.size), ∃ t, xs[j] = .int (ns.getD j 0) t := fun j h1 => PyProof.Rows.IntsAre.int_at i1 _ _ (by simp [h1])
  have at2 : ∀ j (h1 : j < ys.size), ∃ t, ys[j] = .int (ms.getD j 0) t := fun j h1 => PyProof.Rows.IntsAre.int_at i2 _ _ (by simp [h1])
  have R := Ob.RcOp.tuples_lt (A := A) (s := s) (e := fun j => decide (ns.getD j 0 = ms.getD j 0)) (r := fun j => decide (ns.getD j 0 < ms.getD j 0)) ⟨o1, h1, c1, n1, d1⟩ ⟨o2, h2, c2, n2, d2⟩ hu (fun j h1 h2 => by
    obtain ⟨t, et⟩ := at1 j h1
    obtain ⟨t', et'⟩ := at2 j h2
    rw [et, et']
    have z : (ns.getD j 0 == ms.getD j 0) = decide (ns.getD j 0 = ms.getD j 0) := by
      by_cases q : ns.getD j 0 = ms.getD j 0
      · rw [decide_eq_true q]; exact beq_iff_eq.mpr q
      · rw [decide_eq_false q]; exact beq_eq_false_iff_ne.mpr q
    rw [← z]
    exact SeqAt.EqAt.int_int _ _ _ _) (fun j h1 h2 _ => by
    obtain ⟨t, et⟩ := at1 j h1
    obtain ⟨t', et'⟩ := at2 j h2
    rw [et, et']
    exact Ob.RcOp.lt_int _ _ _ _)
  rw [e1, e2] at R
  have z := lexAt_ints ns ms [] [] (decide (ns.length < ms.length)) rfl
  simp only [List.nil_append, List.length_nil] at z
  rw [z] at R
  exact R
end
end EX

-- R9
set_option Elab.async false
set_option linter.all false
set_option maxRecDepth 100000
set_option maxHeartbeats 4000000
/-! sorted of tuples, its kinds -/
namespace EX
open PySem PySem.Spec PyProof.Rows L2
section
variable {M : Model} {A : Around} {s : Shared}
theorem firsts_ints : ∀ {vs : List Value} {k : Value → List Int}, (∀ v ∈ vs, LotV s.heap v (k v)) → ∃ fs : List (Option Value), fs.length = vs.length ∧ (∀ f ∈ fs, ∀ x, f = some x → ∃ i t, x = Value.int i t) ∧ ∀ (Q : List (Option Value) → Shared → Prop) (E : Value → Shared → Prop), Q fs s → wpAny M A (vs.mapM firstOfTuple') Q E s
  | [], _, _ => ⟨[], rfl, fun f m => by simp at m, fun Q E q => by rw [List.mapM_nil]; exact wpAny_pure q⟩
  | v :: vs, k, hp => by
    obtain ⟨fs, h0, h1, h2⟩ := firsts_ints (vs := vs) (k := k) fun u m => hp u (List.mem_cons_of_mem _ m)
    obtain ⟨a, o, its, n, rfl, ho, hc, hd, hi⟩ := hp v List.mem_cons_self
    refine ⟨its[0]? :: fs, by simp [h0], fun f m x e => ?_, fun Q E q => ?_⟩
    · rcases List.mem_cons.mp m with z | z
      · rw [z] at e
        obtain ⟨hz, ez⟩ := Array.getElem?_eq_some_iff.mp e
        obtain ⟨t, et⟩ := PyProof.Rows.IntsAre.int_at hi 0 x (by rw [Array.getElem?_toList]; exact e)
        exact ⟨_, t, et⟩
      · exact h1 f z x e
    · rw [List.mapM_cons]
      refine wpAny_bind ?_
      rw [PySem.W.kas_first_eq]
      refine wpAny_bind (PySem.W.Looks.here (show PySem.W.Looks M s.heap (typeOf (.ref a)) o.cls from (PySem.W.Looks.ld ho).andThen .now) ?_)
      rw [hc, if_neg (by simp)]
      refine wpAny_bind (listItems_at ho hd (wpAny_pure ?_))
      exact wpAny_bind (h2 (fun bs s' => wpAny M A (pure (its[0]? :: bs)) Q E s') E (wpAny_pure q))
theorem all_some : ∀ {fs : List (Option Value)}, (fs.toArray.all fun x => x.isSome) = true → ∃ gs : List Value, fs = gs.map some
  | [], _ => ⟨[], rfl⟩
  | f :: fs, h => by
    simp only [List.all_toArray, List.all_cons, Bool.and_eq_true] at h
    obtain ⟨gs, e⟩ := all_some (fs := fs) (by simp only [List.all_toArray]; exact h.2)
    cases f with
    | none => simp at h
    | some g => exact ⟨g :: gs, by rw [List.map_cons, e]⟩
theorem kinds_lots {vs : List Value} {k : Value → List Int} (hp : ∀ v ∈ vs, LotV s.heap v (k v)) (h0 : 0 < vs.length) :
    ∃ κ : SortKind, (κ = tuples' true ∨ κ = general' ∨ κ = oneType') ∧ ∀ (Q : SortKind → Shared → Prop) (E : Value → Shared → Prop), Q κ s → wpAny M A (keyKind' vs.toArray) Q E s := by
  obtain ⟨fs, hl, h1, h2⟩ := firsts_ints (M := M) (A := A) hp
  have ty : ∀ v ∈ vs, ∀ (Q' : Value → Shared → Prop) (E : Value → Shared → Prop), Q' (.type "tuple") s → wpAny M A (typeOf v) Q' E s := fun v m Q' E q => by
    obtain ⟨a, o, its, n, rfl, ho, hc, hd, hi⟩ := hp v m
    have L : PySem.W.Looks M s.heap (typeOf (.ref a)) o.cls := (PySem.W.Looks.ld ho).andThen .now
    rw [hc] at L
    exact L.here q
  by_cases ca : (fs.toArray.all fun x => x.isSome) = true
  · have cn : fs ≠ [] := fun z => by
      rw [z] at hl
      simp at hl
      omega
    refine ⟨tuples' true, .inl rfl, fun Q E q => ?_⟩
    rw [keyKind'_eq, List.mapM_toArray, map_eq_pure_bind]
    refine wpAny_bind (wpAny_bind (h2 _ _ (wpAny_pure ?_)))
    rw [if_pos ca]
    refine wpAny_bind (wpAny_rule ?_)
    obtain ⟨gs, eg⟩ := all_some ca
    subst eg
    have hfm : ((gs.map some).toArray.filterMap id) = gs.toArray := by simp
    rw [hfm, oneTypeOnly'_eq, List.mapM_toArray, map_eq_pure_bind]
    refine wpAny_bind (wpAny_bind (wpAny_bind (PySem.W.kas_mapM (r := Value.type "int") _ (fun v hv Q' hq => ?_) (wpAny_pure ?_))))
    · obtain ⟨i, t, rfl⟩ := h1 (some v) (List.mem_map.mpr ⟨v, hv, rfl⟩) v rfl
      exact PySem.W.Looks.now.here hq
    · match gs, cn with
      | g :: gr, _ =>
        have hall2 : ((List.map (fun _ => Value.type "int") (g :: gr)).toArray.all fun x => x == Value.type "int") = true := by
          simp only [List.all_toArray, List.all_map, List.all_eq_true]
          intro _ _
          rfl
        have hz : (List.map (fun _ => Value.type "int") (g :: gr)).toArray[0]? = some (Value.type "int") := by simp
        rw [hz]
        dsimp only
        rw [hall2]
        simp only [if_true]
        refine wpAny_pure (wpAny_pure ?_)
        exact q
  · by_cases cg : (fs.toArray[0]?.bind id).isSome = true
    · refine ⟨general', .inr (.inl rfl), fun Q E q => ?_⟩
      rw [keyKind'_eq, List.mapM_toArray, map_eq_pure_bind]
      refine wpAny_bind (wpAny_bind (h2 _ _ (wpAny_pure ?_)))
      rw [if_neg ca, if_pos cg]
      exact wpAny_pure q
    · refine ⟨oneType', .inr (.inr rfl), fun Q E q => ?_⟩
      rw [keyKind'_eq, List.mapM_toArray, map_eq_pure_bind]
      refine wpAny_bind (wpAny_bind (h2 _ _ (wpAny_pure ?_)))
      rw [if_neg ca, if_neg cg]
      rw [oneTypeOnly'_eq, List.mapM_toArray, map_eq_pure_bind]
      refine wpAny_bind (wpAny_bind (wpAny_bind (PySem.W.kas_mapM (r := Value.type "tuple") _ (fun v hv Q' hq => ty v hv Q' E hq) (wpAny_pure ?_))))
      match vs, h0 with
      | g :: gr, _ =>
        have hall2 : ((List.map (fun _ => Value.type "tuple") (g :: gr)).toArray.all fun x => x == Value.type "tuple") = true := by
          simp only [List.all_toArray, List.all_map, List.all_eq_true]
          intro _ _
          rfl
        have hz : (List.map (fun _ => Value.type "tuple") (g :: gr)).toArray[0]? = some (Value.type "tuple") := by simp
        rw [hz]
        dsimp only
        rw [hall2]
        simp only [if_true]
        refine wpAny_pure (wpAny_pure ?_)
        exact q
theorem lots_cmp {prog : Program} {w : World} {vs : List Value} {k : Value → List Int} {κ : SortKind} (hp : ∀ v ∈ vs, LotV s.heap v (k v)) (hk : κ = tuples' true ∨ κ = general' ∨ κ = oneType') (hu : A.units < cLine) :
    SrtO.Cmp prog w A s κ (fun p => p.1 ∈ vs) (SrtO.lt2 fun v u => lexL (k v) (k u)) := by
  intro p q hm hm'
  show wpAny (model prog w) A (keyLt' κ p.1 q.1) (fun r s' => s' = s ∧ r = lexL (k p.1) (k q.1)) (fun _ _ => False) s
  obtain ⟨a, o, xs, n, ea, ho, hc, hd, hi⟩ := hp _ hm
  obtain ⟨b, o', ys, n', eb, ho', hc', hd', hi'⟩ := hp _ hm'
  have R := lots_lt ho hc hd hi ho' hc' hd' hi' hu
  rw [ea] at R hi ⊢
  rw [eb] at R hi' ⊢
  rcases hk with rfl | rfl | rfl
  · refine PySem.W.kat_lt ho hd ho' hd' (katLex_ints 0 hi hi' ⟨rfl, ?_⟩)
    have e1 : xs.size = (k (.ref a)).length := by
      rw [← hi.length]
      simp
    have e2 : ys.size = (k (.ref b)).length := by
      rw [← hi'.length]
      simp
    rw [e1, e2]
    rfl
  · exact PySem.W.kat_one _ _ (R prog w _ _ ⟨rfl, rfl⟩)
  · show wpAny (model prog w) A (oneLt' true (.ref a) (.ref b)) _ _ _
    rw [oneLt'_eq]
    simp only [if_true]
    refine wpAny_bind (wpAny_cRoomFor hu ?_)
    refine wpAny_bind (wpAny_callSpecialIfBound?_slot ⟨_, ho, hc⟩ F.slot_tuple_lt (lots_slot ho hc hd hi ho' hc' hd' hi' ?_))
    exact wpAny_truthy_bool ⟨rfl, rfl⟩
end
/-- sorted(xs), xs a list of tuples of whole numbers (k says which) -/
def rSortedL (K : PySem.W.Frag) : List V → Hp → VK → Prop := fun vs H Q => ∃ (a : Addr) (xs : List V) (k : V → List Int), vs = [V.ref a] ∧ SqL K H a xs ∧ (∀ x ∈ xs, ∃ t, x = V.ref t ∧ Ints H t (k x)) ∧
  ∀ ys p, ys.Perm xs → ys.Pairwise (fun x y => lexL (k y) (k x) = false) → H p = none → Q (.ref p) (upd H p (.lst ys))
theorem cr_sortedL {X : Cx} (hu : X.A.units + 2 < cLine) : CallR X (.builtin "sorted") (rSortedL X.K) := by
  intro pins s σ H vs us Q I r h
  obtain ⟨a, xs, k, rfl, hs, hx, q⟩ := h
  obtain ⟨its, rv, hl, hz⟩ := I.list hs
  obtain ⟨u, rfl, ru⟩ := vals1 r
  obtain rfl : u = Value.ref a := ru
  obtain ⟨e1, e2⟩ := refs_back rv fun x m => by
    obtain ⟨t, e, _⟩ := hx x m
    exact ⟨t, e⟩
  have lot : ∀ v ∈ its, LotV s.heap v (k (backV v)) := fun v hv => by
    obtain ⟨t, rfl⟩ := e2 v hv
    have hm : V.ref t ∈ xs := by
      rw [e1]
      exact List.mem_map.mpr ⟨_, hv, rfl⟩
    obtain ⟨t', e, ht⟩ := hx _ hm
    cases e
    obtain ⟨_, its2, r2, o, ho, hc, n, hd⟩ := I.hok _ _ ht
    exact ⟨t, o, its2.toArray, n, rfl, ho, hc, hd, by have z := r2.ints; simpa using (show IntsAre its2 (k (backV (Value.ref t))) from z)⟩
  have swo := swo_lexL (fun u : Value => k (backV u))
  refine SrtO.sorted_ord swo hl.isList (by rw [← rv.length]; exact hz) (fun h2 h₁ b hb kk h' keep => ?_) fun out hs2 hb2 => ?_
  · have lot2 : ∀ v ∈ its, LotV h' v (k (backV v)) := fun v hv => (lot v hv).keeps fun c o e cc => by
      obtain ⟨n1, n2⟩ := kk c o e
      exact keep c o n1 n2
    obtain ⟨κ, c1, c2⟩ := kinds_lots (M := model X.prog X.w) (A := X.A.in1.in1) (s := { s with heap := h' }) lot2 (by omega)
    exact ⟨κ, c2, lots_cmp lot2 c1 (by show X.A.units + 1 + 1 < cLine; omega)⟩
  · have h3 : ∀ u ∈ out, ∃ a, u = Value.ref a := fun u hu => e2 u (hb2.perm.mem_iff.mp hu)
    obtain ⟨n, hn⟩ := PyProof.Rows.sortedAll_at s.heap its out.toArray
    have pe : (out.map backV).Perm xs := by
      rw [e1]
      exact hb2.perm.map backV
    refine ⟨.ref (s.heap.objs.size + 1), upd H (s.heap.objs.size + 1) (.lst (out.map backV)), I.laid (t' := s.toks) (fun b o e => PyProof.Rows.sortedAll_old e) (Nat.le_succ _) ⟨?_, out, n, vals_back h3, hn⟩, rfl, q _ _ pe (List.pairwise_map.mpr hs2) (I.hok.fresh (Nat.le_succ _))⟩
    rw [pe.length_eq]
    exact hz
end EX

-- G6
set_option Elab.async false
set_option linter.all false
set_option maxRecDepth 100000
set_option maxHeartbeats 4000000
/-! tuple of a generator expression -/
namespace GE
open PySem PySem.Spec PyProof.Rows L2 GxR GenW
def HereS (Xg : Cx) (ga : Addr) (go : Obj) (S : Addr) (ys : List V) (H : Hp) (s : Shared) : Prop := ∃ (ip : List (Addr × Obj)) (σ : L2.St), GI Xg S ip ys σ H s ∧ (ga, go) ∈ ip
def YT (Xg : Cx) (ga : Addr) (go : Obj) (S : Addr) : Protocol := fun _ _ v s kap =>
  ∃ (ys : List V) (H : Hp), HereS Xg ga go S ys H s ∧ ys.length < sizeLine ∧ ∀ s', Slept S v s s' → kap (.send .none) s'
def RT (Xg : Cx) (ga : Addr) (go : Obj) (S : Addr) (QT : List V → Hp → Prop) : GenEnd := fun _ _ r s => r = .ok .next ∧ ∃ ys H, HereS Xg ga go S ys H s ∧ ys.length ≤ sizeLine ∧ QT ys H
section
variable {Xg : Cx} {elt tg iter : Expr} {ifs : List Expr} {scope : Scope} {pos : Pos} {Ag : Around} {J : It} {fp : List Addr} {it : Addr} {tn : Nat → Heap → Prop} {g : TG} {tt : TT} {te : TE} {σ0 : L2.St} {vs : List Nat} {QT : List V → Hp → Prop} {ga S : Addr} {go : Obj}
theorem seg_tupLoop (hA : Xg.A = Ag.over (gLoop (genE elt tg iter ifs scope pos) it Xg.env) []) (hc : Xg.calm = true) (hx : Xg.xe = fun _ _ => False) (hco : Xg.env.scope.isCoroutine = false)
    (T : Turn Xg.prog Xg.w Xg.K tg J fp it tn) (hfp : ∀ b ∈ fp, b ≠ Xg.env.locals ∧ b ∉ Xg.fs ∧ b ∈ Xg.ex ∧ (∀ x c, Xg.env.cells.lookup x = some c → c ≠ b) ∧ (∀ p ∈ Xg.pn, p.1 ≠ b) ∧ ga ≠ b ∧ S ≠ b)
    (hpn : ∀ p ∈ Xg.pn, p.1 ≠ S) (hgS : ga ≠ S) (hap : Apart Xg S)
    (pg : PG Xg tg g) (pt : PTs Xg ifs tt) (pe : PE Xg elt te) (W : Nat → Nat → List V → Hp → Prop)
    (turn : ∀ i m ys H, W i m ys H → (J.stop i H ∧ ys.length ≤ sizeLine ∧ QT ys H) ∨ (J.go i H ∧ ∃ Nx : List V → Hp → Prop, (∀ ys' H', Nx ys' H' → ∃ m', m' < m ∧ W (i + 1) m' ys' H') ∧ ∀ x H', J.yld i H x H' → g x σ0 H' fun σ2 H2 => wipe σ2 vs = σ0 ∧ tt σ2 H2 fun b H3 =>
      if b = true then te σ2 H3 fun y H4 => ys.length < sizeLine ∧ Nx (ys ++ [y]) H4 else Nx ys H3)) :
    ∀ (m N i : Nat) (s₀ s : Shared) (H : Hp) (ys : List V), m + 1 ≤ N → W i m ys H → GI Xg S [(ga, go)] ys σ0 H s → tn i s.heap → (∀ b ∈ fp, H b = none) →
      Seg (model Xg.prog Xg.w) Ag (RT Xg ga go S QT) (YT Xg ga go S) N s₀ (gLoop (genE elt tg iter ifs scope pos) it Xg.env) ((model Xg.prog Xg.w).den (gLoop (genE elt tg iter ifs scope pos) it Xg.env)) [] s := by
  intro m
  induction m using Nat.strongRecOn with
  | ind m ih =>
    intro N i s₀ s H ys hN w0 GI0 st nfp
    obtain ⟨acc, cc, rv, I⟩ := GI0
    have stat : ∀ {H' : Hp} {o : Obj}, (∀ b ∈ fp, H' b = none) → ∀ b ∈ fp, FpOk Xg [(S, o), (ga, go)] H' b := fun {H' o} hn b hb => by
      obtain ⟨f1, f2, f3, f4, f5, f6, f7⟩ := hfp b hb
      refine ⟨hn b hb, f1, f2, .inl f3, f4, fun p hp => ?_⟩
      rcases List.mem_append.mp hp with hp | hp
      · exact f5 p hp
      · rcases List.mem_cons.mp hp with hp | hp
        · rw [hp]
          exact f7
        · rw [List.mem_singleton.mp hp]
          exact f6
    show Seg _ Ag _ _ _ s₀ _ ((compTurn (genE elt tg iter ifs scope pos) 0 (.ref it) .none Xg.env).onRaise (leaving Xg.env)) [] s
    rw [compTurn_gen, Sem.onRaise_eq_wrap]
    refine seg_bind_wrap (wpAny_standAt ?_)
    rcases turn i m ys H w0 with ⟨stop, le, qt⟩ | ⟨go', Nx, hNx, step⟩
    · have td := T.done Xg rfl rfl rfl hc i _ s σ0 H (fun _ _ => False) I (stat nfp) st stop
      rw [hA] at td
      refine seg_bind_wrap (thnF td fun r s1 ⟨hr, I1⟩ => ?_)
      subst hr
      exact seg_end (.ok .next) ⟨rfl, ys, H, ⟨_, _, ⟨acc, cc, rv, I1⟩, List.mem_singleton.mpr rfl⟩, le, qt⟩
    · have ti := T.item Xg rfl rfl rfl hc i _ s σ0 H (fun _ _ => False) I (stat nfp) st go'
      rw [hA] at ti
      refine seg_bind_wrap (thnF ti fun r s1 ⟨u, hr, h1⟩ => ?_)
      subst hr
      refine seg_bind_wrap (thnF h1 fun _ s2 ⟨x, H2, I2, r2, y2, st2, n2⟩ => ?_)
      have I2' := I2.pinned (stat n2) (T.obj _ _ st2)
      have rg := pg.run _ s2 σ0 H2 x u _ I2' r2 (step x H2 y2)
      rw [hA, hx] at rg
      refine seg_bind_wrap (thnF rg fun _ s3 ⟨σ3, H3, I3, hw3, q3⟩ => ?_)
      have rt := pt.run _ s3 σ3 H3 _ I3 q3
      rw [hA, hx] at rt
      refine seg_bind_wrap (thnF rt fun b s4 ⟨H4, I4, q4⟩ => ?_)
      have hip : ∀ p ∈ [(ga, go)] ++ pinsAt fp s2.heap, p.1 ≠ S := fun p hp => by
        rcases List.mem_append.mp hp with hp | hp
        · rw [List.mem_singleton.mp hp]
          exact hgS
        · exact (hfp p.1 (of_pinsAt hp).1).2.2.2.2.2.2.symm
      -- the turn's end
      have fin : ∀ {s' : Shared} {H' : Hp} {ys' : List V}, GI Xg S ([(ga, go)] ++ pinsAt fp s2.heap) ys' σ3 H' s' → Nx ys' H' → ∃ m', m' < m ∧ W (i + 1) m' ys' H' ∧ GI Xg S [(ga, go)] ys' σ0 H' s' ∧ tn (i + 1) s'.heap ∧ ∀ b ∈ fp, H' b = none := fun {s' H' ys'} ⟨acc', c', rv', I'⟩ nx => by
        obtain ⟨m', hm, w'⟩ := hNx ys' H' nx
        have pin' : ∀ b ∈ fp, ∀ o, s2.heap.get? b = some o → s'.heap.get? b = some o ∧ H' b = none := fun b hb o e =>
          let z := I'.pin (b, o) (List.mem_append_right _ (List.mem_cons_of_mem _ (List.mem_append_right _ (mem_pinsAt hb e))))
          ⟨z.1, z.2.1⟩
        have hl : σ0.length = σ3.length := by rw [← hw3, wipe_length]
        have I'' : Inv Xg ([(S, lstObj acc' c'), (ga, go)] ++ pinsAt fp s2.heap) σ3 H' s' := I'
        refine ⟨m', hm, w', ⟨acc', c', rv', I''.unpinned.weak hl fun j v e => ?_⟩, T.keep _ _ _ st2 fun b hb o e => (pin' b hb o e).1, fun b hb => ?_⟩
        · rw [← hw3] at e
          exact (wipe_some e).1
        · obtain ⟨o, e, _⟩ := T.obj _ _ st2 b hb
          exact (pin' b hb o e).2
      cases b with
      | false =>
        simp only [Bool.false_eq_true, if_false] at q4 ⊢
        obtain ⟨m', hm, w', I', st', n'⟩ := fin ⟨acc, cc, rv, I4⟩ q4
        exact seg_again rfl (ih m' hm N (i + 1) s₀ s4 H4 ys (by omega) w' I' st' n')
      | true =>
        simp only [if_true] at q4 ⊢
        have hy : ∀ v, yieldOut Xg.env v = yieldValue v := fun v => by simp only [yieldOut, hco, Bool.false_eq_true, if_false]
        simp only [hy]
        rw [Sem.bind_eq_wrap', Sem.bind_eq_wrap', Sem.wrap_wrap, Sem.wrap_wrap]
        have re := pe.run _ s4 σ3 H4 _ I4 q4
        rw [hA, hx] at re
        refine seg_wrap (thnF re fun v s5 ⟨y, H5, I5, r5, lt5, q5⟩ => ?_)
        obtain ⟨N', rfl⟩ : ∃ N', N = N' + 1 := ⟨N - 1, by omega⟩
        have G5 : GI Xg S ([(ga, go)] ++ pinsAt fp s2.heap) ys σ3 H5 s5 := ⟨acc, cc, rv, I5⟩
        refine seg_at (seg_yield rfl rfl rfl ⟨ys, H5, ⟨_, _, G5, List.mem_append_left _ (List.mem_singleton.mpr rfl)⟩, lt5, fun s6 sl => ?_⟩)
        obtain ⟨m', hm, w', I', st', n'⟩ := fin (G5.woken hpn hip hap r5 sl) q5
        exact seg_again rfl (ih m' hm N' (i + 1) _ _ H5 _ (by omega) w' I' st' n')
end
end GE

-- G7
set_option Elab.async false
set_option linter.all false
set_option maxRecDepth 100000
set_option maxHeartbeats 4000000
namespace GE
open PySem PySem.Spec PyProof.Rows L2 GxR GenW
section
variable {Xg : Cx} {QT : List V → Hp → Prop} {ga S : Addr} {go : Obj}
/-- the list at S takes what it hands out -/
theorem tup_drain {prog : Program} {w : World} {A : Around} {R : Result → Shared → Prop} {g : Nat} {res : Value} (hX : Xg.base.NoLimit) (hh : A.handled = none) (hd : A.depth < recursionLimit) (hgo : IsG go g) (hgS : ga ≠ S) (hb0 : ∀ o, Xg.base.get? S ≠ some o)
    (hT : ∀ s ys H h', HereS Xg ga go S ys H s → ys.length ≤ sizeLine → QT ys H → (∀ b o, s.heap.get? b = some o → h'.get? b = some o) → R (.ok (.ret res)) { s.setGen g .finished with heap := h' }) :
    ∀ (N : Nat) (s : Shared), s.heap.IsGen ga g → s.heap.NoLimit → (∃ gs, s.gens[g]? = some gs ∧ gs.Goes (model prog w) A.in1.in1 (RT Xg ga go S QT) (YT Xg ga go S) N (.send .none) (s.setGen g .running)) →
      codeAny (model prog w) A (.builtin "list.extend.loop" ⟨[.ref S, .ref ga, res], []⟩) R s := by
  intro N
  induction N with
  | zero =>
    intro s hg hl ⟨gs, hgs, goes⟩
    refine codeAny_builtin F.entry_extend_loop ?_
    rw [Around.under_plainId F.plain_extend_loop _]
    show wpAny _ A.in1 (pyNext (.ref ga) >>= _) _ _ s
    refine wpAny_bind (wpAny_pyNext_genexpQ (A := A.in1) (P := fun _ _ s₁ => ∃ ys H, HereS Xg ga go S ys H s₁ ∧ ys.length ≤ sizeLine ∧ QT ys H) hh hl hd hg hgs goes (fun v s₁ gs' hb hv => ?_) (fun s₁ hp h' hk => ?_))
    · obtain ⟨ys, H, ⟨ip, σ, gi, hm⟩, lt, q2⟩ := hv
      obtain ⟨_, _, _, acc, c, rv, hS⟩ := gi.at
      obtain ⟨acc2, c2, rv2, I⟩ := id gi
      exact False.elim (q2 _ (Slept.push hS I.bare))
    · obtain ⟨ys, H, hH, le, q⟩ := hp
      exact wpAny_pure (hT _ ys H _ hH le q hk)
  | succ N ih =>
    intro s hg hl ⟨gs, hgs, goes⟩
    have hgl : g + 1 ≤ s.gens.size := (Array.getElem?_eq_some_iff.mp hgs).1
    refine codeAny_builtin F.entry_extend_loop ?_
    rw [Around.under_plainId F.plain_extend_loop _]
    show wpAny _ A.in1 (pyNext (.ref ga) >>= _) _ _ s
    refine wpAny_bind (wpAny_gsz (n := g + 1) hgl (wpAny_pyNext_genexpQ (A := A.in1) (P := fun _ _ s₁ => ∃ ys H, HereS Xg ga go S ys H s₁ ∧ ys.length ≤ sizeLine ∧ QT ys H) hh hl hd hg hgs goes (fun v s₁ gs' hb hv hsz => ?_) (fun s₁ hp h' hk hsz => ?_)))
    · obtain ⟨ys, H, ⟨ip, σ, gi, hm⟩, lt, q2⟩ := hv
      obtain ⟨_, _, _, acc, c, rv, hS⟩ := gi.at
      obtain ⟨acc2, c2, rv2, I⟩ := id gi
      have hacc : acc.size < sizeLine := by
        have z := rv.length
        have e : acc.toList.length = acc.size := by simp
        omega
      show wpAny _ A.in1 (updateSeq S (·.push v) >>= _) _ _ _
      refine wpAny_bind ?_
      refine wpAny_updateSeq (s := s₁.setGen g gs') hS rfl (wpAny_pure ⟨plainId_quiet F.plain_extend_loop _, ?_⟩) (Nat.le_of_lt hacc) (by show (acc.push v).size ≤ sizeLine + 1; rw [Array.size_push]; omega)
      have keep3 : ∀ b o, b ≠ S → s₁.heap.get? b = some o → (s₁.heap.update S (Obj.mapSeq (·.push v))).get? b = some o := fun b o hbS e => (Heap.get?_update_other _ _ (Ne.symm hbS)).trans e
      have hlt : g < s₁.gens.size := by
        have e := setGen_size s₁ g gs'
        omega
      refine ih { s₁.setGen g gs' with heap := s₁.heap.update S (Obj.mapSeq (·.push v)) } ?_ ?_ ⟨gs', setGen_at hlt, ?_⟩
      · obtain ⟨nm, qn, e⟩ := hgo
        have z := (I.pin (ga, go) (List.mem_append_right _ (List.mem_cons_of_mem _ hm))).1
        refine ⟨go, nm, qn, keep3 ga go hgS z, ?_⟩
        subst e
        exact ⟨rfl, rfl, rfl⟩
      · exact hX.keeps fun b o e => keep3 b o (fun z => hb0 o (by rw [← z]; exact e)) (I.bk b o e)
      · exact q2 _ (Slept.push hS (allBare_setGen (s := s₁.setGen g gs') (allBare_setGen I.bare hb) rfl))
    · obtain ⟨ys, H, hH, le, q⟩ := hp
      exact wpAny_pure (hT _ ys H _ hH le q hk)
end
section
variable {prog : Program} {w : World} {A : Around} {E : Value → Shared → Prop} {s : Shared} {a : Addr} {g : Nat}
/-- collect of a generator: the loop at a new list -/
theorem collect_gen {Q : List Value → Shared → Prop} (hg : s.heap.IsGen a g)
    (hloop : ∀ h4 c, (∀ b o, s.heap.get? b = some o → h4.get? b = some o) → h4.get? s.heap.objs.size = some (lstObj #[] c) →
      codeAny (model prog w) A (.builtin "list.extend.loop" ⟨[.ref s.heap.objs.size, .ref a, .ref s.heap.objs.size], []⟩) (fun r s' => r = .ok (.ret (.ref s.heap.objs.size)) ∧ ∃ acc c, s'.heap.get? s.heap.objs.size = some (lstObj acc c) ∧ Q acc.toList s') { s with heap := h4 }) :
    wpAny (model prog w) A (collect (.ref a)) Q E s := by
  have hSI : s.heap.objs.size ≠ a := fun e => by
    obtain ⟨o, nm, qn, ho, _⟩ := hg
    exact Nat.lt_irrefl _ (e ▸ Heap.lt_size ho)
  have lay : ∀ b o, s.heap.get? b = some o → (s.heap.push { cls := .type "list", data := .seq ([] : List Value).toArray }).get? b = some o := fun b o e => Heap.get?_push_of_some _ e
  have hg1 : (s.heap.push { cls := .type "list", data := .seq ([] : List Value).toArray }).IsGen a g := hg.push _
  unfold collect
  refine wpAny_bind (wpAny_runValue (codeAny_builtin F.entry_proto_collect ?_))
  rw [Around.under_plainId F.plain_proto_collect _]
  show wpAny _ A.in1 (newList [] >>= fun l => again (.builtin "list.__iadd__" ⟨[l, .ref a], []⟩)) _ _ s
  refine wpAny_bind (wpAny_newObj_type ?_)
  refine wpAny_pure ⟨plainId_quiet F.plain_list_iadd _, codeAny_builtin F.entry_list_iadd ?_⟩
  rw [Around.under_plainId F.plain_list_iadd _]
  show wpAny _ A.in1 (Builtin.List.listExtendWith (.ref s.heap.objs.size) (.ref a) (.ref s.heap.objs.size)) _ _ _
  unfold Builtin.List.listExtendWith
  refine wpAny_bind (wpAny_typeOf (Heap.IsGen.typeIs (s := { s with heap := _ }) hg1) ?_)
  have h1 : Builtin.List.listSameRef (.ref s.heap.objs.size) (.ref a) = false := by simp [Builtin.List.listSameRef, hSI]
  have h2 : (Value.type "generator" == Value.type "list") = false := by decide
  have h3 : (Value.type "generator" == Value.type "tuple") = false := by decide
  simp only [h1, h2, h3, Bool.or_false, Bool.false_eq_true, if_false]
  refine wpAny_bind (wpAny_pyIter_gen (s := { s with heap := _ }) hg1 ?_)
  refine wpAny_bind (wpAny_holding ?_)
  unfold Builtin.List.listLengthHint
  refine wpAny_bind (wpAny_specialOf (Heap.IsGen.typeIs (s := { s with heap := _ }) hg1) F.gen_no_len ?_)
  show wpAny _ A.in1 (specialOf (Value.ref a) (Str.ofString "__length_hint__") >>= _) _ _ _
  refine wpAny_bind (wpAny_specialOf (Heap.IsGen.typeIs (s := { s with heap := _ }) hg1) F.gen_no_hint ?_)
  refine wpAny_pure ?_
  show wpAny _ A.in1 (rule "list.extend.makes-room" >>= fun _ => Builtin.List.listTouch (.ref s.heap.objs.size) >>= fun _ =>
    again (.builtin "list.extend.loop" ⟨[.ref s.heap.objs.size, .ref a, .ref s.heap.objs.size], []⟩)) _ _ _
  refine wpAny_bind (wpAny_rule ?_)
  have hS1 : (s.heap.push { cls := .type "list", data := .seq ([] : List Value).toArray }).get? s.heap.objs.size = some { cls := .type "list", data := .seq ([] : List Value).toArray } := Heap.get?_push_size _ rfl
  refine wpAny_bind ?_
  show wpAny _ A.in1 (updateSeq s.heap.objs.size (·.push .none) >>= fun _ => updateSeq s.heap.objs.size (·.pop)) _ _ _
  refine wpAny_bind (wpAny_updateSeq hS1 rfl ?_)
  have hS2 := Heap.get?_update_self (Obj.mapSeq (·.push Value.none)) hS1 rfl
  refine wpAny_updateSeq hS2 rfl ?_
  have hS3 := Heap.get?_update_self (Obj.mapSeq (·.pop)) hS2 rfl
  refine wpAny_pure ⟨plainId_quiet F.plain_extend_loop _, codeAny_mono (hloop _ _ (fun b o e => ?_) hS3) fun r s' z => ?_⟩
  · have hb : b ≠ s.heap.objs.size := Nat.ne_of_lt (Heap.lt_size e)
    exact (Heap.get?_update_other _ _ (Ne.symm hb)).trans ((Heap.get?_update_other _ _ (Ne.symm hb)).trans (lay b o e))
  · obtain ⟨rfl, acc, c, hS, q⟩ := z
    show wpAny _ A (load s.heap.objs.size >>= _) _ _ s'
    exact wpAny_bind (wpAny_load hS (wpAny_pure q))
/-- tuple of a generator -/
theorem call_tup_gen {Q : Value → Shared → Prop} (hg : s.heap.IsGen a g)
    (hcol : ∀ Q' : List Value → Shared → Prop, (∀ l s', l.length ≤ sizeLine → (∀ l', l' = l.toArray → Q (.ref s'.heap.objs.size) { s' with heap := s'.heap.push { cls := .type "tuple", data := .seq l' } }) → Q' l s') → wpAny (model prog w) A.in1.in1 (collect (.ref a)) Q' E s) :
    wpAny (model prog w) A (call (.type "tuple") [.ref a]) Q E s := by
  refine callType_codes (Q₁ := fun obj s1 => s1.TypeIs obj "tuple" ∧ Q obj s1) F.called_tuple (F.typeCall_tuple_1 _) F.entry_object_init ?_ fun obj s1 z => ⟨z.1, F.args_object_init_2 obj _, object_init_meets F.called_tuple.init.lookup F.called_tuple.made (by decide) prog w A.in1 _ s1 ⟨z.1, rfl, z.2⟩⟩
  refine codeAny_of_tree ?_
  show wpAny _ A.in1.in1 (do checkBuiltinCall "tuple.__new__" ⟨[.type "tuple", .ref a], []⟩; again (.builtin "tuple.__new__" ⟨[.type "tuple", .ref a], []⟩)) _ _ s
  refine wpAny_bind (wpAny_of_eq (F.newCall_tuple_1 _) (wpAny_pure ⟨plainId_quiet F.plain_tuple_new _, codeAny_builtin F.entry_tuple_new ?_⟩))
  rw [Around.under_plainId F.plain_tuple_new _]
  have isT := sub_tuple_self
  have noI := init_tuple_lookup
  have made := madeHere_tuple
  have tyI := hg.typeIs
  have col := hcol
  wp_walk using wpAny_typeOf tyI, col
  intro l s' le z
  show wpAny _ _ (Builtin.Tuple.tupleExact l.toArray >>= fun v => ret v) _ _ _
  unfold Builtin.Tuple.tupleExact
  refine wpAny_bind (wpAny_newObj_type ?_ (by show l.toArray.size ≤ sizeLine; rw [List.size_toArray]; exact le))
  exact wpAny_pure ⟨⟨_, Heap.get?_push_size _ rfl, rfl⟩, z _ rfl⟩
end
end GE

-- G8
set_option Elab.async false
set_option linter.all false
set_option maxRecDepth 100000
set_option maxHeartbeats 4000000
namespace GE
open PySem PySem.Spec PyProof.Rows L2 GxR GenW
/-- tuple(elt for tg in iter if ..): W by the turn, a measure, the items so far and the heap -/
def tTupG (P : Addr) (wi : TI) (g : TG) (tt : TT) (te : TE) (vs : List Nat) : TE := fun σ H Q => wi σ H fun J H1 => TabG H1 P ∧ ∀ H2, Tabbed P H1 H2 → ∃ W : Nat → Nat → List V → Hp → Prop, (∃ m, W 0 m [] H2) ∧ ∀ i m ys H, W i m ys H →
  (J.stop i H ∧ ys.length ≤ sizeLine ∧ ∀ p, H p = none → Q (.ref p) (upd H p (.tup ys))) ∨ (J.go i H ∧ ∃ Nx : List V → Hp → Prop, (∀ ys' H', Nx ys' H' → ∃ m', m' < m ∧ W (i + 1) m' ys' H') ∧ ∀ x H', J.yld i H x H' → g x (wipe σ vs) H' fun σ2 H2 => wipe σ2 vs = wipe σ vs ∧ tt σ2 H2 fun b H3 =>
    if b = true then te σ2 H3 fun y H4 => ys.length < sizeLine ∧ Nx (ys ++ [y]) H4 else Nx ys H3)
section
variable {X : Cx} {pins : List (Addr × Obj)} {σ : L2.St} {H : Hp} {s : Shared}
abbrev gAr4 (X : Cx) (e : Expr) (it : Addr) (ce : Env) : Around := (X.A.in1.in1.in1.in1).over (gLoop e it ce) []
theorem room_gAr4 {k : Nat} {elt tg iter : Expr} {ifs : List Expr} {scope : Scope} {pos : Pos} {it : Addr} {ce : Env} (hr : Room (k + 1) X.A) : Room k (gAr4 X (genE elt tg iter ifs scope pos) it ce) := by
  refine ⟨hr.hd, ?_, ?_⟩
  · have e : (gAr4 X (genE elt tg iter ifs scope pos) it ce).depth ≤ X.A.depth + 1 := Nat.le_of_eq rfl
    have := hr.dp
    omega
  · have e : (gAr4 X (genE elt tg iter ifs scope pos) it ce).units ≤ X.A.units + 1 + 1 + 1 + 1 + 3 := Nat.le_of_eq rfl
    have := hr.un
    omega
theorem frames_gAr4 {elt tg iter : Expr} {ifs : List Expr} {scope : Scope} {pos : Pos} {it : Addr} {ce : Env} {l : List Env} (h : X.A.frames = some l) : (gAr4 X (genE elt tg iter ifs scope pos) it ce).frames = some (ce :: l) := by
  show pushEnvs [ce] (pushEnvs [] X.A.frames) = _
  rw [h]
  rfl
theorem pe_tupG {c P : Addr} {elt tg iter : Expr} {ifs : List Expr} {p pos gpos : Pos} {scope : Scope} {own : List (Str × Nat)} {wi : TI} {g : TG} {tt : TT} {te : TE} {k : Nat}
    (hc : X.calm = true) (hN : X.N.Nodup) (hr : Room (k + 1) X.A) (hg : Gl X "tuple") (hm : X.mg "tuple" = none) (hb : bootBuiltins "tuple" = some (.type "tuple")) (TB : TabB X.base X.mg c P) (hcode : X.env.code = .ref c)
    (hi : PI X tg iter wi) (ok : BlkOk X.N X.env.scope scope own) (hcell : ∀ y ∈ scope.names, y.2 ≠ .cell) (hco : scope.isCoroutine = false) (h0 : scope.names.lookup (".0" : Str) = some NameKind.local)
    (hpg : ∀ (A' : Around) (s : Shared) (H : Hp) (C : Addr) (code : Value) (fp : List Addr), Room k A' → PG (gcx X A' s H (gEnv X scope C code) fp) tg g)
    (hpt : ∀ (A' : Around) (s : Shared) (H : Hp) (C : Addr) (code : Value) (fp : List Addr), Room k A' → PTs (gcx X A' s H (gEnv X scope C code) fp) ifs tt)
    (hpe : ∀ (A' : Around) (s : Shared) (H : Hp) (C : Addr) (code : Value) (fp : List Addr), Room k A' → PE (gcx X A' s H (gEnv X scope C code) fp) elt te)
    (hs : ∀ v, genFold iter X.env v = pure v := by intro _; rfl)
    (he : starEach [genE elt tg iter ifs scope gpos] X.env = (false, eval (genE elt tg iter ifs scope gpos) X.env) :: starEach [] X.env := by rfl) :
    PE X (.Call (.Name "tuple" p) [genE elt tg iter ifs scope gpos] [] pos) (tTupG P wi g tt te (own.map (·.2))) := by
  refine ⟨fun pins s σ H Q I h => ?_⟩
  refine wpAny_Call_Name_kw (ld_blt I hg hm hb ?_)
  refine PyProof.Rows.callWith_type1 ?_ he (by rfl)
  rw [he]
  show wpAny _ _ (spliced ((false, eval (genE elt tg iter ifs scope gpos) X.env) :: backTo pos (starEach [] X.env))) _ _ s
  refine Calls.spliced_cons (gen_eval (Rr := fun J H2 => _) hr TB hcode ok hcell hco h0 hi hs I h fun J H2 it fp tn code s4 s5 ga gn go M rr => ?_)
  obtain ⟨W, ⟨m0, w0⟩, turn⟩ := rr
  refine Calls.spliced_nil ?_
  have hlim : X.base.NoLimit := I.ok.mod.nolimit
  generalize hce : gEnv X scope s4.heap.objs.size code = ce
  have ceL : ce.locals = s4.heap.objs.size := by
    rw [← hce]
    rfl
  have gaP := M.obj
  obtain ⟨mN, hns⟩ := M.ns
  have I0 : Inv (gcx X (gAr4 X (genE elt tg iter ifs scope gpos) it ce) s4 H2 ce fp) [] (wipe σ (own.map (·.2))) H2 s5 := by
    rw [← hce]
    exact gen_start M.inv ok hN hcell M.fp hr.hd (frames_gAr4 M.inv.ok.frames) M.keep M.os M.bare hns
  have dgo : ∀ v, go.data ≠ .cell v := fun v z => by
    obtain ⟨nm, qn, e⟩ := M.isg
    rw [e] at z
    cases z
  have gaB : s4.heap.objs.size < ga := M.big
  have gaS5 : ga < s5.heap.objs.size := Heap.lt_size gaP
  have isG : s5.heap.IsGen ga gn := by
    obtain ⟨nm, qn, e⟩ := M.isg
    refine ⟨go, nm, qn, gaP, ?_⟩
    rw [e]
    exact ⟨rfl, rfl, rfl⟩
  have st5 : tn 0 s5.heap := M.turn.keep _ _ _ M.st fun b _ o e => M.keep b o e
  have notFs : ∀ b, s4.heap.objs.size ≤ b → b ∉ (gcx X (gAr4 X (genE elt tg iter ifs scope gpos) it ce) s4 H2 ce fp).fs := fun b hb z => by
    obtain ⟨_, o, ho, _⟩ := M.inv.stack.mem z
    exact absurd (Nat.lt_of_lt_of_le (Heap.lt_size ho) hb) (Nat.lt_irrefl _)
  refine call_tup_gen isG fun Q' hQ' => collect_gen isG fun h4 cc keep4 hS => ?_
  generalize hSd : s5.heap.objs.size = S at hS ⊢
  have hgS : ga ≠ S := by
    rw [← hSd]
    exact Nat.ne_of_lt gaS5
  have S4 : s4.heap.objs.size < S := by
    rw [← hSd]
    exact Nat.lt_trans gaB gaS5
  have I2 : Inv (gcx X (gAr4 X (genE elt tg iter ifs scope gpos) it ce) s4 H2 ce fp) [(S, lstObj #[] cc), (ga, go)] (wipe σ (own.map (·.2))) H2 { s5 with heap := h4 } := by
    refine (I0.kept (t' := s5.toks) keep4).pins_of fun q hq => ?_
    rcases List.mem_cons.mp hq with e | e
    · rw [e]
      refine ⟨hS, M.inv.hok.fresh (Nat.le_of_lt S4), ?_, notFs _ (Nat.le_of_lt S4), fun v z => by cases z⟩
      show S ≠ ce.locals
      rw [ceL]
      exact Nat.ne_of_gt S4
    · rw [List.mem_singleton.mp e]
      refine ⟨keep4 _ _ gaP, M.inv.hok.fresh (Nat.le_of_lt gaB), ?_, notFs _ (Nat.le_of_lt gaB), dgo⟩
      show ga ≠ ce.locals
      rw [ceL]
      exact Nat.ne_of_gt gaB
  have I3 := I2.call' (s' := ({ s5 with heap := h4 } : Shared).setGen gn .running) rfl (Un.kept fun _ _ e => e) I2.hok (allBare_setGen (s := { s5 with heap := h4 }) M.bare rfl) (ch := []) fun b z => absurd z (by simp)
  refine tup_drain (A := X.A.in1.in1) (prog := X.prog) (w := X.w) (Xg := gcx X (gAr4 X (genE elt tg iter ifs scope gpos) it ce) s4 H2 ce fp) (QT := fun ys H => ∀ p, H p = none → Q (.ref p) (upd H p (.tup ys))) (g := gn) hlim hr.hd (by have := hr.dp; show X.A.depth < _; omega) M.isg hgS (fun o e => ?_)
    (fun s' ys H' h' hh le q kk => ?_) (m0 + 1) { s5 with heap := h4 } (isG.keeps keep4) (hlim.keeps I2.bk) ⟨_, M.gen, rfl, ?_⟩
  · have z := Heap.lt_size (h := X.base) e
    have z1 := I.ok.bsz
    have z2 := M.inv.sz
    exact absurd (Nat.lt_of_lt_of_le z (Nat.le_trans z1 (Nat.le_trans z2 (Nat.le_of_lt S4)))) (Nat.lt_irrefl _)
  · obtain ⟨ip, σ', gi, hm⟩ := hh
    obtain ⟨_, _, _, acc, c2, rv, hS2⟩ := gi.at
    obtain ⟨acc3, c3, rv3, I4⟩ := id gi
    have bk := M.back (s' := { s'.setGen gn .finished with heap := h' }) ⟨_, _, I4, List.mem_cons_of_mem _ hm⟩ rfl (allBare_setGen I4.bare rfl) kk
    refine ⟨rfl, acc, c2, kk _ _ hS2, hQ' _ _ (by rw [← rv.length]; exact le) fun l' el => ?_⟩
    have np := bk.hok.fresh (Nat.le_refl _)
    refine ⟨.ref h'.objs.size, upd H' h'.objs.size (.tup ys), bk.laid (t' := s'.toks) (fun b o e => Heap.get?_push_of_some _ e) (Nat.le_refl _) ?_, rfl, q _ np⟩
    exact ⟨le, acc.toList, rv, ⟨_, Heap.get?_push_size _ rfl, rfl, _, by rw [el]⟩⟩
  · rw [hce]
    refine seg_allBegin M.turn (M.turn.keep _ _ _ st5 fun b _ o e => keep4 b o e) ?_
    have pg := hpg (gAr4 X (genE elt tg iter ifs scope gpos) it ce) s4 H2 s4.heap.objs.size code fp (room_gAr4 hr)
    have pt := hpt (gAr4 X (genE elt tg iter ifs scope gpos) it ce) s4 H2 s4.heap.objs.size code fp (room_gAr4 hr)
    have pe := hpe (gAr4 X (genE elt tg iter ifs scope gpos) it ce) s4 H2 s4.heap.objs.size code fp (room_gAr4 hr)
    rw [hce] at pg pt pe
    have hcoE : ce.scope.isCoroutine = false := by
      rw [← hce]
      exact hco
    refine seg_tupLoop (Xg := gcx X (gAr4 X (genE elt tg iter ifs scope gpos) it ce) s4 H2 ce fp) (vs := own.map (·.2)) rfl rfl rfl hcoE M.turn (fun b hb => ?_) (fun q hq => absurd (show q ∈ ([] : List (Addr × Obj)) from hq) (by simp)) hgS ⟨Nat.le_of_lt S4, by show S ≠ ce.locals; rw [ceL]; exact Nat.ne_of_gt S4, fun x c e z => ?_⟩ pg pt pe W (fun i m ys H w => turn i m ys H w) m0 (m0 + 1) 0 _ _ H2 [] (Nat.le_refl _) w0 ⟨#[], cc, .nil, I3⟩ (M.turn.keep _ _ _ st5 fun b _ o e => keep4 b o e) (fun b hb => (M.fp b hb).1.1)
    · have lb := (M.fp b hb).2
      exact ⟨(I0.ok.exf b hb).1, I0.ok.exfs b hb, hb, (I0.ok.exf b hb).2, fun p hp => absurd (show p ∈ ([] : List (Addr × Obj)) from hp) (by simp), Nat.ne_of_gt (Nat.lt_trans lb gaB), Nat.ne_of_gt (Nat.lt_trans lb S4)⟩
    · obtain ⟨v, z2⟩ := I0.cell x c e
      have lc := z2.lt
      rw [z, ← hSd] at lc
      exact Nat.lt_irrefl _ lc
end
end GE

-- R10
set_option Elab.async false
set_option linter.all false
set_option maxRecDepth 100000
set_option maxHeartbeats 4000000
/-! all lots -/
namespace EX
open PySem PySem.Spec PyProof.Rows L2
abbrev sLots : Stmt := top 23
abbrev sClLots : Stmt := top 25
def nLots : List Str := ["m", "lots", "fact", "lot"]
def nClLots : List Str := ["m", "rules", "lot"]
theorem scLots : FnScope nLots ["m"] (defScope sLots) := ⟨rfl, rfl, rfl, by decide +kernel, rfl, by decide +kernel, by decide +kernel⟩
theorem scClLots : FnScope nClLots ["m", "rules"] (defScope sClLots) := ⟨rfl, rfl, rfl, by decide +kernel, rfl, by decide +kernel, by decide +kernel⟩
/-- all lots of m facts, in the order in which they are made -/
def allL : Nat → List (List Int)
  | 0 => [[]]
  | k + 1 => allL k ++ (allL k).map fun l => l ++ [(k : Int)]
theorem allL_len : ∀ k, (allL k).length = 2 ^ k
  | 0 => rfl
  | k + 1 => by
    rw [allL, List.length_append, List.length_map, allL_len k, Nat.pow_succ]
    omega
theorem allL_mem : ∀ (k : Nat) (l : List Int), l ∈ allL k ↔ l.Pairwise (· < ·) ∧ ∀ x ∈ l, 0 ≤ x ∧ x < k
  | 0, l => by
    rw [allL, List.mem_singleton]
    constructor
    · rintro rfl
      exact ⟨.nil, fun x m => by simp at m⟩
    · rintro ⟨_, h⟩
      cases l with
      | nil => rfl
      | cons x r =>
        have := h x List.mem_cons_self
        omega
  | k + 1, l => by
    rw [allL, List.mem_append, List.mem_map, allL_mem k l]
    constructor
    · rintro (⟨h1, h2⟩ | ⟨q, hq, rfl⟩)
      · refine ⟨h1, fun x m => ?_⟩
        have := h2 x m
        omega
      · obtain ⟨h1, h2⟩ := (allL_mem k q).mp hq
        refine ⟨List.pairwise_append.mpr ⟨h1, by simp, fun a ma b mb => ?_⟩, fun x m => ?_⟩
        · rw [List.mem_singleton.mp mb]
          exact (h2 a ma).2
        · rcases List.mem_append.mp m with m | m
          · have := h2 x m
            omega
          · rw [List.mem_singleton.mp m]
            omega
    · rintro ⟨h1, h2⟩
      by_cases c : (k : Int) ∈ l
      · right
        -- the last one
        obtain ⟨p, q, rfl⟩ := List.append_of_mem c
        obtain ⟨p1, p2, p3⟩ := List.pairwise_append.mp h1
        have q0 : q = [] := by
          cases q with
          | nil => rfl
          | cons y r =>
            have a := (List.pairwise_cons.mp p2).1 y List.mem_cons_self
            have b := h2 y (by simp)
            omega
        subst q0
        refine ⟨p, (allL_mem k p).mpr ⟨p1, fun x m => ?_⟩, rfl⟩
        have a := h2 x (by simp [m])
        have b := p3 x m k (by simp)
        omega
      · left
        refine ⟨h1, fun x m => ?_⟩
        have a := h2 x m
        have b : x ≠ k := fun z => c (z ▸ m)
        omega
theorem allL_nodup : ∀ k, (allL k).Nodup
  | 0 => by simp [allL]
  | k + 1 => by
    rw [allL]
    refine List.nodup_append.mpr ⟨allL_nodup k, ?_, fun a ma b mb e => ?_⟩
    · refine List.pairwise_map.mpr ((allL_nodup k).imp fun {a b} h z => h ?_)
      exact List.append_cancel_right z
    · obtain ⟨q, hq, rfl⟩ := List.mem_map.mp mb
      have := ((allL_mem k a).mp ma).2 k (by rw [e]; simp)
      omega
/-- x is a tuple that holds l -/
def LotAt (H : Hp) (l : List Int) (x : V) : Prop := ∃ t, x = .ref t ∧ Ints H t l
theorem Gr.lot {Ps : List Addr} {H H' : Hp} {l : List Int} {x : V} (g : Gr Ps H H') (h : LotAt H l x) : LotAt H' l x := let ⟨t, e, h1⟩ := h; ⟨t, e, g.tup h1⟩
abbrev LotsAt (H : Hp) (L : List (List Int)) (xs : List V) : Prop := Paired (LotAt H) L xs
theorem Gr.lots {Ps : List Addr} {H H' : Hp} {L : List (List Int)} {xs : List V} (g : Gr Ps H H') (h : LotsAt H L xs) : LotsAt H' L xs := Paired.mapP h fun _ _ q => g.lot q
theorem paired_app {α β : Type} {F : α → β → Prop} : ∀ {xs : List α} {us : List β} {ys : List α} {ws : List β}, Paired F xs us → Paired F ys ws → Paired F (xs ++ ys) (us ++ ws)
  | _, _, _, _, .nil, r => r
  | _, _, _, _, .cons a b, r => .cons a (paired_app b r)
def unInt : V → Int
  | .int i => i
  | _ => 0
def lotOf (H : Hp) : V → List Int
  | .ref t => match H t with
    | some (.tup vs) => vs.map unInt
    | _ => []
  | _ => []
theorem lotOf_at {H : Hp} {l : List Int} {x : V} (h : LotAt H l x) : lotOf H x = l := by
  obtain ⟨t, rfl, e⟩ := h
  have e' : H t = some (.tup (l.map V.int)) := e
  simp only [lotOf, e', List.map_map]
  have : (unInt ∘ V.int) = id := rfl
  rw [this, List.map_id]
theorem lots_map {H : Hp} : ∀ {L : List (List Int)} {xs : List V}, LotsAt H L xs → L = xs.map (lotOf H) ∧ ∀ x ∈ xs, LotAt H (lotOf H x) x
  | _, _, .nil => ⟨rfl, fun x m => by simp at m⟩
  | _, _, .cons a b => by
    obtain ⟨h1, h2⟩ := lots_map b
    refine ⟨by rw [List.map_cons, lotOf_at a, ← h1], fun x m => ?_⟩
    rcases List.mem_cons.mp m with e | m
    · rw [e, lotOf_at a]
      exact a
    · exact h2 x m
theorem lots_of {H : Hp} : ∀ {xs : List V}, (∀ x ∈ xs, LotAt H (lotOf H x) x) → LotsAt H (xs.map (lotOf H)) xs
  | [], _ => .nil
  | x :: xs, h => .cons (h x List.mem_cons_self) (lots_of fun y m => h y (List.mem_cons_of_mem _ m))
/-- sorted, each once, just those -/
structure Sorted (p : List Int → Prop) (L : List (List Int)) : Prop where
  pw : L.Pairwise (fun a b => lexL a b = true)
  mem : ∀ l, l ∈ L ↔ p l
theorem lexL_irrefl : ∀ a, lexL a a = false
  | [] => rfl
  | x :: a => by
    rw [lexL_cons, if_pos rfl]
    exact lexL_irrefl a
theorem sorted_ext : ∀ {a b : List (List Int)}, a.Pairwise (fun a b => lexL a b = true) → b.Pairwise (fun a b => lexL a b = true) → (∀ x, x ∈ a ↔ x ∈ b) → a = b
  | [], [], _, _, _ => rfl
  | [], y :: b, _, _, h => by simpa using (h y)
  | x :: a, [], _, _, h => by simpa using (h x)
  | x :: a, y :: b, ha, hb, h => by
    obtain ⟨h1, h2⟩ := List.pairwise_cons.mp ha
    obtain ⟨h3, h4⟩ := List.pairwise_cons.mp hb
    have ir : ∀ z, lexL z z = true → False := fun z e => by
      rw [lexL_irrefl] at e
      cases e
    have e : x = y := by
      rcases List.mem_cons.mp ((h x).mp List.mem_cons_self) with z | z
      · exact z
      · rcases List.mem_cons.mp ((h y).mpr List.mem_cons_self) with w | w
        · exact w.symm
        · have q1 := h3 x z
          have q2 := lexL_asym _ _ (h1 y w)
          rw [q1] at q2
          cases q2
    subst e
    rw [sorted_ext h2 h4 fun z => ?_]
    constructor
    · intro m
      rcases List.mem_cons.mp ((h z).mp (List.mem_cons_of_mem _ m)) with e | e
      · exact (ir z (by have := h1 z m; rw [← e] at this; exact this)).elim
      · exact e
    · intro m
      rcases List.mem_cons.mp ((h z).mpr (List.mem_cons_of_mem _ m)) with e | e
      · exact (ir z (by have := h3 z m; rw [← e] at this; exact this)).elim
      · exact e
theorem Sorted.unique {p : List Int → Prop} {a b : List (List Int)} (x : Sorted p a) (y : Sorted p b) : a = b := sorted_ext x.pw y.pw fun z => (x.mem z).trans (y.mem z).symm
theorem sorted_of {L M : List (List Int)} {p : List Int → Prop} (pe : M.Perm L) (le : M.Pairwise (fun a b => lexL b a = false)) (nd : L.Nodup) (mem : ∀ l, l ∈ L ↔ p l) : Sorted p M := by
  have nd' : M.Pairwise (· ≠ ·) := pe.nodup_iff.mpr nd
  refine ⟨(le.and nd').imp fun {a b} ⟨h1, h2⟩ => ?_, fun l => pe.mem_iff.trans (mem l)⟩
  cases c : lexL a b with
  | true => rfl
  | false => exact absurd (lexL_eq a b c h1) h2
end EX

-- R11
set_option Elab.async false
set_option linter.all false
set_option maxRecDepth 100000
set_option maxHeartbeats 4000000
/-! all lots, closed lots: the program's -/
namespace EX
open PySem PySem.Spec PyProof.Rows L2
/-- a walk of tuple(..): Pv by the turn, the items so far and the heap -/
theorem tup_it {J : It} {n : Nat} {G : Hp → Prop} {Y : Nat → Hp → V → Hp → Prop} (w : Walk J n G Y) {g : TG} {tt : TT} {te : TE} {vs : List Nat} {σ : L2.St} {H1 : Hp} {QT : List V → Hp → Prop} (Pv : Nat → List V → Hp → Prop) (h0 : Pv 0 [] H1) (hG : ∀ i ys H, i ≤ n → Pv i ys H → G H)
    (hs : ∀ i x ys H H', i < n → Pv i ys H → Y i H x H' → g x (wipe σ vs) H' fun σ2 H2 => wipe σ2 vs = wipe σ vs ∧ tt σ2 H2 fun b H3 => if b = true then te σ2 H3 fun y H4 => ys.length < sizeLine ∧ Pv (i + 1) (ys ++ [y]) H4 else Pv (i + 1) ys H3)
    (hd : ∀ ys H, Pv n ys H → ys.length ≤ sizeLine ∧ QT ys H) :
    ∃ W : Nat → Nat → List V → Hp → Prop, (∃ m, W 0 m [] H1) ∧ ∀ i m ys H, W i m ys H →
      (J.stop i H ∧ ys.length ≤ sizeLine ∧ QT ys H) ∨ (J.go i H ∧ ∃ Nx : List V → Hp → Prop, (∀ ys' H', Nx ys' H' → ∃ m', m' < m ∧ W (i + 1) m' ys' H') ∧ ∀ x H', J.yld i H x H' → g x (wipe σ vs) H' fun σ2 H2 => wipe σ2 vs = wipe σ vs ∧ tt σ2 H2 fun b H3 =>
        if b = true then te σ2 H3 fun y H4 => ys.length < sizeLine ∧ Nx (ys ++ [y]) H4 else Nx ys H3) := by
  refine ⟨fun i m ys H => m = n - i ∧ i ≤ n ∧ Pv i ys H, ⟨n, by simp, Nat.zero_le _, h0⟩, ?_⟩
  rintro i m ys H ⟨rfl, hi, p⟩
  have q := hG i ys H hi p
  by_cases hlt : i < n
  · exact .inr ⟨w.goes i H hlt q, Pv (i + 1), fun ys' H' p' => ⟨n - (i + 1), by omega, rfl, hlt, p'⟩, fun x H' y => hs i x ys H H' hlt p (w.yields i H x H' hlt q y)⟩
  · have e : i = n := by omega
    subst e
    obtain ⟨h1, h2⟩ := hd ys H p
    exact .inl ⟨w.stops H q, h1, h2⟩
/-- the lots of m facts -/
def LotOf (m : Int) (l : List Int) : Prop := l.Pairwise (· < ·) ∧ ∀ x ∈ l, 0 ≤ x ∧ x < m
theorem pw_len : ∀ {l : List Int} {lo n : Int}, l.Pairwise (· < ·) → (∀ x ∈ l, lo ≤ x ∧ x < n) → l.length ≤ (n - lo).toNat
  | [], _, _, _, _ => Nat.zero_le _
  | x :: r, lo, n, p, h => by
    obtain ⟨h1, h2⟩ := List.pairwise_cons.mp p
    have hx := h x List.mem_cons_self
    have ih := pw_len (l := r) (lo := x + 1) (n := n) h2 fun y m => by
      have a := h1 y m
      have b := h y (List.mem_cons_of_mem _ m)
      omega
    rw [List.length_cons]
    omega
theorem lots_upd {H : Hp} {D : Addr} {zs : List V} {o : HO} (e : H D = some (.lst zs)) {L : List (List Int)} {xs : List V} (h : LotsAt H L xs) : LotsAt (upd H D o) L xs := Paired.mapP h fun l x ⟨t, ex, et⟩ => ⟨t, ex, by
  have et' : H t = some (.tup (l.map V.int)) := et
  show upd H D o t = _
  rw [upd_ne (fun z => by rw [z, e] at et'; cases et')]
  exact et'⟩
section
variable {P : Program} {w : World} {K : PySem.W.Frag} {mg : Str → Option Value} {base : Heap}
def spLots (Ps : List Addr) : Sp := fun vs H Q _ => ∃ m : Nat, vs = [.int (m : Int)] ∧ m ≤ 6 ∧ Tb Ps H ∧
  ∀ (p : Addr) (xs : List V) (L : List (List Int)) (H' : Hp), Gr Ps H H' → H p = none → H' p = some (.lst xs) → LotsAt H' L xs → Sorted (LotOf m) L → L.length ≤ 64 → Q (.ref p) H'
theorem ok_lots {f : Addr} {fd : FuncData} {k : Nat} {Ps : List Addr} (F : Fun K "all_lots" "all_lots" sLots f fd) (mr : mg "range" = none) (ms : mg "sorted" = none) : FnOk P w K mg base CX0 (k + 1) f fd ["m"] (spLots Ps) := by
  refine F.ok scLots (fun vs H Q E h => ?_) (fun cdv A outer s H vs Q E hr h => ?_)
  · obtain ⟨m, rfl, _⟩ := h
    rfl
  · obtain ⟨m, rfl, m6, hT, q⟩ := h
    refine ⟨_, pss_cons (ps_set (i := 1) scLots.nd rfl (.inl rfl) (pe_lst (pa_cons (pe_tup pa_nil) pa_nil))) <|
      pss_cons (ps_for PassesOwn.never rfl (pi_range1 (by rfl) mr (pa_cons (pv 0) pa_nil)) (pg_name (i := 2) scLots.nd rfl (.inr rfl))
        (pss_one (ps_set (i := 1) scLots.nd rfl (.inl rfl) (pe_op op_cat (pv 1) (pe_lc (own := [("lot", 3)]) (g := gName 3) (tt := tYes) (te := tTup (StX.tStar K (tVar 3) (tCons (tVar 2) tNil))) rfl scLots.nd (pi_list (pv 1))
          (blkOk_by (own := [("lot", 3)]) (N := nLots) (sc := defScope sLots) (by decide +kernel)) (fun _ _ _ _ _ => pg_name (i := 3) scLots.nd rfl (Or.inl rfl)) (fun _ _ _ _ _ => pts_nil)
          (fun _ _ _ _ _ => pe_tup (StX.pa_star (pv 3) (pa_cons (pv 2) pa_nil)))))))) <|
      pss_one (ps_ret (pe_callB (cr_sortedL (by have := hr.un; show (A.deeper (envOfC "all_lots" (defScope sLots) s.heap.objs.size f cdv)).units + 2 < cLine; omega)) (by rfl) ms (by decide +kernel) (pa_cons (pv 1) pa_nil))), ?_⟩
    refine ⟨by show 0 ≤ sizeLine; exact Nat.zero_le _, fun t nt => ⟨by show 1 ≤ sizeLine; decide, fun a na => ?_⟩⟩
    have g1 := Gr.new (o := .tup []) hT nt
    have g2 := g1.trans (Gr.new (o := .lst [V.ref t]) g1.t2 na)
    have hta : t ≠ a := ne_of_none upd_same na
    refine ⟨_, rfl, m, rfl, by omega, by omega, ?_⟩
    refine for_it walk_range (fun i σ H' => ∃ (a : Addr) (xs : List V) (v2 : Option V), σ = [some (.int m), some (.ref a), v2, none] ∧ Gr Ps H H' ∧ H a = none ∧ H' a = some (.lst xs) ∧ LotsAt H' (allL i) xs)
      ⟨a, [.ref t], none, rfl, g2, g1.free na, upd_same, .cons ⟨t, rfl, by show upd _ a _ t = _; rw [upd_ne hta, upd_same]; rfl⟩ .nil⟩ (fun i σ H' _ z => trivial) ?_ ?_
    · rintro i x σ H1 H1' hi ⟨b, xs, v2, rfl, g, nb, eb, hX⟩ ⟨rfl, rfl⟩
      have i6 : i < 6 := by
        have : (m : Int).toNat = m := Int.toNat_natCast m
        omega
      have xl : xs.length = (allL i).length := (Paired.length hX).symm
      have small : (allL i).length ≤ 32 := by
        rw [allL_len]
        exact Nat.pow_le_pow_right (by decide) (show i ≤ 5 by omega)
      refine ⟨_, rfl, _, rfl, b, rfl, ⟨_, .inl (.inl eb)⟩, fun D nD => ?_⟩
      have nbD : b ≠ D := ne_of_none eb nD
      have gD := Gr.new (o := .lst []) g.t2 nD
      refine lc_list (K := K) (a := b) (xs := xs) (fun j H' => Gr Ps H1' H' ∧ ∃ ys, H' D = some (.lst ys) ∧ LotsAt H' (((allL i).take j).map fun l => l ++ [(i : Int)]) ys) ⟨gD, [], upd_same, .nil⟩ (fun j H' _ z => .inl (.inl (z.1.lst eb))) ?_ ?_
      · rintro j x H' hx ⟨gg, ys, eD, hY⟩
        obtain ⟨l, hl, t2, rfl, ht2⟩ := paired_get hX hx
        have ht3 := gg.tup ht2
        refine ⟨rfl, ?_⟩
        rw [tYes_is, if_pos rfl]
        refine ⟨_, rfl, t2, _, rfl, .inl (.inl (.inl ht3)), _, rfl, ?_, fun p np => ?_⟩
        · have lm := (allL_mem i l).mp (List.mem_of_getElem? hl)
          have ln := pw_len lm.1 lm.2
          exact lt_size (by simp; omega)
        · have gp := Gr.new (o := .tup (l.map V.int ++ [V.int (0 + (i : Int))])) gg.t2 np
          have eD2 := gp.lst eD
          refine ⟨ys, eD2, ?_, (gg.trans gp).set nD eD2, ys ++ [V.ref p], upd_same, ?_⟩
          · have := (Paired.length hY).symm
            rw [this, List.length_map, List.length_take]
            exact small1000 (by omega)
          · rw [take_snoc hl, List.map_append]
            refine paired_app (lots_upd eD2 (gp.lots hY)) (.cons ⟨p, rfl, ?_⟩ .nil)
            show upd _ D _ p = _
            have pD : p ≠ D := fun z => by
              rw [z, eD] at np
              cases np
            rw [upd_ne pD, upd_same, List.map_append]
            show some (HO.tup (l.map V.int ++ [V.int (0 + (i : Int))])) = some (HO.tup (l.map V.int ++ [V.int (i : Int)]))
            rw [Int.zero_add]
      · rintro H' ⟨gg, ys, eD, hY⟩
        rw [xl, List.take_length] at hY
        have yl : ys.length = (allL i).length := by
          have := (Paired.length hY).symm
          rw [this, List.length_map]
        refine ⟨b, D, xs, ys, rfl, rfl, gg.lst eb, eD, lt_size (by omega), fun p np => ?_⟩
        have gp := Gr.new (o := .lst (xs ++ ys)) gg.t2 np
        have gall := g.trans (gg.trans gp)
        exact ⟨p, xs ++ ys, some (.int (0 + (i : Int))), rfl, gall, (g.trans gg).free np, upd_same, paired_app ((gg.trans gp).lots hX) (gp.lots hY)⟩
    · rintro σ H' ⟨b, xs, v2, rfl, g, nb, eb, hX⟩
      have em : (m : Int).toNat = m := Int.toNat_natCast m
      rw [em] at hX
      obtain ⟨e1, e2⟩ := lots_map hX
      refine ⟨_, rfl, b, xs, lotOf H', rfl, .inl (.inl eb), fun x mx => e2 x mx, fun ys p pe le np => ?_⟩
      have gp := Gr.new (o := .lst ys) g.t2 np
      have hY : LotsAt H' (ys.map (lotOf H')) ys := lots_of fun x mx => e2 x (pe.mem_iff.mp mx)
      have pe2 : (ys.map (lotOf H')).Perm (allL m) := by
        rw [e1]
        exact pe.map _
      refine q p ys _ _ (g.trans gp) (g.free np) upd_same (gp.lots hY) (sorted_of pe2 (List.pairwise_map.mpr le) (allL_nodup m) fun l => allL_mem m l) ?_
      rw [pe2.length_eq, allL_len]
      exact Nat.pow_le_pow_right (n := 2) (by decide) m6
/-- closed lots, sorted -/
def ClosedOf (m : Int) (rs : List Rule) (l : List Int) : Prop := LotOf m l ∧ Shut rs l
theorem Sorted.filter {p : List Int → Prop} {L : List (List Int)} {c : List Int → Bool} (s : Sorted p L) : Sorted (fun l => p l ∧ c l = true) (L.filter c) :=
  ⟨s.pw.filter _, fun l => by rw [List.mem_filter, s.mem]⟩
def spClLots (Ps : List Addr) : Sp := fun vs H Q _ => ∃ (m : Nat) (a : Addr) (rs : List Rule), vs = [.int (m : Int), .ref a] ∧ RulesAt H a rs ∧ GoodRules m rs ∧ (1 ≤ m ∧ m ≤ 6) ∧ Tb Ps H ∧
  ∀ (p : Addr) (xs : List V) (L : List (List Int)) (H' : Hp), Gr Ps H H' → H p = none → H' p = some (.tup xs) → LotsAt H' L xs → Sorted (ClosedOf m rs) L → L.length ≤ 64 → Q (.ref p) H'
theorem ok_clLots {f fR fL fC c P' : Addr} {fd fdR fdL fdC : FuncData} {k : Nat} {Ps : List Addr} (F : Fun K "closed_lots" "closed_lots" sClLots f fd) (hc : fd.code = .ref c) (TB : GxR.TabB base mg c P') (hP : P' ∈ Ps)
    (GR : FnOk P w K mg base CX0 (k + 10) fR fdR ["m", "rules"] (spReqR Ps)) (gR : mg "require_rules" = some (.ref fR)) (kR : PySem.W.keepIn K (.ref fR) = true) (bR : Binds K fdR ["m", "rules"] [])
    (GL : FnOk P w K mg base CX0 (k + 10) fL fdL ["m"] (spLots Ps)) (gL : mg "all_lots" = some (.ref fL)) (kL : PySem.W.keepIn K (.ref fL) = true) (bL : Binds K fdL ["m"] [])
    (GC : FnOk P w K mg base CX0 (k + 9) fC fdC ["rules", "lot"] (spClosed Ps)) (gC : mg "is_closed" = some (.ref fC)) (kC : PySem.W.keepIn K (.ref fC) = true) (bC : Binds K fdC ["rules", "lot"] [])
    (mt : mg "tuple" = none) : FnOk P w K mg base CX0 (k + 11) f fd ["m", "rules"] (spClLots Ps) := by
  refine Fun.okC F hc scClLots (fun vs H Q E h => ?_) (fun A outer s H vs Q E hr h => ?_)
  · obtain ⟨m, a, rs, rfl, _⟩ := h
    rfl
  · obtain ⟨m, a, rs, rfl, hA, G, hm, hT, q⟩ := h
    refine ⟨_, pss_cons (ps_expr (pe_call GR hr (by rfl) gR kR bR .nil pass0 (pa_cons (pv 0) (pa_cons (pv 1) pa_nil)))) <|
      pss_one (ps_ret (GE.pe_tupG (own := [("lot", 2)]) (g := gName 2) (tt := tB (tCall (spClosed Ps) [] E0 (tCons (tVar 1) (tCons (tVar 2) tNil)))) (te := tVar 2) rfl scClLots.nd hr (by rfl) mt (by decide +kernel) TB rfl
        (pi_list (pe_call GL hr (by rfl) gL kL bL .nil pass0 (pa_cons (pv 0) pa_nil))) (blkOk_by (own := [("lot", 2)]) (N := nClLots) (sc := defScope sClLots) (by decide +kernel)) (by decide +kernel) rfl rfl
        (fun _ _ _ _ _ _ _ => pg_name (i := 2) scClLots.nd rfl (Or.inl rfl))
        (fun _ _ _ _ _ _ hr' => pts_one (pt_val (pe_call GC hr' (by rfl) gC kC bC .nil pass0 (pa_cons (pv 1) (pa_cons (pv 2) pa_nil)))))
        (fun _ _ _ _ _ _ _ => pv 2))), ?_⟩
    refine ⟨_, rfl, _, rfl, m, a, rs, rfl, hA, G, by omega, hT, fun H1 g1 => ?_⟩
    refine ⟨_, rfl, m, rfl, hm.2, g1.t2, fun p xs L H2 g2 np ep hX so few => ?_⟩
    refine ⟨p, rfl, ⟨_, .inl (.inl ep)⟩, g2.t2 _ hP, fun H3 tb => ?_⟩
    have g3 := Gr.of g2.t2 hP tb
    have xl : xs.length = L.length := (Paired.length hX).symm
    refine tup_it (walk_list (xs := xs)) (fun i ys H' => Gr Ps H2 H' ∧ LotsAt H' ((L.take i).filter (closedB rs)) ys) ⟨g3, .nil⟩ (fun i ys H' _ z => .inl (.inl (z.1.lst ep))) ?_ ?_
    · rintro i x ys H' _ hi ⟨g, hY⟩ ⟨rfl, ex⟩
      obtain ⟨l, hl, t, rfl, ht⟩ := paired_get hX ex
      refine ⟨rfl, ?_⟩
      refine ⟨_, rfl, _, rfl, a, t, rs, l, rfl, (g1.trans (g2.trans g)).rules hA, g.tup ht, g.t2, fun H4 g4 => ⟨_, rfl, ?_⟩⟩
      have yl : ys.length ≤ 64 := by
        have z := (Paired.length hY).symm
        have z2 := List.length_filter_le (closedB rs) (L.take i)
        rw [List.length_take] at z2
        omega
      have tk : (L.take (i + 1)).filter (closedB rs) = (L.take i).filter (closedB rs) ++ [l].filter (closedB rs) := by rw [take_snoc hl, List.filter_append]
      by_cases c : closedB rs l = true
      · refine ifT c ⟨_, rfl, small1000 (by omega), g.trans g4, ?_⟩
        rw [tk, List.filter_cons_of_pos c]
        exact paired_app (g4.lots hY) (.cons ⟨t, rfl, g4.tup (g.tup ht)⟩ .nil)
      · refine ifF (by simpa using c) ⟨g.trans g4, ?_⟩
        rw [tk, List.filter_cons_of_neg c, List.filter_nil, List.append_nil]
        exact g4.lots hY
    · rintro ys H' ⟨g, hY⟩
      rw [xl, List.take_length] at hY
      have yl : ys.length ≤ 64 := by
        have z := (Paired.length hY).symm
        have z2 := List.length_filter_le (closedB rs) L
        omega
      refine ⟨lt_size (by omega), fun p np => ?_⟩
      have gp := Gr.new (o := .tup ys) g.t2 np
      have gall := g1.trans (g2.trans (g.trans gp))
      have so2 : Sorted (ClosedOf m rs) (L.filter (closedB rs)) := ⟨so.filter.pw, fun l => (so.filter (c := closedB rs)).mem l |>.trans (by unfold ClosedOf; rw [closedB_iff])⟩
      refine q p ys _ _ gall ((g1.trans (g2.trans g)).free np) upd_same (gp.lots hY) so2 ?_
      have z2 := List.length_filter_le (closedB rs) L
      omega
end
end EX

-- L0
set_option Elab.async false
set_option linter.all false
set_option maxRecDepth 100000
set_option maxHeartbeats 4000000
/-! The deck: its making, a draw, a pick. -/
namespace EX
open PySem PySem.Spec PyProof.Rows L2
abbrev sDeck : Stmt := top 27
abbrev sDraw : Stmt := top 28
abbrev sPick : Stmt := top 29
def nDeck : List Str := ["_law_script", "_law_mixed", "_law_cell"]
def nDraw : List Str := ["_law_deck_here", "_law_many", "_law_number", "_law_cell"]
def nPick : List Str := ["_law_deck_here", "_law_some"]
theorem scDeck : FnScope nDeck ["_law_script"] (defScope sDeck) := ⟨rfl, rfl, rfl, by decide +kernel, rfl, by decide +kernel, by decide +kernel⟩
theorem scDraw : FnScope nDraw ["_law_deck_here", "_law_many"] (defScope sDraw) := ⟨rfl, rfl, rfl, by decide +kernel, rfl, by decide +kernel, by decide +kernel⟩
theorem scPick : FnScope nPick ["_law_deck_here", "_law_some"] (defScope sPick) := ⟨rfl, rfl, rfl, by decide +kernel, rfl, by decide +kernel, by decide +kernel⟩

/-! ### heaps and lists -/
/-- all but what stands at d and c is as it was -/
def SameBut2 (d c : Addr) (H H' : Hp) : Prop := ∀ b o, H b = some o → b ≠ d → b ≠ c → H' b = some o
theorem SameBut2.refl {d c : Addr} {H : Hp} : SameBut2 d c H H := fun _ _ e _ _ => e
theorem SameBut2.trans {d c : Addr} {H H1 H2 : Hp} (x : SameBut2 d c H H1) (y : SameBut2 d c H1 H2) : SameBut2 d c H H2 := fun b o e n1 n2 => y b o (x b o e n1 n2) n1 n2
theorem SameBut2.new {d c p : Addr} {H : Hp} {o : HO} (h : H p = none) : SameBut2 d c H (upd H p o) := fun b x e _ _ => by
  rw [upd_ne (ne_of_none e h)]
  exact e
theorem same_new {H : Hp} {p : Addr} {o : HO} (h : H p = none) : Same H (upd H p o) := fun b x e => by
  rw [upd_ne (ne_of_none e h)]
  exact e
theorem Same.but {d c : Addr} {H H' : Hp} (x : Same H H') : SameBut2 d c H H' := fun b o e _ _ => x b o e
theorem cut_ints (ns : List Int) (lo hi : Option Int) : ∃ ms : List Int, cutV (ns.map V.int) lo hi = ms.map V.int ∧ ms.length ≤ ns.length := by
  refine ⟨(ns.drop (HT.sIx ns.length 0 lo)).take (HT.sIx ns.length ns.length hi - HT.sIx ns.length 0 lo), ?_, ?_⟩
  · unfold cutV
    rw [List.length_map, List.map_take, List.map_drop]
  · rw [List.length_take, List.length_drop]
    omega
/-- the deck: a dict at d, its cells at c -/
def dks (c : Addr) (m n : Int) : List (Key × V) := [(.inr "cells", .ref c), (.inr "mixed", .int m), (.inr "draws", .int n)]
structure DeckAt (H : Hp) (d c : Addr) (cs : List Int) (m n : Int) : Prop where
  dk : H d = some (.dK (dks c m n))
  cl : H c = some (.lst (cs.map V.int))
theorem DeckAt.ne {H : Hp} {d c : Addr} {cs : List Int} {m n : Int} (D : DeckAt H d c cs m n) : c ≠ d := fun e => by
  have x := D.cl
  rw [e, D.dk] at x
  cases x
theorem DeckAt.keep {H H' : Hp} {d c : Addr} {cs : List Int} {m n : Int} (D : DeckAt H d c cs m n) (k : ∀ b o, H b = some o → H' b = some o) : DeckAt H' d c cs m n := ⟨k _ _ D.dk, k _ _ D.cl⟩

section
variable {P : Program} {w : World} {K : PySem.W.Frag} {mg : Str → Option Value} {base : Heap}
/-- a list of ints comes in, a deck goes out -/
def spDeck (K : PySem.W.Frag) : Sp := fun vs H Q _ => ∃ (a : Addr) (ns : List Int), vs = [.ref a] ∧ SqL K H a (ns.map V.int) ∧ ns.length ≤ 63 ∧
  ∀ (d c : Addr) (cs : List Int) (m : Int) (H' : Hp), H d = none → H c = none → Same H H' → DeckAt H' d c cs m 0 → cs.length ≤ 63 → Q (.ref d) H'
theorem merge_deck (c : Addr) (m n : Int) : mergeK [] [(.inr "cells", .ref c), (.inr "mixed", .int m), (.inr "draws", .int n)] = dks c m n := rfl
theorem ok_deck {f : Addr} {fd : FuncData} {k : Nat} (F : Fun K "_law_deck" "_law_deck" sDeck f fd) (mi : mg "int" = none) (ml : mg "list" = none) : FnOk P w K mg base CX0 (k + 1) f fd ["_law_script"] (spDeck K) := by
  refine F.ok scDeck (fun vs H Q E h => ?_) (fun cdv A outer s H vs Q E hr h => ?_)
  · obtain ⟨a, ns, rfl, _⟩ := h
    rfl
  · obtain ⟨a, ns, rfl, hS, hlen, q⟩ := h
    refine ⟨_, pss_cons (ps_set (i := 1) scDeck.nd rfl (.inl rfl) pe_int)
      (pss_cons (ps_for PassesOwn.never rfl (pi_list (pe_slice sl_list (pv 0) po_none (po_some pe_int))) (pg_name (i := 2) scDeck.nd rfl (.inl rfl))
        (pss_one (ps_set (i := 1) scDeck.nd rfl (.inl rfl) (pe_op op_mod (pe_callTy call_int1 (by rfl) mi (by decide +kernel) (pa_cons
          (pe_op op_add (pe_op op_add (pe_op op_mul (pv 1) pe_int) (pe_op op_mod (pe_callTy call_int1 (by rfl) mi (by decide +kernel) (pa_cons (pv 2) pa_nil)) pe_int)) pe_int) pa_nil)) pe_int))))
      (pss_one (ps_ret (pe_disp (pps_cons pe_str (pe_revL (pe_callTy call_list_of (by rfl) ml (by decide +kernel) (pa_cons (pe_slice sl_list (pv 0) po_none (po_some pe_int)) pa_nil)))
        (pps_cons pe_str (pv 1) (pps_cons pe_str pe_int pps_nil))) (by rfl) (by rfl) (fun z => by cases z) (by decide))))), ?_⟩
    -- the loop over script[:63]
    obtain ⟨ms, em, hm⟩ := cut_ints ns none (some 63)
    refine ⟨.ref a, rfl, 63, rfl, a, ns.map V.int, rfl, hS, fun p np => ?_⟩
    have s1 : Same H (upd H p (.lst (cutV (ns.map V.int) none (some 63)))) := same_new np
    refine ⟨p, rfl, ⟨_, .inl (.inl upd_same)⟩, for_list (K := K) (a := p) (xs := cutV (ns.map V.int) none (some 63))
      (fun i σ H' => ∃ (m : Int) (y : Option V), σ = [some (.ref a), some (.int m), y] ∧ H' = upd H p (.lst (cutV (ns.map V.int) none (some 63)))) ⟨_, none, rfl, rfl⟩
      (fun i σ H' _ ⟨_, _, _, eH⟩ => by rw [eH]; exact .inl (.inl upd_same)) ?_ ?_⟩
    · rintro i x σ H' hx ⟨m, y, rfl, rfl⟩
      rw [em, List.getElem?_map] at hx
      obtain ⟨z, _, rfl⟩ := Option.map_eq_some_iff.mp hx
      refine ⟨_, rfl, _, _, rfl, rfl, .inr ⟨by decide, by decide⟩, _, rfl, .inl ⟨z, rfl, _, _, rfl, rfl, ?_, _, _, rfl, rfl, _, _, rfl, rfl, .inl ⟨_, rfl, _, _, rfl, rfl, ?_, _, _, rfl, rfl⟩⟩⟩
      · show (0 : Int) < _
        decide
      · show (0 : Int) < _
        decide
    · rintro σ H' ⟨m, y, rfl, rfl⟩
      -- the dict
      refine fun d nd => ?_
      have s2 := same_new (o := .dK []) nd
      refine ⟨.ref a, rfl, 63, rfl, a, ns.map V.int, rfl, s2.seq (s1.seq hS), fun p2 np2 => ?_⟩
      have s3 := same_new (o := .lst (cutV (ns.map V.int) none (some 63))) np2
      refine ⟨p2, _, rfl, .inl (.inl (.inl upd_same)), fun l nl => ?_⟩
      have s4 := same_new (o := .lst (cutV (ns.map V.int) none (some 63))) nl
      refine ⟨l, _, rfl, .inl (.inl upd_same), fun c nc => ?_⟩
      have s5 := same_new (o := .lst (cutV (ns.map V.int) none (some 63)).reverse) nc
      have at_0 := s4 _ _ (s3 _ _ (upd_same (H := upd H p (.lst (cutV (ns.map V.int) none (some 63)))) (a := d) (o := .dK [])))
      have ncd : d ≠ c := ne_of_none at_0 nc
      have all : Same H _ := s1.trans (s2.trans (s3.trans (s4.trans s5)))
      refine ⟨_, rfl, s5 _ _ at_0, [(.inr "cells", .ref c), (.inr "mixed", .int m), (.inr "draws", .int 0)], rfl, (by show 3 ≤ 15; decide), ?_⟩
      refine q d c ms.reverse m _ (s1.free nd) ((s1.trans (s2.trans (s3.trans s4))).free nc) (fun b o e => ?_) ⟨upd_same, ?_⟩ (by rw [List.length_reverse]; omega)
      · have nb : b ≠ d := ne_of_none e (s1.free nd)
        rw [upd_ne nb]
        exact all b o e
      · rw [upd_ne ncd.symm, upd_same, em, List.map_reverse]

/-! ### a draw -/
theorem DeckAt.cells {H : Hp} {d c : Addr} {cs cs' : List Int} {m n : Int} (D : DeckAt H d c cs m n) : DeckAt (upd H c (.lst (cs'.map V.int))) d c cs' m n := ⟨by rw [upd_ne D.ne.symm]; exact D.dk, upd_same⟩
theorem SameBut2.at2 {d c : Addr} {H : Hp} {o : HO} : SameBut2 d c H (upd H c o) := fun b x e _ n2 => by
  rw [upd_ne n2]
  exact e
theorem dp_ints {K : PySem.W.Frag} {H : Hp} : ∀ cs : List Int, DpAll K H (cs.map V.int) (cs.map PyData.int)
  | [] => .nil
  | z :: r => .cons (.int z) (dp_ints r)
theorem lay_ints : ∀ cs : List Int, PyData.canLayAll0 (cs.map PyData.int) = true
  | [] => by simp [PyData.canLayAll0]
  | z :: r => by
    have h := lay_ints r
    simp [PyData.canLayAll0, PyData.canLay0, h]
theorem flat_intsD : ∀ cs : List Int, PyData.depthAll (cs.map PyData.int) = 0
  | [] => by simp [PyData.depthAll]
  | z :: r => by
    have h := flat_intsD r
    simp [PyData.depthAll, PyData.depth, h]
theorem shaped_ints (cs : List Int) : SeqAt.shaped (.list (cs.map PyData.int)) = true := by
  have h := lay_ints cs
  have h2 := flat_intsD cs
  simp [SeqAt.shaped, PyData.canLay0, PyData.depth, h, h2]
theorem mod_small {a k : Int} (h0 : 0 < k) (h1 : k < 2 ^ 64) : -(2 ^ 64) < a % k ∧ a % k < 2 ^ 64 := by
  have x := Int.emod_nonneg a (show k ≠ 0 by omega)
  have y := Int.emod_lt_of_pos a h0
  omega
def spDraw : Sp := fun vs H Q _ => ∃ (d c : Addr) (cs : List Int) (m n many : Int), vs = [.ref d, .int many] ∧ DeckAt H d c cs m n ∧ cs.length ≤ 63 ∧ 0 < many ∧ many < 1000000 ∧
  ∀ (r n' : Int) (cs' : List Int) (H' : Hp), 0 ≤ r → r < many → DeckAt H' d c cs' m n' → cs'.length ≤ 63 → SameBut2 d c H H' → Q (.int r) H'
theorem put_draws (c : Addr) (m n n' : Int) : putK (dks c m n) (.inr "draws") (.int n') = dks c m n' := rfl
theorem get_draws (c : Addr) (m n : Int) : valV (dks c m n) (.inr "draws") = some (.int n) := rfl
theorem get_mixed (c : Addr) (m n : Int) : valV (dks c m n) (.inr "mixed") = some (.int m) := rfl
theorem get_cells (c : Addr) (m n : Int) : valV (dks c m n) (.inr "cells") = some (.ref c) := rfl
theorem DeckAt.getD {H : Hp} {d c : Addr} {cs : List Int} {m n : Int} (D : DeckAt H d c cs m n) : DGet H d (.str "draws") (some (.int n)) := by
  have g := DGet.k (k := (.inr "draws" : Key)) D.dk
  rw [get_draws] at g
  exact g
theorem DeckAt.getM {H : Hp} {d c : Addr} {cs : List Int} {m n : Int} (D : DeckAt H d c cs m n) : DGet H d (.str "mixed") (some (.int m)) := by
  have g := DGet.k (k := (.inr "mixed" : Key)) D.dk
  rw [get_mixed] at g
  exact g
theorem DeckAt.getC {H : Hp} {d c : Addr} {cs : List Int} {m n : Int} (D : DeckAt H d c cs m n) : DGet H d (.str "cells") (some (.ref c)) := by
  have g := DGet.k (k := (.inr "cells" : Key)) D.dk
  rw [get_cells] at g
  exact g
theorem ok_draw {f : Addr} {fd : FuncData} {k : Nat} (F : Fun K "_law_draw" "_law_draw" sDraw f fd) (mi : mg "int" = none) (mm : mg "max" = none) : FnOk P w K mg base CX0 (k + 1) f fd ["_law_deck_here", "_law_many"] spDraw := by
  refine F.ok scDraw (fun vs H Q E h => ?_) (fun cdv A outer s H vs Q E hr h => ?_)
  · obtain ⟨d, c, cs, m, n, many, rfl, _⟩ := h
    rfl
  · obtain ⟨d, c, cs, m, n, many, rfl, D, hc, h0, h1, q⟩ := h
    have hu := hu_of hr
    refine ⟨_, pss_cons (ps_dput hu (pv 0) pe_str (pe_op op_add (pe_dget hu (pv 0) pe_str (fun _ _ => rfl)) pe_int) rfl)
      (pss_cons (ps_set (i := 2) scDraw.nd rfl (.inl rfl) (pe_op op_add (pe_dget hu (pv 0) pe_str (fun _ _ => rfl)) (pe_op op_mul pe_int (pe_dget hu (pv 0) pe_str (fun _ _ => rfl)))))
      (C8.pss_cut (ps_if (pt_cmpR (op_neD hr.units) (pe_dget hu (pv 0) pe_str (fun _ _ => rfl)) (pe_lst pa_nil) (nomark _))
        (pss_cons (ps_set (i := 3) scDraw.nd rfl (.inl rfl) (pe_bm0 PySem.F.plainAttrs_list PySem.F.slot_list_pop PySem.F.type_list_pop mt_pop (pe_dget hu (pv 0) pe_str (fun _ _ => rfl))))
        (pss_cons (ps_if (pt_cmpR op_ge (pv 3) (pe_op op_pow pe_int pe_int) (nomark _))
          (pss_cons (ps_expr (pe_bm PySem.F.plainAttrs_list PySem.F.slot_list_append PySem.F.type_list_append mt_append (pe_dget hu (pv 0) pe_str (fun _ _ => rfl))
              (pa_cons (pe_op op_fdivN (pv 3) (pe_callB (call_max2 rfl) (by rfl) mm (by decide +kernel) (pa_cons pe_int (pa_cons (pv 1) pa_nil)))) pa_nil)))
            (pss_one (ps_ret (pe_op op_mod (pe_callTy call_int1 (by rfl) mi (by decide +kernel) (pa_cons (pv 3) pa_nil)) (pv 1))))) pss_nil)
        (pss_one (ps_set (i := 2) scDraw.nd rfl (.inl rfl) (pe_op op_add (pv 2) (pe_op op_mod (pe_callTy call_int1 (by rfl) mi (by decide +kernel) (pa_cons (pv 3) pa_nil)) pe_int)))))) pss_nil)
      (pss_cons (ps_set (i := 2) scDraw.nd rfl (.inl rfl) (pe_op op_mod (pe_callTy call_int1 (by rfl) mi (by decide +kernel) (pa_cons (pe_op op_add (pe_op op_mul (pv 2) pe_int) pe_int) pa_nil)) pe_int))
      (pss_cons (ps_set (i := 2) scDraw.nd rfl (.inl rfl) (pe_op op_mod (pe_callTy call_int1 (by rfl) mi (by decide +kernel) (pa_cons (pe_op op_add (pe_op op_add (pe_op op_mul (pv 2) (pv 2)) (pe_op op_mul pe_int (pe_dget hu (pv 0) pe_str (fun _ _ => rfl)))) pe_int) pa_nil)) pe_int))
      (pss_cons (ps_set (i := 2) scDraw.nd rfl (.inl rfl) (pe_op op_mod (pe_callTy call_int1 (by rfl) mi (by decide +kernel) (pa_cons (pe_op op_mul (pv 2) pe_int) pa_nil)) pe_int))
      (pss_one (ps_ret (pe_op op_mod (pe_callTy call_int1 (by rfl) mi (by decide +kernel) (pa_cons (pe_op op_fdivN (pv 2) pe_int) pa_nil)) (pv 1))))))))), ?_⟩
    -- draws + 1
    refine ⟨.ref d, rfl, d, _, rfl, D.getD, _, _, rfl, rfl, .ref d, rfl, d, _, rfl, DPut.k (k := .inr "draws") D.dk (by show 3 < sizeLine; decide), ?_⟩
    rw [put_draws]
    have D1 : DeckAt (upd H d (.dK (dks c m (n + 1)))) d c cs m (n + 1) := ⟨upd_same, by rw [upd_ne D.ne]; exact D.cl⟩
    have b1 : SameBut2 d c H (upd H d (.dK (dks c m (n + 1)))) := fun b o e n1 _ => by
      rw [upd_ne n1]
      exact e
    -- the number
    refine ⟨.ref d, rfl, d, _, rfl, D1.getM, .ref d, rfl, d, _, rfl, D1.getD, _, _, rfl, rfl, .inl ⟨by decide, by decide⟩, _, _, rfl, rfl, ?_⟩
    -- behind the if: some number, some cells
    refine ⟨fun σ H' => ∃ (N : Int) (y : Option V) (cs' : List Int), σ = [some (.ref d), some (.int many), some (.int N), y] ∧ DeckAt H' d c cs' m (n + 1) ∧ cs'.length ≤ 63 ∧ SameBut2 d c H H', ?_, ?_⟩
    · -- cells != []
      refine ⟨.ref d, rfl, d, _, rfl, D1.getC, by decide, fun p np => ?_⟩
      have D2 := D1.keep (same_new (o := .lst []) np)
      have b2 : SameBut2 d c H _ := b1.trans (SameBut2.new (o := .lst []) np)
      refine ⟨.list (cs.map .int), .list [], .lst (.inl (.inl D2.cl)) (dp_ints cs), .lst (.inl (.inl upd_same)) .nil, shaped_ints cs, rfl, _, rfl, ?_⟩
      cases cs with
      | nil => exact iteF ⟨_, none, [], rfl, D2, hc, b2⟩
      | cons z zs =>
        refine iteT ?_
        -- pop
        obtain ⟨y, ey⟩ : ∃ y : Int, (z :: zs)[(z :: zs).length - 1]? = some y := ⟨(z :: zs)[(z :: zs).length - 1], List.getElem?_eq_getElem (by rw [List.length_cons]; omega)⟩
        refine ⟨.ref d, rfl, d, _, rfl, D2.getC, .inl ⟨rfl, _, .inl (.inl D2.cl)⟩, c, _, .int y, rfl, rfl, D2.cl, by rw [List.length_map, List.getElem?_map, ey]; rfl, ?_⟩
        have e3 : ((z :: zs).map V.int).dropLast = ((z :: zs).dropLast).map V.int := by
          rw [List.map_dropLast]
        rw [e3]
        have D4 := D2.cells (cs' := (z :: zs).dropLast)
        have b4 := b2.trans (SameBut2.at2 (d := d) (c := c) (H := upd (upd H d (.dK (dks c m (n + 1)))) p (.lst [])) (o := .lst (((z :: zs).dropLast).map V.int)))
        have l4 : ((z :: zs).dropLast).length + 1 ≤ 63 := by
          rw [List.length_dropLast, List.length_cons]
          rw [List.length_cons] at hc
          omega
        -- a great one goes back in part
        refine ⟨.int y, rfl, _, _, rfl, rfl, ⟨by decide, by decide, by decide⟩, _, _, rfl, rfl, _, rfl, ite2 (fun _ => ?_) (fun _ => ?_)⟩
        · refine ⟨.ref d, rfl, d, _, rfl, D4.getC, .inl ⟨rfl, _, .inl (.inl D4.cl)⟩, .int y, rfl, .int many, rfl, _, _, rfl, _, _, rfl, rfl, ?_, c, _, _, rfl, rfl, D4.cl, ?_, ?_⟩
          · constructor
            · split <;> omega
            · split <;> omega
          · rw [List.length_map]
            exact small1000 (by omega)
          · have e5 : ((z :: zs).dropLast).map V.int ++ [V.int (y.fdiv (if many > 2 then many else 2))] = ((z :: zs).dropLast ++ [y.fdiv (if many > 2 then many else 2)]).map V.int := by
              rw [List.map_append]
              rfl
            rw [e5]
            have D5 := D4.cells (cs' := (z :: zs).dropLast ++ [y.fdiv (if many > 2 then many else 2)])
            have b5 := b4.trans (SameBut2.at2 (d := d) (c := c) (o := .lst (((z :: zs).dropLast ++ [y.fdiv (if many > 2 then many else 2)]).map V.int)))
            refine ⟨.int y, rfl, .inl ⟨_, rfl, .int many, rfl, _, _, rfl, rfl, h0, ?_⟩⟩
            exact q _ _ _ _ (Int.emod_nonneg _ (by omega)) (Int.emod_lt_of_pos _ h0) D5 (by rw [List.length_append, List.length_singleton]; omega) b5
        · refine ⟨_, rfl, .int y, rfl, .inl ⟨_, rfl, _, _, rfl, rfl, (by show (0 : Int) < _; decide), _, _, rfl, rfl, ?_⟩⟩
          exact ⟨_, _, _, rfl, D4, by omega, b4⟩
    · rintro σ H' ⟨N, y, cs', rfl, D3, hc3, b3⟩
      refine ⟨_, rfl, _, _, rfl, rfl, .inr ⟨by decide, by decide⟩, _, _, rfl, rfl, .inl ⟨_, rfl, _, _, rfl, rfl, (by show (0 : Int) < _; decide), ?_⟩⟩
      refine ⟨_, rfl, _, rfl, _, _, rfl, rfl, .inl (mod_small (by decide) (by decide)), .ref d, rfl, d, _, rfl, D3.getD, _, _, rfl, rfl, .inl ⟨by decide, by decide⟩, _, _, rfl, rfl, _, _, rfl, rfl, .inl ⟨_, rfl, _, _, rfl, rfl, (by show (0 : Int) < _; decide), ?_⟩⟩
      refine ⟨_, rfl, _, _, rfl, rfl, .inr ⟨by decide, by decide⟩, .inl ⟨_, rfl, _, _, rfl, rfl, (by show (0 : Int) < _; decide), ?_⟩⟩
      refine ⟨_, rfl, _, _, rfl, rfl, ⟨by decide, by decide⟩, .inl ⟨_, rfl, .int many, rfl, _, _, rfl, rfl, h0, ?_⟩⟩
      exact q _ _ _ _ (Int.emod_nonneg _ (by omega)) (Int.emod_lt_of_pos _ h0) D3 hc3 b3

/-! ### a pick -/
def spPick (K : PySem.W.Frag) : Sp := fun vs H Q _ => ∃ (d c l : Addr) (cs : List Int) (m n : Int) (xs : List V), vs = [.ref d, .ref l] ∧ DeckAt H d c cs m n ∧ cs.length ≤ 63 ∧ H l = some (.lst xs) ∧ l ≠ d ∧ l ≠ c ∧ 0 < xs.length ∧ xs.length < 1000000 ∧
  ∀ (x : V) (n' : Int) (cs' : List Int) (H' : Hp), x ∈ xs → DeckAt H' d c cs' m n' → cs'.length ≤ 63 → SameBut2 d c H H' → Q x H'
theorem ok_pick {f fD : Addr} {fd fdD : FuncData} {k : Nat} (F : Fun K "_law_pick" "_law_pick" sPick f fd) (FD : Fun K "_law_draw" "_law_draw" sDraw fD fdD) (bD : Binds K fdD ["_law_deck_here", "_law_many"] []) (gD : mg "_law_draw" = some (.ref fD))
    (mi : mg "int" = none) (mm : mg "max" = none) (ml : mg "len" = none) : FnOk P w K mg base CX0 (k + 2) f fd ["_law_deck_here", "_law_some"] (spPick K) := by
  have GD : FnOk P w K mg base CX0 (k + 1) fD fdD ["_law_deck_here", "_law_many"] spDraw := ok_draw FD mi mm
  refine F.ok scPick (fun vs H Q E h => ?_) (fun cdv A outer s H vs Q E hr h => ?_)
  · obtain ⟨d, c, l, cs, m, n, xs, rfl, _⟩ := h
    rfl
  · obtain ⟨d, c, l, cs, m, n, xs, rfl, D, hc, hl, n1, n2, h0, h1, q⟩ := h
    refine ⟨_, pss_one (ps_ret (pe_ix ix_list (pv 1) (pe_call GD hr (by rfl) gD FD.kp bD .nil pass0 (pa_cons (pv 0) (pa_cons (pe_callB call_len_seq (by rfl) ml PySem.boot_len (pa_cons (pv 1) pa_nil)) pa_nil))) (fun _ _ => rfl))), ?_⟩
    refine ⟨.ref l, rfl, .ref d, rfl, .ref l, rfl, l, xs, rfl, .inl (.inl (.inl hl)), d, c, cs, m, n, _, rfl, D, hc, by omega, by omega, fun r n' cs' H' r0 r1 D' hc' b => ?_⟩
    obtain ⟨j, rfl⟩ := Int.eq_ofNat_of_zero_le r0
    have hj : j < xs.length := by omega
    exact ⟨l, xs, _, xs[j], rfl, rfl, .inl (.inl (b _ _ hl n1 n2)), atI_nat (List.getElem?_eq_getElem hj), q _ _ _ _ (List.getElem_mem hj) D' hc' b⟩
end
end EX

-- L1
set_option Elab.async false
set_option linter.all false
set_option maxRecDepth 100000
set_option maxHeartbeats 4000000
/-! the law's own lots -/
namespace EX
open PySem PySem.Spec PyProof.Rows L2
abbrev sLHas : Stmt := top 36
abbrev sLLots : Stmt := top 34
def nLHas : List Str := ["_law_lot_here", "_law_other", "_law_fact"]
def nLLots : List Str := ["_law_m", "_law_found", "_law_fact", "_law_lot_here"]
theorem scLHas : FnScope nLHas ["_law_lot_here", "_law_other"] (defScope sLHas) := ⟨rfl, rfl, rfl, by decide +kernel, rfl, by decide +kernel, by decide +kernel⟩
theorem scLLots : FnScope nLLots ["_law_m"] (defScope sLLots) := ⟨rfl, rfl, rfl, by decide +kernel, rfl, by decide +kernel, by decide +kernel⟩
theorem eqv_nil (l : List Int) : PyData.eqv (.list (l.map PyData.int)) (.list []) = decide (l = []) := by
  cases l with
  | nil => simp [PyData.eqv, PyData.eqvAll]
  | cons x r => simp [PyData.eqv, PyData.eqvAll]
theorem shaped_nil : SeqAt.shaped (.list ([] : List PyData)) = true := by
  simp [SeqAt.shaped, PyData.canLay0, PyData.canLayAll0, PyData.depth, PyData.depthAll]
theorem filter_has (la lb : List Int) : decide (lb.filter (fun x => decide (x ∉ la)) = []) = hasB la lb := by
  cases c : hasB la lb with
  | true =>
    refine decide_eq_true (List.filter_eq_nil_iff.mpr fun x m => ?_)
    have := hasB_iff.mp c x m
    simp [this]
  | false =>
    refine decide_eq_false fun z => ?_
    have : hasB la lb = true := hasB_iff.mpr fun x m => by
      have q := List.filter_eq_nil_iff.mp z x m
      simpa using q
    rw [this] at c
    cases c
section
variable {P : Program} {w : World} {K : PySem.W.Frag} {mg : Str → Option Value} {base : Heap}
def spLHas (Ps : List Addr) : Sp := fun vs H Q _ => ∃ (a b : Addr) (la lb : List Int), vs = [.ref a, .ref b] ∧ Ints H a la ∧ Ints H b lb ∧ lb.length ≤ 60 ∧ Tb Ps H ∧ ∀ H', Gr Ps H H' → Q (.bl (hasB la lb)) H'
theorem ok_lHas {f : Addr} {fd : FuncData} {k : Nat} {Ps : List Addr} (F : Fun K "_law_has" "_law_has" sLHas f fd) : FnOk P w K mg base CX0 (k + 1) f fd ["_law_lot_here", "_law_other"] (spLHas Ps) := by
  refine F.ok scLHas (fun vs H Q E h => ?_) (fun cdv A outer s H vs Q E hr h => ?_)
  · obtain ⟨a, b, la, lb, rfl, _⟩ := h
    rfl
  · obtain ⟨a, b, la, lb, rfl, hA, hB, l60, hT, q⟩ := h
    refine ⟨_, pss_one (ps_ret (pe_cmpR (op_eqD hr.units) (pe_lc (own := [("_law_fact", 2)]) (g := gName 2) (tt := tTest (tOp (rIn K true) (tVar 2) (tVar 0))) (te := tVar 2) rfl scLHas.nd (pi_tup (pv 1))
        (blkOk_by (own := [("_law_fact", 2)]) (N := nLHas) (sc := defScope sLHas) (by decide +kernel)) (fun _ _ _ _ _ => pg_name (i := 2) scLHas.nd rfl (Or.inl rfl)) (fun _ _ _ _ _ => pts_one (pt_cmpR op_notIn_seq (pv 2) (pv 0) (by rfl))) (fun _ _ _ _ _ => pv 2)) (pe_lst pa_nil) (nomark _))), ?_⟩
    refine ⟨_, rfl, b, rfl, ⟨_, .inl (.inl hB)⟩, fun D nD => ?_⟩
    have gD := Gr.new (o := .lst []) hT nD
    refine lc_it (walk_tup (xs := lb.map V.int)) (fun i H' => Gr Ps H H' ∧ H' D = some (.lst (((lb.take i).filter fun x => decide (x ∉ la)).map V.int))) ⟨gD, upd_same⟩ (fun i H' _ z => .inl (.inl (z.1.tup hB))) ?_ ?_
    · rintro i x H' H2 hi ⟨g, eD⟩ ⟨rfl, ex⟩
      obtain ⟨z, hz, rfl⟩ := ints_get ex
      have tk : (lb.take (i + 1)).filter (fun x => decide (x ∉ la)) = (lb.take i).filter (fun x => decide (x ∉ la)) ++ [z].filter (fun x => decide (x ∉ la)) := by rw [take_snoc hz, List.filter_append]
      refine ⟨rfl, ?_⟩
      refine ⟨_, rfl, _, rfl, a, _, rfl, .inr (.inl (.inl (g.tup hA))), rfl, flat_ints _, _, rfl, ?_⟩
      rw [inV_ints]
      by_cases m : z ∈ la
      · refine ifF (show (!decide (z ∈ la)) = false by rw [decide_eq_true m]; rfl) ⟨g, ?_⟩
        rw [tk, List.filter_cons_of_neg (by simp [m]), List.filter_nil, List.append_nil]
        exact eD
      · refine ifT (show (!decide (z ∈ la)) = true by rw [decide_eq_false m]; rfl) ⟨_, rfl, _, eD, ?_, g.set nD eD, ?_⟩
        · have q1 := List.length_filter_le (fun x => decide (x ∉ la)) (lb.take i)
          rw [List.length_take] at q1
          rw [List.length_map]
          exact small1000 (by omega)
        · rw [upd_same, tk, List.filter_cons_of_pos (by simp [m]), List.filter_nil, List.map_append]
          rfl
    · rintro H' ⟨g, eD⟩
      rw [List.length_map, List.take_length] at eD
      refine ⟨by show 0 ≤ sizeLine; exact Nat.zero_le _, fun p np => ?_⟩
      have gp := Gr.new (o := .lst []) g.t2 np
      refine ⟨.list ((lb.filter fun x => decide (x ∉ la)).map .int), .list [], .lst (.inl (.inl (gp.lst eD))) (dp_ints _), .lst (.inl (.inl upd_same)) .nil, shaped_ints _, shaped_nil, ?_⟩
      rw [eqv_nil, filter_has]
      exact q _ (g.trans gp)
def spLLots (Ps : List Addr) : Sp := fun vs H Q _ => ∃ m : Nat, vs = [.int (m : Int)] ∧ m ≤ 6 ∧ Tb Ps H ∧
  ∀ (p : Addr) (xs : List V) (H' : Hp), Gr Ps H H' → H p = none → H' p = some (.lst xs) → LotsAt H' (allL m) xs → Q (.ref p) H'
theorem ok_lLots {f : Addr} {fd : FuncData} {k : Nat} {Ps : List Addr} (F : Fun K "_law_lots" "_law_lots" sLLots f fd) (mr : mg "range" = none) : FnOk P w K mg base CX0 (k + 1) f fd ["_law_m"] (spLLots Ps) := by
  refine F.ok scLLots (fun vs H Q E h => ?_) (fun cdv A outer s H vs Q E hr h => ?_)
  · obtain ⟨m, rfl, _⟩ := h
    rfl
  · obtain ⟨m, rfl, m6, hT, q⟩ := h
    refine ⟨_, pss_cons (ps_set (i := 1) scLLots.nd rfl (.inl rfl) (pe_lst (pa_cons (pe_tup pa_nil) pa_nil))) <|
      pss_cons (ps_for PassesOwn.never rfl (pi_range1 (by rfl) mr (pa_cons (pv 0) pa_nil)) (pg_name (i := 2) scLLots.nd rfl (.inr rfl))
        (pss_one (ps_set (i := 1) scLLots.nd rfl (.inl rfl) (pe_op op_cat (pv 1) (pe_lc (own := [("_law_lot_here", 3)]) (g := gName 3) (tt := tYes) (te := tOp (rCatA K) (tVar 3) (tTup (tCons (tVar 2) tNil))) rfl scLLots.nd (pi_list (pv 1))
          (blkOk_by (own := [("_law_lot_here", 3)]) (N := nLLots) (sc := defScope sLLots) (by decide +kernel)) (fun _ _ _ _ _ => pg_name (i := 3) scLLots.nd rfl (Or.inl rfl)) (fun _ _ _ _ _ => pts_nil)
          (fun _ _ _ _ _ => pe_op op_catA (pv 3) (pe_tup (pa_cons (pv 2) pa_nil)))))))) <|
      pss_one (ps_ret (pv 1)), ?_⟩
    refine ⟨by show 0 ≤ sizeLine; exact Nat.zero_le _, fun t nt => ⟨by show 1 ≤ sizeLine; decide, fun a na => ?_⟩⟩
    have g1 := Gr.new (o := .tup []) hT nt
    have g2 := g1.trans (Gr.new (o := .lst [V.ref t]) g1.t2 na)
    have hta : t ≠ a := ne_of_none upd_same na
    refine ⟨_, rfl, m, rfl, by omega, by omega, ?_⟩
    refine for_it walk_range (fun i σ H' => ∃ (a : Addr) (xs : List V) (v2 : Option V), σ = [some (.int m), some (.ref a), v2, none] ∧ Gr Ps H H' ∧ H a = none ∧ H' a = some (.lst xs) ∧ LotsAt H' (allL i) xs)
      ⟨a, [.ref t], none, rfl, g2, g1.free na, upd_same, .cons ⟨t, rfl, by show upd _ a _ t = _; rw [upd_ne hta, upd_same]; rfl⟩ .nil⟩ (fun i σ H' _ z => trivial) ?_ ?_
    · rintro i x σ H1 H1' hi ⟨b, xs, v2, rfl, g, nb, eb, hX⟩ ⟨rfl, rfl⟩
      have i6 : i < 6 := by
        have : (m : Int).toNat = m := Int.toNat_natCast m
        omega
      have xl : xs.length = (allL i).length := (Paired.length hX).symm
      have small : (allL i).length ≤ 32 := by
        rw [allL_len]
        exact Nat.pow_le_pow_right (by decide) (show i ≤ 5 by omega)
      refine ⟨_, rfl, _, rfl, b, rfl, ⟨_, .inl (.inl eb)⟩, fun D nD => ?_⟩
      have nbD : b ≠ D := ne_of_none eb nD
      have gD := Gr.new (o := .lst []) g.t2 nD
      refine lc_list (K := K) (a := b) (xs := xs) (fun j H' => Gr Ps H1' H' ∧ ∃ ys, H' D = some (.lst ys) ∧ LotsAt H' (((allL i).take j).map fun l => l ++ [(i : Int)]) ys) ⟨gD, [], upd_same, .nil⟩ (fun j H' _ z => .inl (.inl (z.1.lst eb))) ?_ ?_
      · rintro j x H' hx ⟨gg, ys, eD, hY⟩
        obtain ⟨l, hl, t2, rfl, ht2⟩ := paired_get hX hx
        have ht3 := gg.tup ht2
        refine ⟨rfl, ?_⟩
        rw [tYes_is, if_pos rfl]
        refine ⟨_, rfl, _, rfl, (by show 1 ≤ sizeLine; decide), fun u nu => ?_⟩
        have gu := Gr.new (o := .tup [V.int (0 + (i : Int))]) gg.t2 nu
        have ylen : ys.length < sizeLine := by
          have := (Paired.length hY).symm
          rw [this, List.length_map, List.length_take]
          exact small1000 (by omega)
        -- wherever the longer lot stands
        have fin : ∀ (p : Addr) (Hn : Hp), Gr Ps H1' Hn → Hn p = some (.tup ((l ++ [(i : Int)]).map V.int)) → Hn D = some (.lst ys) → LotsAt Hn (((allL i).take j).map fun l => l ++ [(i : Int)]) ys →
            ∃ acc, Hn D = some (.lst acc) ∧ acc.length < sizeLine ∧ Gr Ps H1' (upd Hn D (.lst (acc ++ [V.ref p]))) ∧ ∃ ys', upd Hn D (.lst (acc ++ [V.ref p])) D = some (.lst ys') ∧ LotsAt (upd Hn D (.lst (acc ++ [V.ref p]))) (((allL i).take (j + 1)).map fun l => l ++ [(i : Int)]) ys' := fun p Hn gn ep eDn hYn => by
          refine ⟨ys, eDn, ylen, gn.set nD eDn, ys ++ [V.ref p], upd_same, ?_⟩
          rw [take_snoc hl, List.map_append]
          exact paired_app (lots_upd eDn hYn) (lots_upd eDn (.cons ⟨p, rfl, ep⟩ .nil))
        have lm := (allL_mem i l).mp (List.mem_of_getElem? hl)
        have ln := pw_len lm.1 lm.2
        have iv : V.int (0 + (i : Int)) = V.int (i : Int) := by rw [Int.zero_add]
        refine ⟨t2, u, l.map V.int, [V.int (0 + (i : Int))], rfl, rfl, .inl (.inl (gu.tup ht3)), .inl (.inl upd_same), lt_size (by simp; omega), fun e => ?_, fun _ e => by simp at e, fun _ _ p np => ?_⟩
        · have e0 : l = [] := by simpa using e
          refine fin u _ (gg.trans gu) ?_ (gu.lst eD) (gu.lots hY)
          rw [upd_same, e0]
          show some (HO.tup [V.int (0 + (i : Int))]) = some (HO.tup [V.int (i : Int)])
          rw [iv]
        · have gp := Gr.new (o := .tup (l.map V.int ++ [V.int (0 + (i : Int))])) gu.t2 np
          refine fin p _ (gg.trans (gu.trans gp)) ?_ (gp.lst (gu.lst eD)) (gp.lots (gu.lots hY))
          rw [upd_same, List.map_append]
          show some (HO.tup (l.map V.int ++ [V.int (0 + (i : Int))])) = some (HO.tup (l.map V.int ++ [V.int (i : Int)]))
          rw [iv]
      · rintro H' ⟨gg, ys, eD, hY⟩
        rw [xl, List.take_length] at hY
        have yl : ys.length = (allL i).length := by
          have := (Paired.length hY).symm
          rw [this, List.length_map]
        refine ⟨b, D, xs, ys, rfl, rfl, gg.lst eb, eD, lt_size (by omega), fun p np => ?_⟩
        have gp := Gr.new (o := .lst (xs ++ ys)) gg.t2 np
        have gall := g.trans (gg.trans gp)
        exact ⟨p, xs ++ ys, some (.int (0 + (i : Int))), rfl, gall, (g.trans gg).free np, upd_same, paired_app ((gg.trans gp).lots hX) (gp.lots hY)⟩
    · rintro σ H' ⟨b, xs, v2, rfl, g, nb, eb, hX⟩
      have em : (m : Int).toNat = m := Int.toNat_natCast m
      rw [em] at hX
      exact ⟨_, rfl, q b xs H' g nb eb hX⟩
end
end EX

-- L2f
set_option Elab.async false
set_option linter.all false
set_option maxRecDepth 100000
set_option maxHeartbeats 4000000
/-! the law's own closed lots -/
namespace EX
open PySem PySem.Spec PyProof.Rows L2
abbrev sLCl : Stmt := top 35
def nLCl : List Str := ["_law_m", "_law_rules_here", "_law_found", "_law_lot_here", "_law_ifs", "_law_fact", "_law_it"]
theorem scLCl : FnScope nLCl ["_law_m", "_law_rules_here"] (defScope sLCl) := ⟨rfl, rfl, rfl, by decide +kernel, rfl, by decide +kernel, by decide +kernel⟩
/-- the scope of the outer comprehension -/
def scIn : Scope := { kind := .function, names := [(".0", .local), ("_law_ifs", .local), ("_law_fact", .local), ("_law_lot_here", .free)], isGenerator := false, isCoroutine := false, more := [] }
section
variable {P : Program} {w : World} {K : PySem.W.Frag} {mg : Str → Option Value} {base : Heap}
/-- the rule is broken by the lot -/
def brokenB (l : List Int) (r : Rule) : Bool := decide (r.2 ∉ l) && hasB l r.1
theorem broken_iff {rs : List Rule} {l : List Int} : rs.filter (brokenB l) = [] ↔ Shut rs l := by
  rw [List.filter_eq_nil_iff]
  unfold brokenB Shut
  constructor
  · intro h r m hx
    have q := h r m
    rw [hasB_iff.mpr hx] at q
    simpa using q
  · intro h r m
    by_cases c : hasB l r.1 = true
    · simp [h r m (hasB_iff.mp c)]
    · simp [c]
theorem eqv_nil1 (n : Nat) : PyData.eqv (.list (List.replicate n (PyData.int 1))) (.list []) = decide (n = 0) := by
  cases n with
  | zero => simp [PyData.eqv, PyData.eqvAll]
  | succ n => simp [PyData.eqv, PyData.eqvAll, List.replicate_succ]
/-- [it for it in ifs if it not in lot] -/
theorem t_has {Ps : List Addr} {σ : L2.St} {H : Hp} {Q : Bool → Hp → Prop} {i j n : Nat} {a b : Addr} {la lb : List Int} (hb : σ[i]? = some (some (.ref b))) (ha : ∀ x, ((wipe σ [j]).set j (some x))[n]? = some (some (.ref a))) (hj0 : j < σ.length)
    (hA : Ints H a la) (hB : Ints H b lb) (few : lb.length ≤ 60) (hT : Tb Ps H)
    (q : ∀ H', Gr Ps H H' → Q (hasB la lb) H') :
    tTest (tOp (rEqD K) (tLc (iTup K (tVar i)) (gName j) (tTest (tOp (rIn K true) (tVar j) (tVar n))) (tVar j) [j]) (tLst tNil)) σ H Q := by
  have hj : ∀ x : V, ((wipe σ [j]).set j (some x))[j]? = some (some x) := fun x => by
    show ((σ.set j none).set j (some x))[j]? = _
    rw [List.getElem?_set_self (by rw [List.length_set]; exact hj0)]
  have hw : ∀ x : Option V, wipe ((wipe σ [j]).set j x) [j] = wipe σ [j] := fun x => by
    show ((σ.set j none).set j x).set j none = σ.set j none
    rw [List.set_set, List.set_set]
  refine ⟨_, hb, b, rfl, ⟨_, .inl (.inl hB)⟩, fun D nD => ?_⟩
  have gD := Gr.new (o := .lst []) hT nD
  refine lc_it (walk_tup (xs := lb.map V.int)) (fun i H' => Gr Ps H H' ∧ H' D = some (.lst (((lb.take i).filter fun x => decide (x ∉ la)).map V.int))) ⟨gD, upd_same⟩ (fun i H' _ z => .inl (.inl (z.1.tup hB))) ?_ ?_
  · rintro i x H' H2 hi ⟨g, eD⟩ ⟨rfl, ex⟩
    obtain ⟨z, hz, rfl⟩ := ints_get ex
    have tk : (lb.take (i + 1)).filter (fun x => decide (x ∉ la)) = (lb.take i).filter (fun x => decide (x ∉ la)) ++ [z].filter (fun x => decide (x ∉ la)) := by rw [take_snoc hz, List.filter_append]
    refine ⟨hw _, ?_⟩
    refine ⟨_, hj _, _, ha _, a, _, rfl, .inr (.inl (.inl (g.tup hA))), rfl, flat_ints _, _, rfl, ?_⟩
    rw [inV_ints]
    by_cases m : z ∈ la
    · refine ifF (show (!decide (z ∈ la)) = false by rw [decide_eq_true m]; rfl) ⟨g, ?_⟩
      rw [tk, List.filter_cons_of_neg (by simp [m]), List.filter_nil, List.append_nil]
      exact eD
    · refine ifT (show (!decide (z ∈ la)) = true by rw [decide_eq_false m]; rfl) ⟨_, hj _, _, eD, ?_, g.set nD eD, ?_⟩
      · have q1 := List.length_filter_le (fun x => decide (x ∉ la)) (lb.take i)
        rw [List.length_take] at q1
        rw [List.length_map]
        exact small1000 (by omega)
      · rw [upd_same, tk, List.filter_cons_of_pos (by simp [m]), List.filter_nil, List.map_append]
        rfl
  · rintro H' ⟨g, eD⟩
    rw [List.length_map, List.take_length] at eD
    refine ⟨by show 0 ≤ sizeLine; exact Nat.zero_le _, fun e ne => ?_⟩
    have ge := Gr.new (o := .lst []) g.t2 ne
    refine ⟨.list ((lb.filter fun x => decide (x ∉ la)).map .int), .list [], .lst (.inl (.inl (ge.lst eD))) (dp_ints _), .lst (.inl (.inl upd_same)) .nil, shaped_ints _, shaped_nil, ?_⟩
    rw [eqv_nil, filter_has]
    exact ⟨_, rfl, q _ (g.trans ge)⟩
theorem dp_ones {K : PySem.W.Frag} {H : Hp} : ∀ n : Nat, DpAll K H ((List.replicate n (PyData.int 1)).map fun _ => V.int 1) (List.replicate n (PyData.int 1))
  | 0 => .nil
  | n + 1 => by
    rw [List.replicate_succ, List.map_cons]
    exact .cons (.int 1) (dp_ones n)
theorem shaped_ones (n : Nat) : SeqAt.shaped (.list (List.replicate n (PyData.int 1))) = true := by
  have z := shaped_ints (List.replicate n 1)
  rw [List.map_replicate] at z
  exact z
def spLCl (Ps : List Addr) : Sp := fun vs H Q _ => ∃ (m : Nat) (a : Addr) (rs : List Rule), vs = [.int (m : Int), .ref a] ∧ RulesAt H a rs ∧ (∀ r ∈ rs, r.1.length ≤ 30) ∧ rs.length ≤ 30 ∧ m ≤ 6 ∧ Tb Ps H ∧
  ∀ (p : Addr) (xs : List V) (L : List (List Int)) (H' : Hp), Gr Ps H H' → H p = none → H' p = some (.tup xs) → LotsAt H' L xs → Sorted (ClosedOf m rs) L → L.length ≤ 64 → Q (.ref p) H'
theorem ok_lCl {f fL : Addr} {fd fdL : FuncData} {k : Nat} {Ps : List Addr} (F : Fun K "_law_closed_lots" "_law_closed_lots" sLCl f fd)
    (GL : FnOk P w K mg base CX0 (k + 1) fL fdL ["_law_m"] (spLLots Ps)) (gL : mg "_law_lots" = some (.ref fL)) (kL : PySem.W.keepIn K (.ref fL) = true) (bL : Binds K fdL ["_law_m"] [])
    (mt : mg "tuple" = none) (ms : mg "sorted" = none) : FnOk P w K mg base CX0 (k + 2) f fd ["_law_m", "_law_rules_here"] (spLCl Ps) := by
  refine F.ok scLCl (fun vs H Q E h => ?_) (fun cdv A outer s H vs Q E hr h => ?_)
  · obtain ⟨m, a, rs, rfl, _⟩ := h
    rfl
  · obtain ⟨m, a, rs, rfl, hA, i30, r30, m6, hT, q⟩ := h
    refine ⟨_, pss_cons (ps_set (i := 2) scLCl.nd rfl (.inl rfl) (pe_lst pa_nil)) <|
      pss_cons (ps_for PassesOwn.never rfl (pi_list (pe_call GL hr (by rfl) gL kL bL .nil pass0 (pa_cons (pv 0) pa_nil))) (pg_name (i := 3) scLCl.nd rfl (.inr rfl))
        (pss_one (ps_if (pt_cmpR (op_eqD hr.units) (pe_lc (own := [("_law_ifs", 4), ("_law_fact", 5)]) (g := gTup K 2 (gCons (gName 4) (gCons (gName 5) gNil)))
            (tt := tAnd (tTest (tOp (rIn K true) (tVar 5) (tVar 3))) (tTest (tOp (rEqD K) (tLc (iTup K (tVar 4)) (gName 6) (tTest (tOp (rIn K true) (tVar 6) (tVar 3))) (tVar 6) [6]) (tLst tNil)))) (te := tC (.int 1)) rfl scLCl.nd (pi_tup (pv 1))
            (blkOk_by (own := [("_law_ifs", 4), ("_law_fact", 5)]) (N := nLCl) (sc := defScope sLCl) (by decide +kernel))
            (fun _ _ _ _ _ => pg_tup (by rfl) (pgs_cons (pg_name (i := 4) scLCl.nd rfl (.inl rfl)) (pgs_cons (pg_name (i := 5) scLCl.nd rfl (.inl rfl)) pgs_nil)))
            (fun _ _ _ _ _ => pts_one (PW.pt (pw_and (pt_cmpR op_notIn_seq (pv 5) (pv 3) (by rfl)) (pw_and1 (pt_cmpR (op_eqD hr.units) (pe_lc (own := [("_law_it", 6)]) (g := gName 6) (tt := tTest (tOp (rIn K true) (tVar 6) (tVar 3))) (te := tVar 6) rfl scLCl.nd (pi_tup (pv 4))
              (blkOk_by (own := [("_law_it", 6)]) (N := nLCl) (sc := relS scIn (defScope sLCl)) (by decide +kernel)) (fun _ _ _ _ _ => pg_name (i := 6) scLCl.nd rfl (Or.inl rfl)) (fun _ _ _ _ _ => pts_one (pt_cmpR op_notIn_seq (pv 6) (pv 3) (by rfl))) (fun _ _ _ _ _ => pv 6)) (pe_lst pa_nil) (nomark _))))))
            (fun _ _ _ _ _ => pe_int)) (pe_lst pa_nil) (nomark _))
          (pss_one (ps_expr (pe_bm PySem.F.plainAttrs_list PySem.F.slot_list_append PySem.F.type_list_append mt_append (pv 2) (pa_cons (pv 3) pa_nil)))) pss_nil))) <|
      pss_one (ps_ret (pe_callTy call_tuple_of (by rfl) mt (by decide +kernel) (pa_cons (pe_callB (cr_sortedL (by have := hr.un; show (A.deeper (envOfC "_law_closed_lots" (defScope sLCl) s.heap.objs.size f cdv)).units + 2 < cLine; omega)) (by rfl) ms (by decide +kernel) (pa_cons (pv 2) pa_nil)) pa_nil))), ?_⟩
    refine ⟨by show 0 ≤ sizeLine; exact Nat.zero_le _, fun fo nfo => ?_⟩
    have g0 := Gr.new (o := .lst []) hT nfo
    refine ⟨_, rfl, m, rfl, m6, g0.t2, fun p xs H1 g1 np ep hX => ?_⟩
    have nfp : p ≠ fo := fun z => by
      rw [z, upd_same] at np
      cases np
    have xl : xs.length = 2 ^ m := by
      rw [← allL_len]
      exact (Paired.length hX).symm
    have x64 : xs.length ≤ 64 := by
      rw [xl]
      exact Nat.pow_le_pow_right (n := 2) (by decide) m6
    refine ⟨p, rfl, ⟨_, .inl (.inl ep)⟩, ?_⟩
    refine for_it (walk_list (xs := xs)) (fun i σ H' => ∃ (v3 : Option V) (ys : List V), σ = [some (.int m), some (.ref a), some (.ref fo), v3, none, none, none] ∧ Gr Ps H H' ∧ H' p = some (.lst xs) ∧ LotsAt H' (allL m) xs ∧ H' fo = some (.lst ys) ∧ LotsAt H' (((allL m).take i).filter (closedB rs)) ys)
      ⟨none, [], rfl, g0.trans g1, ep, hX, g1.lst upd_same, .nil⟩ (fun i σ H' _ z => ?_) ?_ ?_
    · obtain ⟨_, _, _, _, e, _⟩ := z
      exact .inl (.inl e)
    · rintro i x σ H' H'' hi ⟨v3, ys, rfl, g, epp, hXX, ef, hY⟩ ⟨rfl, ex⟩
      obtain ⟨l, hl, t, rfl, ht⟩ := paired_get hXX ex
      obtain ⟨zs, hA1, hA2⟩ := g.rules hA
      have zl : zs.length = rs.length := (Paired.length hA2).symm
      refine ⟨_, rfl, a, rfl, ⟨_, .inl (.inl hA1)⟩, fun D nD => ?_⟩
      have gD := Gr.new (o := .lst []) g.t2 nD
      refine lc_it (walk_tup (xs := zs)) (fun j H2 => Gr Ps H'' H2 ∧ H2 D = some (.lst ((List.replicate ((rs.take j).filter (brokenB l)).length (PyData.int 1)).map fun _ => V.int 1))) ⟨gD, upd_same⟩ (fun j H2 _ z => .inl (.inl (z.1.tup hA1))) ?_ ?_
      · rintro j y H2 H3 hj ⟨gg, eD⟩ ⟨rfl, ey⟩
        obtain ⟨r, hr2, hx⟩ := paired_get hA2 ey
        obtain ⟨tr, li, rfl, htr, hI⟩ := gg.rule hx
        have ht3 := gg.tup ht
        have tk : (rs.take (j + 1)).filter (brokenB l) = (rs.take j).filter (brokenB l) ++ [r].filter (brokenB l) := by rw [take_snoc hr2, List.filter_append]
        refine ⟨tr, _, rfl, .inl (.inl htr), rfl, _, _, rfl, _, _, rfl, rfl, rfl, ?_⟩
        refine ⟨_, rfl, _, rfl, t, _, rfl, .inr (.inl (.inl ht3)), rfl, flat_ints _, _, rfl, ?_⟩
        rw [inV_ints]
        by_cases m1 : r.2 ∈ l
        · refine ifF (show (!decide (r.2 ∈ l)) = false by rw [decide_eq_true m1]; rfl) (ifF rfl ⟨gg, ?_⟩)
          rw [tk, List.filter_cons_of_neg (by simp [brokenB, m1]), List.filter_nil, List.append_nil]
          exact eD
        · refine ifT (show (!decide (r.2 ∈ l)) = true by rw [decide_eq_false m1]; rfl) ?_
          refine t_has (i := 4) (j := 6) (n := 3) (Ps := Ps) (a := t) (b := li) (la := l) (lb := r.1) rfl (fun _ => by rfl) (by show 6 < 7; decide) ht3 hI (by have := i30 r (List.mem_of_getElem? hr2); omega) gg.t2 fun H4 g5 => ?_
          by_cases m2 : hasB l r.1 = true
          · refine ifT m2 ⟨_, g5.lst eD, ?_, (gg.trans g5).set nD (g5.lst eD), ?_⟩
            · have q1 := List.length_filter_le (brokenB l) (rs.take j)
              rw [List.length_take] at q1
              rw [List.length_map, List.length_replicate]
              exact small1000 (by omega)
            · rw [upd_same, tk, List.filter_cons_of_pos (by simp [brokenB, m1, m2]), List.filter_nil, List.length_append, List.length_singleton, List.replicate_succ', List.map_append]
              rfl
          · refine ifF (by simpa using m2) ⟨gg.trans g5, ?_⟩
            rw [tk, List.filter_cons_of_neg (by simp [brokenB, m2]), List.filter_nil, List.append_nil]
            exact g5.lst eD
      · rintro H2 ⟨gg, eD⟩
        rw [zl, List.take_length] at eD
        refine ⟨by show 0 ≤ sizeLine; exact Nat.zero_le _, fun e ne => ?_⟩
        have ge := Gr.new (o := .lst []) gg.t2 ne
        have gA := gg.trans ge
        have tk2 : ((allL m).take (i + 1)).filter (closedB rs) = ((allL m).take i).filter (closedB rs) ++ [l].filter (closedB rs) := by rw [take_snoc hl, List.filter_append]
        have cb : closedB rs l = decide (((rs.filter (brokenB l)).length) = 0) := by
          by_cases c : Shut rs l
          · rw [closedB_iff.mpr c, broken_iff.mpr c]
            rfl
          · have c1 : closedB rs l = false := by
              cases z : closedB rs l with
              | false => rfl
              | true => exact absurd (closedB_iff.mp z) c
            rw [c1]
            refine (decide_eq_false fun z => c ?_).symm
            exact broken_iff.mp (List.eq_nil_of_length_eq_zero z)
        refine ⟨.list (List.replicate (rs.filter (brokenB l)).length (.int 1)), .list [], .lst (.inl (.inl (ge.lst eD))) (dp_ones _), .lst (.inl (.inl upd_same)) .nil, shaped_ones _, shaped_nil, _, rfl, ?_⟩
        rw [eqv_nil1, ← cb]
        by_cases c : closedB rs l = true
        · refine ifT c ?_
          have efA := gA.lst ef
          have epA := gA.lst epp
          have yl : ys.length ≤ 64 := by
            have z := (Paired.length hY).symm
            have z2 := List.length_filter_le (closedB rs) ((allL m).take i)
            have z3 := (Paired.length hX)
            rw [List.length_take] at z2
            omega
          refine ⟨_, rfl, .inl ⟨rfl, _, .inl (.inl efA)⟩, _, rfl, fo, _, _, rfl, rfl, efA, small1000 (by omega), ?_⟩
          refine ⟨_, ys ++ [V.ref t], rfl, (g.trans gA).set nfo efA, ?_, lots_upd efA (gA.lots hXX), upd_same, ?_⟩
          · rw [upd_ne nfp]
            exact epA
          · rw [tk2, List.filter_cons_of_pos c, List.filter_nil]
            exact paired_app (lots_upd efA (gA.lots hY)) (lots_upd efA (.cons ⟨t, rfl, gA.tup ht⟩ .nil))
        · refine ifF (by simpa using c) ⟨_, ys, rfl, g.trans gA, gA.lst epp, gA.lots hXX, gA.lst ef, ?_⟩
          rw [tk2, List.filter_cons_of_neg c, List.filter_nil, List.append_nil]
          exact gA.lots hY
    · rintro σ H' ⟨v3, ys, rfl, g, epp, hXX, ef, hY⟩
      have z3 := (Paired.length hX)
      rw [show xs.length = (allL m).length from z3.symm, List.take_length] at hY
      obtain ⟨e1, e2⟩ := lots_map hY
      refine ⟨_, rfl, fo, ys, lotOf H', rfl, .inl (.inl ef), fun x mx => e2 x mx, fun us p2 pe le np2 => ?_⟩
      have gp := Gr.new (o := .lst us) g.t2 np2
      have hU : LotsAt H' (us.map (lotOf H')) us := lots_of fun x mx => e2 x (pe.mem_iff.mp mx)
      have pe2 : (us.map (lotOf H')).Perm ((allL m).filter (closedB rs)) := by
        rw [e1]
        exact pe.map _
      have nd : ((allL m).filter (closedB rs)).Nodup := (allL_nodup m).filter _
      have so : Sorted (ClosedOf m rs) (us.map (lotOf H')) := sorted_of pe2 (List.pairwise_map.mpr le) nd fun l => by
        rw [List.mem_filter, closedB_iff, allL_mem]
        rfl
      refine ⟨p2, us, rfl, .inl ⟨.inl (.inl upd_same), fun t nt => ?_⟩⟩
      have gt := Gr.new (o := .tup us) gp.t2 nt
      refine q t us _ _ (g.trans (gp.trans gt)) ((g.trans gp).free nt) upd_same ((gp.trans gt).lots hU) so ?_
      rw [pe2.length_eq]
      have z2 := List.length_filter_le (closedB rs) (allL m)
      omega
end
end EX

-- L3
set_option Elab.async false
set_option linter.all false
set_option maxRecDepth 100000
set_option maxHeartbeats 4000000
/-! what the law draws -/
namespace EX
open PySem PySem.Spec PyProof.Rows L2
abbrev sLLot : Stmt := top 30
def nLLot : List Str := ["_law_deck_here", "_law_m", "_law_way", "_law_fact"]
theorem scLLot : FnScope nLLot ["_law_deck_here", "_law_m"] (defScope sLLot) := ⟨rfl, rfl, rfl, by decide +kernel, rfl, by decide +kernel, by decide +kernel⟩
/-- the heap has grown, the tables, and the deck has been drawn from -/
structure GrD (Ps : List Addr) (d c : Addr) (H H' : Hp) : Prop where
  keep : ∀ b o, b ∉ Ps → b ≠ d → b ≠ c → H b = some o → H' b = some o
  t1 : Tb Ps H
  t2 : Tb Ps H'
theorem GrD.of {Ps : List Addr} {d c : Addr} {H H' : Hp} (g : Gr Ps H H') : GrD Ps d c H H' := ⟨fun b o n _ _ e => g.keep b o n e, g.t1, g.t2⟩
theorem GrD.trans {Ps : List Addr} {d c : Addr} {H H1 H2 : Hp} (x : GrD Ps d c H H1) (y : GrD Ps d c H1 H2) : GrD Ps d c H H2 := ⟨fun b o n n1 n2 e => y.keep b o n n1 n2 (x.keep b o n n1 n2 e), x.t1, y.t2⟩
theorem GrD.draw {Ps : List Addr} {d c : Addr} {cs : List Int} {m n : Int} {H H' : Hp} (t : Tb Ps H) (D : DeckAt H d c cs m n) (s : SameBut2 d c H H') : GrD Ps d c H H' := by
  refine ⟨fun b o _ n1 n2 e => s b o e n1 n2, t, fun P hP => ?_⟩
  obtain ⟨ps, h1, h2⟩ := t P hP
  refine ⟨ps, s P _ h1 (fun z => ?_) (fun z => ?_), h2⟩
  · rw [z, D.dk] at h1
    cases h1
  · rw [z, D.cl] at h1
    cases h1
theorem GrD.set {Ps : List Addr} {d c D : Addr} {H H' : Hp} {xs ys : List V} (g : GrD Ps d c H H') (n : H D = none) (e : H' D = some (.lst xs)) : GrD Ps d c H (upd H' D (.lst ys)) := by
  refine ⟨fun b o hb n1 n2 eb => ?_, g.t1, fun P hP => ?_⟩
  · rw [upd_ne (ne_of_none eb n)]
    exact g.keep b o hb n1 n2 eb
  · obtain ⟨ps, h1, h2⟩ := g.t2 P hP
    refine ⟨ps, ?_, h2⟩
    rw [upd_ne (fun z => by rw [z, e] at h1; cases h1)]
    exact h1
/-- what is neither a table, nor a dict, nor a list stands -/
theorem GrD.tup {Ps : List Addr} {d c : Addr} {cs : List Int} {m n : Int} {H H' : Hp} (g : GrD Ps d c H H') (D : DeckAt H d c cs m n) {b : Addr} {xs : List V} (e : H b = some (.tup xs)) : H' b = some (.tup xs) := by
  refine g.keep b _ (fun hb => ?_) (fun z => ?_) (fun z => ?_) e
  · obtain ⟨ps, h, _⟩ := g.t1 b hb
    rw [e] at h
    cases h
  · rw [z, D.dk] at e
    cases e
  · rw [z, D.cl] at e
    cases e
theorem GrD.lst {Ps : List Addr} {d c : Addr} {cs : List Int} {m n : Int} {H H' : Hp} (g : GrD Ps d c H H') (D : DeckAt H d c cs m n) {b : Addr} {xs : List V} (nc : b ≠ c) (e : H b = some (.lst xs)) : H' b = some (.lst xs) := by
  refine g.keep b _ (fun hb => ?_) (fun z => ?_) nc e
  · obtain ⟨ps, h, _⟩ := g.t1 b hb
    rw [e] at h
    cases h
  · rw [z, D.dk] at e
    cases e
theorem GrD.free {Ps : List Addr} {d c : Addr} {cs' : List Int} {m' n' : Int} {H H' : Hp} (g : GrD Ps d c H H') (D : DeckAt H' d c cs' m' n') {b : Addr} (e : H' b = none) : H b = none := by
  cases q : H b with
  | none => rfl
  | some o =>
    by_cases hb : b ∈ Ps
    · obtain ⟨ps, h, _⟩ := g.t2 b hb
      rw [e] at h
      cases h
    · have n1 : b ≠ d := fun z => by
        rw [z, D.dk] at e
        cases e
      have n2 : b ≠ c := fun z => by
        rw [z, D.cl] at e
        cases e
      rw [g.keep b o hb n1 n2 q] at e
      cases e
theorem Gr.deck {Ps : List Addr} {d c : Addr} {cs : List Int} {m n : Int} {H H' : Hp} (g : Gr Ps H H') (D : DeckAt H d c cs m n) : DeckAt H' d c cs m n := ⟨g.at D.dk (fun ps z => by cases z), g.lst D.cl⟩
section
variable {P : Program} {w : World} {K : PySem.W.Frag} {mg : Str → Option Value} {base : Heap}
def spLLot (Ps : List Addr) : Sp := fun vs H Q _ => ∃ (d c : Addr) (cs : List Int) (mm n : Int) (m : Nat), vs = [.ref d, .int (m : Int)] ∧ DeckAt H d c cs mm n ∧ cs.length ≤ 63 ∧ m ≤ 6 ∧ Tb Ps H ∧
  ∀ (a : Addr) (l cs' : List Int) (n' : Int) (H' : Hp), GrD Ps d c H H' → DeckAt H' d c cs' mm n' → cs'.length ≤ 63 → H a = none → Ints H' a l → LotOf m l → Q (.ref a) H'
theorem ok_lLot {f fD : Addr} {fd fdD : FuncData} {k : Nat} {Ps : List Addr} (F : Fun K "_law_lot" "_law_lot" sLLot f fd)
    (GD : FnOk P w K mg base CX0 (k + 1) fD fdD ["_law_deck_here", "_law_many"] spDraw) (gD : mg "_law_draw" = some (.ref fD)) (kD : PySem.W.keepIn K (.ref fD) = true) (bD : Binds K fdD ["_law_deck_here", "_law_many"] [])
    (mt : mg "tuple" = none) (mr : mg "range" = none) : FnOk P w K mg base CX0 (k + 2) f fd ["_law_deck_here", "_law_m"] (spLLot Ps) := by
  refine F.ok scLLot (fun vs H Q E h => ?_) (fun cdv A outer s H vs Q E hr h => ?_)
  · obtain ⟨d, c, cs, mm, n, m, rfl, _⟩ := h
    rfl
  · obtain ⟨d, c, cs, mm, n, m, rfl, Dk, hcs, m6, hT, q⟩ := h
    refine ⟨_, pss_cons (ps_set (i := 2) scLLot.nd rfl (.inr rfl) (pe_call GD hr (by rfl) gD kD bD .nil pass0 (pa_cons (pv 0) (pa_cons pe_int pa_nil)))) <|
      pss_one (ps_ret (pe_callTy call_tuple_of (by rfl) mt (by decide +kernel) (pa_cons (pe_lc (own := [("_law_fact", 3)]) (g := gName 3) (tt := tTest (tOp (rI0 fun i j => V.bl (decide (i < j))) (tCall spDraw [] E0 (tCons (tVar 0) (tCons (tC (.int 4)) tNil))) (tVar 2))) (te := tVar 3) rfl scLLot.nd (pi_range1 (by rfl) mr (pa_cons (pv 1) pa_nil))
        (blkOk_by (own := [("_law_fact", 3)]) (N := nLLot) (sc := defScope sLLot) (by decide +kernel)) (fun _ _ _ _ _ => pg_name (i := 3) scLLot.nd rfl (Or.inl rfl))
        (fun _ _ _ _ _ => pts_one (pt_cmpR op_lt (pe_call GD hr (by rfl) gD kD bD .nil pass0 (pa_cons (pv 0) (pa_cons pe_int pa_nil))) (pv 2) (nomark _))) (fun _ _ _ _ _ => pv 3)) pa_nil))), ?_⟩
    refine ⟨_, rfl, d, c, cs, mm, n, 4, rfl, Dk, hcs, by decide, by decide, fun way n1 cs1 H1 r0 r1 Dk1 hcs1 s1 => ?_⟩
    have g1 := GrD.draw hT Dk s1
    refine ⟨_, rfl, m, rfl, by omega, by omega, fun D nD => ?_⟩
    have gD' := Gr.new (o := .lst []) g1.t2 nD
    refine lc_it walk_range (fun i H' => ∃ (cs' : List Int) (n' : Int) (l : List Int), GrD Ps d c H H' ∧ DeckAt H' d c cs' mm n' ∧ cs'.length ≤ 63 ∧ H D = none ∧ D ≠ c ∧ H' D = some (.lst (l.map V.int)) ∧ LotOf i l) ⟨cs1, n1, [], g1.trans (GrD.of gD'), gD'.deck Dk1, hcs1, g1.free Dk1 nD, ?_, upd_same, .nil, fun x mx => by simp at mx⟩ (fun i H' _ z => trivial) ?_ ?_
    · exact fun z => by
        rw [z, Dk1.cl] at nD
        cases nD
    · rintro i x H' H2 hi ⟨cs', n', l, g, DD, h63, nD0, Dc, eD, L⟩ ⟨rfl, rfl⟩
      have i6 : i < 6 := by omega
      refine ⟨rfl, ?_⟩
      refine ⟨_, rfl, d, c, cs', mm, n', 4, rfl, DD, h63, by decide, by decide, fun r n2 cs2 H3 q0 q1 D3 h3 s3 => ?_⟩
      have g3 := GrD.draw g.t2 DD s3
      have eD3 := g3.lst DD Dc eD
      refine ⟨_, rfl, _, _, rfl, rfl, _, rfl, ?_⟩
      by_cases cc : r < way
      · refine ifT (decide_eq_true cc) ⟨_, rfl, _, eD3, ?_, cs2, n2, l ++ [(i : Int)], ?_, ?_, h3, nD0, Dc, ?_, ?_⟩
        · have ln := pw_len L.1 L.2
          rw [List.length_map]
          exact small1000 (by omega)
        · exact (g.trans g3).set nD0 eD3
        · exact ⟨by rw [upd_ne (fun z => by rw [← z, D3.dk] at eD3; cases eD3)]; exact D3.dk, by rw [upd_ne (Ne.symm Dc)]; exact D3.cl⟩
        · rw [upd_same, List.map_append]
          show some (HO.lst (l.map V.int ++ [V.int (0 + (i : Int))])) = some (HO.lst (l.map V.int ++ [V.int (i : Int)]))
          rw [Int.zero_add]
        · refine ⟨List.pairwise_append.mpr ⟨L.1, by simp, fun a ma b mb => ?_⟩, fun x mx => ?_⟩
          · rw [List.mem_singleton.mp mb]
            exact (L.2 a ma).2
          · rcases List.mem_append.mp mx with mx | mx
            · have := L.2 x mx
              omega
            · rw [List.mem_singleton.mp mx]
              omega
      · refine ifF (decide_eq_false cc) ⟨cs2, n2, l, g.trans g3, D3, h3, nD0, Dc, eD3, L.1, fun x mx => ?_⟩
        have := L.2 x mx
        omega
    · rintro H' ⟨cs', n', l, g, DD, h63, nD0, Dc, eD, L⟩
      rw [Int.toNat_natCast] at L
      refine ⟨D, l.map V.int, rfl, .inl ⟨.inl (.inl eD), fun a na => ?_⟩⟩
      have ga := Gr.new (o := .tup (l.map V.int)) g.t2 na
      exact q a l cs' n' _ (g.trans (GrD.of ga)) (ga.deck DD) h63 (g.free DD na) upd_same L
end
end EX

-- L4
set_option Elab.async false
set_option linter.all false
set_option maxRecDepth 100000
set_option maxHeartbeats 4000000
/-! a drawn rule -/
namespace EX
open PySem PySem.Spec PyProof.Rows L2
abbrev sLRule : Stmt := top 31
def nLRule : List Str := ["_law_deck_here", "_law_m", "_law_most", "_law_fact", "_law_left", "_law_ifs", "_law_turn", "_law_it"]
theorem scLRule : FnScope nLRule ["_law_deck_here", "_law_m", "_law_most"] (defScope sLRule) := ⟨rfl, rfl, rfl, by decide +kernel, rfl, by decide +kernel, by decide +kernel⟩
/-- all facts but one -/
def others (m : Nat) (f : Int) : List Int := ((List.range m).map fun (i : Nat) => (i : Int)).filter fun i => decide (i ≠ f)
theorem others_mem {m : Nat} {f x : Int} : x ∈ others m f ↔ (0 ≤ x ∧ x < m) ∧ x ≠ f := by
  unfold others
  rw [List.mem_filter, List.mem_map]
  constructor
  · rintro ⟨⟨i, hi, rfl⟩, h⟩
    have := List.mem_range.mp hi
    exact ⟨by omega, by simpa using h⟩
  · rintro ⟨⟨h1, h2⟩, h3⟩
    exact ⟨⟨x.toNat, List.mem_range.mpr (by omega), by omega⟩, by simpa using h3⟩
theorem others_nodup (m : Nat) (f : Int) : (others m f).Nodup := by
  unfold others
  refine List.Pairwise.filter _ (List.pairwise_map.mpr (List.nodup_range.imp fun {a b} h z => h ?_))
  omega
theorem others_len {m : Nat} {f : Int} (h : 0 ≤ f ∧ f < m) : (others m f).length + 1 = m := by
  have z : ∀ k : Nat, (((List.range k).map fun (i : Nat) => (i : Int)).filter fun i => decide (i ≠ f)).length + (if f < k then 1 else 0) = k := by
    intro k
    induction k with
    | zero =>
      rw [if_neg (by omega)]
      rfl
    | succ k ih =>
      rw [List.range_succ, List.map_append, List.filter_append, List.length_append]
      by_cases c : (k : Int) = f
      · rw [if_neg (by omega)] at ih
        rw [if_pos (by omega)]
        simp [c] at ih ⊢
        omega
      · by_cases c2 : f < k
        · rw [if_pos c2] at ih
          rw [if_pos (by omega)]
          simp [c] at ih ⊢
          omega
        · rw [if_neg c2] at ih
          rw [if_neg (by omega)]
          simp [c] at ih ⊢
          omega
  have := z m
  rw [if_pos h.2] at this
  exact this
theorem erase_ints : ∀ (l : List Int) (j : Nat), (l.map V.int).eraseIdx j = (l.eraseIdx j).map V.int
  | [], _ => rfl
  | _ :: _, 0 => rfl
  | x :: r, j + 1 => by
    show V.int x :: (r.map V.int).eraseIdx j = V.int x :: (r.eraseIdx j).map V.int
    rw [erase_ints r j]
theorem erase_perm : ∀ (l : List Int) (j : Nat) (h : j < l.length), (l[j] :: l.eraseIdx j).Perm l
  | x :: r, 0, _ => List.Perm.refl _
  | x :: r, j + 1, h => by
    have hj : j < r.length := by simpa using h
    have ih := erase_perm r j hj
    show (r[j] :: x :: r.eraseIdx j).Perm (x :: r)
    exact (List.Perm.swap x r[j] _).trans (ih.cons x)
section
variable {P : Program} {w : World} {K : PySem.W.Frag} {mg : Str → Option Value} {base : Heap}
def spLRule (Ps : List Addr) : Sp := fun vs H Q _ => ∃ (d c : Addr) (cs : List Int) (mm n : Int) (m : Nat) (most : Int), vs = [.ref d, .int (m : Int), .int most] ∧ DeckAt H d c cs mm n ∧ cs.length ≤ 63 ∧ (1 ≤ m ∧ m ≤ 6) ∧ (0 ≤ most ∧ most ≤ 5) ∧ Tb Ps H ∧
  ∀ (x : V) (r : Rule) (cs' : List Int) (n' : Int) (H' : Hp), GrD Ps d c H H' → DeckAt H' d c cs' mm n' → cs'.length ≤ 63 → RuleAt H' r x → GoodRule m r → Q x H'
theorem ok_lRule {f fD : Addr} {fd fdD : FuncData} {k : Nat} {Ps : List Addr} (F : Fun K "_law_rule" "_law_rule" sLRule f fd)
    (GD : FnOk P w K mg base CX0 (k + 1) fD fdD ["_law_deck_here", "_law_many"] spDraw) (gD : mg "_law_draw" = some (.ref fD)) (kD : PySem.W.keepIn K (.ref fD) = true) (bD : Binds K fdD ["_law_deck_here", "_law_many"] [])
    (mt : mg "tuple" = none) (mr : mg "range" = none) (ml : mg "len" = none) (mi : mg "min" = none) (ms : mg "sorted" = none) : FnOk P w K mg base CX0 (k + 2) f fd ["_law_deck_here", "_law_m", "_law_most"] (spLRule Ps) := by
  refine F.ok scLRule (fun vs H Q E h => ?_) (fun cdv A outer s H vs Q E hr h => ?_)
  · obtain ⟨d, c, cs, mm, n, m, most, rfl, _⟩ := h
    rfl
  · obtain ⟨d, c, cs, mm, n, m, most, rfl, Dk, hcs, m6, ho, hT, q⟩ := h
    refine ⟨_, pss_cons (ps_set (i := 3) scLRule.nd rfl (.inr rfl) (pe_call GD hr (by rfl) gD kD bD .nil pass0 (pa_cons (pv 0) (pa_cons (pv 1) pa_nil)))) <|
      pss_cons (ps_par (i := 4) (j := 5) (by rfl) scLRule.nd rfl rfl (by decide) rfl rfl (pa_cons (pe_lc (own := [("_law_it", 7)]) (g := gName 7) (tt := tTest (tOp rNe (tVar 7) (tVar 3))) (te := tVar 7) rfl scLRule.nd (pi_range1 (by rfl) mr (pa_cons (pv 1) pa_nil))
          (blkOk_by (own := [("_law_it", 7)]) (N := nLRule) (sc := defScope sLRule) (by decide +kernel)) (fun _ _ _ _ _ => pg_name (i := 7) scLRule.nd rfl (Or.inl rfl)) (fun _ _ _ _ _ => pts_one (pt_cmpR op_ne (pv 7) (pv 3) (nomark _))) (fun _ _ _ _ _ => pv 7)) <| pa_cons (pe_lst pa_nil) pa_nil) (by rfl)) <|
      pss_cons (ps_for PassesOwn.never rfl (pi_range1 (by rfl) mr (pa_cons (pe_callB (call_min2 rfl) (by rfl) mi (by decide +kernel) (pa_cons (pe_call GD hr (by rfl) gD kD bD .nil pass0 (pa_cons (pv 0) (pa_cons (pe_op op_add (pv 2) pe_int) pa_nil))) (pa_cons (pe_op op_sub (pv 1) pe_int) pa_nil))) pa_nil)) (pg_name (i := 6) scLRule.nd rfl (.inl rfl))
        (pss_one (ps_expr (pe_bm PySem.F.plainAttrs_list PySem.F.slot_list_append PySem.F.type_list_append mt_append (pv 5) (pa_cons (pe_bm PySem.F.plainAttrs_list PySem.F.slot_list_pop PySem.F.type_list_pop mt_popAt (pv 4) (pa_cons (pe_call GD hr (by rfl) gD kD bD .nil pass0 (pa_cons (pv 0) (pa_cons (pe_callB call_len_seq (by rfl) ml PySem.boot_len (pa_cons (pv 4) pa_nil)) pa_nil))) pa_nil)) pa_nil))))) <|
      pss_one (ps_ret (pe_tup (pa_cons (pe_callTy call_tuple_of (by rfl) mt (by decide +kernel) (pa_cons (pe_callB cr_sorted (by rfl) ms (by decide +kernel) (pa_cons (pv 5) pa_nil)) pa_nil)) (pa_cons (pv 3) pa_nil)))), ?_⟩
    have fm : (0 : Int) < m ∧ (m : Int) < 1000000 := by omega
    refine ⟨_, rfl, _, rfl, d, c, cs, mm, n, m, rfl, Dk, hcs, fm.1, fm.2, fun fact n1 cs1 H1 f0 f1 Dk1 hcs1 s1 => ?_⟩
    have g1 := GrD.draw hT Dk s1
    -- the other facts
    refine ⟨_, rfl, m, rfl, by omega, by omega, fun D nD => ?_⟩
    have gl := Gr.new (o := .lst []) g1.t2 nD
    refine lc_it walk_range (fun i H' => Gr Ps H1 H' ∧ H' D = some (.lst ((others i fact).map V.int))) ⟨gl, upd_same⟩ (fun i H' _ z => trivial) ?_ ?_
    · rintro i x H' H2 hi ⟨g, eD⟩ ⟨rfl, rfl⟩
      have i6 : i < 6 := by omega
      have os : others (i + 1) fact = others i fact ++ [(i : Int)].filter (fun i => decide (i ≠ fact)) := by
        unfold others
        rw [List.range_succ, List.map_append, List.filter_append]
        rfl
      have ol : (others i fact).length ≤ 6 := by
        unfold others
        have := List.length_filter_le (fun i => decide (i ≠ fact)) ((List.range i).map fun (i : Nat) => (i : Int))
        rw [List.length_map, List.length_range] at this
        omega
      refine ⟨rfl, ?_⟩
      refine ⟨_, rfl, _, rfl, rfl, _, rfl, ?_⟩
      by_cases cc : (i : Int) = fact
      · refine ifF ?_ ⟨g, ?_⟩
        · show (!decide (V.int (0 + (i : Int)) = V.int fact)) = false
          rw [Int.zero_add, cc]
          simp
        · rw [os, List.filter_cons_of_neg (by simp [cc]), List.filter_nil, List.append_nil]
          exact eD
      · refine ifT ?_ ⟨_, rfl, _, eD, ?_, g.set nD eD, ?_⟩
        · show (!decide (V.int (0 + (i : Int)) = V.int fact)) = true
          rw [Int.zero_add, decide_eq_false fun z => cc (V.int.inj z)]
          rfl
        · rw [List.length_map]
          exact small1000 (by omega)
        · rw [upd_same, os, List.filter_cons_of_pos (by simp [cc]), List.filter_nil, List.map_append]
          show some (HO.lst ((others i fact).map V.int ++ [V.int (0 + (i : Int))])) = some (HO.lst ((others i fact).map V.int ++ [V.int (i : Int)]))
          rw [Int.zero_add]
    · rintro H2 ⟨g2, eD⟩
      rw [Int.toNat_natCast] at eD
      refine ⟨by show 0 ≤ sizeLine; exact Nat.zero_le _, fun ia nia => ?_⟩
      have gi := Gr.new (o := .lst []) g2.t2 nia
      have g3 := g1.trans (GrD.of (g2.trans gi))
      have D3 := (g2.trans gi).deck Dk1
      have eD3 := gi.lst eD
      have Dia : D ≠ ia := ne_of_none eD nia
      have Dc : D ≠ c := fun z => by
        rw [z, Dk1.cl] at nD
        cases nD
      have iac : ia ≠ c := fun z => by
        rw [z, (g2.deck Dk1).cl] at nia
        cases nia
      have Dd : D ≠ d := fun z => by
        rw [z, Dk1.dk] at nD
        cases nD
      have iad : ia ≠ d := fun z => by
        rw [z, (g2.deck Dk1).dk] at nia
        cases nia
      have nD0 := g1.free Dk1 nD
      have nia0 := (g1.trans (GrD.of g2)).free (g2.deck Dk1) nia
      have ol := others_len (m := m) (f := fact) ⟨f0, f1⟩
      refine ⟨.ref D, .ref ia, rfl, ?_⟩
      refine ⟨_, rfl, _, rfl, _, _, rfl, rfl, d, c, cs1, mm, n1, most + 1, rfl, D3, hcs1, by omega, by omega, fun r n2 cs2 H3 r0 r1 Dk3 hcs3 s3 => ?_⟩
      have gr := GrD.draw g3.t2 D3 s3
      have eD4 := gr.lst D3 Dc eD3
      have ei4 := gr.lst D3 iac (upd_same (H := H2) (a := ia) (o := .lst []))
      refine ⟨_, rfl, _, _, rfl, rfl, _, _, rfl, ?_⟩
      have tb : (if (m : Int) - 1 < r then (m : Int) - 1 else r) ≤ (m : Int) - 1 ∧ 0 ≤ (if (m : Int) - 1 < r then (m : Int) - 1 else r) := by
        split <;> omega
      generalize (if (m : Int) - 1 < r then (m : Int) - 1 else r) = t at tb ⊢
      refine ⟨t, rfl, by omega, by omega, ?_⟩
      refine for_it walk_range (fun i σ H' => ∃ (cs' : List Int) (n' : Int) (left ifs : List Int) (v6 : Option V), σ = [some (.ref d), some (.int m), some (.int most), some (.int fact), some (.ref D), some (.ref ia), v6, none] ∧ GrD Ps d c H H' ∧ DeckAt H' d c cs' mm n' ∧ cs'.length ≤ 63 ∧ H' D = some (.lst (left.map V.int)) ∧ H' ia = some (.lst (ifs.map V.int)) ∧ (left ++ ifs).Perm (others m fact) ∧ ifs.length = i)
        ⟨cs2, n2, others m fact, [], none, rfl, g3.trans gr, Dk3, hcs3, eD4, ei4, by rw [List.append_nil], rfl⟩ (fun i σ H' _ z => trivial) ?_ ?_
      · rintro i x σ H4 H5 hi ⟨cs', n', left, ifs, v6, rfl, g, DD, h63, eL, eI, pm, il⟩ ⟨rfl, rfl⟩
        have ll : left.length + ifs.length + 1 = m := by
          have := pm.length_eq
          rw [List.length_append] at this
          omega
        refine ⟨_, rfl, .inl ⟨rfl, _, .inl (.inl eI)⟩, _, rfl, .inl ⟨rfl, _, .inl (.inl eL)⟩, _, rfl, _, rfl, D, _, rfl, .inl (.inl (.inl eL)), ?_⟩
        rw [List.length_map]
        refine ⟨d, c, cs', mm, n', left.length, rfl, DD, h63, by omega, by omega, fun j n3 cs3 H6 j0 j1 D6 h6 s6 => ?_⟩
        have g6 := GrD.draw g.t2 DD s6
        have eL6 := g6.lst DD Dc eL
        have eI6 := g6.lst DD iac eI
        have jl : j.toNat < left.length := by omega
        refine ⟨D, left.map V.int, j, j.toNat, .int left[j.toNat], rfl, rfl, eL6, by omega, by omega, by rw [List.length_map]; exact PySem.seqIndex_of j0 j1, by simp [jl], ?_⟩
        have ga := g.trans g6
        have gb := ga.set (ys := (left.map V.int).eraseIdx j.toNat) nD0 eL6
        have eI7 : upd H6 D (.lst ((left.map V.int).eraseIdx j.toNat)) ia = some (.lst (ifs.map V.int)) := by
          rw [upd_ne (Ne.symm Dia)]
          exact eI6
        refine ⟨ia, _, _, rfl, rfl, eI7, by rw [List.length_map]; exact small1000 (by omega), ?_⟩
        refine ⟨cs3, n3, left.eraseIdx j.toNat, ifs ++ [left[j.toNat]], _, rfl, gb.set nia0 eI7, ⟨?_, ?_⟩, h6, ?_, ?_, ?_, by rw [List.length_append, il]; rfl⟩
        · rw [upd_ne (Ne.symm iad), upd_ne (Ne.symm Dd)]
          exact D6.dk
        · rw [upd_ne (Ne.symm iac), upd_ne (Ne.symm Dc)]
          exact D6.cl
        · rw [upd_ne Dia, upd_same, erase_ints]
        · rw [upd_same, List.map_append]
          rfl
        · have p1 : (left[j.toNat] :: left.eraseIdx j.toNat).Perm left := erase_perm left _ jl
          have p2 : (left.eraseIdx j.toNat ++ (ifs ++ [left[j.toNat]])).Perm (left[j.toNat] :: (left.eraseIdx j.toNat ++ ifs)) := by
            rw [← List.append_assoc]
            exact List.perm_append_singleton _ _
          exact p2.trans ((p1.append_right ifs).trans pm)
      · rintro σ H' ⟨cs', n', left, ifs, v6, rfl, g, DD, h63, eL, eI, pm, il⟩
        have ll : left.length + ifs.length + 1 = m := by
          have := pm.length_eq
          rw [List.length_append] at this
          omega
        refine ⟨_, rfl, ia, ifs, rfl, .inl (.inl eI), by omega, fun ns p perm le np => ?_⟩
        have gp := Gr.new (o := .lst (ns.map V.int)) g.t2 np
        refine ⟨p, ns.map V.int, rfl, .inl ⟨.inl (.inl upd_same), fun u nu => ?_⟩⟩
        have gu := Gr.new (o := .tup (ns.map V.int)) gp.t2 nu
        refine ⟨_, rfl, by show 2 ≤ sizeLine; decide, fun v nv => ?_⟩
        have gv := Gr.new (o := .tup [V.ref u, V.int fact]) gu.t2 nv
        have gall := gp.trans (gu.trans gv)
        have nd : (left ++ ifs).Nodup := pm.nodup_iff.mpr (others_nodup m fact)
        have ndi : ifs.Nodup := (List.nodup_append.mp nd).2.1
        have pw := sorted_pw perm le ndi
        have mem : ∀ x ∈ ns, (0 ≤ x ∧ x < (m : Int)) ∧ x ≠ fact := fun x mx => others_mem.mp (pm.mem_iff.mp (List.mem_append_right _ (perm.mem_iff.mp mx)))
        refine q (.ref v) (ns, fact) cs' n' _ (g.trans (GrD.of gall)) (gall.deck DD) h63 ⟨v, u, rfl, upd_same, gv.tup upd_same⟩ ⟨⟨fun x mx => (mem x mx).1, pw_rises pw, ?_⟩, ⟨f0, f1⟩, fun z => (mem fact z).2 rfl⟩
        have := perm.length_eq
        show ns.length < 1000
        omega
end
end EX

-- L5
set_option Elab.async false
set_option linter.all false
set_option maxRecDepth 100000
set_option maxHeartbeats 4000000
/-! drawn rules -/
namespace EX
open PySem PySem.Spec PyProof.Rows L2
abbrev sLRules : Stmt := top 32
def nLRules : List Str := ["_law_deck_here", "_law_m", "_law_most", "_law_many", "_law_some", "_law_turn"]
theorem scLRules : FnScope nLRules ["_law_deck_here", "_law_m"] (defScope sLRules) := ⟨rfl, rfl, rfl, by decide +kernel, rfl, by decide +kernel, by decide +kernel⟩
theorem paired_snoc {α β : Type} {F : α → β → Prop} : ∀ {xs : List α} {ys : List β} {x : α} {y : β}, Paired F xs ys → F x y → Paired F (xs ++ [x]) (ys ++ [y])
  | _, _, _, _, .nil, h => .cons h .nil
  | _, _, _, _, .cons a r, h => .cons a (paired_snoc r h)
theorem paired_len {α β : Type} {F : α → β → Prop} : ∀ {xs : List α} {ys : List β}, Paired F xs ys → xs.length = ys.length
  | _, _, .nil => rfl
  | _, _, .cons a r => by
    rw [List.length_cons, List.length_cons, paired_len r]
theorem paired_at {α β : Type} {F : α → β → Prop} : ∀ {xs : List α} {ys : List β} {i : Nat} {x : α} {y : β}, Paired F xs ys → xs[i]? = some x → ys[i]? = some y → F x y
  | _, _, _, _, _, .nil, e, _ => by simp at e
  | _, _, 0, _, _, .cons a r, e, e' => by
    simp at e e'
    subst e
    subst e'
    exact a
  | _, _, i + 1, _, _, .cons a r, e, e' => paired_at (i := i) r (by simpa using e) (by simpa using e')
theorem paired_put {α β : Type} {F : α → β → Prop} : ∀ {xs : List α} {ys : List β} (i : Nat) {x : α} {y : β}, Paired F xs ys → F x y → Paired F (xs.set i x) (ys.set i y)
  | _, _, _, _, _, .nil, _ => .nil
  | _, _, 0, _, _, .cons a r, h => .cons h r
  | _, _, i + 1, _, _, .cons a r, h => .cons a (paired_put i r h)
theorem if_call {c : Bool} {ta tb : TE} {σ : L2.St} {H : Hp} {Qk : V → Hp → Prop} (Pm : Int → Hp → Prop) (h1 : ∀ Q', (∀ many H3, Pm many H3 → Q' (V.int many) H3) → ta σ H Q') (h2 : ∀ Q', (∀ many H3, Pm many H3 → Q' (V.int many) H3) → tb σ H Q') (h : ∀ many H3, Pm many H3 → Qk (V.int many) H3) : if c = true then ta σ H Qk else tb σ H Qk := by
  cases c with
  | true => exact iteT (h1 _ h)
  | false => exact iteF (h2 _ h)
theorem ixN0 {n : Nat} (h : 0 < n) : ixN n 0 = some 0 := by
  unfold ixN
  rw [if_pos (by decide), if_pos (by omega)]
  rfl
theorem atI_m1 {α : Type} {xs : List α} (h : 0 < xs.length) : atI xs (-1) = some (xs[xs.length - 1]'(by omega)) := by
  unfold atI ixN
  rw [if_neg (by decide), if_pos (by omega)]
  show xs[((-1 : Int) + xs.length).toNat]? = _
  have : ((-1 : Int) + xs.length).toNat = xs.length - 1 := by omega
  rw [this, List.getElem?_eq_getElem (by omega)]
theorem rule_upd {H : Hp} {D : Addr} {zs : List V} {o : HO} (e : H D = some (.lst zs)) {r : Rule} {x : V} (h : RuleAt H r x) : RuleAt (upd H D o) r x := by
  obtain ⟨t, la, ex, h1, h2⟩ := h
  refine ⟨t, la, ex, ?_, ?_⟩
  · rw [upd_ne (fun z => by rw [z, e] at h1; cases h1)]
    exact h1
  · show upd H D o la = _
    rw [upd_ne (fun z => by have h2 : H la = _ := h2; rw [z, e] at h2; cases h2)]
    exact h2
section
variable {P : Program} {w : World} {K : PySem.W.Frag} {mg : Str → Option Value} {base : Heap}
theorem GrD.rule {Ps : List Addr} {d c : Addr} {cs : List Int} {m n : Int} {H H' : Hp} {r : Rule} {x : V} (g : GrD Ps d c H H') (D : DeckAt H d c cs m n) (h : RuleAt H r x) : RuleAt H' r x := let ⟨t, la, e, h1, h2⟩ := h; ⟨t, la, e, g.tup D h1, g.tup D h2⟩
def spLRules (Ps : List Addr) : Sp := fun vs H Q _ => ∃ (d c : Addr) (cs : List Int) (mm n : Int) (m : Nat), vs = [.ref d, .int (m : Int)] ∧ DeckAt H d c cs mm n ∧ cs.length ≤ 63 ∧ (1 ≤ m ∧ m ≤ 6) ∧ Tb Ps H ∧
  ∀ (a : Addr) (rs : List Rule) (cs' : List Int) (n' : Int) (H' : Hp), GrD Ps d c H H' → DeckAt H' d c cs' mm n' → cs'.length ≤ 63 → RulesAt H' a rs → GoodRules m rs → Q (.ref a) H'
theorem ok_lRules {f fD fP fR : Addr} {fd fdD fdP fdR : FuncData} {k : Nat} {Ps : List Addr} (F : Fun K "_law_rules" "_law_rules" sLRules f fd)
    (GD : FnOk P w K mg base CX0 (k + 3) fD fdD ["_law_deck_here", "_law_many"] spDraw) (gD : mg "_law_draw" = some (.ref fD)) (kD : PySem.W.keepIn K (.ref fD) = true) (bD : Binds K fdD ["_law_deck_here", "_law_many"] [])
    (GP : FnOk P w K mg base CX0 (k + 3) fP fdP ["_law_deck_here", "_law_some"] (spPick K)) (gP : mg "_law_pick" = some (.ref fP)) (kP : PySem.W.keepIn K (.ref fP) = true) (bP : Binds K fdP ["_law_deck_here", "_law_some"] [])
    (GR : FnOk P w K mg base CX0 (k + 3) fR fdR ["_law_deck_here", "_law_m", "_law_most"] (spLRule Ps)) (gR : mg "_law_rule" = some (.ref fR)) (kR : PySem.W.keepIn K (.ref fR) = true) (bR : Binds K fdR ["_law_deck_here", "_law_m", "_law_most"] [])
    (mt : mg "tuple" = none) (mr : mg "range" = none) : FnOk P w K mg base CX0 (k + 4) f fd ["_law_deck_here", "_law_m"] (spLRules Ps) := by
  refine F.ok scLRules (fun vs H Q E h => ?_) (fun cdv A outer s H vs Q E hr h => ?_)
  · obtain ⟨d, c, cs, mm, n, m, rfl, _⟩ := h
    rfl
  · obtain ⟨d, c, cs, mm, n, m, rfl, Dk, hcs, m6, hT, q⟩ := h
    refine ⟨_, pss_cons (ps_asg (pe_tup (pa_cons (pe_call GP hr (by rfl) gP kP bP .nil pass0 (pa_cons (pv 0) (pa_cons (pe_lst (pa_cons pe_int (pa_cons pe_int (pa_cons pe_int (pa_cons pe_int (pa_cons pe_int pa_nil)))))) pa_nil)))
          (pa_cons (pe_ifExp (pt_cmpR op_eq (pe_call GD hr (by rfl) gD kD bD .nil pass0 (pa_cons (pv 0) (pa_cons pe_int pa_nil))) pe_int (nomark _)) (pe_call GD hr (by rfl) gD kD bD .nil pass0 (pa_cons (pv 0) (pa_cons pe_int pa_nil))) (pe_call GD hr (by rfl) gD kD bD .nil pass0 (pa_cons (pv 0) (pa_cons pe_int pa_nil)))) pa_nil)))
          (pg_tup (by rfl) (pgs_cons (pg_name (i := 2) scLRules.nd rfl (.inr rfl)) (pgs_cons (pg_name (i := 3) scLRules.nd rfl (.inl rfl)) pgs_nil)))) <|
      pss_cons (ps_setLc (i := 4) (own := [("_law_turn", 5)]) (g := gName 5) (tt := tYes) (te := tCall (spLRule Ps) [] E0 (tCons (tVar 0) (tCons (tVar 1) (tCons (tVar 2) tNil)))) rfl scLRules.nd rfl rfl (by rfl) (pi_range1 (by rfl) mr (pa_cons (pv 3) pa_nil))
        (blkOk_by (own := [("_law_turn", 5)]) (N := nLRules) (sc := defScope sLRules) (by decide +kernel)) (fun _ _ _ _ _ => pg_name (i := 5) scLRules.nd rfl (Or.inl rfl))
        (fun _ _ _ _ _ => pts_nil) (fun _ _ _ _ _ => pe_call GR hr (by rfl) gR kR bR .nil pass0 (pa_cons (pv 0) (pa_cons (pv 1) (pa_cons (pv 2) pa_nil))))) <|
      pss_cons (ps_if (PW.pt (pw_and (pt_cmpR op_gt (pv 3) pe_int (nomark _)) (pw_and1 (pt_cmpR op_eq (pe_call GD hr (by rfl) gD kD bD .nil pass0 (pa_cons (pv 0) (pa_cons pe_int pa_nil))) pe_int (nomark _)))))
        (pss_one (ps_asg (pe_ix ix_list (pv 4) (pe_un un_neg pe_int) (fun _ _ => rfl)) (pg_sub (pv 4) pe_int set_list))) pss_nil) <|
      pss_one (ps_ret (pe_callTy call_tuple_of (by rfl) mt (by decide +kernel) (pa_cons (pv 4) pa_nil))), ?_⟩
    have hix : ∀ p, H p = none → p ≠ d ∧ p ≠ c := fun p np => ⟨fun z => by { rw [z, Dk.dk] at np; cases np }, fun z => by { rw [z, Dk.cl] at np; cases np }⟩
    refine ⟨_, rfl, by show 5 ≤ sizeLine; decide, fun p np => ?_⟩
    have g0 := Gr.new (o := .lst [V.int 1, .int 2, .int 2, .int 3, .int 5]) hT np
    have D0 := g0.deck Dk
    refine ⟨d, c, p, cs, mm, n, _, rfl, D0, hcs, upd_same, (hix p np).1, (hix p np).2, by decide, by decide, fun x n1 cs1 H1 hx D1 hcs1 s1 => ?_⟩
    obtain ⟨most, rfl, ho⟩ : ∃ most : Int, x = .int most ∧ (0 ≤ most ∧ most ≤ 5) := by
      simp only [List.mem_cons, List.not_mem_nil, or_false] at hx
      rcases hx with rfl | rfl | rfl | rfl | rfl <;> exact ⟨_, rfl, by decide, by decide⟩
    have g1 := (GrD.of (d := d) (c := c) g0).trans (GrD.draw g0.t2 D0 s1)
    refine ⟨_, rfl, d, c, cs1, mm, n1, 3, rfl, D1, hcs1, by decide, by decide, fun r1 n2 cs2 H2 q0 q1 D2 hcs2 s2 => ?_⟩
    have g2 := g1.trans (GrD.draw g1.t2 D1 s2)
    refine ⟨rfl, _, rfl, ?_⟩
    -- the number of rules
    refine if_call (fun many H3 => ∃ (cs3 : List Int) (n3 : Int), 0 ≤ many ∧ many < 9 ∧ GrD Ps d c H H3 ∧ DeckAt H3 d c cs3 mm n3 ∧ cs3.length ≤ 63) (fun Q' hQ' => ?_) (fun Q' hQ' => ?_) ?_
    · exact ⟨_, rfl, d, c, cs2, mm, n2, 9, rfl, D2, hcs2, by decide, by decide, fun many n3 cs3 H3 u0 u1 D3 hcs3 s3 => hQ' many H3 ⟨cs3, n3, u0, u1, g2.trans (GrD.draw g2.t2 D2 s3), D3, hcs3⟩⟩
    · exact ⟨_, rfl, d, c, cs2, mm, n2, 5, rfl, D2, hcs2, by decide, by decide, fun many n3 cs3 H3 u0 u1 D3 hcs3 s3 => hQ' many H3 ⟨cs3, n3, u0, by omega, g2.trans (GrD.draw g2.t2 D2 s3), D3, hcs3⟩⟩
    rintro many H3 ⟨cs3, n3, u0, u1, g3, D3, hcs3⟩
    refine ⟨by show 2 ≤ sizeLine; decide, fun t nt => ?_⟩
    have gt := Gr.new (o := .tup [V.int most, V.int many]) g3.t2 nt
    have g4 := g3.trans (GrD.of gt)
    have D4 := gt.deck D3
    refine ⟨t, _, rfl, .inl (.inl upd_same), rfl, _, _, rfl, _, _, rfl, rfl, ?_⟩
    -- the rules
    refine ⟨_, rfl, many, rfl, by omega, by omega, fun D nD => ?_⟩
    have gD := Gr.new (o := .lst []) gt.t2 nD
    have nD0 := g4.free D4 nD
    have Dc : D ≠ c := fun z => by
      rw [z, D4.cl] at nD
      cases nD
    refine lc_it walk_range (fun i H' => ∃ (cs' : List Int) (n' : Int) (xs : List V) (rs : List Rule), GrD Ps d c H H' ∧ DeckAt H' d c cs' mm n' ∧ cs'.length ≤ 63 ∧ H' D = some (.lst xs) ∧ Paired (RuleAt H') rs xs ∧ xs.length = i ∧ ∀ r ∈ rs, GoodRule m r)
      ⟨cs3, n3, [], [], g4.trans (GrD.of gD), gD.deck D4, hcs3, upd_same, .nil, rfl, fun r hr => by simp at hr⟩ (fun i H' _ z => trivial) ?_ ?_
    · rintro i x H' H2 hi ⟨cs', n', xs, rs, g, DD, h63, eD, pr, xl, good⟩ ⟨rfl, rfl⟩
      refine ⟨rfl, ?_⟩
      refine ⟨_, rfl, _, rfl, _, rfl, d, c, cs', mm, n', m, most, rfl, DD, h63, m6, ho, g.t2, fun y r cs4 n4 H4 gr D5 h5 ry gy => ?_⟩
      have eD4 := gr.lst DD Dc eD
      have ga := g.trans gr
      refine ⟨xs, eD4, ?_, cs4, n4, xs ++ [y], rs ++ [r], ga.set nD0 eD4, ⟨?_, ?_⟩, h5, upd_same, ?_, by rw [List.length_append, xl]; rfl, ?_⟩
      · exact small1000 (by omega)
      · rw [upd_ne (fun z => by rw [← z, D5.dk] at eD4; cases eD4)]
        exact D5.dk
      · rw [upd_ne (Ne.symm Dc)]
        exact D5.cl
      · exact paired_snoc (Paired.mapP pr fun _ _ q => rule_upd eD4 (gr.rule DD q)) (rule_upd eD4 ry)
      · intro r' mr
        rcases List.mem_append.mp mr with mr | mr
        · exact good r' mr
        · rw [List.mem_singleton.mp mr]
          exact gy
    · rintro H5 ⟨cs5, n5, xs, rs, g5, D5, h5, eD5, pr, xl, good⟩
      have x9 : xs.length ≤ 8 := by omega
      -- from here on: some list of good rules
      have fin : ∀ (cs6 : List Int) (n6 : Int) (xs : List V) (rs : List Rule) (H6 : Hp), GrD Ps d c H H6 → DeckAt H6 d c cs6 mm n6 → cs6.length ≤ 63 → H6 D = some (.lst xs) → Paired (RuleAt H6) rs xs → xs.length ≤ 8 → (∀ r ∈ rs, GoodRule m r) →
          ∀ u, H6 u = none → Q (.ref u) (upd H6 u (.tup xs)) := fun cs6 n6 xs rs H6 g D6 h6 eD6 pr xl good u nu => by
        have gu := Gr.new (o := .tup xs) g.t2 nu
        exact q u rs cs6 n6 _ (g.trans (GrD.of gu)) (gu.deck D6) h6 ⟨xs, upd_same, Paired.mapP pr fun _ _ q => gu.rule q⟩ ⟨good, by rw [paired_len pr]; exact xl⟩
      have last : ∀ (cs6 : List Int) (n6 : Int) (xs : List V) (rs : List Rule) (H6 : Hp), GrD Ps d c H H6 → DeckAt H6 d c cs6 mm n6 → cs6.length ≤ 63 → H6 D = some (.lst xs) → Paired (RuleAt H6) rs xs → xs.length ≤ 8 → (∀ r ∈ rs, GoodRule m r) →
          ∃ p ys, [V.ref D] = [V.ref p] ∧ ((SqL K H6 p ys ∧ ∀ l, H6 l = none → Q (.ref l) (upd H6 l (.tup ys))) ∨ (SqT K H6 p ys ∧ Q (.ref p) H6)) := fun cs6 n6 xs rs H6 g D6 h6 eD6 pr xl good =>
        ⟨D, xs, rfl, .inl ⟨.inl (.inl eD6), fin cs6 n6 xs rs H6 g D6 h6 eD6 pr xl good⟩⟩
      refine ⟨_, rfl, _, _, rfl, rfl, _, rfl, ?_⟩
      by_cases c1 : 1 < many
      · refine ifT (decide_eq_true c1) ?_
        refine ⟨_, rfl, d, c, cs5, mm, n5, 5, rfl, D5, h5, by decide, by decide, fun r n6 cs6 H6 v0 v1 D6 h6 s6 => ?_⟩
        have g6 := GrD.draw g5.t2 D5 s6
        have eD6 := g6.lst D5 Dc eD5
        have pr6 := Paired.mapP pr fun _ _ q => g6.rule D5 q
        have ga := g5.trans g6
        refine ⟨rfl, _, rfl, ite2 (fun _ => ?_) (fun _ => ?_)⟩
        · have p0 : 0 < xs.length := by omega
          have p1 : 0 < rs.length := by rw [paired_len pr]; omega
          have lx : xs.length - 1 < xs.length := by omega
          have lr : xs.length - 1 < rs.length := by rw [paired_len pr]; omega
          refine ⟨_, rfl, _, rfl, D, xs, _, xs[xs.length - 1], rfl, rfl, .inl (.inl eD6), atI_m1 p0, ?_⟩
          refine ⟨_, rfl, D, xs, 0, 0, rfl, rfl, eD6, ixN0 p0, ?_⟩
          have D7 : DeckAt (upd H6 D (.lst (xs.set 0 xs[xs.length - 1]))) d c cs6 mm n6 := ⟨by rw [upd_ne (fun z => by rw [← z, D6.dk] at eD6; cases eD6)]; exact D6.dk, by rw [upd_ne (Ne.symm Dc)]; exact D6.cl⟩
          have pl : RuleAt H6 rs[xs.length - 1] xs[xs.length - 1] := paired_at pr6 (List.getElem?_eq_getElem lr) (List.getElem?_eq_getElem lx)
          refine ⟨_, rfl, last cs6 n6 (xs.set 0 xs[xs.length - 1]) (rs.set 0 rs[xs.length - 1]) _ (ga.set nD0 eD6) D7 h6 upd_same (Paired.mapP (paired_put 0 pr6 pl) fun _ _ q => rule_upd eD6 q) (by rw [List.length_set]; exact x9) fun r mr => ?_⟩
          rcases List.mem_or_eq_of_mem_set mr with mr | rfl
          · exact good r mr
          · exact good _ (List.getElem_mem lr)
        · exact ⟨_, rfl, last cs6 n6 xs rs H6 ga D6 h6 eD6 pr6 x9 good⟩
      · refine ifF (decide_eq_false c1) ?_
        refine iteF ?_
        exact ⟨_, rfl, last cs5 n5 xs rs H5 g5 D5 h5 eD5 pr x9 good⟩
end
end EX

-- L6
set_option Elab.async false
set_option linter.all false
/-! set(xs) of a list of ints: what is in it, so that it can be put in order -/
namespace EX
open PySem PySem.Spec PyProof.Rows L2
/-- an empty set's object, as the type makes it -/
abbrev eset (w : World) : Obj := { cls := .type "set", dict := none, data := .set #[] 0 (.fresh 0 0 (!w.params.followText "set-order")) }
section
variable {P : Program} {w : World} {A : Around} {E : Value → Shared → Prop} {s : Shared}
/-- the ints of a list, one by one -/
theorem ints_each {items : Array Value} {ns : List Int} (hit : IntsAre items.toList ns) : items.size = ns.length ∧ ∀ (i : Nat) (v : Value), items[i]? = some v → ∃ k t, ns[i]? = some k ∧ v = .int k t := by
  have hs : items.size = ns.length := by
    have q := IntsAre.length hit
    rwa [Array.length_toList] at q
  refine ⟨hs, fun i v hv => ?_⟩
  have hi : i < ns.length := hs ▸ (Array.getElem?_eq_some_iff.mp hv).1
  obtain ⟨t, e⟩ := IntsAre.int_at hit i v (by rw [Array.getElem?_toList]; exact hv)
  have g := List.getElem?_eq_getElem hi
  exact ⟨_, t, g, by rw [e, List.getD_eq_getElem?_getD, g] <;> rfl⟩
set_option maxRecDepth 100000 in
set_option maxHeartbeats 3200000 in
/-- the filling of the new set -/
theorem init_lst {l : Addr} {items : Array Value} {ns : List Int} (hh : A.handled = none) (hl : s.heap.IsList l items) (hit : IntsAre items.toList ns) (hb : ns.length + 1 < scanBound) {R : Result → Shared → Prop}
    (h : ∀ (h' : Heap) (tk c : Nat), SetR w h' s.heap.objs.size (fun j => decide (j ∈ ns)) c → c ≤ ns.length → (∀ b o, s.heap.get? b = some o → h'.get? b = some o) → R (.ok (.ret .none)) { s with heap := h', toks := tk }) :
    codeAny (model P w) A (.call (.builtin "set.__init__") ⟨[.ref s.heap.objs.size, .ref l], []⟩) R { s with heap := s.heap.push (eset w) } := by
  have hS : (s.heap.push (eset w)).get? s.heap.objs.size = some (eset w) := Heap.get?_push_size _ rfl
  have hT : Shared.TypeIs { s with heap := s.heap.push (eset w) } (.ref s.heap.objs.size) "set" := ⟨_, hS, rfl⟩
  obtain ⟨hsz, each⟩ := ints_each hit
  obtain ⟨ol, hol, hcl, nl, hdl⟩ := hl
  obtain ⟨cls, dict, data, slots⟩ := ol
  simp only at hcl hdl
  subst hcl; subst hdl
  have hle : l < s.heap.objs.size := Heap.lt_size hol
  have hl' : (s.heap.push (eset w)).get? l = some { cls := .type "list", dict := dict, data := .seq items nl, slots := slots } := Heap.get?_push_of_some _ hol
  have L1 : (s.heap.push (eset w)).IsList l items := ⟨_, hl', rfl, nl, rfl⟩
  have q1 := F.sub_list_set
  have q2 := F.sub_list_frozenset
  have q3 : (Value.type "list" == Value.type "dict") = false := by decide
  have sz : (s.heap.push (eset w)).objs.size = s.heap.objs.size + 1 := Heap.size_push ..
  refine codeAny_call_builtin F.called_set.init.plain F.entry_set_init (check_set_init_1 hT ?_)
  unfold Builtin.«set.__init__» noKeywords Builtin.Frozenset.updateFrom
  generalize hPI : pyIter = PI
  wp_walk
  subst hPI
  refine wpAny_pyIter_list L1 ?_
  refine wpAny_bind (wpAny_runValue ?_)
  have hn : s.heap.objs.size ∉ [(s.heap.push (eset w)).objs.size, l] := by
    rw [sz]
    intro z
    rcases List.mem_cons.mp z with z | z
    · exact absurd z (Nat.ne_of_lt (Nat.lt_succ_self _))
    · exact absurd (List.mem_singleton.mp z) (Nat.ne_of_gt hle)
  refine set_update_ints ((Walks.list (by simp [hh]) _ l (by rw [sz]; exact Nat.ne_of_lt (Nat.lt_succ_of_lt hle)) items).toS) s.heap.objs.size hn ns hsz hb each (items.size - 0) 0 _ (by omega) (Nat.zero_le _)
    ⟨⟨_, Heap.get?_push_size _ rfl, rfl, rfl⟩, L1.push _⟩ ⟨0, Nat.le_refl 0, setR_new_at (Heap.get?_push_of_some _ hS)⟩ fun s' c hm hc' hS' => ?_
  obtain ⟨h', g, d, tk, os⟩ := s'
  have e1 : g = s.gens := hm.gens
  have e2 : d = s.drawn := hm.drawn
  have e3 : os = s.os := hm.os
  subst e1; subst e2; subst e3
  show wpAny _ _ _ _ _ _
  refine wpAny_pure ?_
  show wpAny _ _ (ret Value.none) _ _ _
  refine wpAny_pure (h h' tk c hS' (by rw [← hsz]; exact hc') fun b o e => ?_)
  have hb0 : b < s.heap.objs.size := Heap.lt_size e
  refine hm.heap b o (fun z => ?_) (Heap.get?_push_of_some _ (Heap.get?_push_of_some _ e))
  simp only [List.mem_cons, List.not_mem_nil, or_false] at z
  rw [sz] at z
  rcases z with z | z
  · exact Nat.ne_of_lt hb0 z
  · exact Nat.ne_of_lt (Nat.lt_succ_of_lt hb0) z
set_option maxRecDepth 100000 in
set_option maxHeartbeats 3200000 in
/-- set(xs) -/
theorem call_set_lst {l : Addr} {items : Array Value} {ns : List Int} {Q : Value → Shared → Prop} (hh : A.handled = none) (hl : s.heap.IsList l items) (hit : IntsAre items.toList ns) (hb : ns.length + 1 < scanBound)
    (h : ∀ (h' : Heap) (tk c : Nat), SetR w h' s.heap.objs.size (fun j => decide (j ∈ ns)) c → c ≤ ns.length → (∀ b o, s.heap.get? b = some o → h'.get? b = some o) → Q (.ref s.heap.objs.size) { s with heap := h', toks := tk }) :
    wpAny (model P w) A (call (.type "set") [.ref l]) Q E s := by
  obtain ⟨c0, tl, hmro⟩ := F.called_set.mro
  have hmade := F.called_set.made
  have hsub := F.called_set.sub
  have h1 := F.called_set.notType
  have h2 := F.called_set.canCreate
  have hct := F.typeCall_set_1 (.ref l)
  refine wpAny_call (codeAny_of_tree (wpAny_pure ⟨Code.quiet_builtin _ (by decide +kernel), codeAny_builtin F.entry_type_call ?_⟩))
  rw [Around.under_plain (weight_type_call_type "set" [.ref l] []) rfl]
  repeat (any_goals (first | assumption | wp_step))
  refine codeAny_mono (code_set_led1 (.ref l) (E := E) (Q₁ := fun obj s₁ => obj = .ref s.heap.objs.size ∧ s₁ = { s with heap := s.heap.push (eset w) }) ⟨rfl, rfl⟩) fun r s₁ hr => ?_
  rcases r with (e | fl)
  · exact hr
  · cases fl with
    | ret obj =>
      obtain ⟨rfl, rfl⟩ := hr
      have hT : Shared.TypeIs { s with heap := s.heap.push (eset w) } (.ref s.heap.objs.size) "set" := ⟨_, Heap.get?_push_size _ rfl, rfl⟩
      have hli := F.called_set.init.lookup
      have hbi := F.called_set.init.bind (.ref s.heap.objs.size)
      repeat (any_goals (first | assumption | wp_step))
      refine init_lst (by simp [hh]) hl hit hb fun h' tk c hS hc k => ?_
      repeat (any_goals (first | assumption | wp_step))
      exact h h' tk c hS hc k
    | _ => exact hr.elim
end
section
variable {X : Cx}
/-- set(xs), xs a list of ints -/
def rSetOfL (K : PySem.W.Frag) (w : World) : List V → Hp → VK → Prop := fun vs H Q => ∃ (a : Addr) (ns : List Int), vs = [.ref a] ∧ SqL K H a (ns.map V.int) ∧ ns.length < 1000 ∧
  ∀ (p : Addr) (c : Nat), H p = none → c ≤ ns.length → Q (.ref p) (upd H p (SetO w p (fun j => decide (j ∈ ns)) c))
theorem cr_setL (hc : X.calm = true) : CallR X (.type "set") (rSetOfL X.K X.w) := by
  intro pins s σ H vs us Q I r h
  obtain ⟨a, ns, rfl, hq, hl, q⟩ := h
  rw [Vals.ref1 r]
  obtain ⟨its, rv, pl, hz⟩ := I.list hq
  refine call_set_lst (I.ok.hd hc) pl.isList (by simpa using rv.ints) (by unfold scanBound; omega) fun h' tk c R hcn k => ?_
  have hn : H s.heap.objs.size = none := I.hok.fresh (Nat.le_refl _)
  exact ⟨.ref s.heap.objs.size, upd H s.heap.objs.size (SetO X.w s.heap.objs.size (fun j => decide (j ∈ ns)) c), I.call (ch := []) (Un.laid k (Nat.le_refl _) hn) (I.hok.laid k (Nat.le_refl _) (setO_new R)) I.bare (fun _ z => nomatch z), rfl, q _ c hn hcn⟩
end
end EX

-- L7
set_option Elab.async false
set_option linter.all false
set_option maxRecDepth 100000
set_option maxHeartbeats 4000000
/-! the law's own closure -/
namespace EX
open PySem PySem.Spec PyProof.Rows L2
/-- what the rounds have found -/
structure FO (rs : List Rule) (l : List Int) (m : Nat) (d : List Int) : Prop where
  keep : ∀ x ∈ l, x ∈ d
  sound : ∀ e, (∀ x ∈ l, x ∈ e) → Shut rs e → ∀ x ∈ d, x ∈ e
  nd : d.Nodup
  within : ∀ x ∈ d, 0 ≤ x ∧ x < (m : Int)
theorem nodup_len {d : List Int} {m : Nat} (nd : d.Nodup) (w : ∀ x ∈ d, 0 ≤ x ∧ x < (m : Int)) : d.length ≤ m := by
  have pm : (d.mergeSort fun a b => decide (a ≤ b)).Perm d := List.mergeSort_perm d _
  have pw : (d.mergeSort fun a b => decide (a ≤ b)).Pairwise (· ≤ ·) := by
    have z := List.pairwise_mergeSort (le := fun a b : Int => decide (a ≤ b)) (fun a b c h1 h2 => by simp at h1 h2 ⊢; omega) (fun a b => by simp; omega) d
    exact z.imp fun {a b} h => by simpa using h
  have sp := sorted_pw pm pw nd
  have q := pw_len (lo := 0) (n := m) sp fun x mx => w x (pm.mem_iff.mp mx)
  have pl := pm.length_eq
  omega
theorem FO.start {rs : List Rule} {l : List Int} {m : Nat} (L : LotOf m l) : FO rs l m l := ⟨fun _ h => h, fun e h _ => h, pw_nodup L.1, L.2⟩
theorem FO.snoc {rs : List Rule} {l d : List Int} {m : Nat} {r : Rule} (h : FO rs l m d) (mr : r ∈ rs) (hf : 0 ≤ r.2 ∧ r.2 < (m : Int)) (out : r.2 ∉ d) (has : ∀ x ∈ r.1, x ∈ d) : FO rs l m (d ++ [r.2]) := by
  refine ⟨fun x mx => List.mem_append_left _ (h.keep x mx), fun e h1 h2 x mx => ?_, List.nodup_append.mpr ⟨h.nd, by simp, fun a ma b mb => ?_⟩, fun x mx => ?_⟩
  · rcases List.mem_append.mp mx with mx | mx
    · exact h.sound e h1 h2 x mx
    · rw [List.mem_singleton.mp mx]
      exact h2 r mr fun y my => h.sound e h1 h2 y (has y my)
  · rw [List.mem_singleton.mp mb]
    exact fun z => out (z ▸ ma)
  · rcases List.mem_append.mp mx with mx | mx
    · exact h.within x mx
    · rw [List.mem_singleton.mp mx]
      exact hf
theorem FO.full {rs : List Rule} {l d : List Int} {m : Nat} (h : FO rs l m d) (hf : ∀ r ∈ rs, 0 ≤ r.2 ∧ r.2 < (m : Int)) (hl : m ≤ d.length) : Shut rs d := by
  intro r mr has
  by_cases c : r.2 ∈ d
  · exact c
  · have z := h.snoc mr (hf r mr) c has
    have q := nodup_len z.nd z.within
    rw [List.length_append, List.length_singleton] at q
    omega
theorem FO.clo {rs : List Rule} {l d ns : List Int} {m : Nat} (h : FO rs l m d) (sh : Shut rs d) (pw : ns.Pairwise (· < ·)) (mem : ∀ k, k ∈ ns ↔ k ∈ d) : IsClo rs l ns :=
  ⟨pw, fun x mx => (mem x).mpr (h.keep x mx), fun r mr has => (mem _).mpr (sh r mr fun x mx => (mem x).mp (has x mx)), fun e h1 h2 x mx => h.sound e h1 h2 x ((mem x).mp mx)⟩
section
variable {P : Program} {w : World} {K : PySem.W.Frag} {mg : Str → Option Value} {base : Heap}
/-- [it for it in ifs if it not in found] == [], found a list -/
theorem t_hasL {Ps : List Addr} {σ : L2.St} {H : Hp} {Q : Bool → Hp → Prop} {i j n : Nat} {a b : Addr} {la lb : List Int} (hb : σ[i]? = some (some (.ref b))) (ha : ∀ x, ((wipe σ [j]).set j (some x))[n]? = some (some (.ref a))) (hj0 : j < σ.length)
    (hA : H a = some (.lst (la.map V.int))) (hB : Ints H b lb) (few : lb.length < 1000) (hT : Tb Ps H)
    (q : ∀ H', Gr Ps H H' → Q (hasB la lb) H') :
    tTest (tOp (rEqD K) (tLc (iTup K (tVar i)) (gName j) (tTest (tOp (rIn K true) (tVar j) (tVar n))) (tVar j) [j]) (tLst tNil)) σ H Q := by
  have hj : ∀ x : V, ((wipe σ [j]).set j (some x))[j]? = some (some x) := fun x => by
    show ((σ.set j none).set j (some x))[j]? = _
    rw [List.getElem?_set_self (by rw [List.length_set]; exact hj0)]
  have hw : ∀ x : Option V, wipe ((wipe σ [j]).set j x) [j] = wipe σ [j] := fun x => by
    show ((σ.set j none).set j x).set j none = σ.set j none
    rw [List.set_set, List.set_set]
  refine ⟨_, hb, b, rfl, ⟨_, .inl (.inl hB)⟩, fun D nD => ?_⟩
  have gD := Gr.new (o := .lst []) hT nD
  refine lc_it (walk_tup (xs := lb.map V.int)) (fun i H' => Gr Ps H H' ∧ H' D = some (.lst (((lb.take i).filter fun x => decide (x ∉ la)).map V.int))) ⟨gD, upd_same⟩ (fun i H' _ z => .inl (.inl (z.1.tup hB))) ?_ ?_
  · rintro i x H' H2 hi ⟨g, eD⟩ ⟨rfl, ex⟩
    obtain ⟨z, hz, rfl⟩ := ints_get ex
    have tk : (lb.take (i + 1)).filter (fun x => decide (x ∉ la)) = (lb.take i).filter (fun x => decide (x ∉ la)) ++ [z].filter (fun x => decide (x ∉ la)) := by rw [take_snoc hz, List.filter_append]
    refine ⟨hw _, ?_⟩
    refine ⟨_, hj _, _, ha _, a, _, rfl, .inl (.inl (.inl (g.lst hA))), rfl, flat_ints _, _, rfl, ?_⟩
    rw [inV_ints]
    by_cases m : z ∈ la
    · refine ifF (show (!decide (z ∈ la)) = false by rw [decide_eq_true m]; rfl) ⟨g, ?_⟩
      rw [tk, List.filter_cons_of_neg (by simp [m]), List.filter_nil, List.append_nil]
      exact eD
    · refine ifT (show (!decide (z ∈ la)) = true by rw [decide_eq_false m]; rfl) ⟨_, hj _, _, eD, ?_, g.set nD eD, ?_⟩
      · have q1 := List.length_filter_le (fun x => decide (x ∉ la)) (lb.take i)
        rw [List.length_take] at q1
        rw [List.length_map]
        exact small1000 (by omega)
      · rw [upd_same, tk, List.filter_cons_of_pos (by simp [m]), List.filter_nil, List.map_append]
        rfl
  · rintro H' ⟨g, eD⟩
    rw [List.length_map, List.take_length] at eD
    refine ⟨by show 0 ≤ sizeLine; exact Nat.zero_le _, fun e ne => ?_⟩
    have ge := Gr.new (o := .lst []) g.t2 ne
    refine ⟨.list ((lb.filter fun x => decide (x ∉ la)).map .int), .list [], .lst (.inl (.inl (ge.lst eD))) (dp_ints _), .lst (.inl (.inl upd_same)) .nil, shaped_ints _, shaped_nil, ?_⟩
    rw [eqv_nil, filter_has]
    exact ⟨_, rfl, q _ (g.trans ge)⟩
abbrev sLClo : Stmt := top 33
def nLClo : List Str := ["_law_rules_here", "_law_lot_here", "_law_found", "_law_turn", "_law_ifs", "_law_fact", "_law_it"]
theorem scLClo : FnScope nLClo ["_law_rules_here", "_law_lot_here"] (defScope sLClo) := ⟨rfl, rfl, rfl, by decide +kernel, rfl, by decide +kernel, by decide +kernel⟩
def spLClo (Ps : List Addr) : Sp := fun vs H Q _ => ∃ (m : Nat) (a b : Addr) (rs : List Rule) (l : List Int), vs = [.ref a, .ref b] ∧ RulesAt H a rs ∧ Ints H b l ∧ GoodRules m rs ∧ LotOf m l ∧ m ≤ 6 ∧ Tb Ps H ∧
  ∀ (p : Addr) (c : List Int) (H' : Hp), Gr Ps H H' → H p = none → Ints H' p c → LotOf m c → IsClo rs l c → Q (.ref p) H'
theorem ok_lClo {f : Addr} {fd : FuncData} {k : Nat} {Ps : List Addr} (F : Fun K "_law_closure" "_law_closure" sLClo f fd)
    (mt : mg "tuple" = none) (ml : mg "list" = none) (mr : mg "range" = none) (ms : mg "sorted" = none) (me : mg "set" = none) : FnOk P w K mg base CX0 (k + 1) f fd ["_law_rules_here", "_law_lot_here"] (spLClo Ps) := by
  refine F.ok scLClo (fun vs H Q E h => ?_) (fun cdv A outer s H vs Q E hr h => ?_)
  · obtain ⟨m, a, b, rs, l, rfl, _⟩ := h
    rfl
  · obtain ⟨m, a, b, rs, l, rfl, hA, hB, good, L, m6, hT, q⟩ := h
    refine ⟨_, pss_cons (ps_set (i := 2) scLClo.nd rfl (.inr rfl) (pe_callTy call_list_of (by rfl) ml (by decide +kernel) (pa_cons (pv 1) pa_nil))) <|
      pss_cons (ps_for PassesOwn.never rfl (pi_range1 (by rfl) mr (pa_cons pe_int pa_nil)) (pg_name (i := 3) scLClo.nd rfl (.inl rfl))
        (pss_one (ps_for PassesOwn.never rfl (pi_tup (pv 0)) (pg_tup (by rfl) (pgs_cons (pg_name (i := 4) scLClo.nd rfl (.inl rfl)) (pgs_cons (pg_name (i := 5) scLClo.nd rfl (.inl rfl)) pgs_nil)))
          (pss_one (ps_if (PW.pt (pw_and (pt_cmpR op_notIn_seq (pv 5) (pv 2) (by rfl)) (pw_and1 (pt_cmpR (op_eqD hr.units) (pe_lc (own := [("_law_it", 6)]) (g := gName 6) (tt := tTest (tOp (rIn K true) (tVar 6) (tVar 2))) (te := tVar 6) rfl scLClo.nd (pi_tup (pv 4))
              (blkOk_by (own := [("_law_it", 6)]) (N := nLClo) (sc := defScope sLClo) (by decide +kernel)) (fun _ _ _ _ _ => pg_name (i := 6) scLClo.nd rfl (Or.inl rfl)) (fun _ _ _ _ _ => pts_one (pt_cmpR op_notIn_seq (pv 6) (pv 2) (by rfl))) (fun _ _ _ _ _ => pv 6)) (pe_lst pa_nil) (nomark _)))))
            (pss_one (ps_expr (pe_bm PySem.F.plainAttrs_list PySem.F.slot_list_append PySem.F.type_list_append mt_append (pv 2) (pa_cons (pv 5) pa_nil)))) pss_nil))))) <|
      pss_one (ps_ret (pe_callTy call_tuple_of (by rfl) mt (by decide +kernel) (pa_cons (pe_callB (cr_sortedSet rfl) (by rfl) ms (by decide +kernel) (pa_cons (pe_callTy (cr_setL rfl) (by rfl) me (by decide +kernel) (pa_cons (pv 2) pa_nil)) pa_nil)) pa_nil))), ?_⟩
    obtain ⟨zs, hA1, hA2⟩ := hA
    have zl : zs.length = rs.length := (Paired.length hA2).symm
    have ll : l.length ≤ m := nodup_len (pw_nodup L.1) L.2
    refine ⟨_, rfl, b, _, rfl, .inr (.inl (.inl hB)), fun fo nfo => ?_⟩
    have g0 := Gr.new (o := .lst (l.map V.int)) hT nfo
    refine ⟨6, rfl, by decide, by decide, ?_⟩
    refine for_it walk_range (fun i σ H' => ∃ (d : List Int) (v3 v4 v5 : Option V), σ = [some (.ref a), some (.ref b), some (.ref fo), v3, v4, v5, none] ∧ Gr Ps H H' ∧ H' fo = some (.lst (d.map V.int)) ∧ FO rs l m d ∧ (Shut rs d ∨ l.length + i ≤ d.length))
      ⟨l, none, none, none, rfl, g0, upd_same, FO.start L, .inr (by omega)⟩ (fun i σ H' _ z => trivial) ?_ ?_
    · rintro i x σ H' H'' hi ⟨d0, v3, v4, v5, rfl, g, eD, fo0, st⟩ ⟨rfl, rfl⟩
      refine ⟨_, rfl, a, rfl, ⟨_, .inl (.inl (g.tup hA1))⟩, ?_⟩
      refine for_it (walk_tup (xs := zs)) (fun j σ H' => ∃ (d : List Int) (v3 v4 v5 : Option V), σ = [some (.ref a), some (.ref b), some (.ref fo), v3, v4, v5, none] ∧ Gr Ps H H' ∧ H' fo = some (.lst (d.map V.int)) ∧ FO rs l m d ∧ (Shut rs d0 → d = d0) ∧ ((d = d0 ∧ ∀ r ∈ rs.take j, (∀ x ∈ r.1, x ∈ d0) → r.2 ∈ d0) ∨ d0.length + 1 ≤ d.length))
        ⟨d0, _, v4, v5, rfl, g, eD, fo0, fun _ => rfl, .inl ⟨rfl, fun r mr => by simp at mr⟩⟩ (fun j σ H' _ z => ?_) ?_ ?_
      · obtain ⟨_, _, _, _, _, e, _⟩ := z
        exact .inl (.inl (e.tup hA1))
      · rintro j y σ H2 H3 hj ⟨d, w3, w4, w5, rfl, gg, eDD, fo1, same, step⟩ ⟨rfl, ey⟩
        obtain ⟨r, hr2, hx⟩ := paired_get hA2 ey
        have mr : r ∈ rs := List.mem_of_getElem? hr2
        have gr := good.all r mr
        obtain ⟨tr, li, rfl, htr, hI⟩ := gg.rule hx
        have dl : d.length ≤ m := nodup_len fo1.nd fo1.within
        -- the rule does not fire
        have stay : ((∀ x ∈ r.1, x ∈ d) → r.2 ∈ d) → ∀ H4, Gr Ps H H4 → H4 fo = some (.lst (d.map V.int)) → ∃ (d : List Int) (v3 v4 v5 : Option V), [some (.ref a), some (.ref b), some (.ref fo), w3, some (.ref li), some (.int r.2), none] = [some (.ref a), some (.ref b), some (.ref fo), v3, v4, v5, none] ∧ Gr Ps H H4 ∧ H4 fo = some (.lst (d.map V.int)) ∧ FO rs l m d ∧ (Shut rs d0 → d = d0) ∧ ((d = d0 ∧ ∀ r ∈ rs.take (j + 1), (∀ x ∈ r.1, x ∈ d0) → r.2 ∈ d0) ∨ d0.length + 1 ≤ d.length) := by
          intro no H4 g4 e4
          refine ⟨d, _, _, _, rfl, g4, e4, fo1, same, ?_⟩
          rcases step with ⟨rfl, hh⟩ | hh
          · refine .inl ⟨rfl, fun r' mr' => ?_⟩
            rw [take_snoc hr2] at mr'
            rcases List.mem_append.mp mr' with mr' | mr'
            · exact hh r' mr'
            · rw [List.mem_singleton.mp mr']
              exact no
          · exact .inr hh
        refine ⟨tr, _, rfl, .inl (.inl htr), rfl, _, _, rfl, _, _, rfl, rfl, ?_⟩
        refine ⟨_, rfl, _, rfl, fo, _, rfl, .inl (.inl (.inl eDD)), rfl, flat_ints _, _, rfl, ?_⟩
        rw [inV_ints]
        by_cases m1 : r.2 ∈ d
        · refine ifF (show (!decide (r.2 ∈ d)) = false by rw [decide_eq_true m1]; rfl) (ifF rfl ?_)
          exact stay (fun _ => m1) H3 gg eDD
        · refine ifT (show (!decide (r.2 ∈ d)) = true by rw [decide_eq_false m1]; rfl) ?_
          refine t_hasL (i := 4) (j := 6) (n := 2) (Ps := Ps) (a := fo) (b := li) (la := d) (lb := r.1) rfl (fun _ => by rfl) (by show 6 < 7; decide) eDD hI gr.ifs.few gg.t2 fun H4 g5 => ?_
          have e5 := g5.lst eDD
          have g6 := gg.trans g5
          by_cases m2 : hasB d r.1 = true
          · refine ifT m2 ⟨_, rfl, .inl ⟨rfl, _, .inl (.inl e5)⟩, _, rfl, fo, _, _, rfl, rfl, e5, by rw [List.length_map]; exact small1000 (by omega), ?_⟩
            refine ⟨d ++ [r.2], _, _, _, rfl, g6.set nfo e5, by rw [upd_same, List.map_append]; rfl, fo1.snoc mr gr.fact m1 (hasB_iff.mp m2), fun sh => ?_, .inr ?_⟩
            · have e := same sh
              rw [e] at m1 m2
              exact absurd (sh r mr (hasB_iff.mp m2)) m1
            · rw [List.length_append, List.length_singleton]
              rcases step with ⟨rfl, _⟩ | hh <;> omega
          · refine ifF (by simpa using m2) ?_
            exact stay (fun hh => absurd (hasB_iff.mpr hh) m2) H4 g6 e5
      · rintro σ H3 ⟨d, w3, w4, w5, rfl, gg, eDD, fo1, same, step⟩
        rw [zl, List.take_length] at step
        refine ⟨d, w3, w4, w5, rfl, gg, eDD, fo1, ?_⟩
        rcases st with sh | le
        · rw [same sh]
          exact .inl sh
        · rcases step with ⟨rfl, hh⟩ | hh
          · exact .inl hh
          · exact .inr (by omega)
    · rintro σ H1 ⟨d, v3, v4, v5, rfl, g, eD, fo1, st⟩
      have dl : d.length ≤ m := nodup_len fo1.nd fo1.within
      have sh : Shut rs d := by
        rcases st with sh | le
        · exact sh
        · exact fo1.full (fun r mr => (good.all r mr).fact) (by have : ((6 : Int)).toNat = 6 := rfl; omega)
      refine ⟨_, rfl, fo, d, rfl, .inl (.inl eD), by omega, fun p c np hc => ?_⟩
      have g1 := Gr.new (o := SetO w p (fun j => decide (j ∈ d)) c) g.t2 np
      refine ⟨p, _, c, rfl, upd_same, by omega, fun ns u pw mem nl nu => ?_⟩
      have g2 := Gr.new (o := .lst (ns.map V.int)) g1.t2 nu
      refine ⟨u, _, rfl, .inl ⟨.inl (.inl upd_same), fun v nv => ?_⟩⟩
      have g3 := Gr.new (o := .tup (ns.map V.int)) g2.t2 nv
      have me' : ∀ k, k ∈ ns ↔ k ∈ d := fun k => by rw [mem k, decide_eq_true_eq]
      have gall := g.trans (g1.trans (g2.trans g3))
      exact q v ns _ gall ((g.trans (g1.trans g2)).free nv) upd_same ⟨pw, fun x mx => fo1.within x ((me' x).mp mx)⟩ (fo1.clo sh pw me')
end
end EX

-- L8
set_option Elab.async false
set_option linter.all false
set_option maxRecDepth 100000
set_option maxHeartbeats 4000000
/-! defs that ask for repr: they run where no repr is under way -/
namespace EX
open PySem PySem.Spec PyProof.Rows L2
/-- as FnOk, but only where no guard stands -/
structure FnG (P : Program) (w : World) (K : PySem.W.Frag) (mg : Str → Option Value) (base : Heap) (k : Nat) (f : Addr) (fd : FuncData) (ps : List Str) (sp : Sp) : Prop where
  len : ∀ vs H Q E, sp vs H Q E → vs.length = ps.length
  run : ∀ (A : Around) (outer : List Env) (s : Shared) (H : Hp) (args : Args) (us : List Value) (vs : List V) (Q : VK) (E : XK), Room k A → A.guards = some [] → Env0 P w K mg base A outer s H → BindsTo s fd args (ps.zip us) → Vals vs us → sp vs H Q E →
    codeAny (model P w) A (.call (.ref f) args) (CR CX0 outer P w H s Q E) s
section
variable {P : Program} {w : World} {K : PySem.W.Frag} {mg : Str → Option Value} {base : Heap}
theorem guards_deeper {A : Around} {n : Str} {sc : Scope} {l f : Addr} {c : Value} (h : A.guards = some []) : (A.deeper (envOfC n sc l f c)).guards = some [] := by
  simpa [Around.deeper] using h
theorem Fun.okG {x qual : Str} {st : Stmt} {f : Addr} {fd : FuncData} {N ps : List Str} {k : Nat} {sp : Sp} (F : Fun K x qual st f fd) (S : FnScope N ps (defScope st)) (len : ∀ vs H Q E, sp vs H Q E → vs.length = ps.length)
    (hbody : ∀ (cdv : Value) (A : Around) (outer : List Env) (s : Shared) (H : Hp) (vs : List V) (Q : VK) (E : XK), Room k (A.deeper (envOfC qual (defScope st) s.heap.objs.size f cdv)) → (A.deeper (envOfC qual (defScope st) s.heap.objs.size f cdv)).guards = some [] → sp vs H Q E →
      ∃ t, PSs (cxOf CX0 P w K mg base N qual (defScope st) f cdv A outer s H E).nox (defBody st) t ∧ t { nx := fun _ H' => Q .non H', rt := Q } (start N vs) H) : FnG P w K mg base (k + 1) f fd ps sp := by
  obtain ⟨oc, od, kV, doc, pm, an, cdv, ct, osl, rfl, lk, hcd⟩ := F.ex
  refine ⟨len, fun A outer s H args us vs Q E hr hg e0 hb rv h => ?_⟩
  have old : ∀ b o, base.get? b = some o → s.heap.get? b = some o := fun b o e => (e0.bs b o e).1
  have KX : K.In s.heap := e0.mod.kin.keeps old
  have kinds : ∀ y ∈ ps.zip us, (defScope st).names.lookup y.1 = some .local ∨ ((defScope st).names.lookup y.1 = some .cell ∧ ((cellsFrom (s.heap.objs.size + 1) (defScope st).names []).lookup y.1).isSome = true) := fun ⟨n, v⟩ hy => by
    rcases S.par n (List.of_mem_zip hy).1 with q | q
    · exact .inl q
    · exact .inr ⟨q, PySem.W.cellsFrom_some _ _ _ (.inl q)⟩
  refine codeAny_call_function hr.depth (KX _ _ lk) rfl S.co S.gen rfl (PySem.W.codeRec_of KX hcd) (hb _ _ _ _ ?_)
  refine wpAny_newFunctionEnv_cells S.kind kinds fun env ee s1 x => ?_
  subst ee
  refine ⟨(e0.mod.nolimit.keeps old).keeps x.toInCall.keep, codeAny_func ?_⟩
  obtain ⟨t, ht, hq⟩ := hbody cdv A outer s H vs Q E (hr.deeper _) (guards_deeper hg) h
  have I : Inv (cxOf CX0 P w K mg base N qual (defScope st) f cdv A outer s H E) [] (start N vs) H s1 := inv_start S hr.hd e0 (len _ _ _ _ h) rv x
  refine wpAny_mono (ht.nox.run [] s1 (start N vs) H _ I hq) (fun fl s' hs => ?_) fun e s' hs => hs
  cases fl with
  | ret r =>
    obtain ⟨y, σ', H', J, ry, q⟩ := hs
    exact ⟨y, H', J.os, J.bare, J.base, J.hok, ry, q⟩
  | next =>
    obtain ⟨σ', H', J, q⟩ := hs
    exact ⟨.non, H', J.os, J.bare, J.base, J.hok, rfl, q⟩
  | brk =>
    obtain ⟨_, _, _, q⟩ := hs
    exact q.elim
  | cont =>
    obtain ⟨_, _, _, q⟩ := hs
    exact q.elim
end
section
variable {X : Cx} {k : Nat} {f : Addr} {fd : FuncData} {ps : List Str} {sp : Sp} {E : XK} {x : Str} {p pos : Pos} {e : Expr} {es : List Expr} {t : TA}
/-- f(..), where no guard stands -/
theorem pe_guarded (F : FnG X.prog X.w X.K X.mg X.base k f fd ps sp) (hr : Room k X.A) (hgu : X.A.guards = some []) (hg : Gl X x) (hm : X.mg x = some (.ref f)) (hk : PySem.W.keepIn X.K (.ref f) = true) (hb : Binds X.K fd ps []) (hx : Passes CX0 X E)
    (ha : PA X (e :: es) t) (hdb : (x == ("__debug__" : Str)) = false := by decide) (he : starEach (e :: es) X.env = (false, eval e X.env) :: starEach es X.env := by rfl) (hpl : (backTo pos (starEach es X.env)).any (·.1) = false := by rfl) :
    PE X (.Call (.Name x p) (e :: es) [] pos) (tCall sp [] E t) := by
  refine ⟨fun pins s σ H Q I h => ?_⟩
  refine wpAny_Call_Name_kw (ld_glob I hg hm ?_ hdb)
  refine PySem.W.callWith_K (h₀ := X.base) I.ok.mod.kin hk (thn (ha.run pos pins s σ H _ I h) fun us s1 ⟨vs, H1, I1, r, q⟩ => ⟨I1.kIn, ?_⟩) he hpl
  have q : sp (vs ++ []) H1 Q E := q
  rw [List.append_nil] at q
  have hl : (us ++ []).length = ps.length := by
    rw [List.append_nil, ← r.length]
    exact F.len _ _ _ _ q
  have bt := hb s1 us I1.kIn hl
  rw [List.append_nil] at bt
  refine wpAny_call (codeAny_mono (F.run X.A X.stack s1 H1 ⟨us, []⟩ us vs Q E hr hgu I1.env0 bt r q) fun res s' hq => ?_)
  cases res with
  | error z => exact hx pins σ H1 s1 z s' I1 hq
  | ok fl =>
    cases fl with
    | ret u => exact I1.after hq
    | _ => exact False.elim hq
end
end EX

-- L9
set_option Elab.async false
set_option linter.all false
set_option maxRecDepth 100000
set_option maxHeartbeats 4000000
/-! calls by name alone; x not in a tuple of data; repr under no guard -/
namespace EX
open PySem PySem.Spec PyProof.Rows L2
/-- f(k = v, ..), nothing by position -/
def tNamed (m : Nat) (sp : Sp) (gV : List V → List V → List V) (E : XK) (tk : TA) : TE := fun σ H Q => tk σ H fun zs H2 => zs.length = m ∧ sp (gV [] zs) H2 Q E
section
variable {X : Cx} {CX : CXT} {k : Nat} {f : Addr} {fd : FuncData} {ps ks : List Str} {sp : Sp} {E : XK} {x : Str} {p pos : Pos} {kws : List Keyword} {tk : TA} {g : List Value → List Value → List Value} {gV : List V → List V → List V}
theorem pe_named (F : FnOk X.prog X.w X.K X.mg X.base CX k f fd ps sp) (hr : Room k X.A) (hg : Gl X x) (hm : X.mg x = some (.ref f)) (hk : PySem.W.keepIn X.K (.ref f) = true) (hb : KBn X.K fd ps 0 ks g gV) (hx : Passes CX X E)
    (hkw : PK X kws tk) (hall : (backToKw pos (keywordEach kws X.env)).all (·.1.isSome) = true := by rfl) (hks : (backToKw pos (keywordEach kws X.env)).filterMap (·.1) = ks := by rfl)
    (hdb : (x == ("__debug__" : Str)) = false := by decide)
    (hpl : ((backTo pos (starEach [] X.env)).any (·.1) || (backToKw pos (keywordEach kws X.env)).any (·.1.isNone)) = false := by rfl) :
    PE X (.Call (.Name x p) [] kws pos) (tNamed ks.length sp gV E tk) := by
  refine ⟨fun pins s σ H Q I h => ?_⟩
  refine wpAny_Call_Name_kw (ld_glob I hg hm ?_ hdb)
  refine PySem.W.callWith_KW0 (h₀ := X.base) I.ok.mod.kin hk hall (thn (hkw.run pos pins s σ H _ I h) fun ws s1 ⟨zs, H1, I1, rz, l1, q⟩ => ⟨I1.kIn, ?_⟩) hpl
  rw [hks]
  exact run_fnN F hr hb hx I1 .nil rz rfl l1 q
/-- x not in t, t a tuple of data -/
def rNotInT (K : PySem.W.Frag) : R2 := fun x y H Q => ∃ d ds, Dp K H x d ∧ Dp K H y (.tuple ds) ∧ SeqAt.shaped d = true ∧ SeqAt.shaped (.tuple ds) = true ∧ Q (.bl (!ds.any fun z => PyData.eqv z d)) H
theorem op_notInT (hu : X.A.units + 65 < cLine) : OpR X (compareOp .NotIn) (rNotInT X.K) := by
  intro pins s σ H x y v u Q I rx ry h
  obtain ⟨d, ds, hd, he, sd, se, q⟩ := h
  obtain ⟨as, r1⟩ := Dp.reads I d x v hd rx
  obtain ⟨bs, r2⟩ := Dp.reads I (.tuple ds) y u he ry
  refine SeqAt.notIn_tuple_reads r2 r1 ?_ (SeqAt.canLay_of_shaped sd) (room_in_shaped sd hu) ⟨.bl _, H, I, rfl, q⟩
  have := SeqAt.canLay_of_shaped se
  simpa [PyData.canLay0] using this
/-- repr(e), e data, where no guard stands -/
def tRepr (te : TE) : TE := fun σ H Q => te σ H fun x H1 => ∃ (N : Addr → Prop) (d : PyData), DV N H1 x d ∧ d.showable = true ∧ d.shown.length ≤ sizeLine ∧ d.depth ≤ 100 ∧ Q (.str d.shown) H1
theorem pe_repr {e : Expr} {te : TE} (hgu : X.A.guards = some []) (hun : X.A.units + 200 < cLine) (hg : Gl X "repr") (hm : X.mg "repr" = none) (he : PE X e te) (hs : starEach [e] X.env = (false, eval e X.env) :: starEach [] X.env := by rfl) :
    PE X (.Call (.Name "repr" p) [e] [] pos) (tRepr te) := by
  have r := pe_callB (p := p) (pos := pos) call_repr hg hm (by decide +kernel) (pa_cons (pe_wk he) pa_nil hs) (by decide) (by decide) hs (by rfl)
  exact ⟨fun pins s σ H Q I h => r.run pins s σ H Q I ⟨_, h, fun x H1 ⟨N, d, v, h1, h2, h3, q⟩ => ⟨N, x, d, rfl, v, h1, h2, hgu, by omega, q⟩⟩⟩
end
end EX

-- L10
set_option Elab.async false
set_option linter.all false
set_option maxRecDepth 100000
set_option maxHeartbeats 4000000
/-! lots as data: their texts, their ==, their shape -/
namespace EX
open PySem PySem.Spec PyProof.Rows L2
theorem piled_le (B : Nat) : ∀ ts : List Str, (∀ t ∈ ts, t.length ≤ B) → piled ts ≤ ts.length * (B + 2)
  | [], _ => by simp [piled]
  | t :: r, h => by
    have h1 := h t List.mem_cons_self
    have h2 := piled_le B r fun x m => h x (List.mem_cons_of_mem _ m)
    have e : piled (t :: r) = t.length + 2 + piled r := by simp [piled] <;> omega
    rw [e, List.length_cons, Nat.add_mul]
    omega
theorem join_le (ts : List Str) : (Str.join ", " ts).length ≤ piled ts := by
  by_cases h : ts = []
  · subst h
    decide
  · have := join_length_add ts h
    omega
theorem tuple_text_le (ts : List Str) : (tupleText ts).length ≤ piled ts + 3 := by
  have h := join_le ts
  unfold tupleText
  rw [strLen_append, strLen_append]
  have e : ((if ts.length == 1 then ",)" else ")" : String) : Str).length ≤ 2 := by
    split <;> decide
  have e1 : (("(" : String) : Str).length = 1 := rfl
  omega
/-- data whose text is at most B long, nested at most dep deep -/
structure Okd (B dep : Nat) (d : PyData) : Prop where
  sh : d.showable = true
  dp : d.depth ≤ dep
  ln : d.shown.length ≤ B
theorem okd_all {B dep : Nat} : ∀ ds : List PyData, (∀ d ∈ ds, Okd B dep d) → PyData.showableAll ds = true ∧ PyData.depthAll ds ≤ dep ∧ (∀ t ∈ PyData.shownAll ds, t.length ≤ B) ∧ (PyData.shownAll ds).length = ds.length
  | [], _ => by simp [PyData.showableAll, PyData.depthAll, PyData.shownAll]
  | d :: r, h => by
    obtain ⟨h1, h2, h3, h4⟩ := okd_all r fun x m => h x (List.mem_cons_of_mem _ m)
    obtain ⟨k1, k2, k3⟩ := h d List.mem_cons_self
    refine ⟨?_, ?_, fun t m => ?_, ?_⟩
    · simp [PyData.showableAll, k1, h1]
    · simp only [PyData.depthAll]
      omega
    · simp only [PyData.shownAll, List.mem_cons] at m
      rcases m with e | m
      · rw [e]
        exact k3
      · exact h3 t m
    · simp [PyData.shownAll, h4]
theorem okd_tuple {B dep k : Nat} {ds : List PyData} (h : ∀ d ∈ ds, Okd B dep d) (hk : ds.length ≤ k) : Okd (k * (B + 2) + 3) (dep + 1) (.tuple ds) := by
  obtain ⟨h1, h2, h3, h4⟩ := okd_all ds h
  refine ⟨by simp [PyData.showable, h1], by simp only [PyData.depth]; omega, ?_⟩
  simp only [PyData.shown]
  have a := tuple_text_le (PyData.shownAll ds)
  have b := piled_le B _ h3
  rw [h4] at b
  have c := Nat.mul_le_mul_right (B + 2) hk
  omega
/-- a lot as data -/
def dLot (l : List Int) : PyData := .tuple (l.map .int)
theorem okd_fact {x : Int} (h : 0 ≤ x ∧ x < 6) : Okd 1 0 (.int x) := by
  have : x = 0 ∨ x = 1 ∨ x = 2 ∨ x = 3 ∨ x = 4 ∨ x = 5 := by omega
  rcases this with rfl | rfl | rfl | rfl | rfl | rfl <;> exact ⟨by decide, by decide, by decide⟩
theorem okd_lot {m : Int} {l : List Int} (L : LotOf m l) (hm : m ≤ 6) : Okd 21 1 (dLot l) := by
  refine okd_tuple (B := 1) (dep := 0) (k := 6) (fun d md => ?_) ?_
  · obtain ⟨x, mx, rfl⟩ := List.mem_map.mp md
    have := L.2 x mx
    exact okd_fact (by omega)
  · rw [List.length_map]
    have := pw_len L.1 L.2
    omega
theorem dvs_ints {N : Addr → Prop} {H : Hp} : ∀ l : List Int, DVs N H (l.map V.int) (l.map PyData.int)
  | [] => .nil
  | x :: l => .cons (.int x) (dvs_ints l)
theorem dv_lot {H : Hp} {a : Addr} {l : List Int} (h : Ints H a l) : DV (fun _ => True) H (.ref a) (dLot l) := .tup h trivial (dvs_ints l)
theorem dp_lot {K : PySem.W.Frag} {H : Hp} {a : Addr} {l : List Int} (h : Ints H a l) : Dp K H (.ref a) (dLot l) := .tup (.inl (.inl h)) (dp_ints l)
theorem dvs_lots {H : Hp} : ∀ {L : List (List Int)} {xs : List V}, LotsAt H L xs → DVs (fun _ => True) H xs (L.map dLot)
  | _, _, .nil => .nil
  | _, _, .cons ⟨t, e, h⟩ r => by
    subst e
    exact .cons (dv_lot h) (dvs_lots r)
theorem dp_lots {K : PySem.W.Frag} {H : Hp} : ∀ {L : List (List Int)} {xs : List V}, LotsAt H L xs → DpAll K H xs (L.map dLot)
  | _, _, .nil => .nil
  | _, _, .cons ⟨t, e, h⟩ r => by
    subst e
    exact .cons (dp_lot h) (dp_lots r)
theorem eqvAll_ints : ∀ a b : List Int, PyData.eqvAll (a.map PyData.int) (b.map PyData.int) = decide (a = b)
  | [], [] => by simp [PyData.eqvAll]
  | [], y :: b => by simp [PyData.eqvAll]
  | x :: a, [] => by simp [PyData.eqvAll]
  | x :: a, y :: b => by
    have ih := eqvAll_ints a b
    simp only [List.map_cons, PyData.eqvAll, PyData.eqv, ih, List.cons.injEq]
    by_cases h1 : x = y <;> by_cases h2 : a = b <;> simp [h1, h2]
theorem eqv_lot (a b : List Int) : PyData.eqv (dLot a) (dLot b) = decide (a = b) := by
  unfold dLot
  simp only [PyData.eqv]
  exact eqvAll_ints a b
theorem any_lot (c : List Int) : ∀ L : List (List Int), ((L.map dLot).any fun z => PyData.eqv z (dLot c)) = decide (c ∈ L)
  | [] => by simp
  | l :: L => by
    have ih := any_lot c L
    rw [List.map_cons, List.any_cons, ih, eqv_lot]
    by_cases h1 : l = c
    · simp [h1]
    · by_cases h2 : c ∈ L
      · simp [h2]
      · simp [h1, h2, Ne.symm h1]
theorem shaped_lot (l : List Int) : SeqAt.shaped (dLot l) = true := by
  have h := lay_ints l
  have h2 := flat_intsD l
  simp [SeqAt.shaped, dLot, PyData.canLay0, PyData.depth, h, h2]
theorem lay_lots : ∀ L : List (List Int), PyData.canLayAll0 (L.map dLot) = true
  | [] => by simp [PyData.canLayAll0]
  | l :: L => by
    have h := lay_lots L
    have h2 := lay_ints l
    simp [PyData.canLayAll0, dLot, PyData.canLay0, h2]
    exact h
theorem deep_lots : ∀ L : List (List Int), PyData.depthAll (L.map dLot) ≤ 1
  | [] => by simp [PyData.depthAll]
  | l :: L => by
    have h := deep_lots L
    have h2 := flat_intsD l
    simp only [List.map_cons, PyData.depthAll, dLot, PyData.depth, h2]
    have h : PyData.depthAll (L.map dLot) ≤ 1 := h
    omega
theorem shaped_lots (L : List (List Int)) : SeqAt.shaped (.list (L.map dLot)) = true := by
  have h := lay_lots L
  have h2 := deep_lots L
  simp [SeqAt.shaped, PyData.canLay0, PyData.depth, h]
  omega
theorem shaped_lotsT (L : List (List Int)) : SeqAt.shaped (.tuple (L.map dLot)) = true := by
  have h := lay_lots L
  have h2 := deep_lots L
  simp [SeqAt.shaped, PyData.canLay0, PyData.depth, h]
  omega
end EX

-- L11
set_option Elab.async false
set_option linter.all false
set_option maxRecDepth 100000
set_option maxHeartbeats 4000000
/-! the closure is the law's own, the least closed lot around -/
namespace EX
open PySem PySem.Spec PyProof.Rows L2
abbrev sLIs : Stmt := top 37
def nLIs : List Str := ["_law_m", "_law_rules_here", "_law_closed", "_law_lot_here", "_law_due", "_law_around", "_law_it"]
theorem scLIs : FnScope nLIs ["_law_m", "_law_rules_here", "_law_closed", "_law_lot_here"] (defScope sLIs) := ⟨rfl, rfl, rfl, by decide +kernel, rfl, by decide +kernel, by decide +kernel⟩
theorem good_lot {m : Int} {l : List Int} (L : LotOf m l) (hm : m ≤ 6) : GoodLot m l ∧ l.length ≤ 6 := by
  have := pw_len L.1 L.2
  exact ⟨⟨L.2, pw_rises L.1, by omega⟩, by omega⟩
theorem sz_repr {n : Nat} (h : n ≤ 3000) : n ≤ sizeLine := by
  rw [sizeLine_eq]
  omega
section
variable {P : Program} {w : World} {K : PySem.W.Frag} {mg : Str → Option Value} {base : Heap}
def spLIs (Ps : List Addr) : Sp := fun vs H Q _ => ∃ (m : Nat) (a cl b : Addr) (rs : List Rule) (L : List (List Int)) (xs : List V) (l : List Int), vs = [.int (m : Int), .ref a, .ref cl, .ref b] ∧ RulesAt H a rs ∧ H cl = some (.tup xs) ∧ LotsAt H L xs ∧ Sorted (ClosedOf m rs) L ∧ L.length ≤ 64 ∧ Ints H b l ∧ GoodRules m rs ∧ LotOf m l ∧ (1 ≤ m ∧ m ≤ 6) ∧ Tb Ps H ∧
  ∀ H', Gr Ps H H' → Q (.bl true) H'
theorem ok_lIs {f fC fX fH : Addr} {fd fdC fdX fdH : FuncData} {k : Nat} {Ps : List Addr} (F : Fun K "_law_is_closure" "_law_is_closure" sLIs f fd)
    (GC : FnOk P w K mg base CX0 (k + 11) fC fdC ["_law_rules_here", "_law_lot_here"] (spLClo Ps)) (gC : mg "_law_closure" = some (.ref fC)) (kC : PySem.W.keepIn K (.ref fC) = true) (bC : Binds K fdC ["_law_rules_here", "_law_lot_here"] [])
    (GX : FnOk P w K mg base CX0 (k + 11) fX fdX ["m", "rules", "lot"] (spClo Ps)) (gX : mg "closure" = some (.ref fX)) (kX : PySem.W.keepIn K (.ref fX) = true) (bX : Binds K fdX ["m", "rules", "lot"] []) (bN : KBn K fdX ["m", "rules", "lot"] 0 ["lot", "rules", "m"] (fun _ ws => ws.reverse) (fun _ zs => zs.reverse))
    (GH : FnOk P w K mg base CX0 (k + 11) fH fdH ["_law_lot_here", "_law_other"] (spLHas Ps)) (gH : mg "_law_has" = some (.ref fH)) (kH : PySem.W.keepIn K (.ref fH) = true) (bH : Binds K fdH ["_law_lot_here", "_law_other"] [])
    (nr : mg "repr" = none) : FnG P w K mg base (k + 12) f fd ["_law_m", "_law_rules_here", "_law_closed", "_law_lot_here"] (spLIs Ps) := by
  refine Fun.okG F scLIs (fun vs H Q E h => ?_) (fun cdv A outer s H vs Q E hr hg h => ?_)
  · obtain ⟨m, a, cl, b, rs, L, xs, l, rfl, _⟩ := h
    rfl
  · obtain ⟨m, a, cl, b, rs, L, xs, l, rfl, hA, hC, hX, hS, few, hB, good, LO, m6, hT, q⟩ := h
    have hun : (A.deeper (envOfC "_law_is_closure" (defScope sLIs) s.heap.objs.size f cdv)).units + 200 < cLine := by
      have := hr.un
      omega
    have hu65 : (A.deeper (envOfC "_law_is_closure" (defScope sLIs) s.heap.objs.size f cdv)).units + 65 < cLine := by omega
    refine ⟨_, pss_cons (ps_set (i := 4) scLIs.nd rfl (.inr rfl) (pe_call GC hr (by rfl) gC kC bC .nil pass0 (pa_cons (pv 1) (pa_cons (pv 3) pa_nil)))) <|
      pss_cons (ps_if (pt_cmpR op_ne (pe_repr hg hun (by rfl) nr (pe_tup (pa_cons (pe_call GX hr (by rfl) gX kX bX .nil pass0 (pa_cons (pv 0) (pa_cons (pv 1) (pa_cons (pv 3) pa_nil)))) (pa_cons (pe_named GX hr (by rfl) gX kX bN pass0 (pk_cons (pv 3) (pk_cons (pv 1) (pk_cons (pv 0) pk_nil)))) pa_nil))))
          (pe_repr hg hun (by rfl) nr (pe_tup (pa_cons (pv 4) (pa_cons (pv 4) pa_nil)))) (nomark _)) (pss_one (ps_ret pe_bl)) pss_nil) <|
      pss_cons (ps_setLc (i := 5) (own := [("_law_it", 6)]) (g := gName 6) (tt := tB (tCall (spLHas Ps) [] E0 (tCons (tVar 6) (tCons (tVar 3) tNil)))) (te := tVar 6) rfl scLIs.nd rfl rfl (by rfl) (pi_tup (pv 2))
        (blkOk_by (own := [("_law_it", 6)]) (N := nLIs) (sc := defScope sLIs) (by decide +kernel)) (fun _ _ _ _ _ => pg_name (i := 6) scLIs.nd rfl (Or.inl rfl))
        (fun _ _ _ _ _ => pts_one (pt_val (pe_call GH hr (by rfl) gH kH bH .nil pass0 (pa_cons (pv 6) (pa_cons (pv 3) pa_nil))))) (fun _ _ _ _ _ => pv 6)) <|
      pss_cons (ps_if (PW.pt (pw_or (pt_cmpR (op_notInD hu65) (pv 4) (pv 5) (by rfl)) (pw_or1 (pt_cmpR (op_neD hr.units) (pe_lc (own := [("_law_it", 6)]) (g := gName 6) (tt := tNot (tB (tCall (spLHas Ps) [] E0 (tCons (tVar 6) (tCons (tVar 4) tNil))))) (te := tVar 6) rfl scLIs.nd (pi_list (pv 5))
          (blkOk_by (own := [("_law_it", 6)]) (N := nLIs) (sc := defScope sLIs) (by decide +kernel)) (fun _ _ _ _ _ => pg_name (i := 6) scLIs.nd rfl (Or.inl rfl))
          (fun _ _ _ _ _ => pts_one (pt_not (pt_val (pe_call GH hr (by rfl) gH kH bH .nil pass0 (pa_cons (pv 6) (pa_cons (pv 4) pa_nil)))))) (fun _ _ _ _ _ => pv 6)) (pe_lst pa_nil) (nomark _))))) (pss_one (ps_ret pe_bl)) pss_nil) <|
      pss_one (ps_ret (pe_cmpR op_eq (pe_repr hg hun (by rfl) nr (pe_call GX hr (by rfl) gX kX bX .nil pass0 (pa_cons (pv 0) (pa_cons (pv 1) (pa_cons (pv 4) pa_nil))))) (pe_repr hg hun (by rfl) nr (pv 4)) (nomark _))), ?_⟩
    have gl := good_lot LO (by omega)
    have m6' : (1 : Int) ≤ (m : Int) ∧ (m : Int) ≤ 6 := by omega
    refine ⟨_, rfl, _, rfl, m, a, b, rs, l, rfl, hA, hB, good, LO, m6.2, hT, fun pd c H1 g1 npd hpd Lc clo => ?_⟩
    have gc := good_lot Lc (by omega)
    have oc := okd_lot Lc (by omega)
    have ot : Okd 49 2 (.tuple [dLot c, dLot c]) := okd_tuple (B := 21) (dep := 1) (k := 2) (fun d md => by
      simp only [List.mem_cons, List.not_mem_nil, or_false, or_self] at md
      rw [md]
      exact oc) (Nat.le_refl 2)
    -- the program's closure, by position and by name
    refine ⟨_, rfl, _, rfl, _, rfl, m, a, b, rs, l, rfl, g1.rules hA, g1.tup hB, good, gl.1, by omega, m6', g1.t2, fun p1 c1 H2 g2 np1 hp1 clo1 => ?_⟩
    have G2 := g1.trans g2
    refine ⟨_, rfl, _, rfl, _, rfl, rfl, m, a, b, rs, l, rfl, G2.rules hA, G2.tup hB, good, gl.1, by omega, m6', G2.t2, fun p2 c2 H3 g3 np2 hp2 clo2 => ?_⟩
    have G3 := G2.trans g3
    rw [clo1.unique clo] at hp1
    rw [clo2.unique clo] at hp2
    refine ⟨by show 2 ≤ sizeLine; decide, fun t nt => ?_⟩
    have gt := Gr.new (o := .tup [V.ref p1, V.ref p2]) g3.t2 nt
    refine ⟨fun _ => True, .tuple [dLot c, dLot c], .tup upd_same trivial (.cons (dv_lot (gt.tup (g3.tup hp1))) (.cons (dv_lot (gt.tup hp2)) .nil)), ot.sh, sz_repr (Nat.le_trans ot.ln (by decide)), Nat.le_trans ot.dp (by decide), ?_⟩
    refine ⟨_, rfl, _, rfl, by show 2 ≤ sizeLine; decide, fun t2 nt2 => ?_⟩
    have gt2 := Gr.new (o := .tup [V.ref pd, V.ref pd]) gt.t2 nt2
    have hpd3 := gt2.tup (gt.tup (g3.tup (g2.tup hpd)))
    refine ⟨fun _ => True, .tuple [dLot c, dLot c], .tup upd_same trivial (.cons (dv_lot hpd3) (.cons (dv_lot hpd3) .nil)), ot.sh, sz_repr (Nat.le_trans ot.ln (by decide)), Nat.le_trans ot.dp (by decide), ?_⟩
    refine ⟨rfl, _, rfl, ifF (by simp) ?_⟩
    have G4 := G3.trans (gt.trans gt2)
    -- the closed lots around the lot
    refine ⟨_, rfl, cl, rfl, ⟨_, .inl (.inl (G4.tup hC))⟩, fun D nD => ?_⟩
    have gD := Gr.new (o := .lst []) G4.t2 nD
    have nD0 := G4.free nD
    have xl : xs.length = L.length := (Paired.length hX).symm
    refine lc_it (walk_tup (xs := xs)) (fun i H' => ∃ ys, Gr Ps H H' ∧ Ints H' pd c ∧ H' D = some (.lst ys) ∧ LotsAt H' ((L.take i).filter fun d => hasB d l) ys) ⟨[], G4.trans gD, gD.tup hpd3, upd_same, .nil⟩ (fun i H' _ ⟨_, z, _⟩ => .inl (.inl (z.tup hC))) ?_ ?_
    · rintro i x H' H5 hi ⟨ys, g, hp, eD, hY⟩ ⟨rfl, ex⟩
      obtain ⟨d, hd, td, rfl, htd⟩ := paired_get (g.lots hX) ex
      have tk : (L.take (i + 1)).filter (fun d => hasB d l) = (L.take i).filter (fun d => hasB d l) ++ [d].filter (fun d => hasB d l) := by rw [take_snoc hd, List.filter_append]
      refine ⟨rfl, ?_⟩
      refine ⟨_, rfl, _, rfl, td, b, d, l, rfl, htd, g.tup hB, by omega, g.t2, fun H6 g6 => ⟨_, rfl, ?_⟩⟩
      have e6 := g6.lst eD
      have G6 := g.trans g6
      by_cases c2 : hasB d l = true
      · have yl : ys.length ≤ 64 := by
          have z := (Paired.length hY).symm
          have z2 := List.length_filter_le (fun d => hasB d l) (L.take i)
          rw [List.length_take] at z2
          omega
        refine ifT c2 ⟨_, rfl, _, e6, small1000 (by omega), ys ++ [.ref td], G6.set nD0 e6, ?_, upd_same, ?_⟩
        · show upd H6 D _ pd = _
          rw [upd_ne (fun z => by have h6 : H6 pd = _ := g6.tup hp; rw [z, e6] at h6; cases h6)]
          exact g6.tup hp
        · rw [tk, List.filter_cons_of_pos (by simpa using c2), List.filter_nil]
          exact paired_snoc (lots_upd e6 (g6.lots hY)) (by
            obtain ⟨t', e', h'⟩ := g6.lot (⟨td, rfl, htd⟩ : LotAt _ d (.ref td))
            refine ⟨t', e', ?_⟩
            show upd H6 D _ t' = _
            rw [upd_ne (fun z => by have h6 : H6 t' = _ := h'; rw [z, e6] at h6; cases h6)]
            exact h')
      · refine ifF (by simpa using c2) ⟨ys, G6, g6.tup hp, e6, ?_⟩
        rw [tk, List.filter_cons_of_neg (by simpa using c2), List.filter_nil, List.append_nil]
        exact g6.lots hY
    · rintro H5 ⟨ys, g, hp, eD, hY⟩
      rw [xl, List.take_length] at hY
      have cin : c ∈ L.filter (fun d => hasB d l) := List.mem_filter.mpr ⟨(hS.mem c).mpr ⟨Lc, clo.shut⟩, hasB_iff.mpr clo.sub⟩
      refine ⟨_, rfl, _, rfl, dLot c, _, dp_lot hp, .lst (.inl (.inl eD)) (dp_lots hY), shaped_lot c, shaped_lots _, _, rfl, ?_⟩
      rw [any_lot, decide_eq_true cin]
      refine ifF rfl ?_
      refine ⟨_, rfl, D, rfl, ⟨_, .inl (.inl eD)⟩, fun D2 nD2 => ?_⟩
      have gD2 := Gr.new (o := .lst []) g.t2 nD2
      refine lc_it (walk_list (xs := ys)) (fun i H' => Gr Ps H5 H' ∧ H' D2 = some (.lst [])) ⟨gD2, upd_same⟩ (fun i H' _ z => .inl (.inl (z.1.lst eD))) ?_ ?_
      · rintro i x H' H6 hi ⟨g6, e2⟩ ⟨rfl, ex⟩
        obtain ⟨d, hd, td, rfl, htd⟩ := paired_get (g6.lots hY) ex
        have md := List.mem_filter.mp (List.mem_of_getElem? hd)
        have sd := (hS.mem d).mp md.1
        have has : hasB d c = true := hasB_iff.mpr (clo.least d (hasB_iff.mp md.2) sd.2)
        refine ⟨rfl, ?_⟩
        refine ⟨_, rfl, _, rfl, td, pd, d, c, rfl, htd, g6.tup hp, by omega, g6.t2, fun H7 g7 => ⟨_, rfl, ?_⟩⟩
        rw [has]
        exact ifF rfl ⟨g6.trans g7, g7.lst e2⟩
      · rintro H6 ⟨g6, e2⟩
        refine ⟨by show 0 ≤ sizeLine; exact Nat.zero_le _, fun e ne => ?_⟩
        have ge := Gr.new (o := .lst []) g6.t2 ne
        refine ⟨.list [], .list [], .lst (.inl (.inl (ge.lst e2))) .nil, .lst (.inl (.inl upd_same)) .nil, shaped_nil, shaped_nil, _, rfl, ifF (by simp [PyData.eqv, PyData.eqvAll]) ?_⟩
        have G7 := g.trans (g6.trans ge)
        have hp7 := (g6.trans ge).tup hp
        refine ⟨_, rfl, _, rfl, _, rfl, m, a, pd, rs, c, rfl, G7.rules hA, hp7, good, gc.1, by omega, m6', G7.t2, fun p5 c5 H8 g8 np5 hp5 clo5 => ?_⟩
        have e5 : c5 = c := clo5.unique ⟨Lc.1, fun x h => h, clo.shut, fun d h _ => h⟩
        rw [e5] at hp5
        refine ⟨fun _ => True, dLot c, dv_lot hp5, oc.sh, sz_repr (Nat.le_trans oc.ln (by decide)), Nat.le_trans oc.dp (by decide), ?_⟩
        refine ⟨_, rfl, fun _ => True, dLot c, dv_lot (g8.tup hp7), oc.sh, sz_repr (Nat.le_trans oc.ln (by decide)), Nat.le_trans oc.dp (by decide), rfl, ?_⟩
        rw [decide_eq_true rfl]
        exact q _ (G7.trans g8)
end
end EX

-- L12
set_option Elab.async false
set_option linter.all false
set_option maxRecDepth 100000
set_option maxHeartbeats 4000000
/-! the closed lots are the law's own, and what two have in common is one -/
namespace EX
open PySem PySem.Spec PyProof.Rows L2
abbrev sLAre : Stmt := top 38
def nLAre : List Str := ["_law_m", "_law_rules_here", "_law_closed", "_law_one", "_law_other", "_law_fact"]
theorem scLAre : FnScope nLAre ["_law_m", "_law_rules_here", "_law_closed"] (defScope sLAre) := ⟨rfl, rfl, rfl, by decide +kernel, rfl, by decide +kernel, by decide +kernel⟩
/-- what two lots have in common -/
def inter (a b : List Int) : List Int := a.filter fun x => decide (x ∈ b)
theorem inter_closed {m : Int} {rs : List Rule} {a b : List Int} (ha : ClosedOf m rs a) (hb : ClosedOf m rs b) : ClosedOf m rs (inter a b) := by
  refine ⟨⟨ha.1.1.filter _, fun x mx => ha.1.2 x (List.mem_filter.mp mx).1⟩, fun r mr has => List.mem_filter.mpr ⟨?_, decide_eq_true ?_⟩⟩
  · exact ha.2 r mr fun x mx => (List.mem_filter.mp (has x mx)).1
  · exact hb.2 r mr fun x mx => of_decide_eq_true (List.mem_filter.mp (has x mx)).2
section
variable {P : Program} {w : World} {K : PySem.W.Frag} {mg : Str → Option Value} {base : Heap}
def spLAre (Ps : List Addr) : Sp := fun vs H Q _ => ∃ (m : Nat) (a cl : Addr) (rs : List Rule) (L : List (List Int)) (xs : List V), vs = [.int (m : Int), .ref a, .ref cl] ∧ RulesAt H a rs ∧ H cl = some (.tup xs) ∧ LotsAt H L xs ∧ Sorted (ClosedOf m rs) L ∧ L.length ≤ 64 ∧ GoodRules m rs ∧ (1 ≤ m ∧ m ≤ 6) ∧ Tb Ps H ∧
  ∀ H', Gr Ps H H' → Q (.bl true) H'
theorem ok_lAre {f fX : Addr} {fd fdX : FuncData} {k : Nat} {Ps : List Addr} (F : Fun K "_law_are_closed" "_law_are_closed" sLAre f fd)
    (GX : FnOk P w K mg base CX0 (k + 11) fX fdX ["m", "rules"] (spClLots Ps)) (gX : mg "closed_lots" = some (.ref fX)) (kX : PySem.W.keepIn K (.ref fX) = true) (bX : Binds K fdX ["m", "rules"] []) (bN : KBn K fdX ["m", "rules"] 0 ["rules", "m"] (fun _ ws => ws.reverse) (fun _ zs => zs.reverse))
    (nr : mg "repr" = none) (mt : mg "tuple" = none) : FnG P w K mg base (k + 12) f fd ["_law_m", "_law_rules_here", "_law_closed"] (spLAre Ps) := by
  refine Fun.okG F scLAre (fun vs H Q E h => ?_) (fun cdv A outer s H vs Q E hr hg h => ?_)
  · obtain ⟨m, a, cl, rs, L, xs, rfl, _⟩ := h
    rfl
  · obtain ⟨m, a, cl, rs, L, xs, rfl, hA, hC, hX, hS, few, good, m6, hT, q⟩ := h
    have hun : (A.deeper (envOfC "_law_are_closed" (defScope sLAre) s.heap.objs.size f cdv)).units + 200 < cLine := by
      have := hr.un
      omega
    have hu65 : (A.deeper (envOfC "_law_are_closed" (defScope sLAre) s.heap.objs.size f cdv)).units + 65 < cLine := by omega
    refine ⟨_, pss_cons (ps_if (pt_cmpR op_ne (pe_repr hg hun (by rfl) nr (pe_tup (pa_cons (pe_call GX hr (by rfl) gX kX bX .nil pass0 (pa_cons (pv 0) (pa_cons (pv 1) pa_nil))) (pa_cons (pe_named GX hr (by rfl) gX kX bN pass0 (pk_cons (pv 1) (pk_cons (pv 0) pk_nil))) pa_nil))))
          (pe_repr hg hun (by rfl) nr (pe_tup (pa_cons (pv 2) (pa_cons (pv 2) pa_nil)))) (nomark _)) (pss_one (ps_ret pe_bl)) pss_nil) <|
      pss_cons (ps_for PassesOwn.never rfl (pi_tup (pv 2)) (pg_name (i := 3) scLAre.nd rfl (.inl rfl)) (pss_one (ps_for PassesOwn.never rfl (pi_tup (pv 2)) (pg_name (i := 4) scLAre.nd rfl (.inr rfl))
        (pss_one (ps_if (pt_cmpR (op_notInT hu65) (pe_callTy call_tuple_of (by rfl) mt (by decide +kernel) (pa_cons (pe_lc (own := [("_law_fact", 5)]) (g := gName 5) (tt := tTest (tOp (rIn K false) (tVar 5) (tVar 4))) (te := tVar 5) rfl scLAre.nd (pi_tup (pv 3))
          (blkOk_by (own := [("_law_fact", 5)]) (N := nLAre) (sc := defScope sLAre) (by decide +kernel)) (fun _ _ _ _ _ => pg_name (i := 5) scLAre.nd rfl (Or.inl rfl))
          (fun _ _ _ _ _ => pts_one (pt_cmpR op_in_seq (pv 5) (pv 4) (by rfl))) (fun _ _ _ _ _ => pv 5)) pa_nil)) (pv 2) (by rfl)) (pss_one (ps_ret pe_bl)) pss_nil))))) <|
      pss_one (ps_ret pe_bl), ?_⟩
    have oL : ∀ d ∈ L.map dLot, Okd 21 1 d := fun d md => by
      obtain ⟨l, ml, rfl⟩ := List.mem_map.mp md
      exact okd_lot ((hS.mem l).mp ml).1 (by omega)
    have oT : Okd 1475 2 (.tuple (L.map dLot)) := okd_tuple (k := 64) oL (by rw [List.length_map]; exact few)
    have oo : Okd 2957 3 (.tuple [.tuple (L.map dLot), .tuple (L.map dLot)]) := okd_tuple (B := 1475) (dep := 2) (k := 2) (fun d md => by
      simp only [List.mem_cons, List.not_mem_nil, or_false, or_self] at md
      rw [md]
      exact oT) (Nat.le_refl 2)
    refine ⟨_, rfl, _, rfl, m, a, rs, rfl, hA, good, m6, hT, fun p1 ys1 L1 H1 g1 np1 e1 l1 s1 _ => ?_⟩
    refine ⟨_, rfl, _, rfl, rfl, m, a, rs, rfl, g1.rules hA, good, m6, g1.t2, fun p2 ys2 L2' H2 g2 np2 e2 l2 s2 _ => ?_⟩
    have q1 : L1 = L := sorted_ext s1.pw hS.pw fun x => (s1.mem x).trans (hS.mem x).symm
    have q2 : L2' = L := sorted_ext s2.pw hS.pw fun x => (s2.mem x).trans (hS.mem x).symm
    rw [q1] at l1
    rw [q2] at l2
    have G2 := g1.trans g2
    refine ⟨by show 2 ≤ sizeLine; decide, fun t nt => ?_⟩
    have gt := Gr.new (o := .tup [V.ref p1, V.ref p2]) G2.t2 nt
    refine ⟨fun _ => True, .tuple [.tuple (L.map dLot), .tuple (L.map dLot)], .tup upd_same trivial (.cons (.tup (gt.tup (g2.tup e1)) trivial (dvs_lots (gt.lots (g2.lots l1)))) (.cons (.tup (gt.tup e2) trivial (dvs_lots (gt.lots l2))) .nil)), oo.sh, sz_repr (Nat.le_trans oo.ln (by decide)), Nat.le_trans oo.dp (by decide), ?_⟩
    refine ⟨_, rfl, _, rfl, by show 2 ≤ sizeLine; decide, fun t2 nt2 => ?_⟩
    have gt2 := Gr.new (o := .tup [V.ref cl, V.ref cl]) gt.t2 nt2
    have G3 := G2.trans (gt.trans gt2)
    have v3 : DV (fun _ => True) _ (.ref cl) (.tuple (L.map dLot)) := .tup (G3.tup hC) trivial (dvs_lots (G3.lots hX))
    refine ⟨fun _ => True, .tuple [.tuple (L.map dLot), .tuple (L.map dLot)], .tup upd_same trivial (.cons v3 (.cons v3 .nil)), oo.sh, sz_repr (Nat.le_trans oo.ln (by decide)), Nat.le_trans oo.dp (by decide), ?_⟩
    refine ⟨rfl, _, rfl, ifF (by simp) ?_⟩
    refine ⟨_, rfl, cl, rfl, ⟨_, .inl (.inl (G3.tup hC))⟩, ?_⟩
    refine for_it (walk_tup (xs := xs)) (fun i σ H' => ∃ (v3 v4 : Option V), σ = [some (.int m), some (.ref a), some (.ref cl), v3, v4, none] ∧ Gr Ps H H') ⟨none, none, rfl, G3⟩ (fun i σ H' _ ⟨_, _, _, z⟩ => .inl (.inl (z.tup hC))) ?_ ?_
    · rintro i x σ H' H5 hi ⟨v3, v4, rfl, g⟩ ⟨rfl, ex⟩
      obtain ⟨d1, hd1, t1, rfl, ht1⟩ := paired_get (g.lots hX) ex
      refine ⟨_, rfl, cl, rfl, ⟨_, .inl (.inl (g.tup hC))⟩, ?_⟩
      refine for_it (walk_tup (xs := xs)) (fun j σ H' => ∃ (v4 : Option V), σ = [some (.int m), some (.ref a), some (.ref cl), some (.ref t1), v4, none] ∧ Gr Ps H H' ∧ Ints H' t1 d1) ⟨v4, rfl, g, ht1⟩ (fun i σ H' _ ⟨_, _, z, _⟩ => .inl (.inl (z.tup hC))) ?_ ?_
      · rintro j y σ H6 H7 hj ⟨w4, rfl, g6, ht6⟩ ⟨rfl, ey⟩
        obtain ⟨d2, hd2, t2, rfl, ht2⟩ := paired_get (g6.lots hX) ey
        have c1 := (hS.mem d1).mp (List.mem_of_getElem? hd1)
        have c2 := (hS.mem d2).mp (List.mem_of_getElem? hd2)
        have l6 := (good_lot c1.1 (by omega)).2
        refine ⟨_, rfl, t1, rfl, ⟨_, .inl (.inl ht6)⟩, fun D nD => ?_⟩
        have gD := Gr.new (o := .lst []) g6.t2 nD
        refine lc_it (walk_tup (xs := d1.map V.int)) (fun i H' => Gr Ps H7 H' ∧ H' D = some (.lst ((inter (d1.take i) d2).map V.int))) ⟨gD, upd_same⟩ (fun i H' _ z => .inl (.inl (z.1.tup ht6))) ?_ ?_
        · rintro i x H8 H9 hi ⟨g8, e8⟩ ⟨rfl, ex⟩
          obtain ⟨z, hz, rfl⟩ := ints_get ex
          have tk : inter (d1.take (i + 1)) d2 = inter (d1.take i) d2 ++ [z].filter (fun x => decide (x ∈ d2)) := by
            unfold inter
            rw [take_snoc hz, List.filter_append]
          refine ⟨rfl, ?_⟩
          refine ⟨_, rfl, _, rfl, t2, _, rfl, .inr (.inl (.inl (g8.tup ht2))), rfl, flat_ints _, _, rfl, ?_⟩
          rw [inV_ints]
          by_cases mz : z ∈ d2
          · refine ifT (show decide (z ∈ d2) = true from decide_eq_true mz) ⟨_, rfl, _, e8, ?_, g8.set nD e8, ?_⟩
            · unfold inter
              have z1 := List.length_filter_le (fun x => decide (x ∈ d2)) (d1.take i)
              rw [List.length_take] at z1
              rw [List.length_map]
              exact small1000 (by omega)
            · rw [upd_same, tk, List.filter_cons_of_pos (by simp [mz]), List.filter_nil, List.map_append]
              rfl
          · refine ifF (show decide (z ∈ d2) = false from decide_eq_false mz) ⟨g8, ?_⟩
            rw [tk, List.filter_cons_of_neg (by simp [mz]), List.filter_nil, List.append_nil]
            exact e8
        · rintro H8 ⟨g8, e8⟩
          rw [List.length_map, List.take_length] at e8
          refine ⟨D, _, rfl, .inl ⟨.inl (.inl e8), fun u nu => ?_⟩⟩
          have gu := Gr.new (o := .tup ((inter d1 d2).map V.int)) g8.t2 nu
          have G9 := g6.trans (g8.trans gu)
          refine ⟨_, rfl, dLot (inter d1 d2), L.map dLot, dp_lot upd_same, .tup (.inl (.inl (G9.tup hC))) (dp_lots (G9.lots hX)), shaped_lot _, shaped_lotsT _, _, rfl, ?_⟩
          rw [any_lot, decide_eq_true ((hS.mem _).mpr (inter_closed c1 c2))]
          exact ifF rfl ⟨_, rfl, G9, (g8.trans gu).tup ht6⟩
      · rintro σ H6 ⟨w4, rfl, g6, _⟩
        exact ⟨_, _, rfl, g6⟩
    · rintro σ H5 ⟨v3, v4, rfl, g⟩
      exact q _ g
end
end EX

-- L13
set_option Elab.async false
set_option linter.all false
set_option maxRecDepth 100000
set_option maxHeartbeats 4000000
/-! sorted of a set of tuples of whole numbers, of any lengths -/
namespace EX
open PySem PySem.Spec PyProof.Rows L2
section
variable {P : Program} {w : World} {A : Around} {E : Value → Shared → Prop} {s : Shared}
theorem lotV_of {h : Heap} {k : List Int} {b : Addr} (x : IsT P w h k b) : LotV h (.ref b) k ∧ TS.intsOf h (.ref b) = k := by
  have t := tupInts_of x
  refine ⟨?_, t.ints⟩
  obtain ⟨o, items, n, ho, hc, hd, hi⟩ := x
  exact ⟨b, o, items, n, rfl, ho, hc, hd, ints_of_items hi⟩
theorem sorted_setL {a : Addr} {L : List (Addr × List Int)} {es : Array (Int × Value)} {ep : Nat} {t : SetTable} {Q : Value → Shared → Prop} (R : SetTR P w s.heap a L es ep t) (hh : A.handled = none) (hu : A.units + 2 < cLine)
    (hQ : ∀ s' p (out : List Value) (c : Nat), (∀ b o, s.heap.get? b = some o → s'.heap.get? b = some o) → s'.gens = s.gens → s'.os = s.os → s.heap.objs.size ≤ p →
      s'.heap.get? p = some (seqObj "list" out.toArray c) → out.Perm (L.map fun q => Value.ref q.1) → out.Pairwise (fun u v => lexL (TS.intsOf s.heap v) (TS.intsOf s.heap u) = false) → Q (.ref p) s') :
    wpAny (model P w) A (call (.builtin "sorted") [.ref a]) Q E s := by
  obtain ⟨o, ho, hex, hd⟩ := R.ob
  have hsz := R.size
  have hfew := R.few
  have hes : es.toList.map (·.2) = L.map fun q => Value.ref q.1 := by
    rw [R.rows]
    unfold rowsOf
    rw [List.map_map] <;> rfl
  have swo := swo_lexL (fun u : Value => TS.intsOf s.heap u)
  refine Calls.call_function_entry kind_sorted plain_sorted entry_sorted (args_sorted1 _) ?_
  unfold Builtin.«sorted»
  refine wpAny_bind (m := checkCount "sorted" 1 1 _) (wpAny_pure ?_)
  refine wpAny_bind (collect_set (A := A.in1) hh ⟨o, ho, hex.1, hd⟩ R.fits (by unfold scanBound; omega) R.tab.ris R.led fun s1 vs k1 hz g1 o1 pm => ?_)
  rw [hes] at pm
  have vl : vs.length < 64 := by rw [pm.length_eq, List.length_map]; exact hfew
  have vz : vs.length ≤ sizeLine := by rw [sizeLine_eq]; omega
  refine wpAny_bind (wpAny_newList ?_ vz)
  have hoL : (s1.heap.push (seqObj "list" vs.toArray 0)).get? s1.heap.objs.size = some (seqObj "list" vs.toArray 0) := Heap.get?_push_size _ rfl
  have lot : ∀ v ∈ vs, LotV s.heap v (TS.intsOf s.heap v) := fun v hv => by
    obtain ⟨q, hq, e⟩ := List.mem_map.mp (pm.mem_iff.mp hv)
    have z := lotV_of (R.tup q hq)
    rw [← e, z.2]
    exact z.1
  refine wpAny_bind (wpAny_holding (wpAny_call_entry slot_list_sort ⟨_, hoL, rfl⟩ entry_list_sort (SrtO.list_sort_ord (s := { s1 with heap := s1.heap.push (seqObj "list" vs.toArray 0) }) swo hoL vz (fun h2 h' keep => ?_) fun out hs hb => ⟨_, rfl, ?_⟩) (args_list_sort _)))
  · have lot2 : ∀ v ∈ vs, LotV h' v (TS.intsOf s.heap v) := fun v hv => (lot v hv).keeps fun b o e _ => by
      have q := k1 b o e
      exact keep b o (Nat.ne_of_lt (Heap.lt_size q)) (Heap.get?_push_of_some _ q)
    obtain ⟨κ, c1, c2⟩ := kinds_lots (M := model P w) (A := A.in1.in1) (s := { s1 with heap := h' }) lot2 (by omega)
    exact ⟨κ, c2, lots_cmp lot2 c1 (by show A.units + 1 + 1 < cLine; omega)⟩
  · obtain ⟨c, hc⟩ := sortedHeap_at (vs := vs) (out := out.toArray) hoL
    refine wpAny_pure ⟨_, rfl, hQ _ s1.heap.objs.size out c (fun b u e => ?_) g1 o1 hz hc (hb.perm.trans pm) hs⟩
    have q := k1 b u e
    show (sortedHeap (s1.heap.push (seqObj "list" vs.toArray 0)) s1.heap.objs.size vs out.toArray).get? b = some u
    rw [sortedHeap_old (Nat.ne_of_lt (Heap.lt_size q)) (by rw [size_push']; exact Nat.lt_succ_of_lt (Heap.lt_size q))]
    exact Heap.get?_push_of_some _ q
end
section
variable {X : Cx}
/-- sorted(set), its members tuples of whole numbers -/
def rSortedSetL (P : Program) (w : World) : List V → Hp → VK → Prop := fun vs H Q => ∃ (a : Addr) (L : List (Addr × List Int)), vs = [V.ref a] ∧ H a = some (SetTO P w a L) ∧ (∀ p ∈ L, Ints H p.1 p.2) ∧
  ∀ (ks : List (List Int)) (ys : List V) (p : Addr), LotsAt H ks ys → ks.Perm (L.map (·.2)) → ks.Nodup → ks.Pairwise (fun a b => lexL b a = false) → H p = none → Q (.ref p) (upd H p (.lst ys))
theorem cr_sortedSetL (hc : X.calm = true) (hu : X.A.units + 2 < cLine) : CallR X (.builtin "sorted") (rSortedSetL X.prog X.w) := by
  intro pins s σ H vs us Q I r h
  obtain ⟨a, L, rfl, ha, hk, q⟩ := h
  have R0 : SetT0 X.prog X.w s.heap a L := (I.hok a _ ha).1
  obtain ⟨es, ep, t, R⟩ := R0.full fun p hp => I.isT (.inl (.inl (hk p hp)))
  rw [Vals.ref1 r]
  refine sorted_setL R (I.ok.hd hc) hu fun s' p out c k g o hp hg pm pw => ?_
  have of : ∀ v ∈ out, ∃ q ∈ L, v = Value.ref q.1 ∧ TS.intsOf s.heap v = q.2 := fun v hv => by
    obtain ⟨q, hq, e⟩ := List.mem_map.mp (pm.mem_iff.mp hv)
    exact ⟨q, hq, e.symm, by rw [← e]; exact (lotV_of (R.tup q hq)).2⟩
  have len : out.length < 64 := by
    rw [pm.length_eq, List.length_map]
    exact R.few
  have hv : Vals (out.map backV) out := vals_back fun u hu => by
    obtain ⟨q, _, e, _⟩ := of u hu
    exact ⟨_, e⟩
  have lots : ∀ l : List Value, (∀ v ∈ l, v ∈ out) → LotsAt H (l.map fun v => TS.intsOf s.heap v) (l.map backV) := by
    intro l
    induction l with
    | nil => exact fun _ => .nil
    | cons v l ih =>
      intro hl
      obtain ⟨q, hq, e, e2⟩ := of v (hl v List.mem_cons_self)
      refine .cons ⟨q.1, by rw [e]; rfl, ?_⟩ (ih fun u hu => hl u (List.mem_cons_of_mem _ hu))
      show Ints H q.1 (TS.intsOf s.heap v)
      rw [e2]
      exact hk q hq
  have perm : (out.map fun v => TS.intsOf s.heap v).Perm (L.map (·.2)) := by
    refine (pm.map _).trans (List.Perm.of_eq ?_)
    rw [List.map_map]
    exact List.map_congr_left fun q hq => (lotV_of (R.tup q hq)).2
  have hn : H p = none := I.hok.fresh hp
  have hlen : (out.map backV).length ≤ sizeLine := by rw [List.length_map, sizeLine_eq]; omega
  have J : Inv X pins σ (upd H p (.lst (out.map backV))) { s with heap := s'.heap, gens := s'.gens, drawn := s'.drawn, toks := s'.toks } :=
    I.call (ch := []) (Un.laid k hp hn) (I.hok.laid k hp ⟨hlen, out, c, hv, hg⟩) (by rw [g]; exact I.bare) (fun _ z => nomatch z)
  have e : s' = { s with heap := s'.heap, gens := s'.gens, drawn := s'.drawn, toks := s'.toks } := by
    cases s'
    cases s
    cases o
    rfl
  rw [e]
  exact ⟨.ref p, _, J, rfl, q _ _ p (lots out fun _ h => h) perm (perm.nodup_iff.mpr R.nd) (List.pairwise_map.mpr pw) hn⟩
end
end EX

-- L14
set_option Elab.async false
set_option linter.all false
set_option maxRecDepth 100000
set_option maxHeartbeats 4000000
/-! the law -/
namespace EX
open PySem PySem.Spec PyProof.Rows L2
abbrev sLaw : Stmt := top 39
def nLaw : List Str := ["_law_script", "_law_deck_here", "_law_turn", "_law_m", "_law_rules_here", "_law_closed", "_law_lots_here", "_law_lot_here", "_law_more", "_law_fact", "_law_draw_here"]
theorem scLaw : FnScope nLaw ["_law_script"] (defScope sLaw) := ⟨rfl, rfl, rfl, by decide +kernel, rfl, by decide +kernel, by decide +kernel⟩
theorem if_two {c : Bool} {ta tb : TE} {σ : L2.St} {H : Hp} {Qk : V → Hp → Prop} (Pm : V → Hp → Prop) (h1 : c = true → ∀ Q', (∀ v H3, Pm v H3 → Q' v H3) → ta σ H Q') (h2 : c = false → ∀ Q', (∀ v H3, Pm v H3 → Q' v H3) → tb σ H Q') (h : ∀ v H3, Pm v H3 → Qk v H3) : if c = true then ta σ H Qk else tb σ H Qk := by
  cases c with
  | true => exact iteT (h1 rfl _ h)
  | false => exact iteF (h2 rfl _ h)
theorem GrD.lots {Ps : List Addr} {d c : Addr} {cs : List Int} {m n : Int} {H H' : Hp} {L : List (List Int)} {xs : List V} (g : GrD Ps d c H H') (D : DeckAt H d c cs m n) (h : LotsAt H L xs) : LotsAt H' L xs := Paired.mapP h fun _ _ ⟨t, e, h1⟩ => ⟨t, e, g.tup D h1⟩
theorem GrD.rules {Ps : List Addr} {d c : Addr} {cs : List Int} {m n : Int} {H H' : Hp} {a : Addr} {rs : List Rule} (g : GrD Ps d c H H') (D : DeckAt H d c cs m n) (h : RulesAt H a rs) : RulesAt H' a rs := let ⟨xs, h1, h2⟩ := h; ⟨xs, g.tup D h1, Paired.mapP h2 fun _ _ q => g.rule D q⟩
theorem DeckAt.set {H : Hp} {d c D : Addr} {cs : List Int} {m n : Int} {xs ys : List V} (K : DeckAt H d c cs m n) (e : H D = some (.lst xs)) (nc : D ≠ c) : DeckAt (upd H D (.lst ys)) d c cs m n := ⟨by rw [upd_ne (fun z => by rw [← z, K.dk] at e; cases e)]; exact K.dk, by rw [upd_ne (Ne.symm nc)]; exact K.cl⟩
theorem eqvAll_lots : ∀ L : List (List Int), PyData.eqvAll (L.map dLot) (L.map dLot) = true
  | [] => by simp [PyData.eqvAll]
  | l :: L => by
    have h := eqvAll_lots L
    have h2 := eqv_lot l l
    simp only [List.map_cons, PyData.eqvAll, h, h2, decide_true, Bool.and_self]
theorem paired_left {α β : Type} {F : α → β → Prop} : ∀ {xs : List α} {ys : List β}, Paired F xs ys → ∀ x ∈ xs, ∃ y ∈ ys, F x y
  | _, _, .nil, x, h => by simp at h
  | _, _, .cons (b := b) f r, x, h => by
    rcases List.mem_cons.mp h with rfl | h
    · exact ⟨b, List.mem_cons_self, f⟩
    · obtain ⟨y, my, fy⟩ := paired_left r x h
      exact ⟨y, List.mem_cons_of_mem _ my, fy⟩
theorem paired_right {α β : Type} {F : α → β → Prop} : ∀ {xs : List α} {ys : List β}, Paired F xs ys → ∀ y ∈ ys, ∃ x ∈ xs, F x y
  | _, _, .nil, y, h => by simp at h
  | _, _, .cons (a := a) f r, y, h => by
    rcases List.mem_cons.mp h with rfl | h
    · exact ⟨a, List.mem_cons_self, f⟩
    · obtain ⟨x, mx, fx⟩ := paired_right r y h
      exact ⟨x, List.mem_cons_of_mem _ mx, fx⟩
theorem clo_lot {m : Nat} {rs : List Rule} {l c : List Int} (L : LotOf m l) (good : GoodRules m rs) (h : IsClo rs l c) : LotOf m c := by
  refine ⟨h.pw, fun x mx => ?_⟩
  have z := h.least (others m (-1)) (fun x mx => others_mem.mpr ⟨L.2 x mx, by have := (L.2 x mx).1; omega⟩) (fun r mr _ => others_mem.mpr ⟨(good.all r mr).fact, by have := (good.all r mr).fact.1; omega⟩) x mx
  exact (others_mem.mp z).1
section
variable {P : Program} {w : World} {K : PySem.W.Frag} {mg : Str → Option Value} {base : Heap}
/-- what the law's body asks of the module -/
structure LawTxt (P : Program) (w : World) (K : PySem.W.Frag) (mg : Str → Option Value) (base : Heap) (Ps : List Addr) : Prop where
  deck : ∃ f fd, FnOk P w K mg base CX0 12 f fd ["_law_script"] (spDeck K) ∧ mg "_law_deck" = some (.ref f) ∧ PySem.W.keepIn K (.ref f) = true ∧ Binds K fd ["_law_script"] []
  draw : ∃ f fd, FnOk P w K mg base CX0 12 f fd ["_law_deck_here", "_law_many"] spDraw ∧ mg "_law_draw" = some (.ref f) ∧ PySem.W.keepIn K (.ref f) = true ∧ Binds K fd ["_law_deck_here", "_law_many"] []
  pick : ∃ f fd, FnOk P w K mg base CX0 12 f fd ["_law_deck_here", "_law_some"] (spPick K) ∧ mg "_law_pick" = some (.ref f) ∧ PySem.W.keepIn K (.ref f) = true ∧ Binds K fd ["_law_deck_here", "_law_some"] []
  rules : ∃ f fd, FnOk P w K mg base CX0 12 f fd ["_law_deck_here", "_law_m"] (spLRules Ps) ∧ mg "_law_rules" = some (.ref f) ∧ PySem.W.keepIn K (.ref f) = true ∧ Binds K fd ["_law_deck_here", "_law_m"] []
  clots : ∃ f fd, FnOk P w K mg base CX0 12 f fd ["_law_m", "_law_rules_here"] (spLCl Ps) ∧ mg "_law_closed_lots" = some (.ref f) ∧ PySem.W.keepIn K (.ref f) = true ∧ Binds K fd ["_law_m", "_law_rules_here"] []
  lots : ∃ f fd, FnOk P w K mg base CX0 12 f fd ["_law_m"] (spLLots Ps) ∧ mg "_law_lots" = some (.ref f) ∧ PySem.W.keepIn K (.ref f) = true ∧ Binds K fd ["_law_m"] []
  lot : ∃ f fd, FnOk P w K mg base CX0 12 f fd ["_law_deck_here", "_law_m"] (spLLot Ps) ∧ mg "_law_lot" = some (.ref f) ∧ PySem.W.keepIn K (.ref f) = true ∧ Binds K fd ["_law_deck_here", "_law_m"] []
  isC : ∃ f fd, FnG P w K mg base 12 f fd ["_law_m", "_law_rules_here", "_law_closed", "_law_lot_here"] (spLIs Ps) ∧ mg "_law_is_closure" = some (.ref f) ∧ PySem.W.keepIn K (.ref f) = true ∧ Binds K fd ["_law_m", "_law_rules_here", "_law_closed", "_law_lot_here"] []
  are : ∃ f fd, FnG P w K mg base 12 f fd ["_law_m", "_law_rules_here", "_law_closed"] (spLAre Ps) ∧ mg "_law_are_closed" = some (.ref f) ∧ PySem.W.keepIn K (.ref f) = true ∧ Binds K fd ["_law_m", "_law_rules_here", "_law_closed"] []
  has : ∃ f fd, FnOk P w K mg base CX0 12 f fd ["_law_lot_here", "_law_other"] (spLHas Ps) ∧ mg "_law_has" = some (.ref f) ∧ PySem.W.keepIn K (.ref f) = true ∧ Binds K fd ["_law_lot_here", "_law_other"] []
  clo : ∃ f fd, FnOk P w K mg base CX0 12 f fd ["m", "rules", "lot"] (spClo Ps) ∧ mg "closure" = some (.ref f) ∧ PySem.W.keepIn K (.ref f) = true ∧ Binds K fd ["m", "rules", "lot"] []
  none_ : mg "range" = none ∧ mg "tuple" = none ∧ mg "len" = none ∧ mg "sorted" = none ∧ mg "set" = none ∧ mg "list" = none
def spLaw (K : PySem.W.Frag) (Ps : List Addr) : Sp := fun vs H Q _ => ∃ (a : Addr) (ns : List Int), vs = [.ref a] ∧ SqL K H a (ns.map V.int) ∧ ns.length ≤ 63 ∧ Tb Ps H ∧ ∀ H', Q (.bl true) H'
theorem ok_law {f : Addr} {fd : FuncData} {Ps : List Addr} (F : Fun K "law" "law" sLaw f fd) (T : LawTxt P w K mg base Ps) : FnG P w K mg base 13 f fd ["_law_script"] (spLaw K Ps) := by
  refine Fun.okG F scLaw (fun vs H Q E h => ?_) (fun cdv A outer s H vs Q E hr hg h => ?_)
  · obtain ⟨a, ns, rfl, _⟩ := h
    rfl
  · obtain ⟨a, ns, rfl, hS, hlen, hT, q⟩ := h
    obtain ⟨fD, fdD, GD, gD, kD, bD⟩ := T.deck
    obtain ⟨fW, fdW, GW, gW, kW, bW⟩ := T.draw
    obtain ⟨fP, fdP, GP, gP, kP, bP⟩ := T.pick
    obtain ⟨fR, fdR, GR, gR, kR, bR⟩ := T.rules
    obtain ⟨fC, fdC, GC, gC, kC, bC⟩ := T.clots
    obtain ⟨fL, fdL, GL, gL, kL, bL⟩ := T.lots
    obtain ⟨fl, fdl, Gl', gl, kl, bl⟩ := T.lot
    obtain ⟨fI, fdI, GI, gI, kI, bI⟩ := T.isC
    obtain ⟨fA, fdA, GA, gA, kA, bA⟩ := T.are
    obtain ⟨fH, fdH, GH, gH, kH, bH⟩ := T.has
    obtain ⟨fX, fdX, GX, gX, kX, bX⟩ := T.clo
    obtain ⟨mr, mt, ml, ms, me, mi⟩ := T.none_
    have hu2 : (A.deeper (envOfC "law" (defScope sLaw) s.heap.objs.size f cdv)).units + 2 < cLine := by have := hr.un; omega
    have hu64 : (A.deeper (envOfC "law" (defScope sLaw) s.heap.objs.size f cdv)).units + 64 < cLine := by have := hr.un; omega
    refine ⟨_, pss_cons (ps_set (i := 1) scLaw.nd rfl (.inr rfl) (pe_call GD hr (by rfl) gD kD bD .nil pass0 (pa_cons (pv 0) pa_nil))) <|
      pss_cons (ps_for PassesOwn.never rfl (pi_range1 (by rfl) mr (pa_cons pe_int pa_nil)) (pg_name (i := 2) scLaw.nd rfl (.inl rfl)) (
        pss_cons (ps_set (i := 3) scLaw.nd rfl (.inr rfl) (pe_call GP hr (by rfl) gP kP bP .nil pass0 (pa_cons (pv 1) (pa_cons (pe_lst (pa_cons pe_int (pa_cons pe_int (pa_cons pe_int (pa_cons pe_int (pa_cons pe_int (pa_cons pe_int (pa_cons pe_int (pa_cons pe_int pa_nil))))))))) pa_nil)))) <|
        pss_cons (ps_set (i := 4) scLaw.nd rfl (.inr rfl) (pe_call GR hr (by rfl) gR kR bR .nil pass0 (pa_cons (pv 1) (pa_cons (pv 3) pa_nil)))) <|
        pss_cons (ps_set (i := 5) scLaw.nd rfl (.inl rfl) (pe_call GC hr (by rfl) gC kC bC .nil pass0 (pa_cons (pv 3) (pa_cons (pv 4) pa_nil)))) <|
        pss_cons (ps_set (i := 6) scLaw.nd rfl (.inl rfl) (pe_ifExp (pt_cmpR op_lt (pv 3) pe_int (nomark _)) (pe_call GL hr (by rfl) gL kL bL .nil pass0 (pa_cons (pv 3) pa_nil))
          (pe_lc (own := [("_law_draw_here", 10)]) (g := gName 10) (tt := tYes) (te := tCall (spLLot Ps) [] E0 (tCons (tVar 1) (tCons (tVar 3) tNil))) rfl scLaw.nd (pi_range1 (by rfl) mr (pa_cons pe_int pa_nil))
            (blkOk_by (own := [("_law_draw_here", 10)]) (N := nLaw) (sc := defScope sLaw) (by decide +kernel)) (fun _ _ _ _ _ => pg_name (i := 10) scLaw.nd rfl (Or.inl rfl))
            (fun _ _ _ _ _ => pts_nil) (fun _ _ _ _ _ => pe_call Gl' hr (by rfl) gl kl bl .nil pass0 (pa_cons (pv 1) (pa_cons (pv 3) pa_nil)))))) <|
        pss_cons (ps_for PassesOwn.never rfl (pi_list (pv 6)) (pg_name (i := 7) scLaw.nd rfl (.inr rfl)) (
          pss_cons (ps_if (pt_not (pt_val (pe_guarded GI hr hg (by rfl) gI kI bI pass0 (pa_cons (pv 3) (pa_cons (pv 4) (pa_cons (pv 5) (pa_cons (pv 7) pa_nil))))))) (pss_one (ps_ret pe_bl)) pss_nil) <|
          pss_cons (ps_set (i := 8) scLaw.nd rfl (.inl rfl) (pe_callTy call_tuple_of (by rfl) mt (by decide +kernel) (pa_cons (pe_lc (own := [("_law_fact", 9)]) (g := gName 9)
              (tt := tOr (tTest (tOp (rIn K false) (tVar 9) (tVar 7))) (tTest (tOp rEq (tCall spDraw [] E0 (tCons (tVar 1) (tCons (tC (.int 3)) tNil))) (tC (.int 0))))) (te := tVar 9) rfl scLaw.nd (pi_range1 (by rfl) mr (pa_cons (pv 3) pa_nil))
              (blkOk_by (own := [("_law_fact", 9)]) (N := nLaw) (sc := defScope sLaw) (by decide +kernel)) (fun _ _ _ _ _ => pg_name (i := 9) scLaw.nd rfl (Or.inl rfl))
              (fun _ _ _ _ _ => pts_one (PW.pt (pw_or (pt_cmpR op_in_seq (pv 9) (pv 7) (by rfl)) (pw_or1 (pt_cmpR op_eq (pe_call GW hr (by rfl) gW kW bW .nil pass0 (pa_cons (pv 1) (pa_cons pe_int pa_nil))) pe_int (nomark _))))))
              (fun _ _ _ _ _ => pv 9)) pa_nil))) <|
          pss_one (ps_if (pt_not (pt_val (pe_call GH hr (by rfl) gH kH bH .nil pass0 (pa_cons (pe_call GX hr (by rfl) gX kX bX .nil pass0 (pa_cons (pv 3) (pa_cons (pv 4) (pa_cons (pv 8) pa_nil)))) (pa_cons (pe_call GX hr (by rfl) gX kX bX .nil pass0 (pa_cons (pv 3) (pa_cons (pv 4) (pa_cons (pv 7) pa_nil)))) pa_nil))))) (pss_one (ps_ret pe_bl)) pss_nil))) <|
        pss_cons (ps_if (PW.pt (pw_and (pt_cmpR op_le (pe_callB call_len_seq (by rfl) ml PySem.boot_len (pa_cons (pv 5) pa_nil)) pe_int (nomark _)) (pw_and1 (pt_not (pt_val (pe_guarded GA hr hg (by rfl) gA kA bA pass0 (pa_cons (pv 3) (pa_cons (pv 4) (pa_cons (pv 5) pa_nil))))))))) (pss_one (ps_ret pe_bl)) pss_nil) <|
        pss_one (ps_if (PW.pt (pw_and (pt_cmpR op_lt (pv 3) pe_int (nomark _)) (pw_and1 (pt_cmpR (op_neD hu64) (pe_callB (cr_sortedSetL rfl hu2) (by rfl) ms (by decide +kernel) (pa_cons (pe_callTy (cr_setOfT rfl hu64) (by rfl) me (by decide +kernel) (pa_cons (pe_lc (own := [("_law_lot_here", 7)]) (g := gName 7) (tt := tYes)
            (te := tCall (spClo Ps) [] E0 (tCons (tVar 3) (tCons (tVar 4) (tCons (tVar 7) tNil)))) rfl scLaw.nd (pi_list (pv 6))
            (blkOk_by (own := [("_law_lot_here", 7)]) (N := nLaw) (sc := defScope sLaw) (by decide +kernel)) (fun _ _ _ _ _ => pg_name (i := 7) scLaw.nd rfl (Or.inl rfl))
            (fun _ _ _ _ _ => pts_nil) (fun _ _ _ _ _ => pe_call GX hr (by rfl) gX kX bX .nil pass0 (pa_cons (pv 3) (pa_cons (pv 4) (pa_cons (pv 7) pa_nil))))) pa_nil)) pa_nil))
            (pe_callTy call_list_of (by rfl) mi (by decide +kernel) (pa_cons (pv 5) pa_nil)) (nomark _))))) (pss_one (ps_ret pe_bl)) pss_nil))) <|
      pss_one (ps_ret pe_bl), ?_⟩
    refine ⟨_, rfl, a, ns, rfl, hS, hlen, fun d c cs mm H0 nd nc same D0 hcs => ?_⟩
    have T0 : Tb Ps H0 := fun P hP => let ⟨ps, h1, h2⟩ := hT P hP; ⟨ps, same _ _ h1, h2⟩
    refine ⟨2, rfl, by decide, by decide, ?_⟩
    refine for_it walk_range (fun i σ H' => ∃ (cs : List Int) (n : Int) (v2 v3 v4 v5 v6 v7 v8 : Option V), σ = [some (.ref a), some (.ref d), v2, v3, v4, v5, v6, v7, v8, none, none] ∧ DeckAt H' d c cs mm n ∧ cs.length ≤ 63 ∧ Tb Ps H')
      ⟨cs, 0, none, none, none, none, none, none, none, rfl, D0, hcs, T0⟩ (fun i σ H' _ z => trivial) ?_ ?_
    · rintro i x σ H1 H1' hi ⟨cs1, n1, v2, v3, v4, v5, v6, v7, v8, rfl, D1, h1, t1⟩ ⟨rfl, rfl⟩
      -- the number of facts
      refine ⟨_, rfl, by show 8 ≤ sizeLine; decide, fun p np => ?_⟩
      have gp := Gr.new (o := .lst [V.int 3, .int 1, .int 2, .int 3, .int 4, .int 4, .int 5, .int 6]) t1 np
      have Dp := gp.deck D1
      refine ⟨d, c, p, cs1, mm, n1, _, rfl, Dp, h1, upd_same, fun z => by { rw [z, D1.dk] at np; cases np }, fun z => by { rw [z, D1.cl] at np; cases np }, by decide, by decide, fun x n2 cs2 H2 hx D2 h2 s2 => ?_⟩
      obtain ⟨m, rfl, m6⟩ : ∃ m : Nat, x = .int (m : Int) ∧ (1 ≤ m ∧ m ≤ 6) := by
        simp only [List.mem_cons, List.not_mem_nil, or_false] at hx
        rcases hx with rfl | rfl | rfl | rfl | rfl | rfl | rfl | rfl
        · exact ⟨3, rfl, by decide⟩
        · exact ⟨1, rfl, by decide⟩
        · exact ⟨2, rfl, by decide⟩
        · exact ⟨3, rfl, by decide⟩
        · exact ⟨4, rfl, by decide⟩
        · exact ⟨4, rfl, by decide⟩
        · exact ⟨5, rfl, by decide⟩
        · exact ⟨6, rfl, by decide⟩
      have m6' : (1 : Int) ≤ (m : Int) ∧ (m : Int) ≤ 6 := by omega
      have t2 := (GrD.draw gp.t2 Dp s2).t2
      refine ⟨_, rfl, _, rfl, d, c, cs2, mm, n2, m, rfl, D2, h2, m6, t2, fun ar rs cs3 n3 H3 g3 D3 h3 hR good => ?_⟩
      refine ⟨_, rfl, _, rfl, m, ar, rs, rfl, hR, fun r mr => ?_, by have := good.few; omega, m6.2, g3.t2, fun cl xs L H4 g4 ncl ecl hX hSo few => ?_⟩
      · have gr := (good.all r mr).ifs
        have := (good_lot (m := (m : Int)) (l := r.1) ⟨rises_pw gr.rises, gr.within⟩ m6'.2).2
        omega
      have D4 := g4.deck D3
      -- the lots
      refine ⟨_, rfl, _, _, rfl, rfl, _, rfl, ?_⟩
      refine if_two (fun v H5 => ∃ (lo : Addr) (ys : List V) (Ls : List (List Int)) (cs5 : List Int) (n5 : Int), v = .ref lo ∧ GrD Ps d c H4 H5 ∧ DeckAt H5 d c cs5 mm n5 ∧ cs5.length ≤ 63 ∧ H5 lo = some (.lst ys) ∧ lo ≠ c ∧ LotsAt H5 Ls ys ∧ (∀ l ∈ Ls, LotOf m l) ∧ Ls.length ≤ 63 ∧ ((m : Int) < 5 → Ls = allL m)) (fun hc Q' hQ' => ?_) (fun hc Q' hQ' => ?_) ?_
      · have m5 : (m : Int) < 5 := of_decide_eq_true hc
        refine ⟨_, rfl, m, rfl, m6.2, g4.t2, fun p5 ys H5 g5 np5 e5 hY => hQ' _ _ ⟨p5, ys, allL m, cs3, n3, rfl, GrD.of g5, g5.deck D4, h3, e5, fun z => ?_, hY, fun l ml => (allL_mem m l).mp ml, ?_, fun _ => rfl⟩⟩
        · rw [z, D4.cl] at np5
          cases np5
        · rw [allL_len]
          exact Nat.le_trans (Nat.pow_le_pow_right (n := 2) (by decide) (show m ≤ 4 by omega)) (by decide)
      · have m5 : ¬ (m : Int) < 5 := of_decide_eq_false hc
        refine ⟨10, rfl, by decide, by decide, fun D nD => ?_⟩
        have gD := Gr.new (o := .lst []) g4.t2 nD
        have Dc : D ≠ c := fun z => by
          rw [z, D4.cl] at nD
          cases nD
        refine lc_it walk_range (fun i H' => ∃ (cs' : List Int) (n' : Int) (ys : List V) (Ls : List (List Int)), GrD Ps d c H4 H' ∧ DeckAt H' d c cs' mm n' ∧ cs'.length ≤ 63 ∧ H' D = some (.lst ys) ∧ LotsAt H' Ls ys ∧ (∀ l ∈ Ls, LotOf m l) ∧ ys.length = i)
          ⟨cs3, n3, [], [], GrD.of gD, gD.deck D4, h3, upd_same, .nil, fun l hl => by simp at hl, rfl⟩ (fun i H' _ z => trivial) ?_ ?_
        · rintro i x H' H5 hi ⟨cs', n', ys, Ls, g, DD, h63, eD, hY, hL, yl⟩ ⟨rfl, rfl⟩
          have i10 : i < 10 := hi
          refine ⟨rfl, ?_⟩
          refine ⟨_, rfl, _, rfl, d, c, cs', mm, n', m, rfl, DD, h63, m6.2, g.t2, fun al l cs7 n7 H7 g7 D7 h7 nal hal Ll => ?_⟩
          have e7 := g7.lst DD Dc eD
          refine ⟨ys, e7, small1000 (by omega), cs7, n7, ys ++ [.ref al], Ls ++ [l], (g.trans g7).set nD e7, D7.set e7 Dc, h7, upd_same, paired_snoc (lots_upd e7 (g7.lots DD hY)) ?_, fun l' ml => ?_, by rw [List.length_append, yl]; rfl⟩
          · refine ⟨al, rfl, ?_⟩
            show upd H7 D _ al = _
            rw [upd_ne (fun z => by have h6 : H7 al = _ := hal; rw [z, e7] at h6; cases h6)]
            exact hal
          · rcases List.mem_append.mp ml with ml | ml
            · exact hL l' ml
            · rw [List.mem_singleton.mp ml]
              exact Ll
        · rintro H5 ⟨cs5, n5, ys, Ls, g5, D5, h5, e5, hY, hL, yl⟩
          have y10 : ys.length = 10 := yl
          exact hQ' _ _ ⟨D, ys, Ls, cs5, n5, rfl, g5, D5, h5, e5, Dc, hY, hL, by have := Paired.length hY; omega, fun z => absurd z m5⟩
      rintro v H5 ⟨lo, ys, Ls, cs5, n5, rfl, g5, D5, h5, e5, loc, hY, hLs, lenL, sm⟩
      have hR5 := g5.rules D4 (g4.rules hR)
      have hX5 := g5.lots D4 hX
      have ec5 := g5.tup D4 ecl
      refine ⟨_, rfl, lo, rfl, ⟨_, .inl (.inl e5)⟩, ?_⟩
      refine for_it (walk_list (xs := ys)) (fun i σ H' => ∃ (cs : List Int) (n : Int) (v2 v7 v8 : Option V), σ = [some (.ref a), some (.ref d), v2, some (.int m), some (.ref ar), some (.ref cl), some (.ref lo), v7, v8, none, none] ∧ GrD Ps d c H5 H' ∧ DeckAt H' d c cs mm n ∧ cs.length ≤ 63)
        ⟨cs5, n5, _, v7, v8, rfl, GrD.of (Gr.refl g5.t2), D5, h5⟩ (fun i σ H' _ ⟨_, _, _, _, _, _, g, _⟩ => .inl (.inl (g.lst D5 loc e5))) ?_ ?_
      · rintro j y σ H6 H6' hj ⟨cs6, n6, w2, w7, w8, rfl, g6, D6, h6⟩ ⟨rfl, ey⟩
        obtain ⟨l, hl, b, rfl, hb⟩ := paired_get (g6.lots D5 hY) ey
        have Ll := hLs l (List.mem_of_getElem? hl)
        have gl' := good_lot Ll m6'.2
        refine ⟨_, rfl, _, rfl, _, rfl, _, rfl, m, ar, cl, b, rs, L, xs, l, rfl, g6.rules D5 hR5, g6.tup D5 ec5, g6.lots D5 hX5, hSo, few, hb, good, Ll, m6, g6.t2, fun H7 g7 => ⟨_, rfl, ifF rfl ?_⟩⟩
        have D7 := g7.deck D6
        have hb7 := g7.tup hb
        -- a lot with more
        refine ⟨_, rfl, m, rfl, by omega, by omega, fun D nD => ?_⟩
        have gD := Gr.new (o := .lst []) g7.t2 nD
        have Dc : D ≠ c := fun z => by
          rw [z, D7.cl] at nD
          cases nD
        refine lc_it walk_range (fun i H' => ∃ (cs' : List Int) (n' : Int) (ks : List Int), GrD Ps d c H7 H' ∧ DeckAt H' d c cs' mm n' ∧ cs'.length ≤ 63 ∧ H' D = some (.lst (ks.map V.int)) ∧ LotOf i ks ∧ ∀ x ∈ l, x < (i : Int) → x ∈ ks)
          ⟨cs6, n6, [], GrD.of gD, gD.deck D7, h6, upd_same, ⟨.nil, fun x mx => by simp at mx⟩, fun x mx lt => by have := (Ll.2 x mx).1; omega⟩ (fun i H' _ z => trivial) ?_ ?_
        · rintro i x H' H8 hi ⟨cs', n', ks, g, DD, h63, eD, Lk, sub⟩ ⟨rfl, rfl⟩
          have i6 : i < 6 := by omega
          have kl : ks.length ≤ 6 := by
            have := pw_len Lk.1 Lk.2
            omega
          have put : ∀ (H9 : Hp) (cs9 : List Int) (n9 : Int), GrD Ps d c H7 H9 → DeckAt H9 d c cs9 mm n9 → cs9.length ≤ 63 → H9 D = some (.lst (ks.map V.int)) → ∃ (cs' : List Int) (n' : Int) (ks' : List Int), GrD Ps d c H7 (upd H9 D (.lst (ks.map V.int ++ [V.int (0 + (i : Int))]))) ∧ DeckAt (upd H9 D (.lst (ks.map V.int ++ [V.int (0 + (i : Int))]))) d c cs' mm n' ∧ cs'.length ≤ 63 ∧ upd H9 D (.lst (ks.map V.int ++ [V.int (0 + (i : Int))])) D = some (.lst (ks'.map V.int)) ∧ LotOf ((i + 1 : Nat) : Int) ks' ∧ ∀ x ∈ l, x < ((i + 1 : Nat) : Int) → x ∈ ks' := by
            intro H9 cs9 n9 g9 D9 h9 e9
            refine ⟨cs9, n9, ks ++ [(i : Int)], g9.set nD e9, D9.set e9 Dc, h9, ?_, ⟨List.pairwise_append.mpr ⟨Lk.1, by simp, fun a ma b mb => ?_⟩, fun x mx => ?_⟩, fun x mx lt => ?_⟩
            · rw [upd_same, List.map_append, Int.zero_add]
              rfl
            · rw [List.mem_singleton.mp mb]
              exact (Lk.2 a ma).2
            · rcases List.mem_append.mp mx with mx | mx
              · have := Lk.2 x mx
                omega
              · rw [List.mem_singleton.mp mx]
                omega
            · by_cases e : x = (i : Int)
              · rw [e]
                simp
              · exact List.mem_append_left _ (sub x mx (by omega))
          refine ⟨rfl, ?_⟩
          refine ⟨_, rfl, _, rfl, b, _, rfl, .inr (.inl (.inl (g.tup D7 hb7))), rfl, flat_ints _, _, rfl, ?_⟩
          rw [inV_ints]
          by_cases mz : (0 + (i : Int)) ∈ l
          · refine ifT (show decide ((0 + (i : Int)) ∈ l) = true from decide_eq_true mz) (iteT ?_)
            exact ⟨_, rfl, _, eD, by rw [List.length_map]; exact small1000 (by omega), put _ _ _ g DD h63 eD⟩
          · refine ifF (show decide ((0 + (i : Int)) ∈ l) = false from decide_eq_false mz) ?_
            refine ⟨_, rfl, d, c, cs', mm, n', 3, rfl, DD, h63, by decide, by decide, fun r n9 cs9 H9 r0 r1 D9 h9 s9 => ?_⟩
            have g9 := GrD.draw g.t2 DD s9
            have e9 := g9.lst DD Dc eD
            refine ⟨rfl, _, rfl, ite2 (fun _ => ?_) (fun _ => ?_)⟩
            · exact ⟨_, rfl, _, e9, by rw [List.length_map]; exact small1000 (by omega), put _ _ _ (g.trans g9) D9 h9 e9⟩
            · refine ⟨cs9, n9, ks, g.trans g9, D9, h9, e9, ⟨Lk.1, fun x mx => ?_⟩, fun x mx lt => sub x mx ?_⟩
              · have := Lk.2 x mx
                omega
              · have : x ≠ (i : Int) := fun e => mz (by rw [Int.zero_add, ← e]; exact mx)
                omega
        · rintro H8 ⟨cs8, n8, ks, g8, D8, h8, e8, Lk, sub⟩
          rw [Int.toNat_natCast] at Lk sub
          refine ⟨D, ks.map V.int, rfl, .inl ⟨.inl (.inl e8), fun u nu => ?_⟩⟩
          have gu := Gr.new (o := .tup (ks.map V.int)) g8.t2 nu
          have gk := good_lot Lk m6'.2
          have R8 := gu.rules (g8.rules D7 (g7.rules (g6.rules D5 hR5)))
          have hb9 := gu.tup (g8.tup D7 hb7)
          refine ⟨_, rfl, _, rfl, _, rfl, m, ar, u, rs, ks, rfl, R8, upd_same, good, gk.1, by omega, m6', gu.t2, fun p1 c1 H9 g9 np1 hp1 clo1 => ?_⟩
          refine ⟨_, rfl, _, rfl, _, rfl, m, ar, b, rs, l, rfl, g9.rules R8, g9.tup hb9, good, gl'.1, by omega, m6', g9.t2, fun p2 c2 Ha ga np2 hp2 clo2 => ?_⟩
          have sub2 : ∀ x ∈ c2, x ∈ c1 := clo2.least c1 (fun x mx => clo1.sub x (sub x mx (Ll.2 x mx).2)) clo1.shut
          have len2 : c2.length ≤ 60 := by
            have nd := pw_nodup clo2.pw
            have w : ∀ x ∈ c2, 0 ≤ x ∧ x < (m : Int) := clo2.least (others m (-1)) (fun x mx => others_mem.mpr ⟨Ll.2 x mx, by have := (Ll.2 x mx).1; omega⟩) (fun r mr _ => others_mem.mpr ⟨(good.all r mr).fact, by have := (good.all r mr).fact.1; omega⟩) |> fun h x mx => (others_mem.mp (h x mx)).1
            have := nodup_len nd w
            omega
          refine ⟨p1, p2, c1, c2, rfl, ga.tup hp1, hp2, len2, ga.t2, fun Hb gb => ⟨_, rfl, ?_⟩⟩
          rw [hasB_iff.mpr sub2]
          refine ifF rfl ?_
          have gall := gu.trans (g9.trans (ga.trans gb))
          exact ⟨cs8, n8, _, _, _, rfl, g6.trans ((GrD.of g7).trans (g8.trans (GrD.of gall))), gall.deck D8, h8⟩
      · rintro σ H6 ⟨cs6, n6, w2, w7, w8, rfl, g6, D6, h6⟩
        have hR6 := g6.rules D5 hR5
        have hX6 := g6.lots D5 hX5
        have ec6 := g6.tup D5 ec5
        have e6 := g6.lst D5 loc e5
        have hY6 := g6.lots D5 hY
        refine ⟨_, rfl, cl, xs, rfl, .inr (.inl (.inl ec6)), _, _, rfl, rfl, _, rfl, ?_⟩
        by_cases c24 : ((xs.length : Nat) : Int) ≤ 24
        · refine ifT (decide_eq_true c24) ⟨_, rfl, _, rfl, _, rfl, m, ar, cl, rs, L, xs, rfl, hR6, ec6, hX6, hSo, few, good, m6, g6.t2, fun H7 g7 => ⟨_, rfl, ifF rfl ?_⟩⟩
          have D7 := g7.deck D6
          have hR7 := g7.rules hR6
          have hX7 := g7.lots hX6
          have ec7 := g7.tup ec6
          have e7 := g7.lst e6
          have hY7 := g7.lots hY6
          have t7 := g7.t2
          refine ⟨_, rfl, _, _, rfl, rfl, _, rfl, ?_⟩
          by_cases m5 : (m : Int) < 5
          · have eL := sm m5
            refine ifT (decide_eq_true m5) ⟨_, rfl, lo, rfl, ⟨_, .inl (.inl e7)⟩, fun D nD => ?_⟩
            have gD := Gr.new (o := .lst []) t7 nD
            refine lc_it (walk_list (xs := ys)) (fun i H' => ∃ ps : List (Addr × List Int), Gr Ps _ H' ∧ H' D = some (.lst (ps.map fun p => V.ref p.1)) ∧ (∀ p ∈ ps, Ints H' p.1 p.2) ∧ ps.length = i ∧ Paired (IsClo rs) (Ls.take i) (ps.map (·.2))) ⟨[], gD, upd_same, fun p mp => by simp at mp, rfl, .nil⟩ (fun i H' _ ⟨_, z, _⟩ => .inl (.inl (z.lst e7))) ?_ ?_
            · rintro i x H' H8 hi ⟨ps, g, eD, hp, pl, pc⟩ ⟨rfl, ex⟩
              obtain ⟨l, hl, b, rfl, hb⟩ := paired_get (g.lots hY7) ex
              have Ll := hLs l (List.mem_of_getElem? hl)
              have gl' := good_lot Ll m6'.2
              have yl := Paired.length hY7
              refine ⟨rfl, ?_⟩
              refine ⟨_, rfl, _, rfl, _, rfl, m, ar, b, rs, l, rfl, g.rules hR7, hb, good, gl'.1, by omega, m6', g.t2, fun pp cc H9 g9 np hp9 clo => ?_⟩
              have e9 := g9.lst eD
              have still : ∀ (b : Addr) (l : List Int), Ints H9 b l → Ints (upd H9 D (.lst (ps.map (fun p => V.ref p.1) ++ [V.ref pp]))) b l := fun b l h => by
                show upd H9 D _ b = _
                rw [upd_ne (fun z => by have h6 : H9 b = _ := h; rw [z, e9] at h6; cases h6)]
                exact h
              refine ⟨_, e9, by rw [List.length_map]; exact small1000 (by omega), ps ++ [(pp, cc)], (g.trans g9).set nD e9, by rw [upd_same, List.map_append]; rfl, fun p mp => ?_, by rw [List.length_append, pl]; rfl, ?_⟩
              · rcases List.mem_append.mp mp with mp | mp
                · exact still _ _ (g9.tup (hp p mp))
                · rw [List.mem_singleton.mp mp]
                  exact still _ _ hp9
              · rw [take_snoc hl, List.map_append]
                exact paired_snoc pc clo
            · rintro H8 ⟨ps, g, eD, hp, pl, pc⟩
              have yl := Paired.length hY7
              rw [← yl, List.take_length] at pc
              refine ⟨D, ps, rfl, .inl (.inl eD), fun p mp => .inl (.inl (hp p mp)), by omega, fun sa LL nsa in1 in2 => ?_⟩
              have gs := Gr.new (o := SetTO P w sa LL) g.t2 nsa
              refine ⟨sa, LL, rfl, upd_same, fun p mp => gs.tup (hp p (in1 p mp)), fun ks zs u hZ pk nk pw nu => ?_⟩
              have gu := Gr.new (o := .lst zs) gs.t2 nu
              refine ⟨_, rfl, cl, xs, rfl, .inr (.inl (.inl (gu.tup (gs.tup (g.tup ec7))))), fun v nv => ?_⟩
              have gv := Gr.new (o := .lst xs) gu.t2 nv
              have gall := g.trans (gs.trans (gu.trans gv))
              have so : Sorted (ClosedOf m rs) ks := sorted_of (L := ks) (List.Perm.refl ks) pw nk fun l => by
                rw [pk.mem_iff]
                constructor
                · intro ml
                  obtain ⟨p, mp, rfl⟩ := List.mem_map.mp ml
                  obtain ⟨l0, ml0, cl0⟩ := paired_right pc _ (List.mem_map.mpr ⟨p, in1 p mp, rfl⟩)
                  exact ⟨clo_lot (hLs l0 ml0) good cl0, cl0.shut⟩
                · intro hcl
                  have ml : l ∈ Ls := by
                    rw [eL]
                    exact (allL_mem m l).mpr hcl.1
                  obtain ⟨c1, mc1, cl1⟩ := paired_left pc l ml
                  have e : c1 = l := cl1.unique ⟨hcl.1.1, fun x h => h, hcl.2, fun d h _ => h⟩
                  obtain ⟨p, mp, ep⟩ := List.mem_map.mp mc1
                  rw [← e, ← ep]
                  exact in2 p mp
              have eK : ks = L := sorted_ext so.pw hSo.pw fun x => (so.mem x).trans (hSo.mem x).symm
              rw [eK] at hZ
              refine ⟨.list (L.map dLot), .list (L.map dLot), .lst (.inl (.inl (gv.lst upd_same))) (dp_lots (gv.lots (gu.lots hZ))), .lst (.inl (.inl upd_same)) (dp_lots (gall.lots hX7)), shaped_lots L, shaped_lots L, _, rfl, ?_⟩
              have eq : PyData.eqv (.list (L.map dLot)) (.list (L.map dLot)) = true := by
                simp only [PyData.eqv]
                exact eqvAll_lots L
              rw [eq]
              refine ifF rfl ?_
              exact ⟨cs6, n6, _, _, _, _, _, _, _, rfl, gall.deck D7, h6, gall.t2⟩
          · refine ifF (decide_eq_false m5) (iteF ?_)
            exact ⟨cs6, n6, _, _, _, _, _, _, _, rfl, D7, h6, t7⟩
        · refine ifF (decide_eq_false c24) (iteF ?_)
          have D7 := D6
          have hR7 := hR6
          have hX7 := hX6
          have ec7 := ec6
          have e7 := e6
          have hY7 := hY6
          have t7 := g6.t2
          refine ⟨_, rfl, _, _, rfl, rfl, _, rfl, ?_⟩
          by_cases m5 : (m : Int) < 5
          · have eL := sm m5
            refine ifT (decide_eq_true m5) ⟨_, rfl, lo, rfl, ⟨_, .inl (.inl e7)⟩, fun D nD => ?_⟩
            have gD := Gr.new (o := .lst []) t7 nD
            refine lc_it (walk_list (xs := ys)) (fun i H' => ∃ ps : List (Addr × List Int), Gr Ps _ H' ∧ H' D = some (.lst (ps.map fun p => V.ref p.1)) ∧ (∀ p ∈ ps, Ints H' p.1 p.2) ∧ ps.length = i ∧ Paired (IsClo rs) (Ls.take i) (ps.map (·.2))) ⟨[], gD, upd_same, fun p mp => by simp at mp, rfl, .nil⟩ (fun i H' _ ⟨_, z, _⟩ => .inl (.inl (z.lst e7))) ?_ ?_
            · rintro i x H' H8 hi ⟨ps, g, eD, hp, pl, pc⟩ ⟨rfl, ex⟩
              obtain ⟨l, hl, b, rfl, hb⟩ := paired_get (g.lots hY7) ex
              have Ll := hLs l (List.mem_of_getElem? hl)
              have gl' := good_lot Ll m6'.2
              have yl := Paired.length hY7
              refine ⟨rfl, ?_⟩
              refine ⟨_, rfl, _, rfl, _, rfl, m, ar, b, rs, l, rfl, g.rules hR7, hb, good, gl'.1, by omega, m6', g.t2, fun pp cc H9 g9 np hp9 clo => ?_⟩
              have e9 := g9.lst eD
              have still : ∀ (b : Addr) (l : List Int), Ints H9 b l → Ints (upd H9 D (.lst (ps.map (fun p => V.ref p.1) ++ [V.ref pp]))) b l := fun b l h => by
                show upd H9 D _ b = _
                rw [upd_ne (fun z => by have h6 : H9 b = _ := h; rw [z, e9] at h6; cases h6)]
                exact h
              refine ⟨_, e9, by rw [List.length_map]; exact small1000 (by omega), ps ++ [(pp, cc)], (g.trans g9).set nD e9, by rw [upd_same, List.map_append]; rfl, fun p mp => ?_, by rw [List.length_append, pl]; rfl, ?_⟩
              · rcases List.mem_append.mp mp with mp | mp
                · exact still _ _ (g9.tup (hp p mp))
                · rw [List.mem_singleton.mp mp]
                  exact still _ _ hp9
              · rw [take_snoc hl, List.map_append]
                exact paired_snoc pc clo
            · rintro H8 ⟨ps, g, eD, hp, pl, pc⟩
              have yl := Paired.length hY7
              rw [← yl, List.take_length] at pc
              refine ⟨D, ps, rfl, .inl (.inl eD), fun p mp => .inl (.inl (hp p mp)), by omega, fun sa LL nsa in1 in2 => ?_⟩
              have gs := Gr.new (o := SetTO P w sa LL) g.t2 nsa
              refine ⟨sa, LL, rfl, upd_same, fun p mp => gs.tup (hp p (in1 p mp)), fun ks zs u hZ pk nk pw nu => ?_⟩
              have gu := Gr.new (o := .lst zs) gs.t2 nu
              refine ⟨_, rfl, cl, xs, rfl, .inr (.inl (.inl (gu.tup (gs.tup (g.tup ec7))))), fun v nv => ?_⟩
              have gv := Gr.new (o := .lst xs) gu.t2 nv
              have gall := g.trans (gs.trans (gu.trans gv))
              have so : Sorted (ClosedOf m rs) ks := sorted_of (L := ks) (List.Perm.refl ks) pw nk fun l => by
                rw [pk.mem_iff]
                constructor
                · intro ml
                  obtain ⟨p, mp, rfl⟩ := List.mem_map.mp ml
                  obtain ⟨l0, ml0, cl0⟩ := paired_right pc _ (List.mem_map.mpr ⟨p, in1 p mp, rfl⟩)
                  exact ⟨clo_lot (hLs l0 ml0) good cl0, cl0.shut⟩
                · intro hcl
                  have ml : l ∈ Ls := by
                    rw [eL]
                    exact (allL_mem m l).mpr hcl.1
                  obtain ⟨c1, mc1, cl1⟩ := paired_left pc l ml
                  have e : c1 = l := cl1.unique ⟨hcl.1.1, fun x h => h, hcl.2, fun d h _ => h⟩
                  obtain ⟨p, mp, ep⟩ := List.mem_map.mp mc1
                  rw [← e, ← ep]
                  exact in2 p mp
              have eK : ks = L := sorted_ext so.pw hSo.pw fun x => (so.mem x).trans (hSo.mem x).symm
              rw [eK] at hZ
              refine ⟨.list (L.map dLot), .list (L.map dLot), .lst (.inl (.inl (gv.lst upd_same))) (dp_lots (gv.lots (gu.lots hZ))), .lst (.inl (.inl upd_same)) (dp_lots (gall.lots hX7)), shaped_lots L, shaped_lots L, _, rfl, ?_⟩
              have eq : PyData.eqv (.list (L.map dLot)) (.list (L.map dLot)) = true := by
                simp only [PyData.eqv]
                exact eqvAll_lots L
              rw [eq]
              refine ifF rfl ?_
              exact ⟨cs6, n6, _, _, _, _, _, _, _, rfl, gall.deck D7, h6, gall.t2⟩
          · refine ifF (decide_eq_false m5) (iteF ?_)
            exact ⟨cs6, n6, _, _, _, _, _, _, _, rfl, D7, h6, t7⟩
    · rintro σ H1 _
      exact q _
end
end EX

-- L15
set_option Elab.async false
set_option linter.all false
set_option maxRecDepth 100000
set_option maxHeartbeats 4000000
/-! the call of the law behind the top, the tables of code objects tracked -/
namespace EX
open PySem PySem.Spec PyProof.Rows L2
section
variable {P : Program} {w : World} {K : PySem.W.Frag} {mg : Str → Option Value}
theorem law_called {mb : Str → Option Value} {f a : Addr} {fd : FuncData} {s1 : Shared} {vs : List Value} {ns : List Int} {cs : List (Addr × Addr)} (KX : K.In s1.heap) (hn : s1.heap.Ns mainGlobals mg) (hb : s1.heap.Ns builtinsNs mb) (hbb : ∀ x : Str, x ≠ "__name__" → mb x = bootBuiltins x) (hlim : s1.heap.NoLimit) (hg : s1.gens = #[])
    (hT : ∀ p ∈ cs, s1.heap.get? p.2 = some { cls := .none, data := .fields #[] }) (nT : ∀ p ∈ cs, K.lookup p.2 = none) (C : ∀ p ∈ cs, PySem.W.CodeHd s1.heap p.1 p.2)
    (hbm : ∃ (bm : Addr) (ob : Obj), mg "__builtins__" = some (.ref bm) ∧ bm ≠ builtinsNs ∧ s1.heap.get? bm = some ob ∧ ob.cls = .type "module" ∧ ob.dict = some builtinsNs ∧ ob.data = .plain)
    (ha : s1.heap.get? a = some { cls := .type "list", data := .seq vs.toArray }) (hi : IntsAre vs ns) (hl : ns.length ≤ 63)
    (F : ∀ base : Heap, K.In base → base.Ns mainGlobals mg → (∀ p ∈ cs, GxR.TabB base mg p.1 p.2) → FnG P w K mg base 13 f fd ["_law_script"] (spLaw K (cs.map (·.2)))) (hbind : ∀ (s : Shared) (u : Value), BindsTo s fd ⟨[u], []⟩ [("_law_script", u)]) :
    codeAny (model P w) callerA (.call (.ref f) ⟨[.ref a], []⟩) (fun r s' => r = .ok (.ret (.bool true)) ∧ OldK s1.heap s'.heap ∧ s'.os = s1.os ∧ AllBare s'.gens) s1 := by
  have rv := vals_ints hi
  have lenV := hi.length
  have small : ns.length ≤ sizeLine := lt_size (by omega)
  have isT : ∀ b, b ∈ cs.map (·.2) → s1.heap.get? b = some { cls := .none, data := .fields #[] } ∧ K.lookup b = none := fun b hb => by
    obtain ⟨p, hp, rfl⟩ := List.mem_map.mp hb
    exact ⟨hT p hp, nT p hp⟩
  have aT : a ∉ cs.map (·.2) := fun z => by
    have q := (isT a z).1
    rw [ha] at q
    cases q
  have go : ∀ H : Hp, (∀ b, b ∈ cs.map (·.2) → H b = some (.tbl #[])) → SqL K H a (ns.map V.int) → HOk P w H s1.heap → (∀ b u, H b = some u → b ∈ cs.map (·.2) ∨ (b = a ∧ K.lookup a = none ∧ ∃ o xs, u = .frz o (.lst xs))) →
      codeAny (model P w) callerA (.call (.ref f) ⟨[.ref a], []⟩) (fun r s' => r = .ok (.ret (.bool true)) ∧ OldK s1.heap s'.heap ∧ s'.os = s1.os ∧ AllBare s'.gens) s1 := by
    intro H hH hS hok hA
    -- what is neither the script nor a table is not tracked
    have free : ∀ {b : Addr} {o : Obj}, s1.heap.get? b = some o → (∀ vs n, o.data ≠ .seq vs n) → o.data ≠ .fields #[] → H b = none := fun {b o} e h1 h2 => by
      cases q : H b with
      | none => rfl
      | some u =>
        rcases hA b u q with z | ⟨rfl, _⟩
        · rw [(isT b z).1] at e
          cases e
          exact absurd rfl h2
        · rw [ha] at e
          cases e
          exact absurd rfl (h1 _ _)
    have ns' : ∀ {b : Addr} {m : Str → Option Value}, s1.heap.Ns b m → (hidT s1.heap H).Ns b m := fun {b m} ⟨o, es, ep, e, d, r⟩ =>
      ⟨o, es, ep, hidT_get e (free e (fun vs n z => by rw [d] at z; cases z) fun z => by rw [d] at z; cases z), d, r⟩
    have KB : K.In (hidT s1.heap H) := fun b o e => hidT_get (KX b o e) (by
      cases q : H b with
      | none => rfl
      | some u =>
        rcases hA b u q with z | ⟨rfl, z, _⟩
        · rw [(isT b z).2] at e
          cases e
        · rw [e] at z
          cases z)
    obtain ⟨mc, l1, l2⟩ := hlim
    have M : Mod K mg (hidT s1.heap H) := ⟨KB, ns' hn, ⟨mb, ns' hb, hbb⟩, ⟨mc, ns' l1, l2⟩⟩
    have TB : ∀ p ∈ cs, GxR.TabB (hidT s1.heap H) mg p.1 p.2 := fun p hp => by
      refine ⟨?_, ?_, fun z => ?_⟩
      · obtain ⟨o, us, file, tf, flags, tg, inF, text, tt, e1, r1, r2, r3, r⟩ := C p hp
        refine ⟨o, us, file, tf, flags, tg, inF, text, tt, hidT_get e1 (free e1 (fun vs n z => by rw [r2] at z; cases z) fun z => ?_), r1, r2, r3, r⟩
        rw [r2] at z
        cases z
        simp at r3
      · obtain ⟨bm, ob, b1, b2, b3, b4, b5, b6⟩ := hbm
        refine ⟨bm, ob, b1, b2, fun q => ?_, fun q => ?_, hidT_get b3 (free b3 (fun vs n z => by rw [b6] at z; cases z) fun z => by rw [b6] at z; cases z), b4, b5, b6⟩
        · obtain ⟨o, es, ep, e, hd, _⟩ := hn
          rw [q, e] at b3
          cases b3
          rw [hd] at b6
          cases b6
        · rw [q, hT p hp] at b3
          cases b3
          cases b6
      · obtain ⟨o, es, ep, e, hd, _⟩ := hn
        rw [z, hT p hp] at e
        cases e
        cases hd
    have e0 : Env0 P w K mg (hidT s1.heap H) callerA [] s1 H := ⟨rfl, M, fun b o e => of_hidT e, Nat.le_of_eq (hidT_size _ _), trivial, fun b hb => absurd (show b ∈ ([] : List Addr) from hb) (by simp), hok, .of_eq hg⟩
    have tb : Tb (cs.map (·.2)) H := fun b hb => ⟨#[], hH b hb, by simp [TriplesOk]⟩
    have run := (F _ KB (ns' hn) TB).run callerA [] s1 H ⟨[.ref a], []⟩ [.ref a] [.ref a] (fun v _ => v = .bl true) E0 ⟨rfl, by decide, by decide⟩ rfl e0 (hbind s1 (.ref a)) (.cons rfl .nil) ⟨a, ns, rfl, hS, hl, tb, fun _ => rfl⟩
    refine codeAny_mono run fun r s' z => ?_
    cases r with
    | error e => exact z.elim
    | ok fl =>
      cases fl with
      | ret u =>
        obtain ⟨v, H', os, bare, un, hok', r', q⟩ := z
        obtain rfl : v = .bl true := q
        obtain rfl : u = Value.bool true := r'
        have key : ∀ b o, b ∉ cs.map (·.2) → s1.heap.get? b = some o → s'.heap.get? b = some o := fun b o nb e => by
          cases q : H b with
          | none => exact un.keep b o e q (fun z => absurd (show b ∈ ([] : List Addr) from z) (by simp)) (by simp)
          | some u =>
            rcases hA b u q with z | ⟨_, _, ob, xs, rfl⟩
            · exact absurd z nb
            · obtain ⟨e1, _⟩ := hok b _ q
              obtain ⟨e2, _⟩ := hok' b _ (un.frzs b ob _ q)
              rw [e] at e1
              cases e1
              exact e2
        refine ⟨rfl, ⟨fun b o e => ?_, fun b o e => ?_⟩, os, bare⟩
        · by_cases hb : b ∈ cs.map (·.2)
          · obtain ⟨p, hp, rfl⟩ := List.mem_map.mp hb
            obtain ⟨more, z⟩ := un.tbls p.2 #[] (hH p.2 hb)
            rw [hT p hp] at e
            cases e
            exact .inr (.inl ⟨((C p hp).tab (hT p hp)).isCodeTable, rfl, #[], _, rfl, by rw [Array.empty_append]; exact hok' p.2 _ z⟩)
          · exact .inl (key b o hb e)
        · by_cases hb : b ∈ cs.map (·.2)
          · obtain ⟨more, z⟩ := un.tbls b #[] (hH b hb)
            exact ⟨_, hok' b _ z⟩
          · exact ⟨o, key b o hb e⟩
      | next => exact z.elim
      | brk => exact z.elim
      | cont => exact z.elim
  cases hk : K.lookup a with
  | some o =>
    have e := KX a o hk
    rw [ha] at e
    cases e
    refine go (fun b => if b ∈ cs.map (·.2) then some (.tbl #[]) else none) (fun b hb => if_pos hb) (.inr ⟨_, vs.toArray, _, hk, rfl, rfl, rfl, by rw [List.size_toArray, lenV]; exact small, by simpa using rv⟩) (fun b u z => ?_) (fun b u z => ?_)
    · by_cases hb : b ∈ cs.map (·.2)
      · obtain rfl := Option.some.inj ((if_pos hb).symm.trans z)
        exact (isT b hb).1
      · exact nomatch ((if_neg hb).symm.trans z)
    · by_cases hb : b ∈ cs.map (·.2)
      · exact .inl hb
      · exact nomatch ((if_neg hb).symm.trans z)
  | none =>
    refine go (fun b => if b ∈ cs.map (·.2) then some (.tbl #[]) else if b = a then some (.frz { cls := .type "list", data := .seq vs.toArray } (.lst (ns.map V.int))) else none) (fun b hb => if_pos hb) (.inl (.inr ⟨{ cls := .type "list", data := .seq vs.toArray }, (if_neg aT).trans (if_pos rfl)⟩)) (fun b u z => ?_) (fun b u z => ?_)
    · by_cases hb : b ∈ cs.map (·.2)
      · obtain rfl := Option.some.inj ((if_pos hb).symm.trans z)
        exact (isT b hb).1
      · have z := (if_neg hb).symm.trans z
        by_cases e : b = a
        · subst e
          obtain rfl := Option.some.inj ((if_pos rfl).symm.trans z)
          exact ⟨ha, by rw [List.length_map]; exact small, vs, _, rv, ha⟩
        · exact nomatch ((if_neg e).symm.trans z)
    · by_cases hb : b ∈ cs.map (·.2)
      · exact .inl hb
      · have z := (if_neg hb).symm.trans z
        by_cases e : b = a
        · subst e
          obtain rfl := Option.some.inj ((if_pos rfl).symm.trans z)
          exact .inr ⟨rfl, hk, _, _, rfl⟩
        · exact nomatch ((if_neg e).symm.trans z)
end
end EX

-- L16
set_option Elab.async false
set_option linter.all false
set_option maxRecDepth 100000
set_option maxHeartbeats 4000000
/-! all that the top has left, put together -/
namespace EX
open PySem PySem.Spec PyProof.Rows L2
section
variable {K : PySem.W.Frag} {I c : Addr} {oc kV doc pm ct : Value} {od an : Option Addr} {osl : Array (Option Value)}
/-- a def of the module, its code object at c -/
structure DefF (K : PySem.W.Frag) (x : Str) (st : Stmt) (f c : Addr) : Prop where
  a : PySem.W.nsIn K mainGlobals x = some (some (.ref f))
  ex : ∃ fd : FuncData, Fun K x x st f fd ∧ fd.code = .ref c
theorem defF_mk {x : Str} {st : Stmt} (a : PySem.W.nsIn K mainGlobals x = some (some (.ref I))) (l : K.lookup I = some ⟨oc, od, .func (PySem.W.fnOf x x (defArgs st) (defBody st) (defScope st) .none kV doc pm an (.ref c) ct), osl⟩) (hc : PySem.W.codeIn K (.ref c) x = true) (k : PySem.W.keepIn K (.ref I) = true) : DefF K x st I c :=
  ⟨a, _, fun_mk (st := st) l hc k, rfl⟩
end
def noneB (K : PySem.W.Frag) (xs : List Str) : Bool := xs.all fun x => decide (PySem.W.nsIn K mainGlobals x = some none)
theorem noneB_ok {K : PySem.W.Frag} {xs : List Str} (b : noneB K xs = true) {h : Heap} {mg : Str → Option Value} (X : K.In h) (G : h.Ns mainGlobals mg) {x : Str} (m : x ∈ xs) : mg x = none :=
  PySem.W.mg_none_of X G (of_decide_eq_true ((List.all_eq_true.mp b) x m))
def noNames : List Str := ["isinstance", "int", "bool", "tuple", "all", "len", "range", "list", "enumerate", "sorted", "max", "min", "set", "repr"]
theorem vals_rev {zs : List V} {ws : List Value} (h : Vals zs ws) : Vals zs.reverse ws.reverse := by
  induction h with
  | nil => exact .nil
  | cons a _ ih =>
    rw [List.reverse_cons, List.reverse_cons]
    exact ih.append (.cons a .nil)
theorem mk_all {P : Program} {w : World} {K : PySem.W.Frag} {mg : Str → Option Value} {h : Heap} {fa : Addr} {tk1 tk2 : Tok} {f_i c_i f_f c_f f_b c_b f_a c_a f_l c_l f_r c_r f_n c_n f_s c_s f_q c_q f_t c_t f_h c_h f_c c_c f_p c_p f_u c_u f_x c_x f_o c_o f_y c_y f_D c_D f_W c_W f_P c_P f_L c_L f_R c_R f_S c_S f_C c_C f_T c_T f_Z c_Z f_H c_H f_I c_I f_A c_A f_M c_M : Addr} {tb ta ts th tc ty : Addr} (X : K.In h) (G : h.Ns mainGlobals mg) (hmg : mg "law" = some (.ref fa))
    (d_i : DefF K "is_integer" sIsInt f_i c_i)
    (d_f : DefF K "is_integer_from" sFrom f_f c_f)
    (d_b : DefF K "are_integers_below" sBelow f_b c_b)
    (d_a : DefF K "is_ascending" sAsc f_a c_a)
    (d_l : DefF K "is_lot_of_facts" sIsLot f_l c_l)
    (d_r : DefF K "is_rule" sIsRule f_r c_r)
    (d_n : DefF K "require_number" sReqN f_n c_n)
    (d_s : DefF K "are_rules" sAreRules f_s c_s)
    (d_q : DefF K "require_rules" sReqR f_q c_q)
    (d_t : DefF K "require_lot" sReqL f_t c_t)
    (d_h : DefF K "has_all" sHas f_h c_h)
    (d_c : DefF K "is_closed" sClosed f_c c_c)
    (d_p : DefF K "steps_from" sSteps f_p c_p)
    (d_u : DefF K "closed_up" sUp f_u c_u)
    (d_x : DefF K "closure" sClosure f_x c_x)
    (d_o : DefF K "all_lots" sLots f_o c_o)
    (d_y : DefF K "closed_lots" sClLots f_y c_y)
    (d_D : DefF K "_law_deck" sDeck f_D c_D)
    (d_W : DefF K "_law_draw" sDraw f_W c_W)
    (d_P : DefF K "_law_pick" sPick f_P c_P)
    (d_L : DefF K "_law_lot" sLLot f_L c_L)
    (d_R : DefF K "_law_rule" sLRule f_R c_R)
    (d_S : DefF K "_law_rules" sLRules f_S c_S)
    (d_C : DefF K "_law_closure" sLClo f_C c_C)
    (d_T : DefF K "_law_lots" sLLots f_T c_T)
    (d_Z : DefF K "_law_closed_lots" sLCl f_Z c_Z)
    (d_H : DefF K "_law_has" sLHas f_H c_H)
    (d_I : DefF K "_law_is_closure" sLIs f_I c_I)
    (d_A : DefF K "_law_are_closed" sLAre f_A c_A)
    (d_M : DefF K "law" sLaw f_M c_M)
    (m1 : PySem.W.nsIn K mainGlobals "MOST_FACTS" = some (some (.int 6 tk1))) (m2 : PySem.W.nsIn K mainGlobals "MOST_RULES" = some (some (.int 8 tk2))) (nb : noneB K noNames = true) :
    ∃ fd, (∀ base : Heap, K.In base → base.Ns mainGlobals mg → (∀ p ∈ [(c_b, tb), (c_a, ta), (c_s, ts), (c_h, th), (c_c, tc), (c_y, ty)], GxR.TabB base mg p.1 p.2) → FnG P w K mg base 13 fa fd ["_law_script"] (spLaw K ([(c_b, tb), (c_a, ta), (c_s, ts), (c_h, th), (c_c, tc), (c_y, ty)].map (·.2)))) ∧ ∀ (s : Shared) (u : Value), BindsTo s fd ⟨[u], []⟩ [("_law_script", u)] := by
  have no := fun (x : Str) (m : x ∈ noNames) => noneB_ok nb X G m
  have n_isinstance := no "isinstance" (by decide +kernel)
  have n_int := no "int" (by decide +kernel)
  have n_bool := no "bool" (by decide +kernel)
  have n_tuple := no "tuple" (by decide +kernel)
  have n_all := no "all" (by decide +kernel)
  have n_len := no "len" (by decide +kernel)
  have n_range := no "range" (by decide +kernel)
  have n_list := no "list" (by decide +kernel)
  have n_enumerate := no "enumerate" (by decide +kernel)
  have n_sorted := no "sorted" (by decide +kernel)
  have n_max := no "max" (by decide +kernel)
  have n_min := no "min" (by decide +kernel)
  have n_set := no "set" (by decide +kernel)
  have n_repr := no "repr" (by decide +kernel)
  obtain ⟨fd_i, F_i, e_i⟩ := d_i.ex
  have g_i : mg "is_integer" = some (.ref f_i) := PySem.W.mg_of X G d_i.a
  have b_i : Binds K fd_i ["thing"] [] := F_i.binds (ps := ["thing"]) fun _ _ _ _ _ _ us hl => match us, hl with | [_], _ => rfl
  obtain ⟨fd_f, F_f, e_f⟩ := d_f.ex
  have g_f : mg "is_integer_from" = some (.ref f_f) := PySem.W.mg_of X G d_f.a
  have b_f : Binds K fd_f ["thing", "low", "high"] [] := F_f.binds (ps := ["thing", "low", "high"]) fun _ _ _ _ _ _ us hl => match us, hl with | [_, _, _], _ => rfl
  obtain ⟨fd_b, F_b, e_b⟩ := d_b.ex
  have g_b : mg "are_integers_below" = some (.ref f_b) := PySem.W.mg_of X G d_b.a
  have b_b : Binds K fd_b ["thing", "bound"] [] := F_b.binds (ps := ["thing", "bound"]) fun _ _ _ _ _ _ us hl => match us, hl with | [_, _], _ => rfl
  obtain ⟨fd_a, F_a, e_a⟩ := d_a.ex
  have g_a : mg "is_ascending" = some (.ref f_a) := PySem.W.mg_of X G d_a.a
  have b_a : Binds K fd_a ["integers"] [] := F_a.binds (ps := ["integers"]) fun _ _ _ _ _ _ us hl => match us, hl with | [_], _ => rfl
  obtain ⟨fd_l, F_l, e_l⟩ := d_l.ex
  have g_l : mg "is_lot_of_facts" = some (.ref f_l) := PySem.W.mg_of X G d_l.a
  have b_l : Binds K fd_l ["m", "thing"] [] := F_l.binds (ps := ["m", "thing"]) fun _ _ _ _ _ _ us hl => match us, hl with | [_, _], _ => rfl
  obtain ⟨fd_r, F_r, e_r⟩ := d_r.ex
  have g_r : mg "is_rule" = some (.ref f_r) := PySem.W.mg_of X G d_r.a
  have b_r : Binds K fd_r ["m", "thing"] [] := F_r.binds (ps := ["m", "thing"]) fun _ _ _ _ _ _ us hl => match us, hl with | [_, _], _ => rfl
  obtain ⟨fd_n, F_n, e_n⟩ := d_n.ex
  have g_n : mg "require_number" = some (.ref f_n) := PySem.W.mg_of X G d_n.a
  have b_n : Binds K fd_n ["m"] [] := F_n.binds (ps := ["m"]) fun _ _ _ _ _ _ us hl => match us, hl with | [_], _ => rfl
  obtain ⟨fd_s, F_s, e_s⟩ := d_s.ex
  have g_s : mg "are_rules" = some (.ref f_s) := PySem.W.mg_of X G d_s.a
  have b_s : Binds K fd_s ["m", "thing"] [] := F_s.binds (ps := ["m", "thing"]) fun _ _ _ _ _ _ us hl => match us, hl with | [_, _], _ => rfl
  obtain ⟨fd_q, F_q, e_q⟩ := d_q.ex
  have g_q : mg "require_rules" = some (.ref f_q) := PySem.W.mg_of X G d_q.a
  have b_q : Binds K fd_q ["m", "rules"] [] := F_q.binds (ps := ["m", "rules"]) fun _ _ _ _ _ _ us hl => match us, hl with | [_, _], _ => rfl
  obtain ⟨fd_t, F_t, e_t⟩ := d_t.ex
  have g_t : mg "require_lot" = some (.ref f_t) := PySem.W.mg_of X G d_t.a
  have b_t : Binds K fd_t ["m", "rules", "lot"] [] := F_t.binds (ps := ["m", "rules", "lot"]) fun _ _ _ _ _ _ us hl => match us, hl with | [_, _, _], _ => rfl
  obtain ⟨fd_h, F_h, e_h⟩ := d_h.ex
  have g_h : mg "has_all" = some (.ref f_h) := PySem.W.mg_of X G d_h.a
  have b_h : Binds K fd_h ["lot", "facts"] [] := F_h.binds (ps := ["lot", "facts"]) fun _ _ _ _ _ _ us hl => match us, hl with | [_, _], _ => rfl
  obtain ⟨fd_c, F_c, e_c⟩ := d_c.ex
  have g_c : mg "is_closed" = some (.ref f_c) := PySem.W.mg_of X G d_c.a
  have b_c : Binds K fd_c ["rules", "lot"] [] := F_c.binds (ps := ["rules", "lot"]) fun _ _ _ _ _ _ us hl => match us, hl with | [_, _], _ => rfl
  obtain ⟨fd_p, F_p, e_p⟩ := d_p.ex
  have g_p : mg "steps_from" = some (.ref f_p) := PySem.W.mg_of X G d_p.a
  have b_p : Binds K fd_p ["rules", "lot"] [] := F_p.binds (ps := ["rules", "lot"]) fun _ _ _ _ _ _ us hl => match us, hl with | [_, _], _ => rfl
  obtain ⟨fd_u, F_u, e_u⟩ := d_u.ex
  have g_u : mg "closed_up" = some (.ref f_u) := PySem.W.mg_of X G d_u.a
  have b_u : Binds K fd_u ["rules", "lot"] [] := F_u.binds (ps := ["rules", "lot"]) fun _ _ _ _ _ _ us hl => match us, hl with | [_, _], _ => rfl
  obtain ⟨fd_x, F_x, e_x⟩ := d_x.ex
  have g_x : mg "closure" = some (.ref f_x) := PySem.W.mg_of X G d_x.a
  have b_x : Binds K fd_x ["m", "rules", "lot"] [] := F_x.binds (ps := ["m", "rules", "lot"]) fun _ _ _ _ _ _ us hl => match us, hl with | [_, _, _], _ => rfl
  obtain ⟨fd_o, F_o, e_o⟩ := d_o.ex
  have g_o : mg "all_lots" = some (.ref f_o) := PySem.W.mg_of X G d_o.a
  have b_o : Binds K fd_o ["m"] [] := F_o.binds (ps := ["m"]) fun _ _ _ _ _ _ us hl => match us, hl with | [_], _ => rfl
  obtain ⟨fd_y, F_y, e_y⟩ := d_y.ex
  have g_y : mg "closed_lots" = some (.ref f_y) := PySem.W.mg_of X G d_y.a
  have b_y : Binds K fd_y ["m", "rules"] [] := F_y.binds (ps := ["m", "rules"]) fun _ _ _ _ _ _ us hl => match us, hl with | [_, _], _ => rfl
  obtain ⟨fd_D, F_D, e_D⟩ := d_D.ex
  have g_D : mg "_law_deck" = some (.ref f_D) := PySem.W.mg_of X G d_D.a
  have b_D : Binds K fd_D ["_law_script"] [] := F_D.binds (ps := ["_law_script"]) fun _ _ _ _ _ _ us hl => match us, hl with | [_], _ => rfl
  obtain ⟨fd_W, F_W, e_W⟩ := d_W.ex
  have g_W : mg "_law_draw" = some (.ref f_W) := PySem.W.mg_of X G d_W.a
  have b_W : Binds K fd_W ["_law_deck_here", "_law_many"] [] := F_W.binds (ps := ["_law_deck_here", "_law_many"]) fun _ _ _ _ _ _ us hl => match us, hl with | [_, _], _ => rfl
  obtain ⟨fd_P, F_P, e_P⟩ := d_P.ex
  have g_P : mg "_law_pick" = some (.ref f_P) := PySem.W.mg_of X G d_P.a
  have b_P : Binds K fd_P ["_law_deck_here", "_law_some"] [] := F_P.binds (ps := ["_law_deck_here", "_law_some"]) fun _ _ _ _ _ _ us hl => match us, hl with | [_, _], _ => rfl
  obtain ⟨fd_L, F_L, e_L⟩ := d_L.ex
  have g_L : mg "_law_lot" = some (.ref f_L) := PySem.W.mg_of X G d_L.a
  have b_L : Binds K fd_L ["_law_deck_here", "_law_m"] [] := F_L.binds (ps := ["_law_deck_here", "_law_m"]) fun _ _ _ _ _ _ us hl => match us, hl with | [_, _], _ => rfl
  obtain ⟨fd_R, F_R, e_R⟩ := d_R.ex
  have g_R : mg "_law_rule" = some (.ref f_R) := PySem.W.mg_of X G d_R.a
  have b_R : Binds K fd_R ["_law_deck_here", "_law_m", "_law_most"] [] := F_R.binds (ps := ["_law_deck_here", "_law_m", "_law_most"]) fun _ _ _ _ _ _ us hl => match us, hl with | [_, _, _], _ => rfl
  obtain ⟨fd_S, F_S, e_S⟩ := d_S.ex
  have g_S : mg "_law_rules" = some (.ref f_S) := PySem.W.mg_of X G d_S.a
  have b_S : Binds K fd_S ["_law_deck_here", "_law_m"] [] := F_S.binds (ps := ["_law_deck_here", "_law_m"]) fun _ _ _ _ _ _ us hl => match us, hl with | [_, _], _ => rfl
  obtain ⟨fd_C, F_C, e_C⟩ := d_C.ex
  have g_C : mg "_law_closure" = some (.ref f_C) := PySem.W.mg_of X G d_C.a
  have b_C : Binds K fd_C ["_law_rules_here", "_law_lot_here"] [] := F_C.binds (ps := ["_law_rules_here", "_law_lot_here"]) fun _ _ _ _ _ _ us hl => match us, hl with | [_, _], _ => rfl
  obtain ⟨fd_T, F_T, e_T⟩ := d_T.ex
  have g_T : mg "_law_lots" = some (.ref f_T) := PySem.W.mg_of X G d_T.a
  have b_T : Binds K fd_T ["_law_m"] [] := F_T.binds (ps := ["_law_m"]) fun _ _ _ _ _ _ us hl => match us, hl with | [_], _ => rfl
  obtain ⟨fd_Z, F_Z, e_Z⟩ := d_Z.ex
  have g_Z : mg "_law_closed_lots" = some (.ref f_Z) := PySem.W.mg_of X G d_Z.a
  have b_Z : Binds K fd_Z ["_law_m", "_law_rules_here"] [] := F_Z.binds (ps := ["_law_m", "_law_rules_here"]) fun _ _ _ _ _ _ us hl => match us, hl with | [_, _], _ => rfl
  obtain ⟨fd_H, F_H, e_H⟩ := d_H.ex
  have g_H : mg "_law_has" = some (.ref f_H) := PySem.W.mg_of X G d_H.a
  have b_H : Binds K fd_H ["_law_lot_here", "_law_other"] [] := F_H.binds (ps := ["_law_lot_here", "_law_other"]) fun _ _ _ _ _ _ us hl => match us, hl with | [_, _], _ => rfl
  obtain ⟨fd_I, F_I, e_I⟩ := d_I.ex
  have g_I : mg "_law_is_closure" = some (.ref f_I) := PySem.W.mg_of X G d_I.a
  have b_I : Binds K fd_I ["_law_m", "_law_rules_here", "_law_closed", "_law_lot_here"] [] := F_I.binds (ps := ["_law_m", "_law_rules_here", "_law_closed", "_law_lot_here"]) fun _ _ _ _ _ _ us hl => match us, hl with | [_, _, _, _], _ => rfl
  obtain ⟨fd_A, F_A, e_A⟩ := d_A.ex
  have g_A : mg "_law_are_closed" = some (.ref f_A) := PySem.W.mg_of X G d_A.a
  have b_A : Binds K fd_A ["_law_m", "_law_rules_here", "_law_closed"] [] := F_A.binds (ps := ["_law_m", "_law_rules_here", "_law_closed"]) fun _ _ _ _ _ _ us hl => match us, hl with | [_, _, _], _ => rfl
  obtain ⟨fd_M, F_M, e_M⟩ := d_M.ex
  have g_M : mg "law" = some (.ref f_M) := PySem.W.mg_of X G d_M.a
  have b_M : Binds K fd_M ["_law_script"] [] := F_M.binds (ps := ["_law_script"]) fun _ _ _ _ _ _ us hl => match us, hl with | [_], _ => rfl
  have k_x : KBn K fd_x ["m", "rules", "lot"] 0 ["lot", "rules", "m"] (fun _ ws => ws.reverse) (fun _ zs => zs.reverse) := by
    obtain ⟨oc, od, kV, doc, pm, an, cdv, ct, osl, rfl, lk, hcd⟩ := F_x.ex
    exact ⟨fun s us ws _ h1 h2 => match us, ws, h1, h2 with | [], [_, _, _], _, _ => .of_eq rfl, fun _ r => vals_rev r⟩
  have k_y : KBn K fd_y ["m", "rules"] 0 ["rules", "m"] (fun _ ws => ws.reverse) (fun _ zs => zs.reverse) := by
    obtain ⟨oc, od, kV, doc, pm, an, cdv, ct, osl, rfl, lk, hcd⟩ := F_y.ex
    exact ⟨fun s us ws _ h1 h2 => match us, ws, h1, h2 with | [], [_, _], _, _ => .of_eq rfl, fun _ r => vals_rev r⟩
  have M1 : mg "MOST_FACTS" = some (.int 6 tk1) := PySem.W.mg_of X G m1
  have M2 : mg "MOST_RULES" = some (.int 8 tk2) := PySem.W.mg_of X G m2
  have eL := hmg.symm.trans g_M
  cases eL
  refine ⟨fd_M, fun base KB NB TB => ?_, ?_⟩
  · have T1 := TB (c_b, tb) (by simp)
    have T2 := TB (c_a, ta) (by simp)
    have T3 := TB (c_s, ts) (by simp)
    have T4 := TB (c_h, th) (by simp)
    have T5 := TB (c_c, tc) (by simp)
    have T6 := TB (c_y, ty) (by simp)
    generalize hPs : ([(c_b, tb), (c_a, ta), (c_s, ts), (c_h, th), (c_c, tc), (c_y, ty)] : List (Addr × Addr)).map (·.2) = Ps
    have P1 : tb ∈ Ps := by rw [← hPs]; simp
    have P2 : ta ∈ Ps := by rw [← hPs]; simp
    have P3 : ts ∈ Ps := by rw [← hPs]; simp
    have P4 : th ∈ Ps := by rw [← hPs]; simp
    have P5 : tc ∈ Ps := by rw [← hPs]; simp
    have P6 : ty ∈ Ps := by rw [← hPs]; simp
    have G_i : FnOk P w K mg base CX0 1 f_i fd_i ["thing"] spIsInt := ok_isInt (k := 0) F_i n_isinstance n_int n_bool
    have G_f : FnOk P w K mg base CX0 2 f_f fd_f ["thing", "low", "high"] spFrom := ok_from (k := 0) F_f G_i g_i F_i.kp b_i
    have G_b : FnOk P w K mg base CX0 4 f_b fd_b ["thing", "bound"] (spBelow Ps) := ok_below (k := 0) F_b e_b T1 P1 G_f g_f F_f.kp b_f n_isinstance n_tuple n_all
    have G_a : FnOk P w K mg base CX0 4 f_a fd_a ["integers"] (spAsc Ps) := ok_asc (k := 2) F_a e_a T2 P2 n_len n_range n_all
    have G_l : FnOk P w K mg base CX0 5 f_l fd_l ["m", "thing"] (spIsLot Ps) := ok_isLot (k := 0) F_l G_b g_b F_b.kp b_b G_a g_a F_a.kp b_a
    have G_r : FnOk P w K mg base CX0 6 f_r fd_r ["m", "thing"] (spIsRule Ps) := ok_isRule (k := 0) F_r G_l g_l F_l.kp b_l (G_f.mono (by decide)) g_f F_f.kp b_f n_isinstance n_tuple n_len
    have G_n : FnOk P w K mg base CX0 7 f_n fd_n ["m"] spReqN := ok_reqN (k := 4) F_n (G_f.mono (by decide)) g_f F_f.kp b_f M1
    have G_s : FnOk P w K mg base CX0 8 f_s fd_s ["m", "thing"] (spAreRules Ps) := ok_areRules (k := 0) F_s e_s T3 P3 G_r g_r F_r.kp b_r G_n g_n F_n.kp b_n n_isinstance n_tuple n_len n_all M2
    have G_q : FnOk P w K mg base CX0 9 f_q fd_q ["m", "rules"] (spReqR Ps) := ok_reqR (k := 0) F_q G_s g_s F_s.kp b_s
    have G_t : FnOk P w K mg base CX0 10 f_t fd_t ["m", "rules", "lot"] (spReqL Ps) := ok_reqL (k := 0) F_t G_q g_q F_q.kp b_q (G_l.mono (by decide)) g_l F_l.kp b_l
    have G_h : FnOk P w K mg base CX0 2 f_h fd_h ["lot", "facts"] (spHas Ps) := ok_has (k := 0) F_h e_h T4 P4 n_all
    have G_c : FnOk P w K mg base CX0 4 f_c fd_c ["rules", "lot"] (spClosed Ps) := ok_closed (k := 0) F_c e_c T5 P5 n_all G_h g_h F_h.kp b_h
    have G_p : FnOk P w K mg base CX0 3 f_p fd_p ["rules", "lot"] (spSteps Ps) := ok_steps (k := 0) F_p G_h g_h F_h.kp b_h n_list n_len n_enumerate
    have G_u : FnOk P w K mg base CX0 4 f_u fd_u ["rules", "lot"] (spUp Ps) := ok_up (k := 0) F_u G_p g_p F_p.kp b_p n_tuple n_sorted
    have G_x : FnOk P w K mg base CX0 11 f_x fd_x ["m", "rules", "lot"] (spClo Ps) := ok_closure (k := 0) F_x G_t g_t F_t.kp b_t (G_u.mono (by decide)) g_u F_u.kp b_u
    have G_o : FnOk P w K mg base CX0 1 f_o fd_o ["m"] (spLots Ps) := ok_lots (k := 0) F_o n_range n_sorted
    have G_y : FnOk P w K mg base CX0 11 f_y fd_y ["m", "rules"] (spClLots Ps) := ok_clLots (k := 0) F_y e_y T6 P6 (G_q.mono (by decide)) g_q F_q.kp b_q (G_o.mono (by decide)) g_o F_o.kp b_o (G_c.mono (by decide)) g_c F_c.kp b_c n_tuple
    have G_D : FnOk P w K mg base CX0 12 f_D fd_D ["_law_script"] (spDeck K) := ok_deck (k := 11) F_D n_int n_list
    have G_W : FnOk P w K mg base CX0 1 f_W fd_W ["_law_deck_here", "_law_many"] spDraw := ok_draw (k := 0) F_W n_int n_max
    have G_P : FnOk P w K mg base CX0 2 f_P fd_P ["_law_deck_here", "_law_some"] (spPick K) := ok_pick (k := 0) F_P F_W b_W g_W n_int n_max n_len
    have G_L : FnOk P w K mg base CX0 2 f_L fd_L ["_law_deck_here", "_law_m"] (spLLot Ps) := ok_lLot (k := 0) F_L G_W g_W F_W.kp b_W n_tuple n_range
    have G_R : FnOk P w K mg base CX0 2 f_R fd_R ["_law_deck_here", "_law_m", "_law_most"] (spLRule Ps) := ok_lRule (k := 0) F_R G_W g_W F_W.kp b_W n_tuple n_range n_len n_min n_sorted
    have G_S : FnOk P w K mg base CX0 4 f_S fd_S ["_law_deck_here", "_law_m"] (spLRules Ps) := ok_lRules (k := 0) F_S (G_W.mono (by decide)) g_W F_W.kp b_W (G_P.mono (by decide)) g_P F_P.kp b_P (G_R.mono (by decide)) g_R F_R.kp b_R n_tuple n_range
    have G_C : FnOk P w K mg base CX0 1 f_C fd_C ["_law_rules_here", "_law_lot_here"] (spLClo Ps) := ok_lClo (k := 0) F_C n_tuple n_list n_range n_sorted n_set
    have G_T : FnOk P w K mg base CX0 1 f_T fd_T ["_law_m"] (spLLots Ps) := ok_lLots (k := 0) F_T n_range
    have G_Z : FnOk P w K mg base CX0 2 f_Z fd_Z ["_law_m", "_law_rules_here"] (spLCl Ps) := ok_lCl (k := 0) F_Z G_T g_T F_T.kp b_T n_tuple n_sorted
    have G_H : FnOk P w K mg base CX0 1 f_H fd_H ["_law_lot_here", "_law_other"] (spLHas Ps) := ok_lHas (k := 0) F_H
    have G_I : FnG P w K mg base 12 f_I fd_I ["_law_m", "_law_rules_here", "_law_closed", "_law_lot_here"] (spLIs Ps) := ok_lIs (k := 0) F_I (G_C.mono (by decide)) g_C F_C.kp b_C G_x g_x F_x.kp b_x k_x (G_H.mono (by decide)) g_H F_H.kp b_H n_repr
    have G_A : FnG P w K mg base 12 f_A fd_A ["_law_m", "_law_rules_here", "_law_closed"] (spLAre Ps) := ok_lAre (k := 0) F_A G_y g_y F_y.kp b_y k_y n_repr n_tuple
    exact ok_law F_M {
      deck := ⟨f_D, fd_D, G_D, g_D, F_D.kp, b_D⟩
      draw := ⟨f_W, fd_W, G_W.mono (by decide), g_W, F_W.kp, b_W⟩
      pick := ⟨f_P, fd_P, G_P.mono (by decide), g_P, F_P.kp, b_P⟩
      rules := ⟨f_S, fd_S, G_S.mono (by decide), g_S, F_S.kp, b_S⟩
      clots := ⟨f_Z, fd_Z, G_Z.mono (by decide), g_Z, F_Z.kp, b_Z⟩
      lots := ⟨f_T, fd_T, G_T.mono (by decide), g_T, F_T.kp, b_T⟩
      lot := ⟨f_L, fd_L, G_L.mono (by decide), g_L, F_L.kp, b_L⟩
      isC := ⟨f_I, fd_I, G_I, g_I, F_I.kp, b_I⟩
      are := ⟨f_A, fd_A, G_A, g_A, F_A.kp, b_A⟩
      has := ⟨f_H, fd_H, G_H.mono (by decide), g_H, F_H.kp, b_H⟩
      clo := ⟨f_x, fd_x, G_x.mono (by decide), g_x, F_x.kp, b_x⟩
      none_ := ⟨n_range, n_tuple, n_len, n_sorted, n_set, n_list⟩ }
  · intro s u
    obtain ⟨oc, od, kV, doc, pm, an, cdv, ct, osl, rfl, lk, hcd⟩ := F_M.ex
    exact .of_eq rfl
end EX

-- L17
set_option Elab.async false
set_option linter.all false
set_option maxRecDepth 100000
set_option maxHeartbeats 4000000
/-! the end, all in one -/
namespace EX
open PySem PySem.Spec PyProof.Rows L2
theorem finish {P : Program} {w : World} {K : PySem.W.Frag} {mg : Str → Option Value} {s1 : Shared} {mb : Str → Option Value} {vs : List Value} {ns : List Int} {fa a : Addr} {tk1 tk2 : Tok} {f_i c_i f_f c_f f_b c_b f_a c_a f_l c_l f_r c_r f_n c_n f_s c_s f_q c_q f_t c_t f_h c_h f_c c_c f_p c_p f_u c_u f_x c_x f_o c_o f_y c_y f_D c_D f_W c_W f_P c_P f_L c_L f_R c_R f_S c_S f_C c_C f_T c_T f_Z c_Z f_H c_H f_I c_I f_A c_A f_M c_M : Addr} {tb ta ts th tc ty : Addr} (X : K.In s1.heap) (G : s1.heap.Ns mainGlobals mg) (hmg : mg "law" = some (.ref fa))
    (d_i : DefF K "is_integer" sIsInt f_i c_i)
    (d_f : DefF K "is_integer_from" sFrom f_f c_f)
    (d_b : DefF K "are_integers_below" sBelow f_b c_b)
    (d_a : DefF K "is_ascending" sAsc f_a c_a)
    (d_l : DefF K "is_lot_of_facts" sIsLot f_l c_l)
    (d_r : DefF K "is_rule" sIsRule f_r c_r)
    (d_n : DefF K "require_number" sReqN f_n c_n)
    (d_s : DefF K "are_rules" sAreRules f_s c_s)
    (d_q : DefF K "require_rules" sReqR f_q c_q)
    (d_t : DefF K "require_lot" sReqL f_t c_t)
    (d_h : DefF K "has_all" sHas f_h c_h)
    (d_c : DefF K "is_closed" sClosed f_c c_c)
    (d_p : DefF K "steps_from" sSteps f_p c_p)
    (d_u : DefF K "closed_up" sUp f_u c_u)
    (d_x : DefF K "closure" sClosure f_x c_x)
    (d_o : DefF K "all_lots" sLots f_o c_o)
    (d_y : DefF K "closed_lots" sClLots f_y c_y)
    (d_D : DefF K "_law_deck" sDeck f_D c_D)
    (d_W : DefF K "_law_draw" sDraw f_W c_W)
    (d_P : DefF K "_law_pick" sPick f_P c_P)
    (d_L : DefF K "_law_lot" sLLot f_L c_L)
    (d_R : DefF K "_law_rule" sLRule f_R c_R)
    (d_S : DefF K "_law_rules" sLRules f_S c_S)
    (d_C : DefF K "_law_closure" sLClo f_C c_C)
    (d_T : DefF K "_law_lots" sLLots f_T c_T)
    (d_Z : DefF K "_law_closed_lots" sLCl f_Z c_Z)
    (d_H : DefF K "_law_has" sLHas f_H c_H)
    (d_I : DefF K "_law_is_closure" sLIs f_I c_I)
    (d_A : DefF K "_law_are_closed" sLAre f_A c_A)
    (d_M : DefF K "law" sLaw f_M c_M)
    (m1 : PySem.W.nsIn K mainGlobals "MOST_FACTS" = some (some (.int 6 tk1))) (m2 : PySem.W.nsIn K mainGlobals "MOST_RULES" = some (some (.int 8 tk2))) (nb : noneB K noNames = true)
    (T1 : PySem.W.CodeHd s1.heap c_b tb ∧ s1.heap.get? tb = some (PySem.W.tabObj #[])) (n1 : K.lookup tb = none)
    (T2 : PySem.W.CodeHd s1.heap c_a ta ∧ s1.heap.get? ta = some (PySem.W.tabObj #[])) (n2 : K.lookup ta = none)
    (T3 : PySem.W.CodeHd s1.heap c_s ts ∧ s1.heap.get? ts = some (PySem.W.tabObj #[])) (n3 : K.lookup ts = none)
    (T4 : PySem.W.CodeHd s1.heap c_h th ∧ s1.heap.get? th = some (PySem.W.tabObj #[])) (n4 : K.lookup th = none)
    (T5 : PySem.W.CodeHd s1.heap c_c tc ∧ s1.heap.get? tc = some (PySem.W.tabObj #[])) (n5 : K.lookup tc = none)
    (T6 : PySem.W.CodeHd s1.heap c_y ty ∧ s1.heap.get? ty = some (PySem.W.tabObj #[])) (n6 : K.lookup ty = none)
    (hb : s1.heap.Ns builtinsNs mb) (hbb : ∀ x : Str, x ≠ "__name__" → mb x = bootBuiltins x) (hlim : s1.heap.NoLimit) (hg : s1.gens = #[])
    (hbm : ∃ (bm : Addr) (ob : Obj), mg "__builtins__" = some (.ref bm) ∧ bm ≠ builtinsNs ∧ s1.heap.get? bm = some ob ∧ ob.cls = .type "module" ∧ ob.dict = some builtinsNs ∧ ob.data = .plain)
    (ha : s1.heap.get? a = some { cls := .type "list", data := .seq vs.toArray }) (hi : IntsAre vs ns) (hl : ns.length ≤ 63) :
    codeAny (model P w) callerA (.call (.ref fa) ⟨[.ref a], []⟩) (fun r s' => r = .ok (.ret (.bool true)) ∧ OldK s1.heap s'.heap ∧ s'.os = s1.os ∧ AllBare s'.gens) s1 := by
  obtain ⟨fd, F, hbind⟩ := mk_all (P := P) (w := w) (tb := tb) (ta := ta) (ts := ts) (th := th) (tc := tc) (ty := ty) X G hmg d_i d_f d_b d_a d_l d_r d_n d_s d_q d_t d_h d_c d_p d_u d_x d_o d_y d_D d_W d_P d_L d_R d_S d_C d_T d_Z d_H d_I d_A d_M m1 m2 nb
  refine law_called (cs := [(c_b, tb), (c_a, ta), (c_s, ts), (c_h, th), (c_c, tc), (c_y, ty)]) X G hb hbb hlim hg (fun p hp => ?_) (fun p hp => ?_) (fun p hp => ?_) hbm ha hi hl F hbind
  all_goals
    simp only [List.mem_cons, List.not_mem_nil, or_false] at hp
    rcases hp with rfl | rfl | rfl | rfl | rfl | rfl
  · exact T1.2
  · exact T2.2
  · exact T3.2
  · exact T4.2
  · exact T5.2
  · exact T6.2
  · exact n1
  · exact n2
  · exact n3
  · exact n4
  · exact n5
  · exact n6
  · exact T1.1
  · exact T2.1
  · exact T3.1
  · exact T4.1
  · exact T5.1
  · exact T6.1
end EX

-- L18
set_option Elab.async false
set_option linter.all false
namespace EX
open PySem PySem.Spec PyProof.Rows L2
theorem tabIn_of {K : PySem.W.Frag} {x : Str} {f c P : Addr} {oc oc2 : Value} {od od2 : Option Addr} {fd : FuncData} {osl sl2 : Array (Option Value)} {vs : Array Value} (a : PySem.W.nsIn K mainGlobals x = some (some (.ref f))) (l : K.lookup f = some ⟨oc, od, .func fd, osl⟩) (e : fd.code = .ref c) (lc : K.lookup c = some ⟨oc2, od2, .fields vs, sl2⟩) (v : vs[11]? = some (.ref P)) : PySem.W.tabIn K x = some (c, P) := by
  unfold PySem.W.tabIn
  rw [a]
  simp only [l, e, lc, v]
end EX

-- EndK1
open PySem PySem.W PyProof.Rows
set_option Elab.async false
set_option maxRecDepth 100000 in
set_option maxHeartbeats 0 in
theorem PySem.Challenge.cw_bothandall_k01_whole_closures_and_closed_holds : PySem.Challenge.rw_bothandall_k01_whole_closures_and_closed.Holds := by
  w_on; o_law; k_head; (case hw => w_witness2)
  k_fill
  refine Att.attach_call (n := 63) rfl rfl fun w s₀ s₁ mg mb fa o pm cd doc a vs ns G Y ho hd hcd hmg hobj hints hlen hg => ?_
  have KX := PySem.W.kIn_of Y
  refine' EX.finish (P := PySem.Challenge.rw_bothandall_k01_whole_closures_and_closed.prog) (w := w) KX G.T.g hmg ?d_i ?d_f ?d_b ?d_a ?d_l ?d_r ?d_n ?d_s ?d_q ?d_t ?d_h ?d_c ?d_p ?d_u ?d_x ?d_o ?d_y ?d_D ?d_W ?d_P ?d_L ?d_R ?d_S ?d_C ?d_T ?d_Z ?d_H ?d_I ?d_A ?d_M ?m1 ?m2 ?nb ?T1 ?n1 ?T2 ?n2 ?T3 ?n3 ?T4 ?n4 ?T5 ?n5 ?T6 ?n6 G.T.b G.T.builtins G.T.nolimit hg G.T.bmain hobj hints hlen
  (case d_i => refine' EX.defF_mk ?a ?l ?c ?k; (case a => k_is); (case l => k_is); (case c => k_is); (case k => k_is))
  (case d_f => refine' EX.defF_mk ?a ?l ?c ?k; (case a => k_is); (case l => k_is); (case c => k_is); (case k => k_is))
  (case d_b => refine' EX.defF_mk ?a ?l ?c ?k; (case a => k_is); (case l => k_is); (case c => k_is); (case k => k_is))
  (case d_a => refine' EX.defF_mk ?a ?l ?c ?k; (case a => k_is); (case l => k_is); (case c => k_is); (case k => k_is))
  (case d_l => refine' EX.defF_mk ?a ?l ?c ?k; (case a => k_is); (case l => k_is); (case c => k_is); (case k => k_is))
  (case d_r => refine' EX.defF_mk ?a ?l ?c ?k; (case a => k_is); (case l => k_is); (case c => k_is); (case k => k_is))
  (case d_n => refine' EX.defF_mk ?a ?l ?c ?k; (case a => k_is); (case l => k_is); (case c => k_is); (case k => k_is))
  (case d_s => refine' EX.defF_mk ?a ?l ?c ?k; (case a => k_is); (case l => k_is); (case c => k_is); (case k => k_is))
  (case d_q => refine' EX.defF_mk ?a ?l ?c ?k; (case a => k_is); (case l => k_is); (case c => k_is); (case k => k_is))
  (case d_t => refine' EX.defF_mk ?a ?l ?c ?k; (case a => k_is); (case l => k_is); (case c => k_is); (case k => k_is))
  (case d_h => refine' EX.defF_mk ?a ?l ?c ?k; (case a => k_is); (case l => k_is); (case c => k_is); (case k => k_is))
  (case d_c => refine' EX.defF_mk ?a ?l ?c ?k; (case a => k_is); (case l => k_is); (case c => k_is); (case k => k_is))
  (case d_p => refine' EX.defF_mk ?a ?l ?c ?k; (case a => k_is); (case l => k_is); (case c => k_is); (case k => k_is))
  (case d_u => refine' EX.defF_mk ?a ?l ?c ?k; (case a => k_is); (case l => k_is); (case c => k_is); (case k => k_is))
  (case d_x => refine' EX.defF_mk ?a ?l ?c ?k; (case a => k_is); (case l => k_is); (case c => k_is); (case k => k_is))
  (case d_o => refine' EX.defF_mk ?a ?l ?c ?k; (case a => k_is); (case l => k_is); (case c => k_is); (case k => k_is))
  (case d_y => refine' EX.defF_mk ?a ?l ?c ?k; (case a => k_is); (case l => k_is); (case c => k_is); (case k => k_is))
  (case d_D => refine' EX.defF_mk ?a ?l ?c ?k; (case a => k_is); (case l => k_is); (case c => k_is); (case k => k_is))
  (case d_W => refine' EX.defF_mk ?a ?l ?c ?k; (case a => k_is); (case l => k_is); (case c => k_is); (case k => k_is))
  (case d_P => refine' EX.defF_mk ?a ?l ?c ?k; (case a => k_is); (case l => k_is); (case c => k_is); (case k => k_is))
  (case d_L => refine' EX.defF_mk ?a ?l ?c ?k; (case a => k_is); (case l => k_is); (case c => k_is); (case k => k_is))
  (case d_R => refine' EX.defF_mk ?a ?l ?c ?k; (case a => k_is); (case l => k_is); (case c => k_is); (case k => k_is))
  (case d_S => refine' EX.defF_mk ?a ?l ?c ?k; (case a => k_is); (case l => k_is); (case c => k_is); (case k => k_is))
  (case d_C => refine' EX.defF_mk ?a ?l ?c ?k; (case a => k_is); (case l => k_is); (case c => k_is); (case k => k_is))
  (case d_T => refine' EX.defF_mk ?a ?l ?c ?k; (case a => k_is); (case l => k_is); (case c => k_is); (case k => k_is))
  (case d_Z => refine' EX.defF_mk ?a ?l ?c ?k; (case a => k_is); (case l => k_is); (case c => k_is); (case k => k_is))
  (case d_H => refine' EX.defF_mk ?a ?l ?c ?k; (case a => k_is); (case l => k_is); (case c => k_is); (case k => k_is))
  (case d_I => refine' EX.defF_mk ?a ?l ?c ?k; (case a => k_is); (case l => k_is); (case c => k_is); (case k => k_is))
  (case d_A => refine' EX.defF_mk ?a ?l ?c ?k; (case a => k_is); (case l => k_is); (case c => k_is); (case k => k_is))
  (case d_M => refine' EX.defF_mk ?a ?l ?c ?k; (case a => k_is); (case l => k_is); (case c => k_is); (case k => k_is))
  (case m1 => first | k_is | kernel_rfl)
  (case m2 => first | k_is | kernel_rfl)
  (case nb => kernel_rfl)
  (case T1 => exact PySem.W.tab_of (x := PySem.Str.ofString "are_integers_below") G.T KX rfl (by refine' EX.tabIn_of ?a ?l ?e ?lc ?v; (case a => k_is); (case l => k_is); (case e => rfl); (case lc => k_is); (case v => rfl)))
  (case T2 => exact PySem.W.tab_of (x := PySem.Str.ofString "is_ascending") G.T KX rfl (by refine' EX.tabIn_of ?a ?l ?e ?lc ?v; (case a => k_is); (case l => k_is); (case e => rfl); (case lc => k_is); (case v => rfl)))
  (case T3 => exact PySem.W.tab_of (x := PySem.Str.ofString "are_rules") G.T KX rfl (by refine' EX.tabIn_of ?a ?l ?e ?lc ?v; (case a => k_is); (case l => k_is); (case e => rfl); (case lc => k_is); (case v => rfl)))
  (case T4 => exact PySem.W.tab_of (x := PySem.Str.ofString "has_all") G.T KX rfl (by refine' EX.tabIn_of ?a ?l ?e ?lc ?v; (case a => k_is); (case l => k_is); (case e => rfl); (case lc => k_is); (case v => rfl)))
  (case T5 => exact PySem.W.tab_of (x := PySem.Str.ofString "is_closed") G.T KX rfl (by refine' EX.tabIn_of ?a ?l ?e ?lc ?v; (case a => k_is); (case l => k_is); (case e => rfl); (case lc => k_is); (case v => rfl)))
  (case T6 => exact PySem.W.tab_of (x := PySem.Str.ofString "closed_lots") G.T KX rfl (by refine' EX.tabIn_of ?a ?l ?e ?lc ?v; (case a => k_is); (case l => k_is); (case e => rfl); (case lc => k_is); (case v => rfl)))
  (case n1 => kernel_rfl)
  (case n2 => kernel_rfl)
  (case n3 => kernel_rfl)
  (case n4 => kernel_rfl)
  (case n5 => kernel_rfl)
  (case n6 => kernel_rfl)
