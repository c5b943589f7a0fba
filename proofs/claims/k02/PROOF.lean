import PyProof.Rows.All
import Wide.All
import OpenK.AllK
import Wide.FinOn
import PySem.Challenge.RW_borderflow_k02_whole_rows_in_least_form
import PyProof.EqAt
import PyProof.EqKinds
import PyProof.TupleCall
import KE.KFromBytes
import KE.KExcInit
import KE.KExcIs
import HandS.Base
import HandS.Call
import HandS.List
import HandS.Ends
import HandS.Exc
import HandS.ExcInit
import HandS.Defaults
import HandS.MakeKw
import HandS.IsInst
import HandS.ExcField
import HandS.ForMost
import HandS.ForExc
import HandS.Zip
import HandS.Evl
import HandS.Walk
import HandS.Style
import HandS.CallSlots
import HandS.Wide
import HandS.Iter
import KE.GoesEnum
import KE.GoesMore
import HandS.TupAny
import HandS.Conv
import HandS.SortInts
import HandS.FStr
import HandS.Star
import HandS.More
import HandS.Text
import PyProof.SeqIndex
import HandS.Comp
import HandS.Small
import HandS.SortOrd
import PyProof.P3In
import HandS.SlotsOwn
import HandS.OwnEq
import KE.KOpsOwn
import HandS.TupMul
import HandS.MakeKwOnly
import HandS.HeadHook2
import KE.KCallOwn
import HandS.Flow
import HandS.HeadWalk
import HandS.FStrTup
import PyProof.ReprHeadsTuple
import HandS.HotCalls
import HandS.Lambda
import HandS.SortKw
import KE.DataMinKey
import KE.DataMinMax
import HandS.HeadHook4
import HandS.HeadHook1
import HandS.HeadHook3
import KE.KStateDown
import HandS.Head0
import HandS.Head1
import HandS.Head2
import HandS.Head3
import HandS.HeadEnd
set_option Elab.async false
set_option linter.all false
set_option maxRecDepth 100000
set_option maxHeartbeats 4000000
namespace PySem
namespace EXR
open PySem.W PySem.Calls PyProof.Rows PySem.HandSPX
open Builtin Builtin.ObjectAttr
section
variable {M : Model} {A : Around} {E : Value → Shared → Prop} {h : Heap} {g : Array GenState} {d : Drawn} {t : Nat} {os : OsState}
variable {nm q : Str} {C N : Addr} {bs bm bmB : List Value} {hdct : Bool} {sn : List Str} {sub : List Value} {ab : Bool} {col : Option Bool} {dd : Option Addr} {k0 k1 k2 k3 k5 : Option Value} {B newId initId : String}
theorem check_new_kw (F : ExcBaseFacts B newId initId bmB) (hT : ∀ X : String, bm.contains (.type X) = bmB.contains (.type X)) {rest : List Value} {kw : List (Str × Value)} {Q : Unit → Shared → Prop}
    (hC : h.get? C = some (excClassObj nm q C N bs bm hdct sn sub ab col dd k0 k1 k2 k3 k5 newId)) (hq : Q () ⟨h, g, d, t, os⟩) : wpAny M A (checkBuiltinCall newId ⟨.ref C :: rest, kw⟩) Q E ⟨h, g, d, t, os⟩ := by
  have hcont : (Value.ref C :: bm).contains (.type B) = true := by rw [List.contains_cons, hT, F.hasB, Bool.or_true]
  have hstar := F.noStar
  simp only [checkBuiltinCall, F.newKind, F.newSplit, F.newRow]
  repeat (first | refine wpAny_loadPart_at hC ?_ | (refine wpAny_isSubtype_exc hC ?_; rw [hcont]) | refine wpAny_staticBase_exc hC ?_ | refine wpAny_madeBy_exc hC ?_ | simp only [bne_self_eq_false, Bool.false_eq_true, if_false] | wp_step)
  exact hq
end
section
variable {prog : Program} {w : World} {A : Around} {E : Value → Shared → Prop} {R : Result → Shared → Prop} {h : Heap} {g : Array GenState} {d : Drawn} {t : Nat} {os : OsState}
variable {nm q : Str} {C N : Addr} {bs bm bmB : List Value} {hdct : Bool} {sn : List Str} {sub : List Value} {ab : Bool} {col : Option Bool} {dd : Option Addr} {k0 k1 k2 k3 k5 : Option Value} {B newId initId : String}
theorem new_kw (F : ExcBaseFacts B newId initId bmB) (hT : ∀ X : String, bm.contains (.type X) = bmB.contains (.type X)) {rest : List Value} {kw : List (Str × Value)}
    (hC : h.get? C = some (excClassObj nm q C N bs bm hdct sn sub ab col dd k0 k1 k2 k3 k5 newId))
    (hq : R (.ok (.ret (.ref (h.objs.size + 1)))) ⟨(h.push { cls := .type "tuple", data := .seq rest.toArray }).push
      { cls := .ref C, data := .fields #[.ref h.objs.size, .none, .none, .none, .bool false, .none] }, g, d, t, os⟩) (hrest : rest.length ≤ sizeLine) :
    codeAny (model prog w) A (.builtin newId ⟨.ref C :: rest, kw⟩) R ⟨h, g, d, t, os⟩ := by
  have hends := F.ends
  have hcB : (Value.ref C :: bm).contains (.type B) = true := by rw [List.contains_cons, hT, F.hasB, Bool.or_true]
  have hcA : (Value.ref C :: bm).contains (.type "AttributeError") = false := by rw [List.contains_cons, hT, F.noAttr]; rfl
  have hcN : (Value.ref C :: bm).contains (.type "NameError") = false := by rw [List.contains_cons, hT, F.noName]; rfl
  refine codeAny_builtinAt F.entry ?_
  unfold Builtin.«BaseException.__new__»
  refine wpAt_bind ?_
  show wpAt _ _ _ (stack >>= _) _ _ _
  refine wpAt_bind (wpAt_stack fun p below => wpAt_of_wpAny ?_)
  wp_walk
  refine wpAt_of_wpAny ?_
  rw [F.owner]
  repeat (first | with_reducible refine wpAny_madeHere_exc F.canon hC ?_ | with_reducible refine wpAny_loadPart_at hC ?_ | (with_reducible refine wpAny_isSubtype_exc hC ?_; first | rw [hcB] | rw [hcA] | rw [hcN]) | wp_step)
  show R _ _
  rw [Heap.size_push]
  exact hq
theorem type_call_kw (F : ExcBaseFacts B newId initId bmB) (hT : ∀ X : String, bm.contains (.type X) = bmB.contains (.type X)) {rest : List Value} {kw : List (Str × Value)} {fI : Addr} {Q : Fin → Shared → Prop}
    (hC : h.get? C = some (excClassObj nm q C N bs bm hdct sn sub ab col dd k0 k1 k2 k3 k5 newId))
    (hi : W.Looks (model prog w) h (typeLookup (.ref C) "__init__") (some (.ref fI))) (hb : ∀ self, W.Looks (model prog w) h (bindSpecial (.ref fI) self) (.ref fI, [self])) (hrest : rest.length ≤ sizeLine)
    (hq : codeAny (model prog w) A (.call (.ref fI) ⟨.ref (h.objs.size + 1) :: rest, kw⟩)
      (fun r s' => match r with | .ok (.ret v) => v = .none ∧ Q (.done (.ret (.ref (h.objs.size + 1)))) s' | .ok _ => False | .error e => E e s')
      ⟨(h.push (W.kdv_tup rest)).push (excO C h.objs.size), g, d, t, os⟩) :
    wpAny (model prog w) A (Builtin.«type.__call__» ⟨.ref C :: rest, kw⟩) Q E ⟨h, g, d, t, os⟩ := by
  repeat (first | with_reducible refine wpAny_loadPart_at hC ?_ | with_reducible refine wpAny_madeBy_exc hC ?_ | wp_step)
  refine codeAny_call_builtin_code (Code.quiet_builtin _ F.quiet) (check_new_kw F hT hC ?_)
  refine new_kw F hT hC ?_ hrest
  show wpAny _ _ _ _ _ _
  have k : ∀ b o, h.get? b = some o → ((h.push (W.kdv_tup rest)).push (excO C h.objs.size)).get? b = some o := fun b o e => Heap.get?_push_of_some _ (Heap.get?_push_of_some _ e)
  have hC₁ := k _ _ hC
  have hget : ((h.push (W.kdv_tup rest)).push (excO C h.objs.size)).get? (h.objs.size + 1) = some (excO C h.objs.size) := by heap_get
  have hcC : (Value.ref C :: bm).contains (.ref C) = true := by simp
  have i1 := hi.keeps k
  have b1 := (hb (.ref (h.objs.size + 1))).keeps k
  unfold isInstance
  repeat (first | with_reducible refine wpAny_loadPart_at hget ?_ | (with_reducible refine wpAny_isSubtype_exc hC₁ ?_; rw [hcC]) | wp_step)
  show wpAny _ _ (typeLookup (.ref C) _) _ _ _
  refine i1.at ?_
  refine wpAny_holding (wpAny_bind (b1.at ?_))
  refine wpAny_bind (wpAny_call (codeAny_mono hq fun r s' z => ?_))
  rcases r with e | (v | _ | _ | _) <;> first | exact z | exact z.elim | skip
  obtain ⟨rfl, z⟩ := z
  first
    | exact wpAny_pure (wpAny_pure z)
    | (wp_walk; exact z)
theorem call_kw (F : ExcBaseFacts B newId initId bmB) (hT : ∀ X : String, bm.contains (.type X) = bmB.contains (.type X)) {rest : List Value} {kw : List (Str × Value)} {fI : Addr}
    (hC : h.get? C = some (excClassObj nm q C N bs bm hdct sn sub ab col dd k0 k1 k2 k3 k5 newId))
    (hi : W.Looks (model prog w) h (typeLookup (.ref C) "__init__") (some (.ref fI))) (hb : ∀ self, W.Looks (model prog w) h (bindSpecial (.ref fI) self) (.ref fI, [self])) (hrest : rest.length ≤ sizeLine)
    (hq : codeAny (model prog w) (A.under (.builtin "type.__call__" ⟨.ref C :: rest, kw⟩)) (.call (.ref fI) ⟨.ref (h.objs.size + 1) :: rest, kw⟩) (W.InitBack (h.objs.size + 1) R)
      ⟨(h.push (W.kdv_tup rest)).push (excO C h.objs.size), g, d, t, os⟩) :
    codeAny (model prog w) A (.call (.ref C) ⟨rest, kw⟩) R ⟨h, g, d, t, os⟩ := by
  have f1 := tc_lookup
  have f2 := tc_bind (.ref C)
  have hTy : (⟨h, g, d, t, os⟩ : Shared).TypeIs (.ref C) "type" := ⟨_, hC, rfl⟩
  refine codeAny_of_tree ?_
  show wpAny _ _ (callAny (.ref C) _) _ _ _
  repeat (any_goals (first | assumption | with_reducible refine wpAny_loadPart_at hC ?_ | wp_step))
  refine ⟨rfl, ?_⟩
  refine codeAny_call_builtin_at (Code.quiet_builtin _ (by decide +kernel)) entry_typeCall (wpAny_check_type_call_sub hC (type_call_kw F hT hC hi hb hrest ?_))
  refine codeAny_mono hq fun r s' z => ?_
  rcases r with e | (v | _ | _ | _) <;> exact z
end
end EXR
end PySem
set_option Elab.async false
set_option linter.all false
set_option maxRecDepth 100000
set_option maxHeartbeats 4000000
namespace PySem
namespace EXR
open PySem.W PySem.Calls PyProof.Rows PySem.HandSPX
open Builtin Builtin.ObjectAttr
section
variable {prog : Program} {w : World} {A : Around} {E : Value → Shared → Prop} {R : Result → Shared → Prop} {hp : Heap} {g : Array GenState} {d : Drawn} {t : Nat} {os : OsState} {B : String} {bmB : List Value}
theorem osaB {K : W.Frag} {name : Str} {tk : Tok} {v : Value} {x C : Addr} {fv : Array Value} {cd : ClassData} (SF : StoreFacts B bmB "object.__setattr__" "object")
    (X : K.In hp) (hx : hp.get? x = some { cls := .ref C, data := .fields fv }) (hcd : W.clsIn K C = some cd) (hm : W.excTail bmB cd.mro = true) (hne : cd.mro.isEmpty = false) (hh : cd.hasDict = true) (ha : W.findIn K (.ref C) name = some none)
    (hq : ∀ h' tk' dx, (∀ b o, b ≠ x → hp.get? b = some o → h'.get? b = some o) → hp.objs.size ≤ dx → dx ≠ x → h'.get? x = some { cls := .ref C, dict := some dx, data := .fields fv } →
      h'.Ns1 dx (fun y => if y = name then some v else none) → R (.ok (.ret .none)) ⟨h', g, d, tk', os⟩) :
    codeAny (model prog w) A (.call (.builtin "object.__setattr__") ⟨[.ref x, .str name tk, v], []⟩) R ⟨hp, g, d, t, os⟩ := by
  have I : W.InstAt hp x { cls := .ref C, data := .fields fv } C none := ⟨hx, rfl, rfl, trivial⟩
  have hob : cd.mro.contains (.type "object") = true := (W.excTail_contains "object" _ hm).trans SF.hasOwner
  have hxs : x ≠ hp.objs.size := Nat.ne_of_lt (Heap.lt_size hx)
  have sub : W.Looks (model prog w) hp (isInstance (.ref x) (.type "object")) true := I.type.andThen (W.looks_mroIn X (by unfold W.mroIn; rw [hcd, Option.bind_some, if_neg (by rw [hne]; decide), hob]))
  refine codeAny_call_builtin SF.slot.plain SF.entry (@W.check_slot (model prog w) _ _ ⟨hp, g, d, t, os⟩ "object.__setattr__" "object" "__setattr__" (.ref x) [.str name tk, v] [] _ SF.kind SF.split sub (SF.args (.ref x) (.str name tk) v) ?_)
  have hmr : W.Looks (model prog w) hp (mroOf (.ref C)) cd.mro := (W.looks_clsIn X hcd).andThen .now
  have L3 : W.Looks (model prog w) hp (storeTaker? none) none := .now
  have hcls : W.Looks (model prog w) hp (classData C) cd := W.looks_clsIn X hcd
  rw [W.osa_eq, refuse_eq]
  refine wpAny_bind (wpAny_bind (I.type.at (wpAny_bind (hmr.at ?_))))
  rw [W.excTail_pass _ (SF.passes _) _ hm]
  refine wpAny_pure (wpAny_bind (I.type.at (wpAny_bind ((W.looks_findIn X ha).at (wpAny_bind (L3.at ?_))))))
  show wpAny _ _ (storeInOwnDict (.ref x) (.ref C) (.str name tk) name v false) _ _ _
  obtain ⟨nm, bs, mro, ns, qn, hd, sn, sb, ab, col, del⟩ := cd
  dsimp only at hh
  subst hh
  unfold storeInOwnDict ownDictForStores
  repeat (first | with_reducible refine store_in_new ?_ ?_ | with_reducible refine wpAny_loadPart_at hx ?_ | with_reducible refine hcls.at ?_ | wp_step)
  · exact ⟨_, #[], _, (Heap.get?_update_ne _ _ _ _ hxs.symm).trans (Heap.get?_push_at rfl rfl), rfl, fun e he => absurd he (by simp), fun _ => rfl⟩
  · intro h' tk' hn' hs
    have hx₁ : (hp.push { cls := .type "dict", data := .dict #[] }).get? x = some { cls := .ref C, data := .fields fv } := Heap.get?_push_of_some _ hx
    refine hq h' tk' hp.objs.size (fun b o hb ho => ?_) (Nat.le_refl _) hxs.symm ?_ hn'
    · exact (hs.2 b (Nat.ne_of_lt (Heap.lt_size ho))).trans ((Heap.get?_update_ne _ _ _ _ hb).trans (Heap.get?_push_of_some _ ho))
    · exact (hs.2 x hxs).trans (Heap.get?_update_self _ hx₁ rfl)
theorem osaB_old {K : W.Frag} {name : Str} {tk : Tok} {v : Value} {x C dx : Addr} {fv : Array Value} {cd : ClassData} {m0 : Str → Option Value} {nl : List Str} (SF : StoreFacts B bmB "object.__setattr__" "object")
    (X : K.In hp) (hx : hp.get? x = some { cls := .ref C, dict := some dx, data := .fields fv }) (hns : hp.Ns1 dx m0) (hw : Within m0 nl) (hz : nl.length ≤ 1000) (hcd : W.clsIn K C = some cd) (hm : W.excTail bmB cd.mro = true) (hne : cd.mro.isEmpty = false) (hh : cd.hasDict = true)
    (ha : W.findIn K (.ref C) name = some none)
    (hq : ∀ h' tk', (∀ b o, b ≠ dx → hp.get? b = some o → h'.get? b = some o) → h'.Ns1 dx (fun y => if y = name then some v else m0 y) → R (.ok (.ret .none)) ⟨h', g, d, tk', os⟩) :
    codeAny (model prog w) A (.call (.builtin "object.__setattr__") ⟨[.ref x, .str name tk, v], []⟩) R ⟨hp, g, d, t, os⟩ := by
  obtain ⟨oD, esD, epD, hoD, hdD, _⟩ := hns.count hw
  have I : W.InstAt hp x { cls := .ref C, dict := some dx, data := .fields fv } C (some oD) := ⟨hx, rfl, rfl, hoD⟩
  have hob : cd.mro.contains (.type "object") = true := (W.excTail_contains "object" _ hm).trans SF.hasOwner
  have sub : W.Looks (model prog w) hp (isInstance (.ref x) (.type "object")) true := I.type.andThen (W.looks_mroIn X (by unfold W.mroIn; rw [hcd, Option.bind_some, if_neg (by rw [hne]; decide), hob]))
  refine codeAny_call_builtin SF.slot.plain SF.entry (@W.check_slot (model prog w) _ _ ⟨hp, g, d, t, os⟩ "object.__setattr__" "object" "__setattr__" (.ref x) [.str name tk, v] [] _ SF.kind SF.split sub (SF.args (.ref x) (.str name tk) v) ?_)
  have hmr : W.Looks (model prog w) hp (mroOf (.ref C)) cd.mro := (W.looks_clsIn X hcd).andThen .now
  have L3 : W.Looks (model prog w) hp (storeTaker? none) none := .now
  have hcls : W.Looks (model prog w) hp (classData C) cd := W.looks_clsIn X hcd
  rw [W.osa_eq, refuse_eq]
  refine wpAny_bind (wpAny_bind (I.type.at (wpAny_bind (hmr.at ?_))))
  rw [W.excTail_pass _ (SF.passes _) _ hm]
  refine wpAny_pure (wpAny_bind (I.type.at (wpAny_bind ((W.looks_findIn X ha).at (wpAny_bind (L3.at ?_))))))
  show wpAny _ _ (storeInOwnDict (.ref x) (.ref C) (.str name tk) name v false) _ _ _
  obtain ⟨nm, bs, mro, ns, qn, hd, sn, sb, ab, col, del⟩ := cd
  dsimp only at hh
  subst hh
  unfold storeInOwnDict ownDictForStores
  repeat (first | with_reducible refine PySem.OEX.store_in_old hns hw hz ?_ | with_reducible refine wpAny_loadPart_at hx ?_ | with_reducible refine hcls.at ?_ | wp_step)
  intro h' tk' hn' hs
  exact hq h' tk' (fun b o hb ho => (hs.2 b hb).trans ho) hn'
end
end EXR
end PySem

namespace L2
open PySem PySem.Spec PyProof.Rows
/-- what the written part says of an exception class at C over a built-in base -/
structure OxB (K : PySem.W.Frag) (C : Addr) (bmB : List Value) (newId : String) : Prop where
  cls : ∃ nm q N bs bm sn sub ab col dd k0 k1 k2 k3 k5, K.lookup C = some (excClassObj nm q C N bs bm true sn sub ab col dd k0 k1 k2 k3 k5 newId) ∧ PySem.W.excTail bmB bm = true
  sa : PySem.W.findIn K (.ref C) "__setattr__" = some (some (.builtin "object.__setattr__"))
  exC : PySem.W.subIn K (.ref C) (.type "BaseException") = some true
  tyC : PySem.W.typeIn K (.ref C) = some (.type "type")
  kC : PySem.W.keepIn K (.ref C) = true
  ga : PySem.W.findIn K (.ref C) "__getattribute__" = some (some (.builtin "BaseException.__getattribute__"))
  gg : PySem.W.findIn K (.ref C) "__getattr__" = some none
  hd : PySem.W.hasDictIn K C = true
  hcl : (PySem.W.clsIn K C).isSome = true
  ha : PySem.W.findIn K (.ref C) "__class__" = some (some (.builtin "object.__class__"))
  hn : PySem.W.specialIn K (.builtin "object.__class__") "__get__" = some (some (.builtin "getset_descriptor.__get__"))
  ht : PySem.W.takesIn K (.builtin "object.__class__") = some true
  hm : PySem.W.mroIn K C (.type "object") = some true
def oxB (K : PySem.W.Frag) (C : Addr) (bmB : List Value) (newId : String) : Bool :=
  PySem.W.excInitIn K C bmB newId && (decide (PySem.W.findIn K (.ref C) "__setattr__" = some (some (.builtin "object.__setattr__"))) && (decide (PySem.W.subIn K (.ref C) (.type "BaseException") = some true) &&
  (decide (PySem.W.typeIn K (.ref C) = some (.type "type")) && (PySem.W.keepIn K (.ref C) && (decide (PySem.W.findIn K (.ref C) "__getattribute__" = some (some (.builtin "BaseException.__getattribute__"))) &&
  (decide (PySem.W.findIn K (.ref C) "__getattr__" = some none) && (PySem.W.hasDictIn K C && ((PySem.W.clsIn K C).isSome && (decide (PySem.W.findIn K (.ref C) "__class__" = some (some (.builtin "object.__class__"))) &&
  (decide (PySem.W.specialIn K (.builtin "object.__class__") "__get__" = some (some (.builtin "getset_descriptor.__get__"))) && (decide (PySem.W.takesIn K (.builtin "object.__class__") = some true) && decide (PySem.W.mroIn K C (.type "object") = some true))))))))))))
theorem excInit_K {K : PySem.W.Frag} {C : Addr} {bmB : List Value} {newId : String} (q : PySem.W.excInitIn K C bmB newId = true) (hh : PySem.W.hasDictIn K C = true) :
    ∃ nm q N bs bm sn sub ab col dd k0 k1 k2 k3 k5, K.lookup C = some (excClassObj nm q C N bs bm true sn sub ab col dd k0 k1 k2 k3 k5 newId) ∧ PySem.W.excTail bmB bm = true := by
  unfold PySem.W.excInitIn at q
  split at q
  · rename_i dd cd sl ho
    split at q
    · rename_i C' bm k0 k1 k2 k3 n k5 hm hs
      simp only [Bool.and_eq_true, beq_iff_eq, Bool.not_eq_true'] at q
      obtain ⟨⟨⟨rfl, rfl⟩, hdel⟩, ht⟩ := q
      obtain ⟨nm, bs, mro, ns, qn, hd, sn, sub, ab, col, del⟩ := cd
      dsimp only at hm hdel
      subst hm hdel
      have hsl : sl = #[k0, k1, k2, k3, some (.builtin n), k5] := by
        obtain ⟨l⟩ := sl
        simp only at hs
        rw [hs]
      subst hsl
      have hdt : hd = true := by
        obtain ⟨cd, hc, hd'⟩ := PySem.W.any_some hh
        unfold PySem.W.clsIn at hc
        rw [ho] at hc
        have e := Option.some.inj hc
        subst e
        exact hd'
      subst hdt
      exact ⟨nm, qn, ns, bs, bm, sn, sub, ab, col, dd, k0, k1, k2, k3, k5, ho, ht⟩
    · cases q
  · cases q
theorem oxB_ok {K : PySem.W.Frag} {C : Addr} {bmB : List Value} {newId : String} (h : oxB K C bmB newId = true) : OxB K C bmB newId := by
  unfold oxB at h
  simp only [Bool.and_eq_true, decide_eq_true_eq] at h
  obtain ⟨h1, h2, h3, h4, h5, h6, h7, h8, h9, h10, h11, h12, h13⟩ := h
  exact ⟨excInit_K h1 h8, h2, h3, h4, h5, h6, h7, h8, h9, h10, h11, h12, h13⟩

section
variable {X : Cx} {pins : List (Addr × Obj)} {σ : St} {H : Hp} {s : Shared} {a C dx : Addr} {f : Str} {y : V} {u : Value} {fs : List (Str × V)} {Q : Unit → Shared → Prop} {E : Value → Shared → Prop} {A : Around} {B newId initId : String} {bmB : List Value}
theorem oxb_new (SF : StoreFacts B bmB "object.__setattr__" "object") (T : OxB X.K C bmB newId) (I : Inv X pins σ H s) (e : H a = some (exo a C none)) (hno : PySem.W.findIn X.K (.ref C) f = some none) (ry : RelV y u)
    (h : ∀ dx s', H dx = none → dx ≠ a → Inv X pins σ (upd (upd H dx (exd dx [(f, y)])) a (exo a C (some dx))) s' → Q () s') : wpAny (model X.prog X.w) A (setAttr (.ref a) f u) Q E s := by
  obtain ⟨nm, q, N, bs, bm, sn, sub, ab, col, dd, k0, k1, k2, k3, k5, hC, hbm⟩ := T.cls
  have hcl : PySem.W.clsIn X.K C = some { name := nm, bases := bs, mro := .ref C :: bm, ns := N, qualname := q, hasDict := true, slotNames := sn, subclasses := sub, abstract := ab, collection := col, hasDel := false } := by unfold PySem.W.clsIn; rw [hC] <;> rfl
  obtain ⟨t1, ho⟩ := exo_at I.hok e
  obtain ⟨hp, g, d, t, os⟩ := s
  refine PySem.W.set_plain I.kIn (ox := { cls := .ref C, dict := none, data := .fields #[.ref t1, .none, .none, .none, .bool false, .none] }) (od := none) ⟨ho, rfl, rfl, trivial⟩ T.sa ?_
  refine PySem.EXR.osaB SF I.kIn ho hcl (show PySem.W.excTail bmB (.ref C :: bm) = true from hbm) rfl rfl hno (fun h' tk' dx k dn dne hx hn => ?_)
  have hnd : H dx = none := I.hok.fresh dn
  have nd : ∀ {b : Addr} {o : Obj}, hp.get? b = some o → b ≠ dx := fun {b o} q => Nat.ne_of_lt (Nat.lt_of_lt_of_le (Heap.lt_size q) dn)
  have na : ∀ {b : Addr}, H b = none → b ≠ a := fun {b} n z => by
    rw [z, e] at n
    cases n
  have Un1 : Un X.fs [] H (upd (upd H dx (exd dx [(f, y)])) a (exo a C (some dx))) hp h' := {
    keep := fun b o q n _ _ => k b o (na n) q
    slot := fun b o q n _ _ => ⟨o.slots, k b o (na n) q⟩
    free := fun b o q n _ => by rw [upd_ne (na n), upd_ne (nd q)]; exact n
    there := fun b o q _ => by
      by_cases hb : b = a
      · exact ⟨_, by rw [hb]; exact hx⟩
      · exact ⟨o, k b o hb q⟩
    tups := fun b xs q => by rw [upd_ne (at_ne e q exo_tup), upd_ne (ne_of_none q hnd)]; exact q
    frzs := fun b o v q => by rw [upd_ne (at_ne e q exo_frz), upd_ne (ne_of_none q hnd)]; exact q
    tbls := fun b ps q => ⟨#[], by rw [upd_ne (at_ne e q exo_tbl), upd_ne (ne_of_none q hnd), q]; simp⟩ }
  refine h dx _ hnd dne (I.un (t' := tk') Un1 fun b o q => ?_)
  by_cases hb : b = a
  · subst hb
    rw [upd_same] at q
    cases q
    exact exo_ok hx
  · rw [upd_ne hb] at q
    by_cases hd : b = dx
    · subst hd
      rw [upd_same] at q
      cases q
      exact exd_ok hn (relO_put (fs := []) ry fun g => True.intro)
    · rw [upd_ne hd] at q
      exact (I.hok b o q).stay (fun c v hc z => k c v (by
          rcases hc with hc | hc
          · rw [hc]
            exact hb
          · exact at_ne e hc exo_own) z)
        (fun c hc => by rw [upd_ne (at_ne e hc exo_own), upd_ne (ne_of_none hc hnd)]; exact hc) (fun c xs hc => by rw [upd_ne (at_ne e hc exo_tup), upd_ne (ne_of_none hc hnd)]; exact hc)
theorem oxb_old (SF : StoreFacts B bmB "object.__setattr__" "object") (T : OxB X.K C bmB newId) (I : Inv X pins σ H s) (e : H a = some (exo a C (some dx))) (ed : H dx = some (exd dx fs)) (hl : fs.length ≤ 900) (hno : PySem.W.findIn X.K (.ref C) f = some none) (ry : RelV y u)
    (h : ∀ s', Inv X pins σ (upd H dx (exd dx ((f, y) :: fs))) s' → Q () s') : wpAny (model X.prog X.w) A (setAttr (.ref a) f u) Q E s := by
  obtain ⟨nm, q, N, bs, bm, sn, sub, ab, col, dd, k0, k1, k2, k3, k5, hC, hbm⟩ := T.cls
  have hcl : PySem.W.clsIn X.K C = some { name := nm, bases := bs, mro := .ref C :: bm, ns := N, qualname := q, hasDict := true, slotNames := sn, subclasses := sub, abstract := ab, collection := col, hasDel := false } := by unfold PySem.W.clsIn; rw [hC] <;> rfl
  obtain ⟨t1, ho⟩ := exo_at I.hok e
  obtain ⟨mA, hns, rel⟩ := exd_at I.hok ed
  have hw := within_of rel
  obtain ⟨hp, g, d, t, os⟩ := s
  obtain ⟨oD, _, _, hoD, _, _⟩ := hns.count hw
  refine PySem.W.set_plain I.kIn (ox := { cls := .ref C, dict := some dx, data := .fields #[.ref t1, .none, .none, .none, .bool false, .none] }) (od := some oD) ⟨ho, rfl, rfl, hoD⟩ T.sa ?_
  refine PySem.EXR.osaB_old SF I.kIn ho hns hw (by rw [List.length_map]; omega) hcl (show PySem.W.excTail bmB (.ref C :: bm) = true from hbm) rfl rfl hno (fun h' tk' k hn => ?_)
  have hd : ∃ o, h'.get? dx = some o := by
    obtain ⟨o, _, _, e', _⟩ := hn
    exact ⟨o, e'⟩
  exact h _ (I.write (t' := tk') (x := dx) (e := dx) (o := exd dx ((f, y) :: fs)) (by rw [ed]; exact True.intro) (.inl rfl) k hd (exd_ok hn (relO_put ry rel)))
end
/-- self.f = e on an exception of the class at C -/
def tOxb (K : PySem.W.Frag) (bmB : List Value) (newId : String) (f : Str) (to te : TE) : TS := fun D σ H => te σ H fun y H1 => to σ H1 fun x H2 => ∃ a C : Addr, x = .ref a ∧ OxB K C bmB newId ∧ PySem.W.findIn K (.ref C) f = some none ∧
  ((H2 a = some (exo a C none) ∧ ∀ dx, H2 dx = none → dx ≠ a → D.nx σ (upd (upd H2 dx (exd dx [(f, y)])) a (exo a C (some dx)))) ∨
    ∃ (dx : Addr) (fs : List (Str × V)), H2 a = some (exo a C (some dx)) ∧ H2 dx = some (exd dx fs) ∧ fs.length ≤ 900 ∧ D.nx σ (upd H2 dx (exd dx ((f, y) :: fs))))
theorem ps_oxb {X : Cx} {o e : Expr} {to te : TE} {f : Str} {p' pos : Pos} {B newId : String} {bmB : List Value} (SF : StoreFacts B bmB "object.__setattr__" "object") (ho : PE X o to) (he : PE X e te) (hs : swapsWith e (some (.Attribute o f p')) pos.line X.env = pure false := by rfl) :
    PS X (.Assign [.Attribute o f p'] e pos) (tOxb X.K bmB newId f to te) := by
  refine ⟨fun pins s σ H D I h => ?_⟩
  refine plainObj_wpAny_Assign_Attribute (thn (he.run pins s σ H _ I h) fun v s1 ⟨y, H1, I1, r1, q1⟩ => thn (ho.run pins s1 σ H1 _ I1 q1) fun u s2 ⟨x, H2, I2, r2, a, C, ex, T, hno, q⟩ => ?_) hs
  subst ex
  obtain rfl : u = Value.ref a := r2
  rcases q with ⟨ea, q⟩ | ⟨dx, fs, ea, ed, hl, q⟩
  · exact oxb_new SF T I2 ea hno r1 fun dx s' n ne J => ⟨σ, _, J, q dx n ne⟩
  · exact oxb_old SF T I2 ea ed hl hno r1 fun s' J => ⟨σ, _, J, q⟩
end L2
set_option Elab.async false
set_option linter.all false
set_option maxRecDepth 100000
set_option maxHeartbeats 4000000
namespace L2
open PySem PySem.Spec PyProof.Rows
/-- an exception of the class at C with these fields stands at a -/
def ExV (H : Hp) (a C : Addr) (fs : List (Str × V)) : Prop := ∃ d, H a = some (exo a C (some d)) ∧ H d = some (exd d fs)
/-- C(e, .., k = v, ..), by values: __init__ keeping sp -/
def rMkB (C : Addr) (sp : Sp) (gV : List V → List V → List V) (vs zs : List V) (H : Hp) (Q : VK) : Prop := vs.length ≤ 1000 ∧ ∀ a, H a = none → sp (gV (.ref a :: vs) zs) (upd H a (exo a C none)) (fun v H2 => v = .non ∧ Q (.ref a) H2) (fun _ _ _ => False)
section
variable {X : Cx} {pins : List (Addr × Obj)} {σ : St} {H : Hp} {s : Shared} {CX : CXT} {k n : Nat} {f C fI : Addr} {fd : FuncData} {ps ks : List Str} {sp : Sp} {x : Str} {p pos : Pos} {e : Expr} {es : List Expr} {kws : List Keyword} {t tk : TA} {g : List Value → List Value → List Value} {gV : List V → List V → List V} {B newId initId : String} {bmB : List Value}
theorem run_mkB (F : ExcBaseFacts B newId initId bmB) (T : OxB X.K C bmB newId) (iC : PySem.W.findIn X.K (.ref C) "__init__" = some (some (.ref fI))) (tI : PySem.W.typeIn X.K (.ref fI) = some (.type "function"))
    (F1 : FnOk X.prog X.w X.K X.mg X.base CX k fI fd ps sp) (hr : Room (k + 1) X.A) (hb : KBn X.K fd ps (n + 1) ks g gV) (hx : Passes CX X (fun _ _ _ => False)) {us ws : List Value} {vs zs : List V} {Q : VK}
    (I : Inv X pins σ H s) (r : Vals vs us) (rz : Vals zs ws) (l1 : vs.length = n) (l2 : zs.length = ks.length) (h : rMkB C sp gV vs zs H Q) :
    wpAny (model X.prog X.w) X.A (call (.ref C) us (ks.zip ws)) (EP X pins σ Q) X.xe s := by
  obtain ⟨nm, q, N, bs, bm, sn, sub, ab, col, dd, k0, k1, k2, k3, k5, hC, hbm⟩ := T.cls
  obtain ⟨hz, q1⟩ := h
  obtain ⟨hp, g', dr, tk', os⟩ := s
  have hsz : hp.objs.size ≤ hp.objs.size + 1 := Nat.le_succ _
  have hn : H (hp.objs.size + 1) = none := I.hok.fresh hsz
  have hq := q1 (hp.objs.size + 1) hn
  have kk : ∀ b o, hp.get? b = some o → ((hp.push (PySem.W.kdv_tup us)).push (PySem.HandSPX.excO C hp.objs.size)).get? b = some o := fun b o e => Heap.get?_push_of_some _ (Heap.get?_push_of_some _ e)
  have hget : ((hp.push (PySem.W.kdv_tup us)).push (PySem.HandSPX.excO C hp.objs.size)).get? (hp.objs.size + 1) = some (PySem.HandSPX.excO C hp.objs.size) := by heap_get
  have I2 : Inv X pins σ (upd H (hp.objs.size + 1) (exo (hp.objs.size + 1) C none)) ⟨(hp.push (PySem.W.kdv_tup us)).push (PySem.HandSPX.excO C hp.objs.size), g', dr, tk', os⟩ :=
    I.laid (t' := tk') (a := hp.objs.size + 1) (o := exo (hp.objs.size + 1) C none) (h' := (hp.push (PySem.W.kdv_tup us)).push (PySem.HandSPX.excO C hp.objs.size)) kk hsz (exo_ok hget)
  have r1 : Vals (V.ref (hp.objs.size + 1) :: vs) (Value.ref (hp.objs.size + 1) :: us) := .cons rfl r
  have r2 := hb.rel r1 rz
  have e1 : (Value.ref (hp.objs.size + 1) :: us).length = n + 1 := r1.length.symm.trans (congrArg Nat.succ l1)
  have e2 : ws.length = ks.length := rz.length.symm.trans l2
  have hus : us.length ≤ sizeLine := by
    rw [← Paired.length r, sizeLine_eq]
    omega
  refine wpAny_call (PySem.EXR.call_kw F (fun Y => PySem.W.excTail_contains Y bm hbm) (I.kIn _ _ hC) (PySem.W.looks_findIn I.kIn iC) (fun self => PySem.W.bind_fn I.kIn self tI) hus
    (codeAny_mono (F1.run _ X.stack _ _ ⟨Value.ref (hp.objs.size + 1) :: us, ks.zip ws⟩ (g (Value.ref (hp.objs.size + 1) :: us) ws) _ _ (fun _ _ _ => False) (hr.make C us (ks.zip ws)) (I2.env0.make C us (ks.zip ws)) (hb.to _ (Value.ref (hp.objs.size + 1) :: us) ws I2.kIn e1 e2) r2 hq) fun r s' hq' => ?_))
  cases r with
  | error er => exact hx pins σ _ _ er s' I2 hq'
  | ok fl =>
    cases fl with
    | ret u =>
      obtain ⟨v, H', I3, rv, ev, q3⟩ := I2.after hq'
      subst ev
      exact ⟨rv, ⟨V.ref (hp.objs.size + 1), H', I3, rfl, q3⟩⟩
    | next => exact False.elim hq'
    | brk => exact False.elim hq'
    | cont => exact False.elim hq'
/-- C(e, ..) -/
theorem pe_mkB (F : ExcBaseFacts B newId initId bmB) (T : OxB X.K C bmB newId) (iC : PySem.W.findIn X.K (.ref C) "__init__" = some (some (.ref fI))) (tI : PySem.W.typeIn X.K (.ref fI) = some (.type "function"))
    (F1 : FnOk X.prog X.w X.K X.mg X.base CX k fI fd ps sp) (hr : Room (k + 1) X.A) (hb : KBn X.K fd ps (n + 1) [] g gV) (hx : Passes CX X (fun _ _ _ => False)) (hg : Gl X x) (hm : X.mg x = some (.ref C)) (ha : PA X (e :: es) t)
    (hdb : (x == ("__debug__" : Str)) = false := by decide) (he : starEach (e :: es) X.env = (false, eval e X.env) :: starEach es X.env := by rfl) (hpl : (backTo pos (starEach es X.env)).any (·.1) = false := by rfl) :
    PE X (.Call (.Name x p) (e :: es) [] pos) (fun σ H Q => t σ H fun vs H1 => vs.length = n ∧ rMkB C sp gV vs [] H1 Q) := by
  refine ⟨fun pins s σ H Q I h => ?_⟩
  refine wpAny_Call_Name_kw (ld_glob I hg hm ?_ hdb)
  refine PySem.W.callWith_K (h₀ := X.base) I.ok.mod.kin T.kC (thn (ha.run pos pins s σ H _ I h) fun us s1 ⟨vs, H1, I1, r1, l1, q1⟩ => ⟨I1.kIn, ?_⟩) he hpl
  exact run_mkB (ks := []) (ws := []) F T iC tI F1 hr hb hx I1 r1 .nil l1 rfl q1
/-- C() -/
theorem pe_mkB0 (F : ExcBaseFacts B newId initId bmB) (T : OxB X.K C bmB newId) (iC : PySem.W.findIn X.K (.ref C) "__init__" = some (some (.ref fI))) (tI : PySem.W.typeIn X.K (.ref fI) = some (.type "function"))
    (F1 : FnOk X.prog X.w X.K X.mg X.base CX k fI fd ps sp) (hr : Room (k + 1) X.A) (hb : KBn X.K fd ps 1 [] g gV) (hx : Passes CX X (fun _ _ _ => False)) (hg : Gl X x) (hm : X.mg x = some (.ref C))
    (hdb : (x == ("__debug__" : Str)) = false := by decide) :
    PE X (.Call (.Name x p) [] [] pos) (fun σ H Q => rMkB C sp gV [] [] H Q) := by
  refine ⟨fun pins s σ H Q I h => ?_⟩
  refine wpAny_Call_Name_kw (ld_glob I hg hm ?_ hdb)
  refine PySem.W.callWith_K0 I.kIn T.kC ?_
  exact run_mkB (n := 0) (ks := []) (ws := []) F T iC tI F1 hr hb hx I .nil .nil rfl rfl h
/-- C(k = v, ..) -/
theorem pe_mkBK (F : ExcBaseFacts B newId initId bmB) (T : OxB X.K C bmB newId) (iC : PySem.W.findIn X.K (.ref C) "__init__" = some (some (.ref fI))) (tI : PySem.W.typeIn X.K (.ref fI) = some (.type "function"))
    (F1 : FnOk X.prog X.w X.K X.mg X.base CX k fI fd ps sp) (hr : Room (k + 1) X.A) (hb : KBn X.K fd ps 1 ks g gV) (hx : Passes CX X (fun _ _ _ => False)) (hg : Gl X x) (hm : X.mg x = some (.ref C))
    (hkw : PK X kws tk) (hall : (backToKw pos (keywordEach kws X.env)).all (·.1.isSome) = true := by rfl) (hks : (backToKw pos (keywordEach kws X.env)).filterMap (·.1) = ks := by rfl)
    (hdb : (x == ("__debug__" : Str)) = false := by decide) (hpl : ((backTo pos (starEach [] X.env)).any (·.1) || (backToKw pos (keywordEach kws X.env)).any (·.1.isNone)) = false := by rfl) :
    PE X (.Call (.Name x p) [] kws pos) (fun σ H Q => tk σ H fun zs H1 => zs.length = ks.length ∧ rMkB C sp gV [] zs H1 Q) := by
  refine ⟨fun pins s σ H Q I h => ?_⟩
  refine wpAny_Call_Name_kw (ld_glob I hg hm ?_ hdb)
  refine PySem.W.callWith_KW0 (h₀ := X.base) I.ok.mod.kin T.kC hall ?_ hpl
  refine thn (hkw.run pos pins s σ H _ I h) fun ws s2 ⟨zs, H2, I2, rz, l2, q2⟩ => ⟨I2.kIn, ?_⟩
  rw [hks]
  exact run_mkB (n := 0) F T iC tI F1 hr hb hx I2 .nil rz rfl l2 q2
/-- e.f -/
def tGetB (K : PySem.W.Frag) (f : Str) (te : TE) : TE := fun σ H Q => te σ H fun x H1 => ∃ (bmB : List Value) (newId : String) (a C : Addr) (fs : List (Str × V)) (v : V), x = .ref a ∧ OxB K C bmB newId ∧ PySem.W.findIn K (.ref C) f = some none ∧ ExV H1 a C fs ∧ fs.lookup f = some v ∧ Q v H1
theorem pe_getB {te : TE} {f : Str} (he : PE X e te) (hb : attributeBase e f X.env (eval e X.env) = eval e X.env := by rfl) : PE X (.Attribute e f pos) (tGetB X.K f te) := by
  refine ⟨fun pins s σ H Q I h => ?_⟩
  refine attr_of hb (thn (he.run pins s σ H _ I h) fun u s1 hh => ?_)
  obtain ⟨x, H1, I1, rx, bmB, newId, a, C, fs, v, ex, T, hno, ⟨d, ea, ed⟩, l, q⟩ := hh
  subst ex
  obtain rfl : u = Value.ref a := rx
  obtain ⟨t1, ho⟩ := exo_at I1.hok ea
  obtain ⟨mA, hns, hr⟩ := exd_at I1.hok ed
  obtain ⟨od, hod, hl⟩ := lookIn_ns hns
  obtain ⟨u, hu, ru⟩ := RelO.some_of (v := v) (o := mA f) (by rw [← l]; exact hr f)
  have J : PySem.W.InstAt s1.heap a _ C (some od) := ⟨ho, rfl, rfl, hod⟩
  exact HandSPX.exc_get I1.kIn J T.ga T.gg T.exC (PySem.W.findObj_own T.hd hno rfl (by rw [hl, hu])) (handed_of ru) ⟨v, H1, I1.tok _, ru, q⟩
/-- isinstance(e, c), e an exception of ours -/
def rIsEx (K : PySem.W.Frag) : List V → Hp → VK → Prop := fun xs H Q => ∃ (bmB : List Value) (newId : String) (a C : Addr) (fs : List (Str × V)) (c : V) (cv : Value) (b : Bool), xs = [.ref a, c] ∧ ClsV c cv ∧ OxB K C bmB newId ∧ ExV H a C fs ∧ PySem.W.kitOne K (.ref C) cv = some b ∧ Q (.bl b) H
theorem call_isEx : CallR X (.builtin "isinstance") (rIsEx X.K) := by
  intro pins s σ H xs us Q I r h
  obtain ⟨bmB, newId, a, C, fs, c, cv, b, rfl, hcv, T, ⟨d, ea, ed⟩, e, q⟩ := h
  obtain ⟨u1, u2, rfl, r1, r2⟩ := vals2 r
  have e2 := hcv.eq r2
  subst e2
  cases (show u1 = Value.ref a from r1)
  obtain ⟨t1, ho⟩ := exo_at I.hok ea
  obtain ⟨mA, hns, hr⟩ := exd_at I.hok ed
  obtain ⟨od, hod, hl⟩ := lookIn_ns hns
  have J : PySem.W.InstAt s.heap a _ C (some od) := ⟨ho, rfl, rfl, hod⟩
  exact PySem.W.kia_one (PySem.W.kitx_exc (od := some od) T.hcl T.ga T.gg T.exC T.ha T.hn T.ht T.hm) I.kIn J e (fun z => nomatch z) fun tk => ⟨.bl b, H, I.tok tk, rfl, q⟩
end
end L2
set_option Elab.async false
set_option linter.all false
set_option maxRecDepth 100000
set_option maxHeartbeats 4000000
namespace L2
open PySem PySem.Spec PyProof.Rows
section
variable {X : Cx} {CX : CXT} {k : Nat} {C fI : Addr} {fd : FuncData} {ps : List Str} {sp : Sp} {x : Str} {p pos : Pos} {e : Expr} {es : List Expr} {ta : TA} {B newId initId : String} {bmB : List Value}
theorem run_pmkB (F : ExcBaseFacts B newId initId bmB) (T : OxB X.K C bmB newId) (iC : PySem.W.findIn X.K (.ref C) "__init__" = some (some (.ref fI))) (tI : PySem.W.typeIn X.K (.ref fI) = some (.type "function"))
    (F1 : FnOk X.prog X.w X.K X.mg X.base CX k fI fd ps sp) (hr : Room (k + 1) X.A) (hb : Binds X.K fd ps []) (hx : Passes CX X (fun _ _ _ => False)) {pins : List (Addr × Obj)} {σ : St} {H1 : Hp} {s : Shared} {us : List Value} {vs : List V} {Q : XK}
    (I1 : Inv X pins σ H1 s) (r1 : Vals vs us) (hz : vs.length ≤ 1000)
    (q1 : ∀ a, H1 a = none → sp (.ref a :: vs) (upd H1 a (exo a C none)) (fun v H2 => v = .non ∧ ∃ (d : Addr) (fs : List (Str × V)), H2 a = some (exo a C (some d)) ∧ H2 d = some (exd d fs) ∧ H1 d = none ∧ Q (.ref C) (some d) (upd (del H2 a) d (.xd fs))) (fun _ _ _ => False)) :
    wpAny (model X.prog X.w) X.A (call (.ref C) us) (MkP X pins σ Q) X.xe s := by
  obtain ⟨nm, q, N, bs, bm, sn, sub, ab, col, dd, k0, k1, k2, k3, k5, hC, hbm⟩ := T.cls
  obtain ⟨hp, g, dr, tk, os⟩ := s
  have hsz : hp.objs.size ≤ hp.objs.size + 1 := Nat.le_succ _
  have hn : H1 (hp.objs.size + 1) = none := I1.hok.fresh hsz
  have hq := q1 (hp.objs.size + 1) hn
  have kk : ∀ b o, hp.get? b = some o → ((hp.push (PySem.W.kdv_tup us)).push (PySem.HandSPX.excO C hp.objs.size)).get? b = some o := fun b o e => Heap.get?_push_of_some _ (Heap.get?_push_of_some _ e)
  have hget : ((hp.push (PySem.W.kdv_tup us)).push (PySem.HandSPX.excO C hp.objs.size)).get? (hp.objs.size + 1) = some (PySem.HandSPX.excO C hp.objs.size) := by heap_get
  have I2 : Inv X pins σ (upd H1 (hp.objs.size + 1) (exo (hp.objs.size + 1) C none)) ⟨(hp.push (PySem.W.kdv_tup us)).push (PySem.HandSPX.excO C hp.objs.size), g, dr, tk, os⟩ :=
    I1.laid (t' := tk) (a := hp.objs.size + 1) (o := exo (hp.objs.size + 1) C none) (h' := (hp.push (PySem.W.kdv_tup us)).push (PySem.HandSPX.excO C hp.objs.size)) kk hsz (exo_ok hget)
  have r2 : Vals (V.ref (hp.objs.size + 1) :: vs) (Value.ref (hp.objs.size + 1) :: us) := .cons rfl r1
  have hl : (Value.ref (hp.objs.size + 1) :: us ++ []).length = ps.length := by
    have e := r2.length
    rw [F1.len _ _ _ _ hq] at e
    rw [List.append_nil]
    exact e.symm
  have hus : us.length ≤ sizeLine := by
    rw [← Paired.length r1, sizeLine_eq]
    omega
  have hb' := hb _ (Value.ref (hp.objs.size + 1) :: us) I2.kIn hl
  rw [List.append_nil] at hb'
  refine wpAny_call (PySem.EXR.call_kw F (fun Y => PySem.W.excTail_contains Y bm hbm) (I1.kIn _ _ hC) (PySem.W.looks_findIn I1.kIn iC) (fun self => PySem.W.bind_fn I1.kIn self tI) hus
    (codeAny_mono (F1.run _ X.stack _ _ ⟨Value.ref (hp.objs.size + 1) :: us, []⟩ (Value.ref (hp.objs.size + 1) :: us) _ _ (fun _ _ _ => False) (hr.make C us []) (I2.env0.make C us []) hb' r2 hq) fun r s' hq' => ?_))
  cases r with
  | error er => exact hx pins σ _ _ er s' I2 hq'
  | ok fl =>
    cases fl with
    | ret u =>
      obtain ⟨v, H2, os2, bare2, un2, hok2, rv, ev, d, fs, ea, ed, hd1, q2⟩ := hq'
      subst ev
      obtain ⟨h2, g2, d2, t2, os'⟩ := s'
      exact ⟨rv, mk_end (raises_own T.exC T.tyC) I1 hsz kk un2 hok2 os2 bare2 ea ed hd1 q2⟩
    | next => exact False.elim hq'
    | brk => exact False.elim hq'
    | cont => exact False.elim hq'
/-- what making C(vs) wishes -/
def rRsB (C : Addr) (sp : Sp) (vs : List V) (H1 : Hp) (Q : XK) : Prop := vs.length ≤ 1000 ∧ ∀ a, H1 a = none → sp (.ref a :: vs) (upd H1 a (exo a C none)) (fun v H2 => v = .non ∧ ∃ (d : Addr) (fs : List (Str × V)), H2 a = some (exo a C (some d)) ∧ H2 d = some (exd d fs) ∧ H1 d = none ∧ Q (.ref C) (some d) (upd (del H2 a) d (.xd fs))) (fun _ _ _ => False)
theorem pmkB (F : ExcBaseFacts B newId initId bmB) (T : OxB X.K C bmB newId) (iC : PySem.W.findIn X.K (.ref C) "__init__" = some (some (.ref fI))) (tI : PySem.W.typeIn X.K (.ref fI) = some (.type "function"))
    (F1 : FnOk X.prog X.w X.K X.mg X.base CX k fI fd ps sp) (hr : Room (k + 1) X.A) (hb : Binds X.K fd ps []) (hx : Passes CX X (fun _ _ _ => False)) (hg : Gl X x) (hm : X.mg x = some (.ref C)) (ha : PA X (e :: es) ta)
    (hdb : (x == ("__debug__" : Str)) = false := by decide) (he : starEach (e :: es) X.env = (false, eval e X.env) :: starEach es X.env := by rfl) (hpl : (backTo pos (starEach es X.env)).any (·.1) = false := by rfl) :
    PMk X (.Call (.Name x p) (e :: es) [] pos) (fun σ H Q => ta σ H fun vs H1 => rRsB C sp vs H1 Q) := by
  intro pins s σ H Q I h
  refine wpAny_Call_Name_kw (ld_glob I hg hm ?_ hdb)
  exact PySem.W.callWith_K (h₀ := X.base) I.ok.mod.kin T.kC (thn (ha.run pos pins s σ H _ I h) fun us s1 ⟨vs, H1, I1, r1, hz, q1⟩ => ⟨I1.kIn, run_pmkB F T iC tI F1 hr hb hx I1 r1 hz q1⟩) he hpl
theorem pmkB0 (F : ExcBaseFacts B newId initId bmB) (T : OxB X.K C bmB newId) (iC : PySem.W.findIn X.K (.ref C) "__init__" = some (some (.ref fI))) (tI : PySem.W.typeIn X.K (.ref fI) = some (.type "function"))
    (F1 : FnOk X.prog X.w X.K X.mg X.base CX k fI fd ps sp) (hr : Room (k + 1) X.A) (hb : Binds X.K fd ps []) (hx : Passes CX X (fun _ _ _ => False)) (hg : Gl X x) (hm : X.mg x = some (.ref C))
    (hdb : (x == ("__debug__" : Str)) = false := by decide) :
    PMk X (.Call (.Name x p) [] [] pos) (fun σ H Q => rRsB C sp [] H Q) := by
  intro pins s σ H Q I h
  refine wpAny_Call_Name_kw (ld_glob I hg hm ?_ hdb)
  exact PySem.W.callWith_K0 I.kIn T.kC (run_pmkB F T iC tI F1 hr hb hx I .nil h.1 h.2)
end
/-! ### several except clauses with names -/
structure Hd where
  c : Value
  i : Nat
  ts : Addr → Value → Option Addr → TS
def wManyAs (K : PySem.W.Frag) (Wout : WX) (D : Ends) : List Hd → WX
  | [] => Wout
  | q :: r => fun cls d σ H => ∃ b, PySem.W.exmOne K cls q.c = some b ∧ (b = true → ∀ a, H a = none → q.ts a cls d { nx := fun σ' H' => D.nx (σ'.set q.i none) H', rt := D.rt, bk := fun σ' H' => D.bk (σ'.set q.i none) H', ct := fun σ' H' => D.ct (σ'.set q.i none) H' } (σ.set q.i (some (.ref a))) H) ∧ (b = false → wManyAs K Wout D r cls d σ H)
inductive HdsAs (X : Cx) : List ExceptHandler → List Hd → Prop
  | nil : HdsAs X [] []
  | cons {x n : Str} {q : Hd} {b₀ : Stmt} {suite : List Stmt} {np pos' : Pos} {hds : List ExceptHandler} {l : List Hd} (hc : Names X x q.c) (hi : X.N[q.i]? = some n) (hln : X.env.kindOf n = some .local)
      (hsu : ∀ (a : Addr) (oe : Obj) (cls : Value) (d : Option Addr) (pn : List (Addr × Obj)), Zc cls d oe → (∃ vs, oe.data = .fields vs) → PSs (X.suite a ((a, oe) :: pn)) (b₀ :: suite) (q.ts a cls d)) (r : HdsAs X hds l) :
      HdsAs X (.ExceptHandler (some (.Name x np)) (some n) (b₀ :: suite) pos' :: hds) (q :: l)
section
variable {X : Cx} {body : List Stmt} {h₀ : ExceptHandler} {hds : List ExceptHandler} {l : List Hd} {pos : Pos} {tb : WX → TS} {Wout : WX}
theorem ps_try_manyAs (hs : X.stack = X.env :: X.outer) (hf : X.env.frame = some X.env.locals) (hN : X.N.Nodup) (tk : Takes X Wout)
    (hb : ∀ (W : WX) (pn : List (Addr × Obj)) (xe : Value → Shared → Prop), Takes (X.tr pn xe) W → PassesOwn (model X.prog X.w) X.A X.env xe → PSs (X.tr pn xe) body (tb W))
    (hh : HdsAs X (h₀ :: hds) l) : PS X (.Try body (h₀ :: hds) [] [] pos) (fun D σ H => tb (wManyAs X.K Wout D l) D σ H) := by
  refine ⟨fun pins s σ H D I h => ?_⟩
  have ok := I.ok
  have hfr : X.A.frames = some (X.env :: X.outer) := by rw [ok.frames, hs]
  refine wpAny_Try_except ?_
  refine wpAny_mono ((hb (wManyAs X.K Wout D l) (X.pn ++ pins) (fun e s₁ => wpAny (model X.prog X.w) X.A (noteFrame e X.env) (fun _ s₂ => wpAny (model X.prog X.w) X.A (setFlight e none) (fun _ s₃ =>
    wpAny (model X.prog X.w) X.A (handleBy e X.env (h₀ :: hds)) (SP X pins D) X.xe s₃) X.xe s₂) X.xe s₁) (fun u s' xx => ?_) PassesOwn.looking).run [] s σ H D (I.toTry _) h) (fun f s1 hsp => ?_) (fun e s1 he => he)
  · obtain ⟨a, B, sI, pins', σ', H', cls, d, rfl, J', nb, up, sky, na, os, ag, w⟩ := xx
    have J : Inv X pins σ' H' sI := J'.ofTry ok
    have sky' : Sky B (X.env :: X.outer) a (Zc cls d) X.env.locals s'.heap := by rw [← hs]; exact sky
    show wpAny (model X.prog X.w) X.A (noteFrame (.ref a) X.env) _ _ _
    refine Sky.land Zc.steady hfr hf sky' fun h3 fl3 up3 => ?_
    have J3 : Inv X pins σ' H' { s' with heap := h3 } := J.landed nb fl3.1 (up.trans up3) os ag
    obtain ⟨oe3, vs3, he3, hz3, hd3⟩ := fl3.there
    have notFr : ∀ {h : Heap} {o : Obj} {vs : Array Value}, h.FunFrames B (X.env :: X.outer) → h.get? a = some o → o.data = .fields vs → a ∉ frs (X.env :: X.outer) := fun {h o vs} ff e dd hm => by
      obtain ⟨_, o', e', hnf⟩ := ff.mem hm
      rw [e] at e'; cases e'
      exact hnf _ dd
    have nfr := notFr fl3.2.2.1 he3 hd3
    have nL : a ≠ X.env.locals := fun z => nfr (List.mem_filterMap.mpr ⟨X.env, List.mem_cons_self, by rw [hf, z]⟩)
    have nF : a ∉ X.fs := fun hm => by
      obtain ⟨e, he, q⟩ := List.mem_filterMap.mp hm
      exact nfr (List.mem_filterMap.mpr ⟨e, List.mem_cons_of_mem _ he, q⟩)
    have S3 := J3.suite he3 hd3 na nL nF
    have go : ∀ {hds' : List ExceptHandler} {l' : List Hd}, HdsAs X hds' l' → wManyAs X.K Wout D l' cls d σ' H' →
        wpAny (model X.prog X.w) X.A (handleBy (.ref a) X.env hds') (SP X pins D) X.xe { s' with heap := h3 } := by
      intro hds' l' hk
      induction hk with
      | nil =>
        intro w
        refine wpAny_handleBy_nil ?_
        obtain ⟨k1, k2, k3, oe, vs, T, oT, ts', he, hz, hd, h1, hr⟩ := id fl3
        unfold PySem.passOn
        refine wpAny_bind (wpAny_field he hd h1 ?_)
        rw [if_neg (show ¬ ((Value.ref T == Value.none) = true) from by simp)]
        have fin : wpAny (model X.prog X.w) X.A (setFlight (.ref a) X.env.frame) (fun _ s4 => wpAny (model X.prog X.w) X.A (throw (.ref a) : Sem Flow) (SP X pins D) X.xe s4) X.xe { s' with heap := h3 } := by
          rw [hf]
          refine HandSPX.setFlight_upZ fl3 fun h4 hh4 up4 => wpAny_throw (tk _ _ ?_)
          exact ⟨a, B, sI, pins, σ', H', cls, d, rfl, J, nb, (up.trans up3).trans up4, .inr (.inr (by rw [hs]; exact hh4)), na, os, ag, w⟩
        first
          | exact wpAny_bind (wpAny_pure (wpAny_bind fin))
          | exact wpAny_bind fin
      | @cons x n q b₀ suite np pos' hds2 l2 hc hi hln hsu r ih =>
        intro w
        have hloc : Loc X.env.scope n := .inl hln
        obtain ⟨b, hb1, hyes, hno⟩ := w
        refine wpAny_handleBy_cons (codeAny_handlers_test ?_) (by intro q; cases q)
        have LT : PySem.W.Looks (model X.prog X.w) h3 (typeOf (.ref a)) cls := fun A Q E s k q => wpAny_typeOf_ref (k _ _ he3) (by rw [hz3.1]; exact q)
        have LM := PySem.W.exm_one (M := model X.prog X.w) (J3.kIn) LT hb1
        have test : ∀ {Q : Value → Shared → Prop} {E : Value → Shared → Prop}, Q q.c { s' with heap := h3 } → wpAny (model X.prog X.w) (X.A.mark (some (.ref a))) (eval (.Name x np) X.env) Q E { s' with heap := h3 } := fun {Q E} qq => by
          obtain ⟨hg, hdbg, hm | ⟨hm, hv, hnn⟩⟩ := hc
          · exact ld_glob (X := X.suite a ((a, oe3) :: (X.pn ++ pins))) S3 hg hm qq hdbg
          · exact ld_blt (X := X.suite a ((a, oe3) :: (X.pn ++ pins))) S3 hg hm hv qq hnn hdbg
        refine test (LM.here ?_)
        cases b with
        | true =>
          refine codeAny_handlers_suite_as ?_
          refine HandSPX.lands_againZ fl3 fun h4 fl4 up4 => ?_
          have J4 : Inv X pins σ' H' { s' with heap := h4 } := J.landed nb fl4.1 ((up.trans up3).trans up4) os ag
          obtain ⟨oe4, vs4, he4, hz4, hd4⟩ := fl4.there
          have S4 := J4.suite he4 hd4 na nL nF
          refine store_ok (X := X.suite a ((a, oe4) :: (X.pn ++ pins))) (v := .ref a) S4 hN hi hloc rfl (fun s5 S5 => ?_) (.inr hln)
          refine wpAny_mono ((hsu a oe4 cls d (X.pn ++ pins) hz4 ⟨_, hd4⟩).run [] s5 _ H' _ S5 (hyes rfl a na)) (fun f s6 hsp => ?_) (fun _ _ z => False.elim z)
          have end_ : ∀ {σ6 : St} {H6 : Hp} {Q : Shared → Prop}, Inv (X.suite a ((a, oe4) :: (X.pn ++ pins))) [] σ6 H6 s6 → (∀ s7, Inv X pins (σ6.set q.i none) H6 s7 → Q s7) →
              wpAny (model X.prog X.w) X.A (do bindName X.env n .none; unbindBehindTheSuite X.env n pos') (fun _ s7 => Q s7) X.xe s6 := fun {σ6 H6 Q} S6 hq => gone_ok (S6.unsuite ok) hN hi hln hq
          cases f with
          | next =>
            obtain ⟨σ6, H6, S6, q6⟩ := hsp
            exact end_ S6 fun s7 J7 => ⟨_, _, J7, q6⟩
          | brk =>
            obtain ⟨σ6, H6, S6, q6⟩ := hsp
            exact end_ S6 fun s7 J7 => ⟨_, _, J7, q6⟩
          | cont =>
            obtain ⟨σ6, H6, S6, q6⟩ := hsp
            exact end_ S6 fun s7 J7 => ⟨_, _, J7, q6⟩
          | ret u =>
            obtain ⟨v6, σ6, H6, S6, r6, q6⟩ := hsp
            exact end_ S6 fun s7 J7 => ⟨_, _, _, J7, r6, q6⟩
        | false =>
          show wpAny _ X.A (handleBy (.ref a) X.env hds2) _ _ _
          exact ih (hno rfl)
    exact go hh w
  · cases f with
    | next =>
      obtain ⟨σ', H', J', q⟩ := hsp
      exact wpAny_execs_nil ⟨σ', H', J'.ofTry ok, q⟩
    | brk =>
      obtain ⟨σ', H', J', q⟩ := hsp
      exact ⟨σ', H', J'.ofTry ok, q⟩
    | cont =>
      obtain ⟨σ', H', J', q⟩ := hsp
      exact ⟨σ', H', J'.ofTry ok, q⟩
    | ret u =>
      obtain ⟨v, σ', H', J', r, q⟩ := hsp
      exact ⟨v, σ', H', J'.ofTry ok, r, q⟩
end
end L2
set_option Elab.async false
set_option linter.all false
set_option maxRecDepth 100000
set_option maxHeartbeats 4000000
namespace L2
open PySem PySem.Spec PyProof.Rows
/-- a def of the module as callers see it -/
def Cal (P : Program) (w : World) (K : PySem.W.Frag) (mg : Str → Option Value) (base : Heap) (CX : CXT) (x : Str) (k : Nat) (ps : List Str) (sp : Sp) : Prop :=
  ∃ f fd, FnOk P w K mg base CX k f fd ps sp ∧ mg x = some (.ref f) ∧ PySem.W.keepIn K (.ref f) = true ∧ Binds K fd ps []
theorem Cal.imp {P : Program} {w : World} {K : PySem.W.Frag} {mg : Str → Option Value} {base : Heap} {CX : CXT} {x : Str} {k : Nat} {ps : List Str} {sp sp' : Sp} (c : Cal P w K mg base CX x k ps sp) (h : ∀ vs H Q E, sp' vs H Q E → sp vs H Q E) : Cal P w K mg base CX x k ps sp' := by
  obtain ⟨f, fd, F, a, b, d⟩ := c
  exact ⟨f, fd, F.imp h, a, b, d⟩
section
variable {X : Cx} {k : Nat} {ps : List Str} {sp : Sp} {x : Str} {p pos : Pos} {e : Expr} {es : List Expr} {t : TA}
theorem pe_cal (c : Cal X.prog X.w X.K X.mg X.base CX0 x k ps sp) (hr : Room k X.A) (hg : Gl X x) (ha : PA X (e :: es) t)
    (hdb : (x == ("__debug__" : Str)) = false := by decide) (he : starEach (e :: es) X.env = (false, eval e X.env) :: starEach es X.env := by rfl) (hpl : (backTo pos (starEach es X.env)).any (·.1) = false := by rfl) :
    PE X (.Call (.Name x p) (e :: es) [] pos) (tCall sp [] E0 t) := by
  obtain ⟨f, fd, F, hm, hk, hb⟩ := c
  exact pe_call F hr hg hm hk hb .nil pass0 ha hdb he hpl
theorem pe_cal0 (c : Cal X.prog X.w X.K X.mg X.base CX0 x k ps sp) (hr : Room k X.A) (hg : Gl X x) (hdb : (x == ("__debug__" : Str)) = false := by decide) :
    PE X (.Call (.Name x p) [] [] pos) (tCall sp [] E0 tNil) := by
  obtain ⟨f, fd, F, hm, hk, hb⟩ := c
  exact pe_call0 F hr hg hm hk hb .nil pass0 hdb
theorem pe_calS {E : St → XK} {CX : CXT} (c : Cal X.prog X.w X.K X.mg X.base CX x k ps sp) (hr : Room k X.A) (hg : Gl X x) (hx : ∀ σ, PassesAt CX X σ (E σ)) (ha : PA X (e :: es) t)
    (hdb : (x == ("__debug__" : Str)) = false := by decide) (he : starEach (e :: es) X.env = (false, eval e X.env) :: starEach es X.env := by rfl) (hpl : (backTo pos (starEach es X.env)).any (·.1) = false := by rfl) :
    PE X (.Call (.Name x p) (e :: es) [] pos) (tCallS sp E t) := by
  obtain ⟨f, fd, F, hm, hk, hb⟩ := c
  exact pe_callS F hr hg hm hk hb hx ha hdb he hpl
end
/-- a def, and how its own callee stands -/
theorem cal_of {P : Program} {w : World} {K : PySem.W.Frag} {mg : Str → Option Value} {base : Heap} {CX : CXT} {x : Str} {k : Nat} {ps : List Str} {sp : Sp} {st : Stmt} {f : Addr} {fd : FuncData}
    (F : FunD K x x (defArgs st) (defBody st) (defScope st) [] [] f fd) (g : mg x = some (.ref f)) (b : Binds K fd ps []) (o : FnOk P w K mg base CX k f fd ps sp) : Cal P w K mg base CX x k ps sp :=
  ⟨f, fd, o, g, F.kp, b⟩
/-! ### a law's bag -/
/-- where a bag stands, where its script's list stands, what that list holds -/
structure Bg where
  b : Addr
  l : Addr
  ns : List Int
/-- the bag: the script's list, the place, what is left of a long item, the seed, the count -/
def Bag (g : Bg) (H : Hp) : Prop := ∃ (i : Nat) (u sd c : Int), H g.b = some (.lst [.ref g.l, .int i, .int u, .int sd, .int c]) ∧ H g.l = some (.lst (g.ns.map V.int)) ∧ g.l ≠ g.b ∧ g.ns.length ≤ 63 ∧ i ≤ g.ns.length ∧ 0 ≤ u ∧ 0 ≤ sd ∧ sd < 2147483629
/-- what stood but the bag stands; the bag is a bag -/
def Drew (g : Bg) (H H' : Hp) : Prop := (∀ a o, a ≠ g.b → H a = some o → H' a = some o) ∧ Bag g H'
section
variable {g : Bg} {H H1 H2 H' : Hp} {p : Addr} {o : HO}
theorem Drew.trans (x : Drew g H H1) (y : Drew g H1 H2) : Drew g H H2 := ⟨fun a o n e => y.1 a o n (x.1 a o n e), y.2⟩
theorem Bag.ref (x : Bag g H) : ∃ o, H g.b = some o := by
  obtain ⟨i, u, sd, c, h, _⟩ := x
  exact ⟨_, h⟩
theorem Bag.ne (x : Bag g H) (n : H p = none) : p ≠ g.b := fun e => by
  obtain ⟨o, h⟩ := x.ref
  rw [e, h] at n
  cases n
theorem Bag.nl (x : Bag g H) (n : H p = none) : p ≠ g.l := fun e => by
  obtain ⟨i, u, sd, c, _, h, _⟩ := x
  rw [e, h] at n
  cases n
theorem Bag.same (x : Bag g H) (s : Same H H') : Bag g H' := by
  obtain ⟨i, u, sd, c, h, h2, r⟩ := x
  exact ⟨i, u, sd, c, s _ _ h, s _ _ h2, r⟩
/-- a change that is none of the bag's -/
theorem Bag.upd (x : Bag g H) (n : p ≠ g.b) (m : p ≠ g.l) : Bag g (upd H p o) := by
  obtain ⟨i, u, sd, c, h, h2, r⟩ := x
  exact ⟨i, u, sd, c, by rw [upd_ne n.symm]; exact h, by rw [upd_ne m.symm]; exact h2, r⟩
theorem Same.new (h : H p = none) : Same H (L2.upd H p o) := fun a u e => by
  rw [upd_ne (ne_of_none e h)]
  exact e
theorem Drew.same (x : Bag g H) (s : Same H H') : Drew g H H' := ⟨fun a o _ e => s a o e, x.same s⟩
theorem Drew.refl (x : Bag g H) : Drew g H H := ⟨fun _ _ _ e => e, x⟩
theorem Drew.new (x : Drew g H H1) (n : H1 p = none) : Drew g H (L2.upd H1 p o) := x.trans (Drew.same x.2 (Same.new n))
/-- a free place was free ahead -/
theorem Drew.free (x : Drew g H H') (n : H' p = none) : H p = none := by
  cases e : H p with
  | none => rfl
  | some o =>
    rw [x.1 p o (x.2.ne n) e] at n
    cases n
end
end L2
set_option Elab.async false
set_option linter.all false
set_option maxRecDepth 100000
set_option maxHeartbeats 4000000
namespace K02
open PySem PySem.Spec PyProof.Rows L2
def top (i : Nat) : Stmt := PySem.Challenge.pw_borderflow_k02_whole_rows_in_least_form.main.body.getD i (.Pass ⟨0, 0, 0, 0⟩)
/-- the j-th def of a class's body -/
def methOf (s : Stmt) (j : Nat) : Stmt := match s with
  | .ClassDef _ _ _ b _ _ _ _ _ _ _ => b.getD j (.Pass ⟨0, 0, 0, 0⟩)
  | _ => .Pass ⟨0, 0, 0, 0⟩
abbrev FnP (K : PySem.W.Frag) (x : Str) (st : Stmt) (f : Addr) (fd : FuncData) : Prop := FunD K x x (defArgs st) (defBody st) (defScope st) [] [] f fd
end K02
set_option Elab.async false
set_option linter.all false
set_option maxRecDepth 100000
set_option maxHeartbeats 4000000
namespace K02
open PySem PySem.Spec PyProof.Rows L2
/-! ### two values that are alike -/
/-- None, a bool, an int, a text -/
inductive Sc : V → Prop
  | non : Sc .non
  | bl (x : Bool) : Sc (.bl x)
  | int (i : Int) : Sc (.int i)
  | str (x : Str) : Sc (.str x)
/-- alike to the depth n, none of it where N holds -/
def Alk (K : PySem.W.Frag) (N : Addr → Prop) (H : Hp) : Nat → V → V → Prop
  | 0 => fun x y => Sc x ∧ x = y
  | n + 1 => fun x y => (Sc x ∧ x = y) ∨ ∃ (p q : Addr) (xs ys : List V), x = .ref p ∧ y = .ref q ∧ ¬ N p ∧ ¬ N q ∧ ((H p = some (.lst xs) ∧ H q = some (.lst ys)) ∨ (SqT K H p xs ∧ SqT K H q ys)) ∧ xs.length = ys.length ∧ xs.length ≤ 1000 ∧
      ∀ (i : Nat) (u v : V), xs[i]? = some u → ys[i]? = some v → Alk K N H n u v
section
variable {K : PySem.W.Frag} {N M : Addr → Prop} {H H' : Hp}
theorem sqT_to {a : Addr} {xs : List V} (h : SqT K H a xs) (d : ∀ o, H a = some o → H' a = some o) : SqT K H' a xs := by
  rcases h with (h | ⟨o, h⟩) | h
  · exact .inl (.inl (d _ h))
  · exact .inl (.inr ⟨o, d _ h⟩)
  · exact .inr h
theorem same_T {a : Addr} {xs : List V} (s : Same H H') (h : SqT K H a xs) : SqT K H' a xs := sqT_to h fun o e => s _ _ e
theorem tyT {a : Addr} {xs : List V} (h : SqT K H a xs) : TyX K H (.ref a) (.type "tuple") := by
  rcases h with (h | ⟨o, h⟩) | ⟨o, its, n, h, c, _⟩
  · exact .base (.tup h)
  · exact .fTuple h
  · exact .kTuple h c
theorem Alk.split {n : Nat} {x y : V} (h : Alk K N H n x y) : (Sc x ∧ x = y) ∨ ∃ (m : Nat) (p q : Addr) (xs ys : List V), n = m + 1 ∧ x = .ref p ∧ y = .ref q ∧ ¬ N p ∧ ¬ N q ∧ ((H p = some (.lst xs) ∧ H q = some (.lst ys)) ∨ (SqT K H p xs ∧ SqT K H q ys)) ∧ xs.length = ys.length ∧ xs.length ≤ 1000 ∧
      ∀ (i : Nat) (u v : V), xs[i]? = some u → ys[i]? = some v → Alk K N H m u v := by
  cases n with
  | zero => exact .inl h
  | succ m =>
    rcases h with h | ⟨p, q, xs, ys, r⟩
    · exact .inl h
    · exact .inr ⟨m, p, q, xs, ys, rfl, r⟩
theorem Alk.sc {n : Nat} {x : V} (h : Sc x) : Alk K N H n x x := by
  cases n with
  | zero => exact ⟨h, rfl⟩
  | succ m => exact .inl ⟨h, rfl⟩
theorem Alk.up : ∀ {n : Nat} {x y : V}, Alk K N H n x y → Alk K N H (n + 1) x y
  | 0, _, _, h => .inl h
  | n + 1, _, _, h => by
    rcases h with h | ⟨p, q, xs, ys, e1, e2, n1, n2, e3, e4, e5, e6⟩
    · exact .inl h
    · exact .inr ⟨p, q, xs, ys, e1, e2, n1, n2, e3, e4, e5, fun i u v hu hv => (e6 i u v hu hv).up⟩
theorem Alk.mono {m n : Nat} {x y : V} (h : Alk K N H m x y) (le : m ≤ n) : Alk K N H n x y := by
  induction le with
  | refl => exact h
  | step _ ih => exact ih.up
/-- fewer forbidden places; the heap may change at forbidden ones -/
theorem Alk.to (s : ∀ a, M a → N a) (d : ∀ a o, ¬ N a → H a = some o → H' a = some o) : ∀ {n : Nat} {x y : V}, Alk K N H n x y → Alk K M H' n x y
  | 0, _, _, h => h
  | n + 1, _, _, h => by
    rcases h with h | ⟨p, q, xs, ys, e1, e2, n1, n2, e3, e4, e5, e6⟩
    · exact .inl h
    · refine .inr ⟨p, q, xs, ys, e1, e2, fun z => n1 (s _ z), fun z => n2 (s _ z), ?_, e4, e5, fun i u v hu hv => (e6 i u v hu hv).to s d⟩
      rcases e3 with ⟨h1, h2⟩ | ⟨h1, h2⟩
      · exact .inl ⟨d _ _ n1 h1, d _ _ n2 h2⟩
      · exact .inr ⟨sqT_to h1 fun o e => d _ _ n1 e, sqT_to h2 fun o e => d _ _ n2 e⟩
theorem Alk.same (d : Same H H') {n : Nat} {x y : V} (h : Alk K N H n x y) : Alk K N H' n x y := h.to (fun _ z => z) fun a o _ e => d a o e
theorem Alk.drew {b : Addr} (d : ∀ a o, a ≠ b → H a = some o → H' a = some o) (hb : N b) {n : Nat} {x y : V} (h : Alk K N H n x y) : Alk K N H' n x y := h.to (fun _ z => z) fun a o n e => d a o (fun z => n (z ▸ hb)) e
end
theorem kitP {K : PySem.W.Frag} {a b : String} {r : Bool} (h : kitB a b = some r) : PySem.W.kitOne K (.type a) (.type b) = some r := kit_ty h
/-- isinstance(x, (list, tuple)) by the type's name -/
theorem kitLT {K : PySem.W.Frag} {a : String} {r s : Bool} (h : kitB a "list" = some r) (h2 : kitB a "tuple" = some s) : PySem.W.kitAny K (.type a) [.type "list", .type "tuple"] = some (r || s) :=
  kitAny_cons (kit_ty h) (fun e => kitAny_cons (kit_ty h2) (fun e2 => by rw [e, e2]; exact kitAny_nil) (fun e2 => by rw [e, e2] <;> rfl)) (fun e => by rw [e] <;> rfl)
theorem yes_of {σ : L2.St} {H : Hp} {Q : Bool → Hp → Prop} (h : Q true H) : tYes σ H Q := h
theorem lt2 : Paired ClsV [V.ty "list", V.ty "tuple"] [Value.type "list", Value.type "tuple"] := .cons (.ty _) (.cons (.ty _) .nil)
theorem walk_zipT {K : PySem.W.Frag} {a b : Addr} {xs ys : List V} (hn : xs.length = ys.length) : Walk (RZ.ItzT K a b) xs.length (fun H => SqT K H a xs ∧ SqT K H b ys) (YPair (fun i => xs[i]?) (fun i => ys[i]?)) where
  goes := fun i H hi h => ⟨xs, ys, xs[i], ys[i]'(hn ▸ hi), h.1, h.2, List.getElem?_eq_getElem hi, List.getElem?_eq_getElem (hn ▸ hi)⟩
  stops := fun H h => ⟨xs, ys, h.1, h.2, .inl (Nat.le_refl _)⟩
  yields := fun i H x H' _ h y => by
    obtain ⟨T, u, v, e1, e2, e3, e4, e5⟩ := y
    exact ⟨T, u, v, e1, e2, e3, e4 _ h.1, e5 _ h.2⟩
section
variable {P : Program} {w : World} {K : PySem.W.Frag} {mg : Str → Option Value} {base : Heap}
def spLike (K : PySem.W.Frag) (N : Addr → Prop) (n : Nat) : Sp := fun vs H Q _ => ∃ x y : V, vs = [x, y] ∧ Alk K N H n x y ∧ ∀ H', Same H H' → Q (.bl true) H'
theorem sc_like : FnScope ["_law_found", "_law_due", "_law_a", "_law_b"] ["_law_found", "_law_due"] (defScope (top 42)) := ⟨rfl, rfl, rfl, by decide +kernel, rfl, by decide +kernel, by decide +kernel⟩
structure Like (mg : Str → Option Value) : Prop where
  isi : mg "isinstance" = none
  list : mg "list" = none
  tuple : mg "tuple" = none
  len : mg "len" = none
  all : mg "all" = none
  zip : mg "zip" = none
  bool : mg "bool" = none
  str : mg "str" = none
  int : mg "int" = none
theorem ok_like_step {f : Addr} {fd : FuncData} {N : Addr → Prop} {n j : Nat} {sp : Sp} (F : FnP K "_law_like" (top 42) f fd) (T : Like mg) (c__law_like : Cal P w K mg base CX0 "_law_like" j ["_law_found", "_law_due"] sp)
    (hsp : ∀ m, n = m + 1 → sp = spLike K N m) : FnOk P w K mg base CX0 (j + 1) f fd ["_law_found", "_law_due"] (spLike K N n) := by
  have sc := sc_like
  obtain ⟨m_isinstance, m_list, m_tuple, m_len, m_all, m_zip, m_bool, m_str, m_int⟩ := T
  refine F.ok sc (fun vs H Q E h => ?_) (fun cdv A outer s H vs Q E hr h => ?_)
  · obtain ⟨x, y, rfl, _⟩ := h
    rfl
  · obtain ⟨x, y, rfl, hA, k⟩ := h
    have hr__law_like : Room j _ := hr
    refine ⟨_, PSs.nox (pss_cons (ps_if (pt_val (pe_callB call_isiT (by rfl) m_isinstance (by decide +kernel) (pa_cons (pv 1) (pa_cons (pe_tup (pa_cons (pe_bltn (v := .ty "list") rfl m_list boot_list rfl) (pa_cons (pe_bltn (v := .ty "tuple") rfl m_tuple boot_tuple rfl) pa_nil))) pa_nil)))) (pss_cons (ps_if (PW.pt (pw_or (pt_cmpR op_ne (pe_callB call_isi (by rfl) m_isinstance (by decide +kernel) (pa_cons (pv 0) (pa_cons (pe_bltn (v := .ty "list") rfl m_list boot_list rfl) pa_nil))) (pe_callB call_isi (by rfl) m_isinstance (by decide +kernel) (pa_cons (pv 1) (pa_cons (pe_bltn (v := .ty "list") rfl m_list boot_list rfl) pa_nil))) (nomark _)) (pw_or1 (pt_cmpR op_ne (pe_callB call_isi (by rfl) m_isinstance (by decide +kernel) (pa_cons (pv 0) (pa_cons (pe_bltn (v := .ty "tuple") rfl m_tuple boot_tuple rfl) pa_nil))) (pe_callB call_isi (by rfl) m_isinstance (by decide +kernel) (pa_cons (pv 1) (pa_cons (pe_bltn (v := .ty "tuple") rfl m_tuple boot_tuple rfl) pa_nil))) (nomark _))))) (pss_one (ps_ret pe_bl)) pss_nil)
      (pss_one (ps_ret (pe_and (pe_cmpR op_eq (pe_callB call_len_seq (by rfl) m_len (by decide +kernel) (pa_cons (pv 0) pa_nil)) (pe_callB call_len_seq (by rfl) m_len (by decide +kernel) (pa_cons (pv 1) pa_nil)) (nomark _)) (pe_one (pe_callB (cr_all rfl) (by rfl) m_all (by decide +kernel) (pa_cons (pe_lc (own := [("_law_a", 2), ("_law_b", 3)]) (g := gTup _ 2 (gCons (gName 2) (gCons (gName 3) gNil))) rfl sc.nd (RZ.pi_zipA rfl m_zip (pa_cons (pv 0) (pa_cons (pv 1) pa_nil))) (blkOk_by (N := ["_law_found", "_law_due", "_law_a", "_law_b"]) (sc := defScope (top 42)) (by decide +kernel)) (fun _ _ _ _ _ => (pg_tup rfl (pgs_cons (pg_name (i := 2) sc.nd rfl (Or.inl rfl)) (pgs_cons (pg_name (i := 3) sc.nd rfl (Or.inl rfl)) pgs_nil)))) (fun _ _ _ _ _ => pts_nil) (fun _ _ _ _ _ => (pe_cal c__law_like hr__law_like rfl (pa_cons (pv 2) (pa_cons (pv 3) pa_nil))))) pa_nil))))))) pss_nil)
      (pss_cons (ps_if (PW.pt (pw_or (pt_cmp (pc_isN (pv 1))) (pw_or1 (pt_cmp (pc_isN (pv 0)))))) (pss_one (ps_ret (pe_and (pe_cmp (pc_isN (pv 1))) (pe_one (pe_cmp (pc_isN (pv 0))))))) pss_nil)
      (pss_cons (ps_if (PW.pt (pw_or (pt_val (pe_callB call_isiT (by rfl) m_isinstance (by decide +kernel) (pa_cons (pv 0) (pa_cons (pe_tup (pa_cons (pe_bltn (v := .ty "list") rfl m_list boot_list rfl) (pa_cons (pe_bltn (v := .ty "tuple") rfl m_tuple boot_tuple rfl) pa_nil))) pa_nil)))) (pw_or1 (pt_cmpR op_ne (pe_callB call_isi (by rfl) m_isinstance (by decide +kernel) (pa_cons (pv 0) (pa_cons (pe_bltn (v := .ty "bool") rfl m_bool boot_bool rfl) pa_nil))) (pe_callB call_isi (by rfl) m_isinstance (by decide +kernel) (pa_cons (pv 1) (pa_cons (pe_bltn (v := .ty "bool") rfl m_bool boot_bool rfl) pa_nil))) (nomark _))))) (pss_one (ps_ret pe_bl)) pss_nil)
      (pss_cons (ps_if (PW.pt (pw_or (pt_cmpR op_ne (pe_callB call_isi (by rfl) m_isinstance (by decide +kernel) (pa_cons (pv 0) (pa_cons (pe_bltn (v := .ty "str") rfl m_str boot_str rfl) pa_nil))) (pe_callB call_isi (by rfl) m_isinstance (by decide +kernel) (pa_cons (pv 1) (pa_cons (pe_bltn (v := .ty "str") rfl m_str boot_str rfl) pa_nil))) (nomark _)) (pw_or1 (pt_cmpR op_ne (pe_callB call_isi (by rfl) m_isinstance (by decide +kernel) (pa_cons (pv 0) (pa_cons (pe_bltn (v := .ty "int") rfl m_int boot_int rfl) pa_nil))) (pe_callB call_isi (by rfl) m_isinstance (by decide +kernel) (pa_cons (pv 1) (pa_cons (pe_bltn (v := .ty "int") rfl m_int boot_int rfl) pa_nil))) (nomark _))))) (pss_one (ps_ret pe_bl)) pss_nil)
      (pss_one (ps_ret (pe_cmpR op_eq (pv 0) (pv 1) (nomark _)))))))), ?_⟩
    rcases hA.split with ⟨hs, rfl⟩ | ⟨m, p, q, xs, ys, rfl, rfl, rfl, np, nq, ho, hlen, h1000, hall⟩
    · cases hs with
      | non =>
        refine ⟨_, rfl, (by show 2 ≤ sizeLine; decide), fun t1 ht1 => ⟨_, t1, _, _, _, _, rfl, upd_same, lt2, .base .non, kitLT (r := false) (s := false) (by decide +kernel) (by decide +kernel), _, rfl, iteF ?_⟩⟩
        refine ⟨_, rfl, _, rfl, ite2 (fun _ => ?_) (fun e => absurd rfl e)⟩
        refine ⟨_, rfl, _, rfl, ite2 (fun _ => ?_) (fun e => absurd rfl e)⟩
        refine ⟨_, rfl, ?_⟩
        exact k _ (Same.new ht1)
      | bl z =>
        refine ⟨_, rfl, (by show 2 ≤ sizeLine; decide), fun t1 ht1 => ⟨_, t1, _, _, _, _, rfl, upd_same, lt2, .base (.bl _), kitLT (r := false) (s := false) (by decide +kernel) (by decide +kernel), _, rfl, iteF ?_⟩⟩
        refine ⟨_, rfl, _, rfl, ite2 (fun e => absurd e (by simp)) (fun _ => ?_)⟩
        refine ⟨_, rfl, _, rfl, ite2 (fun e => absurd e (by simp)) (fun _ => ?_)⟩
        refine ⟨_, rfl, (by show 2 ≤ sizeLine; decide), fun t2 ht2 => ⟨_, t2, _, _, _, _, rfl, upd_same, lt2, .base (.bl _), kitLT (r := false) (s := false) (by decide +kernel) (by decide +kernel), _, rfl, iteF ?_⟩⟩
        refine ⟨_, rfl, _, _, _, _, _, rfl, .ty _, .base (.bl _), kit_ty (r := true) (by decide +kernel), _, rfl, _, _, _, _, _, rfl, .ty _, .base (.bl _), kit_ty (r := true) (by decide +kernel), rfl, _, rfl, ite2 (fun e => absurd e (by simp)) (fun _ => ?_)⟩
        refine ⟨_, rfl, _, _, _, _, _, rfl, .ty _, .base (.bl _), kit_ty (r := false) (by decide +kernel), _, rfl, _, _, _, _, _, rfl, .ty _, .base (.bl _), kit_ty (r := false) (by decide +kernel), rfl, _, rfl, ite2 (fun e => absurd e (by simp)) (fun _ => ?_)⟩
        refine ⟨_, rfl, _, _, _, _, _, rfl, .ty _, .base (.bl _), kit_ty (r := true) (by decide +kernel), _, rfl, _, _, _, _, _, rfl, .ty _, .base (.bl _), kit_ty (r := true) (by decide +kernel), rfl, _, rfl, ite2 (fun e => absurd e (by simp)) (fun _ => ?_)⟩
        refine ⟨_, rfl, _, rfl, rfl, ?_⟩
        show Q (V.bl (decide (_ = _))) _
        rw [decide_eq_true rfl]
        exact k _ ((Same.new ht1).trans (Same.new ht2))
      | int z =>
        refine ⟨_, rfl, (by show 2 ≤ sizeLine; decide), fun t1 ht1 => ⟨_, t1, _, _, _, _, rfl, upd_same, lt2, .base (.int _), kitLT (r := false) (s := false) (by decide +kernel) (by decide +kernel), _, rfl, iteF ?_⟩⟩
        refine ⟨_, rfl, _, rfl, ite2 (fun e => absurd e (by simp)) (fun _ => ?_)⟩
        refine ⟨_, rfl, _, rfl, ite2 (fun e => absurd e (by simp)) (fun _ => ?_)⟩
        refine ⟨_, rfl, (by show 2 ≤ sizeLine; decide), fun t2 ht2 => ⟨_, t2, _, _, _, _, rfl, upd_same, lt2, .base (.int _), kitLT (r := false) (s := false) (by decide +kernel) (by decide +kernel), _, rfl, iteF ?_⟩⟩
        refine ⟨_, rfl, _, _, _, _, _, rfl, .ty _, .base (.int _), kit_ty (r := false) (by decide +kernel), _, rfl, _, _, _, _, _, rfl, .ty _, .base (.int _), kit_ty (r := false) (by decide +kernel), rfl, _, rfl, ite2 (fun e => absurd e (by simp)) (fun _ => ?_)⟩
        refine ⟨_, rfl, _, _, _, _, _, rfl, .ty _, .base (.int _), kit_ty (r := false) (by decide +kernel), _, rfl, _, _, _, _, _, rfl, .ty _, .base (.int _), kit_ty (r := false) (by decide +kernel), rfl, _, rfl, ite2 (fun e => absurd e (by simp)) (fun _ => ?_)⟩
        refine ⟨_, rfl, _, _, _, _, _, rfl, .ty _, .base (.int _), kit_ty (r := true) (by decide +kernel), _, rfl, _, _, _, _, _, rfl, .ty _, .base (.int _), kit_ty (r := true) (by decide +kernel), rfl, _, rfl, ite2 (fun e => absurd e (by simp)) (fun _ => ?_)⟩
        refine ⟨_, rfl, _, rfl, rfl, ?_⟩
        show Q (V.bl (decide (_ = _))) _
        rw [decide_eq_true rfl]
        exact k _ ((Same.new ht1).trans (Same.new ht2))
      | str z =>
        refine ⟨_, rfl, (by show 2 ≤ sizeLine; decide), fun t1 ht1 => ⟨_, t1, _, _, _, _, rfl, upd_same, lt2, .base (.str _), kitLT (r := false) (s := false) (by decide +kernel) (by decide +kernel), _, rfl, iteF ?_⟩⟩
        refine ⟨_, rfl, _, rfl, ite2 (fun e => absurd e (by simp)) (fun _ => ?_)⟩
        refine ⟨_, rfl, _, rfl, ite2 (fun e => absurd e (by simp)) (fun _ => ?_)⟩
        refine ⟨_, rfl, (by show 2 ≤ sizeLine; decide), fun t2 ht2 => ⟨_, t2, _, _, _, _, rfl, upd_same, lt2, .base (.str _), kitLT (r := false) (s := false) (by decide +kernel) (by decide +kernel), _, rfl, iteF ?_⟩⟩
        refine ⟨_, rfl, _, _, _, _, _, rfl, .ty _, .base (.str _), kit_ty (r := false) (by decide +kernel), _, rfl, _, _, _, _, _, rfl, .ty _, .base (.str _), kit_ty (r := false) (by decide +kernel), rfl, _, rfl, ite2 (fun e => absurd e (by simp)) (fun _ => ?_)⟩
        refine ⟨_, rfl, _, _, _, _, _, rfl, .ty _, .base (.str _), kit_ty (r := true) (by decide +kernel), _, rfl, _, _, _, _, _, rfl, .ty _, .base (.str _), kit_ty (r := true) (by decide +kernel), rfl, _, rfl, ite2 (fun e => absurd e (by simp)) (fun _ => ?_)⟩
        refine ⟨_, rfl, _, _, _, _, _, rfl, .ty _, .base (.str _), kit_ty (r := false) (by decide +kernel), _, rfl, _, _, _, _, _, rfl, .ty _, .base (.str _), kit_ty (r := false) (by decide +kernel), rfl, _, rfl, ite2 (fun e => absurd e (by simp)) (fun _ => ?_)⟩
        refine ⟨_, rfl, _, rfl, rfl, ?_⟩
        show Q (V.bl (decide (_ = _))) _
        rw [decide_eq_true rfl]
        exact k _ ((Same.new ht1).trans (Same.new ht2))
    · rcases ho with ⟨hp, hq⟩ | ⟨hp, hq⟩
      · have e := hsp m rfl
        subst e
        refine ⟨_, rfl, (by show 2 ≤ sizeLine; decide), fun t1 ht1 => ?_⟩
        have s1 : Same H (upd H t1 (.tup [.ty "list", .ty "tuple"])) := Same.new ht1
        refine ⟨_, t1, _, _, _, _, rfl, upd_same, lt2, .base (.lst (s1 _ _ hq)), kitLT (r := true) (s := false) (by decide +kernel) (by decide +kernel), _, rfl, iteT ?_⟩
        refine ⟨_, rfl, _, _, _, _, _, rfl, .ty _, .base (.lst (s1 _ _ hp)), kit_ty (r := true) (by decide +kernel), _, rfl, _, _, _, _, _, rfl, .ty _, .base (.lst (s1 _ _ hq)), kit_ty (r := true) (by decide +kernel), rfl, _, rfl, ite2 (fun e => absurd e (by simp)) (fun _ => ?_)⟩
        refine ⟨_, rfl, _, _, _, _, _, rfl, .ty _, .base (.lst (s1 _ _ hp)), kit_ty (r := false) (by decide +kernel), _, rfl, _, _, _, _, _, rfl, .ty _, .base (.lst (s1 _ _ hq)), kit_ty (r := false) (by decide +kernel), rfl, _, rfl, ite2 (fun e => absurd e (by simp)) (fun _ => ?_)⟩
        refine ⟨_, rfl, p, _, rfl, .inl (SqL.of (s1 _ _ hp)), _, rfl, q, _, rfl, .inl (SqL.of (s1 _ _ hq)), rfl, _, rfl, ite2 (fun _ => ?_) (fun e => absurd (decide_eq_true (by rw [hlen])) e)⟩
        refine ⟨_, rfl, _, rfl, p, q, xs, ys, rfl, .inl ⟨SqL.of (s1 _ _ hp), SqL.of (s1 _ _ hq), fun D hD => ?_⟩⟩
        refine lc_it (walk_zip (xs := xs) (ys := ys) (n := xs.length) (by rw [hlen, Nat.min_self])) (fun i H' => (∀ a o, a ≠ D → upd H t1 (.tup [.ty "list", .ty "tuple"]) a = some o → H' a = some o) ∧ H' D = some (.lst ((List.replicate i true).map V.bl))) ⟨fun a o n e => by rw [upd_ne n]; exact e, upd_same⟩ (fun i H' _ h => ?_) ?_ ?_
        · exact ⟨SqL.of (h.1 _ _ (ne_of_none (s1 _ _ hp) hD) (s1 _ _ hp)), SqL.of (h.1 _ _ (ne_of_none (s1 _ _ hq) hD) (s1 _ _ hq))⟩
        · rintro i x H' Hn hi ⟨h1, h2⟩ ⟨T, u, v, rfl, hT, rfl, hu, hv⟩
          have s2 : Same H' (upd H' T (.tup [u, v])) := Same.new hT
          have nDT : D ≠ T := ne_of_none h2 hT
          have tot : ∀ a o, a ≠ D → upd H t1 (.tup [.ty "list", .ty "tuple"]) a = some o → upd H' T (.tup [u, v]) a = some o := fun a o n e => s2 _ _ (h1 a o n e)
          have hal : Alk K N (upd H' T (.tup [u, v])) m u v := by
            have z := hall i u v hu hv
            refine z.same fun a o e => tot a o (ne_of_none (s1 _ _ e) hD) (s1 _ _ e)
          refine ⟨T, [u, v], rfl, SqT.of upd_same, rfl, u, [v], rfl, v, [], rfl, rfl, rfl, ?_⟩
          refine yes_of (iteT ?_)
          refine ⟨_, rfl, _, rfl, u, v, rfl, hal, fun H3 s3 => ?_⟩
          have h3 : H3 D = some (.lst ((List.replicate i true).map V.bl)) := s3 _ _ (s2 _ _ h2)
          refine ⟨_, h3, ?_, ?_, ?_⟩
          · rw [List.length_map, List.length_replicate]
            exact small1000 (by omega)
          · intro a o n e
            rw [upd_ne n]
            exact s3 _ _ (tot a o n e)
          · rw [upd_same, List.replicate_succ', List.map_append]
            rfl
        · rintro H' ⟨h1, h2⟩
          refine ⟨D, _, rfl, SqL.of h2, ?_⟩
          have e : (List.replicate xs.length true).all id = true := by simp
          rw [e]
          exact k _ fun a o z => h1 a o (ne_of_none (s1 _ _ z) hD) (s1 _ _ z)
      · have e := hsp m rfl
        subst e
        refine ⟨_, rfl, (by show 2 ≤ sizeLine; decide), fun t1 ht1 => ?_⟩
        have s1 : Same H (upd H t1 (.tup [.ty "list", .ty "tuple"])) := Same.new ht1
        refine ⟨_, t1, _, _, _, _, rfl, upd_same, lt2, (tyT (same_T s1 hq)), kitLT (r := false) (s := true) (by decide +kernel) (by decide +kernel), _, rfl, iteT ?_⟩
        refine ⟨_, rfl, _, _, _, _, _, rfl, .ty _, (tyT (same_T s1 hp)), kit_ty (r := false) (by decide +kernel), _, rfl, _, _, _, _, _, rfl, .ty _, (tyT (same_T s1 hq)), kit_ty (r := false) (by decide +kernel), rfl, _, rfl, ite2 (fun e => absurd e (by simp)) (fun _ => ?_)⟩
        refine ⟨_, rfl, _, _, _, _, _, rfl, .ty _, (tyT (same_T s1 hp)), kit_ty (r := true) (by decide +kernel), _, rfl, _, _, _, _, _, rfl, .ty _, (tyT (same_T s1 hq)), kit_ty (r := true) (by decide +kernel), rfl, _, rfl, ite2 (fun e => absurd e (by simp)) (fun _ => ?_)⟩
        refine ⟨_, rfl, p, _, rfl, .inr (same_T s1 hp), _, rfl, q, _, rfl, .inr (same_T s1 hq), rfl, _, rfl, ite2 (fun _ => ?_) (fun e => absurd (decide_eq_true (by rw [hlen])) e)⟩
        refine ⟨_, rfl, _, rfl, p, q, xs, ys, rfl, .inr ⟨same_T s1 hp, same_T s1 hq, fun D hD => ?_⟩⟩
        refine lc_it (walk_zipT hlen) (fun i H' => (∀ a o, a ≠ D → upd H t1 (.tup [.ty "list", .ty "tuple"]) a = some o → H' a = some o) ∧ H' D = some (.lst ((List.replicate i true).map V.bl))) ⟨fun a o n e => by rw [upd_ne n]; exact e, upd_same⟩ (fun i H' _ h => ?_) ?_ ?_
        · exact ⟨sqT_to (same_T s1 hp) fun o e => h.1 _ _ (ne_of_none e hD) e, sqT_to (same_T s1 hq) fun o e => h.1 _ _ (ne_of_none e hD) e⟩
        · rintro i x H' Hn hi ⟨h1, h2⟩ ⟨T, u, v, rfl, hT, rfl, hu, hv⟩
          have s2 : Same H' (upd H' T (.tup [u, v])) := Same.new hT
          have nDT : D ≠ T := ne_of_none h2 hT
          have tot : ∀ a o, a ≠ D → upd H t1 (.tup [.ty "list", .ty "tuple"]) a = some o → upd H' T (.tup [u, v]) a = some o := fun a o n e => s2 _ _ (h1 a o n e)
          have hal : Alk K N (upd H' T (.tup [u, v])) m u v := by
            have z := hall i u v hu hv
            refine z.same fun a o e => tot a o (ne_of_none (s1 _ _ e) hD) (s1 _ _ e)
          refine ⟨T, [u, v], rfl, SqT.of upd_same, rfl, u, [v], rfl, v, [], rfl, rfl, rfl, ?_⟩
          refine yes_of (iteT ?_)
          refine ⟨_, rfl, _, rfl, u, v, rfl, hal, fun H3 s3 => ?_⟩
          have h3 : H3 D = some (.lst ((List.replicate i true).map V.bl)) := s3 _ _ (s2 _ _ h2)
          refine ⟨_, h3, ?_, ?_, ?_⟩
          · rw [List.length_map, List.length_replicate]
            exact small1000 (by omega)
          · intro a o n e
            rw [upd_ne n]
            exact s3 _ _ (tot a o n e)
          · rw [upd_same, List.replicate_succ', List.map_append]
            rfl
        · rintro H' ⟨h1, h2⟩
          refine ⟨D, _, rfl, SqL.of h2, ?_⟩
          have e : (List.replicate xs.length true).all id = true := by simp
          rw [e]
          exact k _ fun a o z => h1 a o (ne_of_none (s1 _ _ z) hD) (s1 _ _ z)
/-- the def keeps it at each depth -/
theorem cal_like {f : Addr} {fd : FuncData} {N : Addr → Prop} (F : FnP K "_law_like" (top 42) f fd) (T : Like mg) (g : mg "_law_like" = some (.ref f)) (bd : Binds K fd ["_law_found", "_law_due"] []) : ∀ n : Nat, Cal P w K mg base CX0 "_law_like" (n + 1) ["_law_found", "_law_due"] (spLike K N n)
  | 0 => ⟨f, fd, ok_like_step (sp := fun _ _ _ _ => False) F T ⟨f, fd, ⟨fun _ _ _ _ h => h.elim, fun _ _ _ _ _ _ _ _ _ _ _ _ _ h => h.elim⟩, g, F.kp, bd⟩ (fun m e => by cases e), g, F.kp, bd⟩
  | n + 1 => ⟨f, fd, ok_like_step F T (cal_like F T g bd n) (fun m e => by cases e; rfl), g, F.kp, bd⟩
end
end K02
set_option Elab.async false
set_option linter.all false
set_option maxRecDepth 100000
set_option maxHeartbeats 4000000
namespace K02
open PySem PySem.Spec PyProof.Rows L2
section
variable {P : Program} {w : World} {K : PySem.W.Frag} {mg : Str → Option Value} {base : Heap}
/-! ### is_whole: of any value -/
/-- a value whose type is told: whether it is an int, whether it is a bool -/
def Wh (K : PySem.W.Frag) (H : Hp) (x : V) (b : Bool) : Prop := ∃ (t : Value) (i j : Bool), TyX K H x t ∧ PySem.W.kitOne K t (.type "int") = some i ∧ PySem.W.kitOne K t (.type "bool") = some j ∧ b = (i && !j)
section
variable {H : Hp} {a : Addr} {xs : List V}
theorem Wh.int (i : Int) : Wh K H (.int i) true := ⟨_, true, false, .base (.int i), kit_ty (by decide +kernel), kit_ty (by decide +kernel), rfl⟩
theorem Wh.bl (b : Bool) : Wh K H (.bl b) false := ⟨_, true, true, .base (.bl b), kit_ty (by decide +kernel), kit_ty (by decide +kernel), rfl⟩
theorem Wh.non : Wh K H .non false := ⟨_, false, false, .base .non, kit_ty (by decide +kernel), kit_ty (by decide +kernel), rfl⟩
theorem Wh.str (x : Str) : Wh K H (.str x) false := ⟨_, false, false, .base (.str x), kit_ty (by decide +kernel), kit_ty (by decide +kernel), rfl⟩
theorem Wh.lst (e : H a = some (.lst xs)) : Wh K H (.ref a) false := ⟨_, false, false, .base (.lst e), kit_ty (by decide +kernel), kit_ty (by decide +kernel), rfl⟩
theorem Wh.tup (e : H a = some (.tup xs)) : Wh K H (.ref a) false := ⟨_, false, false, .base (.tup e), kit_ty (by decide +kernel), kit_ty (by decide +kernel), rfl⟩
end
def spWhole (K : PySem.W.Frag) : Sp := fun vs H Q _ => ∃ (x : V) (b : Bool), vs = [x] ∧ Wh K H x b ∧ Q (.bl b) H
theorem sc_whole : FnScope ["value"] ["value"] (defScope (top 15)) := ⟨rfl, rfl, rfl, by decide +kernel, rfl, by decide +kernel, by decide +kernel⟩
theorem ok_whole {f : Addr} {fd : FuncData} (F : FnP K "is_whole" (top 15) f fd) (m_isinstance : mg "isinstance" = none) (m_int : mg "int" = none) (m_bool : mg "bool" = none) : FnOk P w K mg base CX0 1 f fd ["value"] (spWhole K) := by
  have sc := sc_whole
  refine F.ok sc (fun vs H Q E h => ?_) (fun cdv A outer s H vs Q E hr h => ?_)
  · obtain ⟨x, b, rfl, _⟩ := h
    rfl
  · obtain ⟨x, b, rfl, ⟨t, i, j, ty, k1, k2, rfl⟩, q⟩ := h
    refine ⟨_, PSs.nox (pss_one (ps_ret (pe_and (pe_callB call_isi (by rfl) m_isinstance (by decide +kernel) (pa_cons (pv 0) (pa_cons (pe_bltn (v := .ty "int") rfl m_int boot_int rfl) pa_nil))) (pe_one (pe_not (pe_callB call_isi (by rfl) m_isinstance (by decide +kernel) (pa_cons (pv 0) (pa_cons (pe_bltn (v := .ty "bool") rfl m_bool boot_bool rfl) pa_nil)))))))), ?_⟩
    refine ⟨_, rfl, _, _, _, _, _, rfl, .ty _, ty, k1, _, rfl, ?_⟩
    refine ite2 (fun e => ?_) (fun e => ?_)
    · refine ⟨_, rfl, _, _, _, _, _, rfl, .ty _, ty, k2, _, rfl, ?_⟩
      rw [e] at q
      exact q
    · rw [Bool.eq_false_iff.mpr e] at q
      exact q
/-! ### is_number -/
def spNumber (K : PySem.W.Frag) : Sp := fun vs H Q _ => ∃ (x : V) (lo hi : Int), vs = [x, .int lo, .int hi] ∧ ((∃ n : Int, x = .int n ∧ Q (.bl (decide (lo ≤ n) && decide (n ≤ hi))) H) ∨ (Wh K H x false ∧ Q (.bl false) H))
theorem sc_number : FnScope ["value", "least", "most"] ["value", "least", "most"] (defScope (top 18)) := ⟨rfl, rfl, rfl, by decide +kernel, rfl, by decide +kernel, by decide +kernel⟩
theorem ok_number {f : Addr} {fd : FuncData} (F : FnP K "is_number" (top 18) f fd) (c_is_whole : Cal P w K mg base CX0 "is_whole" 1 ["value"] (spWhole K)) : FnOk P w K mg base CX0 2 f fd ["value", "least", "most"] (spNumber K) := by
  have sc := sc_number
  refine F.ok sc (fun vs H Q E h => ?_) (fun cdv A outer s H vs Q E hr h => ?_)
  · obtain ⟨x, lo, hi, rfl, _⟩ := h
    rfl
  · obtain ⟨x, lo, hi, rfl, h⟩ := h
    have hr_is_whole : Room 1 _ := hr
    refine ⟨_, PSs.nox (pss_one (ps_ret (pe_and (pe_cal c_is_whole hr_is_whole rfl (pa_cons (pv 0) pa_nil)) (pe_and (pe_cmpR op_le (pv 1) (pv 0) (nomark _)) (pe_one (pe_cmpR op_le (pv 0) (pv 2) (nomark _))))))), ?_⟩
    rcases h with ⟨n, rfl, q⟩ | ⟨hx, q⟩
    · refine ⟨_, rfl, _, true, rfl, Wh.int n, _, rfl, iteT ?_⟩
      refine ⟨_, rfl, _, rfl, _, _, rfl, rfl, _, rfl, ite2 (fun e => ?_) (fun e => ?_)⟩
      · refine ⟨_, rfl, _, rfl, _, _, rfl, rfl, ?_⟩
        rw [e] at q
        exact q
      · rw [Bool.eq_false_iff.mpr e] at q
        exact q
    · exact ⟨_, rfl, _, false, rfl, hx, _, rfl, iteF q⟩
end
end K02
set_option Elab.async false
set_option linter.all false
set_option maxRecDepth 100000
set_option maxHeartbeats 4000000
namespace PySem
open PySem PySem.Spec
/-! ### enumerate(v), v told by how its iterator begins -/
theorem meets_enum1 {v : Value} {ob : Obj} {Hq : Heap → Prop} (Bg : Begins v ob Hq) : Meets (Builtin.«enumerate.__new__» ⟨[.type "enumerate", v], []⟩) (fun _ R t => Hq t.heap ∧ R (.ok (.ret (.ref (t.heap.push ob).objs.size))) { t with heap := (t.heap.push ob).push ⟨.type "enumerate", none, .fields #[.none, .bool false, .ref t.heap.objs.size, rawInt 0, .none, .none], #[]⟩ }) :=
  .of_wp fun pg w A R t z => by
    obtain ⟨hh, gg, dd, tt, oo⟩ := t
    obtain ⟨z1, z2⟩ := z
    have y0 := sub_enumerate
    have go : ∀ {A' : Around} {E : Value → Shared → Prop} {Q : Value → Shared → Prop}, Q (.ref hh.objs.size) ⟨hh.push ob, gg, dd, tt, oo⟩ → wpAny (model pg w) A' (pyIter v) Q E ⟨hh, gg, dd, tt, oo⟩ := fun q => Bg.iter pg w _ _ ⟨hh, gg, dd, tt, oo⟩ _ z1 q
    wp_walk using go
    refine wpAny_stack_any fun st => wpAny_pure ?_
    split
    · rename_i cc _ _ _ _ _
      cases (cc == Value.type "enumerate")
      · wp_walk using go
        exact ⟨_, rfl, z2⟩
      · wp_walk using go
        exact ⟨_, rfl, z2⟩
    · wp_walk using go
      exact ⟨_, rfl, z2⟩
theorem call_enum1 {pg : Program} {w : World} {A : Around} {E : Value → Shared → Prop} {t : Shared} {v : Value} {ob : Obj} {Hq : Heap → Prop} {Q : Value → Shared → Prop} (Bg : Begins v ob Hq) (z1 : Hq t.heap)
    (k : ∀ h2, IsEnum h2 (t.heap.objs.size + 1) t.heap.objs.size 0 .none → h2.get? t.heap.objs.size = some ob → (∀ b o, t.heap.get? b = some o → h2.get? b = some o) → Q (.ref (t.heap.objs.size + 1)) { t with heap := h2 }) : wpAny (model pg w) A (call (.type "enumerate") [v]) Q E t := by
  refine callType_new F.called_enumerate (by decide) (F.typeCall_enumerate_1 _) (F.newCall_enumerate_1 _) (fun q => F.args_object_init_2 q _) F.entry_enumerate_new (meets_enum1 Bg) ⟨z1, ?_⟩
  have sz : (t.heap.push ob).objs.size = t.heap.objs.size + 1 := Heap.size_push ..
  show _ ∧ _
  rw [sz]
  have at1 : IsEnum ((t.heap.push ob).push ⟨.type "enumerate", none, .fields #[.none, .bool false, .ref t.heap.objs.size, rawInt 0, .none, .none], #[]⟩) (t.heap.objs.size + 1) t.heap.objs.size 0 .none := by
    have q := Heap.get?_push_size (t.heap.push ob) (o := ⟨.type "enumerate", none, .fields #[.none, .bool false, .ref t.heap.objs.size, rawInt 0, .none, .none], #[]⟩) rfl
    rw [sz] at q
    exact q
  exact ⟨⟨_, at1, rfl⟩, k _ at1 (Heap.get?_push_of_some _ (Heap.get?_push_size _ Bg.free)) fun b o x => Heap.get?_push_of_some _ (Heap.get?_push_of_some _ x)⟩
end PySem
namespace L2
open PySem PySem.Spec PyProof.Rows
/-! ### enumerate(tuple) -/
def IteT (K : PySem.W.Frag) (a : Addr) : It :=
  ⟨fun i H => ∃ (xs : List V) (x : V), SqT K H a xs ∧ xs[i]? = some x, fun i H v H' => ∃ (T : Addr) (x : V), v = .ref T ∧ H T = none ∧ H' = upd H T (.tup [.int (i : Nat), x]) ∧ ∀ xs, SqT K H a xs → xs[i]? = some x, fun i H => ∃ xs : List V, SqT K H a xs ∧ xs.length = i⟩
theorem turn_enumT {P : Program} {w : World} {K : PySem.W.Frag} {elts : List Expr} {kk : Nat} {tpos : Pos} (a e it : Addr) : Turn P w K (.Tuple elts kk tpos) (IteT K a) [e, it] e (fun i h => (∃ old, IsEnum h e it ((i : Nat) : Int) old) ∧ h.IsTupleIter it a i ∧ e ≠ it) where
  mem := by simp
  obj := fun i h st b hb => by
    obtain ⟨⟨old, he⟩, ⟨o, ho, hc, hd⟩, _⟩ := st
    have z : b = e ∨ b = it := by simpa using hb
    rcases z with rfl | rfl
    · exact ⟨_, he, fun v q => nomatch q⟩
    · exact ⟨o, ho, fun v q => by rw [hd] at q; cases q⟩
  keep := fun i h h' st k => by
    obtain ⟨⟨old, he⟩, hi, n1⟩ := st
    exact ⟨⟨old, k e (by simp) _ he⟩, hi.at fun o q => k it (by simp) o q, n1⟩
  item := by
    intro X e1 e2 e3 calm i pins s σ H E I fresh st hg
    subst e1 e2 e3
    obtain ⟨⟨old, he⟩, hit, n1⟩ := st
    obtain ⟨xs, x, hq, hx⟩ := hg
    obtain ⟨its, rv, ⟨o, ho, c1, n, d1⟩, _⟩ := I.tuple hq
    obtain ⟨u, hu, ru⟩ := rv.get hx
    have nea : e ≠ a := fun z => by
      subst z
      have y : o = _ := Option.some.inj (ho.symm.trans he)
      subst y
      exact absurd (Value.type.inj c1) (by decide)
    have nia : a ≠ it := fun z => by
      subst z
      obtain ⟨o2, ho2, c2, _⟩ := hit
      obtain rfl : o = o2 := Option.some.inj (ho.symm.trans ho2)
      rw [c1] at c2
      exact absurd (Value.type.inj c2) (by decide)
    have el : e < s.heap.objs.size := Heap.lt_size he
    have il : it < s.heap.objs.size := by
      obtain ⟨_, q, _⟩ := hit
      exact Heap.lt_size q
    have hh : X.A.in1.handled = none := by simp [I.ok.hd calm]
    have len := (List.getElem?_eq_some_iff.mp hu).1
    refine wpAny_pyNext_enum_itemC (Draws.tuple hh it a nia its.toArray) he ⟨hit, ⟨o, ho, c1, n, d1⟩⟩ (by rw [List.size_toArray]; exact len) n1 (by simp [n1, nea]) fun x' h2 tk px out st2 hT sz kp => ?_
    obtain rfl : x' = u := by
      have y : its.toArray[i]? = some x' := px
      rw [List.getElem?_toArray, hu] at y
      exact (Option.some.inj y).symm
    refine ⟨_, rfl, wpAny_letOwnedTupleGo_enum (s := { s with heap := h2, toks := tk + 1 }) out fun h3 he3 sb => ?_⟩
    have hT3 := (sb.2 _ (Nat.ne_of_gt el)).trans hT
    have mk : ObjOk X.prog X.w (upd H s.heap.objs.size (.tup [.int (i : Nat), x])) h3 s.heap.objs.size (.tup [.int (i : Nat), x]) := ⟨by show 2 ≤ sizeLine; decide, [.int i tk, x'], .cons ⟨_, rfl⟩ (.cons ru .nil), ⟨_, hT3, rfl, _, rfl⟩⟩
    have I1 : Inv X pins σ (upd H s.heap.objs.size (.tup [.int (i : Nat), x])) { s with heap := h3, toks := tk + 1 } := I.turnedNew (ch := [e, it]) (fun b ob hb q => (sb.2 b (fun z => hb (by simp [z]))).trans (kp b ob (fun z => hb (by simp [z])) (fun z => hb (by simp [z])) q)) fresh (Nat.le_refl _) mk
    refine ⟨.ref s.heap.objs.size, _, I1, rfl, ⟨_, x, rfl, I.hok.fresh (Nat.le_refl _), rfl, fun ys hy => ?_⟩, ⟨⟨x', ?_⟩, st2.1.at fun o q => (sb.2 it (Ne.symm n1)).trans q, n1⟩, fun b hb => ?_⟩
    · rw [I.tuple_inj hy hq]
      exact hx
    · rw [Int.natCast_succ]
      exact he3
    · have bl : b < s.heap.objs.size := by
        have z : b = e ∨ b = it := by simpa using hb
        rcases z with rfl | rfl
        · exact el
        · exact il
      rw [upd_ne (Nat.ne_of_lt bl)]
      exact (fresh b hb).1
  done := by
    intro X e1 e2 e3 calm i pins s σ H E I fresh st hg
    subst e1 e2 e3
    obtain ⟨⟨old, he⟩, hit, n1⟩ := st
    obtain ⟨xs, hq, hx⟩ := hg
    obtain ⟨its, rv, ⟨o, ho, c1, n, d1⟩, _⟩ := I.tuple hq
    have nia : a ≠ it := fun z => by
      subst z
      obtain ⟨o2, ho2, c2, _⟩ := hit
      obtain rfl : o = o2 := Option.some.inj (ho.symm.trans ho2)
      rw [c1] at c2
      exact absurd (Value.type.inj c2) (by decide)
    obtain ⟨f0, f1, f2, f3, f4, f5⟩ := fresh it (by simp)
    have hh : X.A.in1.handled = none := by simp [I.ok.hd calm]
    have len : i = its.toArray.size := by
      rw [List.size_toArray, ← rv.length, hx]
    subst len
    exact wpAny_pyNext_enum_endD (Draws.tuple hh it a nia its.toArray) he ⟨hit, ⟨o, ho, c1, n, d1⟩⟩ fun h2 eb => ⟨rfl, I.turned (t' := s.toks) (fun b ob hb q => eb b ob hb q) f0 f1 f3 f4 f5⟩
  self := fun A i t Q E st h => by
    obtain ⟨⟨_, he⟩, _⟩ := st
    exact wpAny_pyIter_enum he h
def iEnumT (K : PySem.W.Frag) (ta : TA) : TI := fun σ H R => ta σ H fun vs H1 => ∃ (a : Addr) (xs : List V), vs = [.ref a] ∧ SqT K H1 a xs ∧ R (IteT K a) H1
theorem pi_enumT {X : Cx} {e : Expr} {ta : TA} {p pos tpos : Pos} {elts : List Expr} {kk : Nat} (hg : Gl X "enumerate") (hm : X.mg "enumerate" = none) (ha : PA X [e] ta) (sE : starEach [e] X.env = [(false, eval e X.env)] := by rfl) : PI X (.Tuple elts kk tpos) (.Call (.Name "enumerate" p) [e] [] pos) (iEnumT X.K ta) := by
  refine ⟨fun pins s σ H R I h => Call_ (ld_blt I hg hm boot_enumerate (PyProof.Rows.callWith_type1 (thn (ha.run pos pins s σ H _ I h) fun us s1 ⟨vs, H1, I1, r1, q1⟩ => ?_) sE rfl))⟩
  obtain ⟨a, xs, rfl, hq, q⟩ := q1
  cases r1 with
  | cons r rr =>
    cases rr
    cases r
    obtain ⟨its, rv, ht, _⟩ := I1.tuple hq
    refine call_enum1 (begins_tuple a its.toArray) ht fun h2 he hit hk => wpAny_pyIter_enum he ?_
    have I2 : Inv X pins σ H1 { s1 with heap := h2 } := I1.kept (t' := s1.toks) hk
    refine ⟨s1.heap.objs.size + 1, [s1.heap.objs.size + 1, s1.heap.objs.size], _, _, H1, rfl, I2, turn_enumT a (s1.heap.objs.size + 1) s1.heap.objs.size, ⟨⟨.none, he⟩, ⟨_, hit, rfl, rfl⟩, Nat.succ_ne_self _⟩, fun b hb => ?_, q⟩
    have z : b = s1.heap.objs.size + 1 ∨ b = s1.heap.objs.size := by simpa using hb
    have le : s1.heap.objs.size ≤ b := by
      rcases z with rfl | rfl
      · exact Nat.le_add_right _ _
      · exact Nat.le_refl _
    exact I1.fpOk le (I1.hok.fresh le)
theorem walk_enumT {K : PySem.W.Frag} {a : Addr} {xs : List V} : Walk (IteT K a) xs.length (fun H => SqT K H a xs) (fun i H v H' => ∃ (T : Addr) (x : V), v = .ref T ∧ H T = none ∧ H' = upd H T (.tup [.int (i : Nat), x]) ∧ xs[i]? = some x) where
  goes := fun i H hi h => ⟨xs, xs[i], h, List.getElem?_eq_getElem hi⟩
  stops := fun H h => ⟨xs, h, rfl⟩
  yields := fun i H x H' _ h y => by
    obtain ⟨T, u, e1, e2, e3, e4⟩ := y
    exact ⟨T, u, e1, e2, e3, e4 _ h⟩
end L2
set_option Elab.async false
set_option linter.all false
set_option maxRecDepth 100000
set_option maxHeartbeats 4000000
namespace L2
open PySem PySem.Spec PyProof.Rows
/-! ### a list or a tuple -/
def SqE (K : PySem.W.Frag) (H : Hp) (a : Addr) (xs : List V) : Prop := SqL K H a xs ∨ SqT K H a xs
theorem sqL_at {K : PySem.W.Frag} {H H' : Hp} {a : Addr} {xs : List V} (h : SqL K H a xs) (d : ∀ o, H a = some o → H' a = some o) : SqL K H' a xs := by
  rcases h with (h | ⟨o, h⟩) | h
  · exact .inl (.inl (d _ h))
  · exact .inl (.inr ⟨o, d _ h⟩)
  · exact .inr h
theorem sqT_at {K : PySem.W.Frag} {H H' : Hp} {a : Addr} {xs : List V} (h : SqT K H a xs) (d : ∀ o, H a = some o → H' a = some o) : SqT K H' a xs := by
  rcases h with (h | ⟨o, h⟩) | h
  · exact .inl (.inl (d _ h))
  · exact .inl (.inr ⟨o, d _ h⟩)
  · exact .inr h
theorem SqE.at {K : PySem.W.Frag} {H H' : Hp} {a : Addr} {xs : List V} (h : SqE K H a xs) (d : ∀ o, H a = some o → H' a = some o) : SqE K H' a xs := h.imp (fun q => sqL_at q d) fun q => sqT_at q d
section
variable {K : PySem.W.Frag} {H : Hp} {σ : St} {a : Addr} {xs : List V} {R : It → Hp → Prop}
theorem seq_of {te : TE} (hS : SqE K H a xs) (hte : ∀ Q : VK, Q (.ref a) H → te σ H Q)
    (k : ∀ (J : It) (G : Hp → Prop), Walk J xs.length G (YAt xs) → (∀ H' : Hp, (∀ o, H a = some o → H' a = some o) → G H') → R J H) : iList K te σ H R ∨ iTup K te σ H R :=
  hS.imp (fun h => hte _ ⟨a, rfl, ⟨xs, h⟩, k _ _ walk_list fun H' d => sqL_at h d⟩) fun h => hte _ ⟨a, rfl, ⟨xs, h⟩, k _ _ walk_tup fun H' d => sqT_at h d⟩
abbrev YEn (xs : List V) : Nat → Hp → V → Hp → Prop := fun i H v H' => ∃ (T : Addr) (x : V), v = .ref T ∧ H T = none ∧ H' = upd H T (.tup [.int (i : Nat), x]) ∧ xs[i]? = some x
theorem enum_of {ta : TA} (hS : SqE K H a xs) (hta : ∀ Q : List V → Hp → Prop, Q [.ref a] H → ta σ H Q)
    (k : ∀ (J : It) (G : Hp → Prop), Walk J xs.length G (YEn xs) → (∀ H' : Hp, (∀ o, H a = some o → H' a = some o) → G H') → R J H) : iEnum K ta σ H R ∨ iEnumT K ta σ H R :=
  hS.imp (fun h => hta _ ⟨a, xs, rfl, h, k _ _ (walk_enum.mono (fun _ q => q) fun i H v H' _ _ y => by
    obtain ⟨T, x, y', e1, e2, e3, e4, e5⟩ := y
    cases e4
    exact ⟨T, y', e1, e2, e3, e5⟩) fun H' d => sqL_at h d⟩) fun h => hta _ ⟨a, xs, rfl, h, k _ _ walk_enumT fun H' d => sqT_at h d⟩
theorem seq_of0 {H0 : Hp} {te : TE} (hS : SqE K H0 a xs) (d0 : ∀ o, H0 a = some o → H a = some o) (hte : ∀ Q : VK, Q (.ref a) H → te σ H Q)
    (k : ∀ (J : It) (G : Hp → Prop), Walk J xs.length G (YAt xs) → (∀ H' : Hp, (∀ o, H0 a = some o → H' a = some o) → G H') → R J H) : iList K te σ H R ∨ iTup K te σ H R :=
  hS.imp (fun h => hte _ ⟨a, rfl, ⟨xs, sqL_at h d0⟩, k _ _ walk_list fun H' d => sqL_at h d⟩) fun h => hte _ ⟨a, rfl, ⟨xs, sqT_at h d0⟩, k _ _ walk_tup fun H' d => sqT_at h d⟩
theorem enum_of0 {H0 : Hp} {ta : TA} (hS : SqE K H0 a xs) (d0 : ∀ o, H0 a = some o → H a = some o) (hta : ∀ Q : List V → Hp → Prop, Q [.ref a] H → ta σ H Q)
    (k : ∀ (J : It) (G : Hp → Prop), Walk J xs.length G (YEn xs) → (∀ H' : Hp, (∀ o, H0 a = some o → H' a = some o) → G H') → R J H) : iEnum K ta σ H R ∨ iEnumT K ta σ H R :=
  hS.imp (fun h => hta _ ⟨a, xs, rfl, sqL_at h d0, k _ _ (walk_enum.mono (fun _ q => q) fun i H v H' _ _ y => by
    obtain ⟨T, x, y', e1, e2, e3, e4, e5⟩ := y
    cases e4
    exact ⟨T, y', e1, e2, e3, e5⟩) fun H' d => sqL_at h d⟩) fun h => hta _ ⟨a, xs, rfl, sqT_at h d0, k _ _ walk_enumT fun H' d => sqT_at h d⟩
theorem ixE {i : Int} {v : V} {Q : VK} (hS : SqE K H a xs) (hv : atI xs i = some v) (q : Q v H) : rIx K (.ref a) (.int i) H Q :=
  hS.elim (fun h => .inl ⟨a, xs, i, v, rfl, rfl, h, hv, q⟩) fun h => .inr (.inl ⟨a, xs, i, v, rfl, rfl, h, hv, q⟩)
/-- what is cut off a list or a tuple -/
theorem slE {lo hi : Option Int} {Q : VK} (hS : SqE K H a xs) (q : ∀ (p : Addr) (H' : Hp), Same H H' → SqE K H' p (cutV xs lo hi) → Q (.ref p) H') : rSlL K (.ref a) lo hi H Q ∨ rSlA K (.ref a) lo hi H Q :=
  hS.imp (fun h => ⟨a, xs, rfl, h, fun p hp => q p _ (Same.new hp) (.inl (SqL.of upd_same))⟩) fun h => ⟨a, xs, rfl, h, fun w => q a H (Same.refl _) (.inr (by
    have e : cutV xs lo hi = xs := by
      unfold cutV
      rw [w.1, w.2, List.drop_zero, Nat.sub_zero, List.take_length]
    rw [e]
    exact h)), fun _ p hp => q p _ (Same.new hp) (.inr (SqT.of upd_same))⟩
theorem slT {lo hi : Option Int} {Q : VK} (h : SqT K H a xs) (q : ∀ (p : Addr) (H' : Hp), Same H H' → SqT K H' p (cutV xs lo hi) → Q (.ref p) H') : rSlA K (.ref a) lo hi H Q :=
  ⟨a, xs, rfl, h, fun w => q a H (Same.refl _) (by
    have e : cutV xs lo hi = xs := by
      unfold cutV
      rw [w.1, w.2, List.drop_zero, Nat.sub_zero, List.take_length]
    rw [e]
    exact h), fun _ p hp => q p _ (Same.new hp) (SqT.of upd_same)⟩
theorem catT {b : Addr} {ys : List V} {Q : VK} (h : SqT K H a xs) (h2 : SqT K H b ys) (hl : xs.length + ys.length ≤ sizeLine) (q : ∀ (p : Addr) (H' : Hp), Same H H' → SqT K H' p (xs ++ ys) → Q (.ref p) H') : rCatA K (.ref a) (.ref b) H Q :=
  ⟨a, b, xs, ys, rfl, rfl, h, h2, hl, fun e => q b H (Same.refl _) (by
    rw [e, List.nil_append]
    exact h2), fun _ e => q a H (Same.refl _) (by
    rw [e, List.append_nil]
    exact h), fun _ _ p hp => q p _ (Same.new hp) (SqT.of upd_same)⟩
end
theorem pe_orE {X : Cx} {e : Expr} {t u : TE} (h : PE X e t) (k : PE X e u) : PE X e (fun σ H Q => t σ H Q ∨ u σ H Q) := ⟨fun pins s σ H Q I q => q.elim (h.run pins s σ H Q I) (k.run pins s σ H Q I)⟩
theorem pi_orI {X : Cx} {tg it : Expr} {t u : TI} (h : PI X tg it t) (k : PI X tg it u) : PI X tg it (fun σ H Q => t σ H Q ∨ u σ H Q) := ⟨fun pins s σ H Q I q => q.elim (h.run pins s σ H Q I) (k.run pins s σ H Q I)⟩
section
variable {X : Cx}
theorem slR_or {r r' : V → Option Int → Option Int → Hp → VK → Prop} (h : SlR X r) (h' : SlR X r') : SlR X (fun x lo hi H Q => r x lo hi H Q ∨ r' x lo hi H Q) := h.or h'
/-- t.index(y), flat items -/
def rIndexT (K : PySem.W.Frag) : V → List V → Hp → VK → Prop := fun x xs H Q => ∃ (a : Addr) (ys : List V) (y : V) (j : Nat) (z : V), x = V.ref a ∧ xs = [y] ∧ SqT K H a ys ∧ flatV y = true ∧ ys.all flatV = true ∧ ys[j]? = some z ∧ eqV z y = true ∧ (∀ (m : Nat) (z' : V), m < j → ys[m]? = some z' → eqV z' y = false) ∧ Q (.int (j : Nat)) H
theorem mt_tindex : MtR X "tuple.index" (rIndexT X.K) := by
  intro pins s σ H x args v us Q I rx rargs hq
  obtain ⟨a, ys, y, j, z, rfl, rfl, hs, fy, fys, hz, zj, none_ahead, q⟩ := hq
  cases rx
  cases rargs with
  | cons ry rest =>
    rename_i uy ut
    cases rest
    obtain ⟨its, rv, ⟨⟨cls, dd, data, sl⟩, ho, hc, n, hd⟩, _⟩ := I.tuple hs
    simp only at hc hd
    subst hc hd
    obtain ⟨u, hu, ru⟩ := rv.get hz
    obtain ⟨jl, je⟩ := List.getElem?_eq_some_iff.mp hu
    have vl := rv.length
    have jz : j < its.toArray.size := by rw [List.size_toArray]; exact jl
    refine call_meets PySem.F.slot_tuple_index ⟨_, ho, rfl⟩ PySem.F.entry_tuple_index (PySem.F.args_tuple_index_2 _ _) (SeqAt.tuple_index2_found a its.toArray n dd sl uy (fun i => if h : i < its.length then eqU y its[i] else false) j jz (Nat.zero_le _) jz ?_ ?_) ⟨ho, fun i hi => ?_, ?_⟩
    · have e1 : its[j] = u := je
      rw [dif_pos jl, e1, eqU_of ru (flat_at fys hz)]
      exact zj
    · intro m hm _ mj
      have ml : m < its.length := by rw [List.size_toArray] at hm; exact hm
      have hy' : ys[m]? = some (ys[m]'(by omega)) := List.getElem?_eq_getElem _
      obtain ⟨u2, hu2, ru2⟩ := rv.get hy'
      obtain ⟨_, me⟩ := List.getElem?_eq_some_iff.mp hu2
      have e1 : its[m] = u2 := me
      rw [dif_pos ml, e1, eqU_of ru2 (flat_at fys hy')]
      exact none_ahead m _ mj hy'
    · have il : i < its.length := by rw [List.size_toArray] at hi; exact hi
      rw [dif_pos il]
      exact mem_eqAt ry fy rv fys _ (by simp)
    · exact ⟨.int (j : Nat), H, I.tok _, ⟨_, rfl⟩, q⟩
end
/-- a comprehension that makes f i at turn i, and leaves what stands -/
theorem lc_fn {J : It} {n : Nat} {G : Hp → Prop} {Y : Nat → Hp → V → Hp → Prop} (W : Walk J n G Y) {g : TG} {tt : TT} {te : TE} {vs : List Nat} {σ : St} {H1 : Hp} {D : Addr} {Qd : Hp → Prop} (f : Nat → V) (hn : n ≤ 1000) (hD : H1 D = none)
    (hG : ∀ H', (∀ a o, a ≠ D → H1 a = some o → H' a = some o) → G H')
    (hs : ∀ (i : Nat) (x : V) (H' H'' : Hp) (Kc : VK) (Z : Hp → Prop), i < n → (∀ a o, a ≠ D → H1 a = some o → H' a = some o) → Y i H' x H'' → (∀ H2, Same H' H2 → Kc (f i) H2) → g x (wipe σ vs) H'' fun σ2 H3 => wipe σ2 vs = wipe σ vs ∧ tt σ2 H3 fun b H4 => if b = true then te σ2 H4 Kc else Z H4)
    (hd : ∀ H', (∀ a o, a ≠ D → H1 a = some o → H' a = some o) → H' D = some (.lst ((List.range n).map f)) → Qd H') :
    ∃ Wt : Nat → Nat → Hp → Prop, (∃ m, Wt 0 m (upd H1 D (.lst []))) ∧ ∀ i m H, Wt i m H →
      (J.stop i H ∧ Qd H) ∨ (J.go i H ∧ ∃ Nx : Hp → Prop, (∀ H', Nx H' → ∃ m', m' < m ∧ Wt (i + 1) m' H') ∧ ∀ x H', J.yld i H x H' → g x (wipe σ vs) H' fun σ2 H2 => wipe σ2 vs = wipe σ vs ∧ tt σ2 H2 fun b H3 =>
        if b = true then te σ2 H3 fun y H4 => ∃ acc, H4 D = some (.lst acc) ∧ acc.length < sizeLine ∧ Nx (upd H4 D (.lst (acc ++ [y]))) else Nx H3) := by
  refine lc_it W (fun i H' => (∀ a o, a ≠ D → H1 a = some o → H' a = some o) ∧ H' D = some (.lst ((List.range i).map f))) ⟨fun a o na e => by rw [upd_ne na]; exact e, upd_same⟩ (fun i H' _ h => hG H' h.1) ?_ fun H' h => hd H' h.1 h.2
  rintro i x H' H'' hi ⟨h1, h2⟩ y
  refine hs i x H' H'' _ _ hi h1 y fun H2 s => ⟨_, s _ _ h2, ?_, fun a o na e => ?_, ?_⟩
  · rw [List.length_map, List.length_range, sizeLine_eq]
    omega
  · rw [upd_ne na]
    exact s _ _ (h1 a o na e)
  · rw [upd_same, List.range_succ, List.map_append]
    rfl
theorem keep_same {H1 H' : Hp} {D : Addr} (hD : H1 D = none) (k : ∀ a o, a ≠ D → H1 a = some o → H' a = some o) : Same H1 H' := fun a o e => k a o (ne_of_none e hD) e
end L2
set_option Elab.async false
set_option linter.all false
set_option maxRecDepth 100000
set_option maxHeartbeats 4000000
namespace K02
open PySem PySem.Spec PyProof.Rows L2
/-! ### data: trees of tuples and lists -/
inductive D where
  | sc (v : V)
  | seq (t : Bool) (xs : List D)
abbrev NoA : Addr → Prop := fun _ => False
def SqB (K : PySem.W.Frag) (b : Addr) (H : Hp) (t : Bool) (a : Addr) (vs : List V) : Prop := if t = true then SqT K H a vs else (H a = some (.lst vs) ∧ a ≠ b)
def Rp (K : PySem.W.Frag) (b : Addr) (H : Hp) : Nat → D → V → Prop
  | 0, d, v => d = .sc v ∧ Sc v
  | n + 1, d, v => (d = .sc v ∧ Sc v) ∨ ∃ (t : Bool) (ds : List D) (a : Addr) (vs : List V), d = .seq t ds ∧ v = .ref a ∧ SqB K b H t a vs ∧ vs.length = ds.length ∧ vs.length ≤ 900 ∧ ∀ (i : Nat) (d : D) (v : V), ds[i]? = some d → vs[i]? = some v → Rp K b H n d v
def RpA (K : PySem.W.Frag) (b : Addr) (H : Hp) (n : Nat) (ds : List D) (vs : List V) : Prop := vs.length = ds.length ∧ ∀ (i : Nat) (d : D) (v : V), ds[i]? = some d → vs[i]? = some v → Rp K b H n d v
section
variable {K : PySem.W.Frag} {b : Addr} {H H' : Hp} {n m : Nat} {d : D} {v w : V} {a : Addr} {ds : List D} {vs : List V} {t : Bool}
theorem Rp.sc (h : Sc v) : Rp K b H n (.sc v) v := by
  cases n with
  | zero => exact ⟨rfl, h⟩
  | succ n => exact .inl ⟨rfl, h⟩
theorem SqB.to (h : SqB K b H t a vs) (f : ∀ o, (t = false → a ≠ b) → H a = some o → H' a = some o) : SqB K b H' t a vs := by
  unfold SqB at h ⊢
  by_cases e : t = true
  · rw [if_pos e] at h ⊢
    exact sqT_at h fun o q => f o (fun z => by rw [e] at z; cases z) q
  · rw [if_neg e] at h ⊢
    exact ⟨f _ (fun _ => h.2) h.1, h.2⟩
theorem Rp.to (f : ∀ (a : Addr) (o : HO) (vs : List V), (SqT K H a vs ∨ a ≠ b) → H a = some o → H' a = some o) : ∀ {n : Nat} {d : D} {v : V}, Rp K b H n d v → Rp K b H' n d v
  | 0, _, _, h => h
  | n + 1, _, _, h => by
    rcases h with h | ⟨t, ds, a, vs, e1, e2, h3, e4, e5, h6⟩
    · exact .inl h
    · refine .inr ⟨t, ds, a, vs, e1, e2, h3.to fun o z q => f a o vs ?_ q, e4, e5, fun i d v q1 q2 => (h6 i d v q1 q2).to f⟩
      cases t with
      | true => exact .inl h3
      | false => exact .inr (z rfl)
theorem Rp.same (s : Same H H') (h : Rp K b H n d v) : Rp K b H' n d v := h.to fun a o vs _ q => s a o q
theorem RpA.same (s : Same H H') (h : RpA K b H n ds vs) : RpA K b H' n ds vs := ⟨h.1, fun i d v q1 q2 => (h.2 i d v q1 q2).same s⟩
theorem Rp.up : ∀ {n : Nat} {d : D} {v : V}, Rp K b H n d v → Rp K b H (n + 1) d v
  | 0, _, _, h => .inl h
  | n + 1, _, _, h => by
    rcases h with h | ⟨t, ds, a, vs, e1, e2, h3, e4, e5, h6⟩
    · exact .inl h
    · exact .inr ⟨t, ds, a, vs, e1, e2, h3, e4, e5, fun i d v q1 q2 => (h6 i d v q1 q2).up⟩
theorem Rp.mono (h : Rp K b H m d v) (le : m ≤ n) : Rp K b H n d v := by
  induction le with
  | refl => exact h
  | step _ ih => exact ih.up
theorem RpA.up (h : RpA K b H n ds vs) : RpA K b H (n + 1) ds vs := ⟨h.1, fun i d v q1 q2 => (h.2 i d v q1 q2).up⟩
theorem RpA.nil : RpA K b H n [] [] := ⟨rfl, fun i d v q => by cases i <;> cases q⟩
theorem RpA.cons (h : Rp K b H n d v) (r : RpA K b H n ds vs) : RpA K b H n (d :: ds) (v :: vs) := ⟨by simp [r.1], fun i d' v' q1 q2 => by
  cases i with
  | zero =>
    cases q1
    cases q2
    exact h
  | succ i => exact r.2 i d' v' q1 q2⟩
theorem RpA.append {es : List D} {ws : List V} (h : RpA K b H n ds vs) (r : RpA K b H n es ws) : RpA K b H n (ds ++ es) (vs ++ ws) := ⟨by simp [r.1, h.1], fun i d' v' q1 q2 => by
  by_cases c : i < ds.length
  · rw [List.getElem?_append_left c] at q1
    rw [List.getElem?_append_left (by rw [h.1]; exact c)] at q2
    exact h.2 i d' v' q1 q2
  · rw [List.getElem?_append_right (by omega)] at q1
    rw [List.getElem?_append_right (by rw [h.1]; omega), h.1] at q2
    exact r.2 _ d' v' q1 q2⟩
theorem RpA.take (k : Nat) (h : RpA K b H n ds vs) : RpA K b H n (ds.take k) (vs.take k) := ⟨by simp [h.1], fun i d' v' q1 q2 => by
  rw [List.getElem?_take] at q1 q2
  split at q1
  · rename_i c
    rw [if_pos c] at q2
    exact h.2 i d' v' q1 q2
  · cases q1⟩
theorem RpA.drop (k : Nat) (h : RpA K b H n ds vs) : RpA K b H n (ds.drop k) (vs.drop k) := ⟨by simp [h.1], fun i d' v' q1 q2 => by
  rw [List.getElem?_drop] at q1 q2
  exact h.2 _ d' v' q1 q2⟩
theorem Rp.seq (h : SqB K b H t a vs) (r : RpA K b H n ds vs) (l : vs.length ≤ 900) : Rp K b H (n + 1) (.seq t ds) (.ref a) := .inr ⟨t, ds, a, vs, rfl, rfl, h, r.1, l, r.2⟩
theorem Rp.tup (h : SqT K H a vs) (r : RpA K b H n ds vs) (l : vs.length ≤ 900) : Rp K b H (n + 1) (.seq true ds) (.ref a) := Rp.seq (by unfold SqB; rw [if_pos rfl]; exact h) r l
theorem Rp.lst (h : H a = some (.lst vs)) (nb : a ≠ b) (r : RpA K b H n ds vs) (l : vs.length ≤ 900) : Rp K b H (n + 1) (.seq false ds) (.ref a) := Rp.seq (by unfold SqB; rw [if_neg (by decide)]; exact ⟨h, nb⟩) r l
/-- a scalar is itself -/
theorem Rp.of_sc (h : Rp K b H n (.sc w) v) : v = w ∧ Sc v := by
  cases n with
  | zero =>
    obtain ⟨e, s⟩ := h
    cases e
    exact ⟨rfl, s⟩
  | succ n =>
    rcases h with ⟨e, s⟩ | ⟨t, ds, a, vs, e, _⟩
    · cases e
      exact ⟨rfl, s⟩
    · cases e
theorem Rp.of_seq (h : Rp K b H n (.seq t ds) v) : ∃ (m : Nat) (a : Addr) (vs : List V), n = m + 1 ∧ v = .ref a ∧ SqB K b H t a vs ∧ RpA K b H m ds vs ∧ vs.length ≤ 900 := by
  cases n with
  | zero => cases h.1
  | succ n =>
    rcases h with ⟨e, s⟩ | ⟨t', ds', a, vs, e, e2, h3, h4, h5, h6⟩
    · cases e
    · cases e
      exact ⟨n, a, vs, rfl, e2, h3, ⟨h4, h6⟩, h5⟩
theorem Rp.of_tup (h : Rp K b H (n + 1) (.seq true ds) v) : ∃ (a : Addr) (vs : List V), v = .ref a ∧ SqT K H a vs ∧ RpA K b H n ds vs ∧ vs.length ≤ 900 := by
  obtain ⟨m, a, vs, e, e2, h3, h4, h5⟩ := h.of_seq
  cases e
  unfold SqB at h3
  rw [if_pos rfl] at h3
  exact ⟨a, vs, e2, h3, h4, h5⟩
theorem SqB.E (h : SqB K b H t a vs) : SqE K H a vs := by
  unfold SqB at h
  split at h
  · exact .inr h
  · exact .inl (SqL.of h.1)
/-- two values with the same data are alike -/
theorem Rp.alk : ∀ {n : Nat} {d : D} {v w : V}, Rp K b H n d v → Rp K b H n d w → Alk K NoA H n v w
  | 0, _, _, _, h1, h2 => by
    obtain ⟨e1, s1⟩ := h1
    obtain ⟨e2, s2⟩ := h2
    rw [e1] at e2
    cases e2
    exact ⟨s1, rfl⟩
  | n + 1, _, _, _, h1, h2 => by
    rcases h1 with ⟨e1, s1⟩ | ⟨t, ds, p, xs, e1, e2, h3, e4, e5, h6⟩
    · subst e1
      obtain ⟨e, s⟩ := h2.of_sc
      exact .inl ⟨s1, e.symm⟩
    · subst e1
      obtain ⟨m, q, ys, em, f2, g3, g4, g5⟩ := h2.of_seq
      cases em
      refine .inr ⟨p, q, xs, ys, e2, f2, fun z => z, fun z => z, ?_, by rw [e4, g4.1], by omega, fun i u v' hu hv => ?_⟩
      · unfold SqB at h3 g3
        split at h3
        · rename_i c
          rw [if_pos c] at g3
          exact .inr ⟨h3, g3⟩
        · rename_i c
          rw [if_neg c] at g3
          exact .inl ⟨h3.1, g3.1⟩
      · obtain ⟨l1, _⟩ := List.getElem?_eq_some_iff.mp hu
        have hd : ds[i]? = some ds[i] := List.getElem?_eq_getElem (by omega)
        exact (h6 i _ u hd hu).alk (g4.2 i _ v' hd hv)
end
theorem dec_int {a k : Int} : decide (V.int a = V.int k) = decide (a = k) := decide_eq_decide.mpr ⟨fun h => by cases h; rfl, fun h => by rw [h]⟩
theorem dec_str {a k : Str} : decide (V.str a = V.str k) = decide (a = k) := decide_eq_decide.mpr ⟨fun h => by cases h; rfl, fun h => by rw [h]⟩
/-! ### what a value is -/
def intD : D → Option Int
  | .sc (.int i) => some i
  | _ => none
def isI (d : D) : Bool := (intD d).isSome
def isT : D → Bool
  | .seq t _ => t
  | _ => false
def isQ : D → Bool
  | .seq _ _ => true
  | _ => false
def strD : D → Option Str
  | .sc (.str x) => some x
  | _ => none
def isS (d : D) : Bool := (strD d).isSome
/-- a number from lo to hi -/
def wh (lo hi : Int) (d : D) : Bool := match intD d with
  | some i => decide (lo ≤ i) && decide (i ≤ hi)
  | none => false
def num (d : D) : Int := (intD d).getD 0
def items : D → List D
  | .seq _ xs => xs
  | _ => []
theorem wh_int {lo hi : Int} {d : D} (h : wh lo hi d = true) : d = .sc (.int (num d)) ∧ lo ≤ num d ∧ num d ≤ hi := by
  unfold wh at h
  cases d with
  | sc v =>
    cases v with
    | int i => simpa [intD, num] using h
    | _ => cases h
  | seq t xs => cases h
theorem wh_of {lo hi i : Int} (h1 : lo ≤ i) (h2 : i ≤ hi) : wh lo hi (.sc (.int i)) = true := by simp [wh, intD, h1, h2]
section
variable {K : PySem.W.Frag} {b : Addr} {H : Hp} {n : Nat} {d : D} {v : V}
/-- the type of a value, by its name -/
theorem Rp.ty (h : Rp K b H n d v) : ∃ s : String, TyX K H v (.type s) ∧ kitB s "tuple" = some (isT d) ∧ kitB s "list" = some (isQ d && !isT d) ∧ kitB s "str" = some (isS d) ∧ ∃ i j, kitB s "int" = some i ∧ kitB s "bool" = some j ∧ isI d = (i && !j) := by
  cases d with
  | sc w =>
    obtain ⟨rfl, s⟩ := h.of_sc
    cases s with
    | non => exact ⟨"NoneType", .base .non, (show kitB "NoneType" "tuple" = some false by decide +kernel), (show kitB "NoneType" "list" = some false by decide +kernel), (show kitB "NoneType" "str" = some false by decide +kernel), false, false, by decide +kernel, by decide +kernel, rfl⟩
    | bl x => exact ⟨"bool", .base (.bl x), (show kitB "bool" "tuple" = some false by decide +kernel), (show kitB "bool" "list" = some false by decide +kernel), (show kitB "bool" "str" = some false by decide +kernel), true, true, by decide +kernel, by decide +kernel, rfl⟩
    | int i => exact ⟨"int", .base (.int i), (show kitB "int" "tuple" = some false by decide +kernel), (show kitB "int" "list" = some false by decide +kernel), (show kitB "int" "str" = some false by decide +kernel), true, false, by decide +kernel, by decide +kernel, rfl⟩
    | str x => exact ⟨"str", .base (.str x), (show kitB "str" "tuple" = some false by decide +kernel), (show kitB "str" "list" = some false by decide +kernel), (show kitB "str" "str" = some true by decide +kernel), false, false, by decide +kernel, by decide +kernel, rfl⟩
  | seq t ds =>
    obtain ⟨m, a, vs, _, rfl, h3, _⟩ := h.of_seq
    cases t with
    | true => exact ⟨"tuple", K02.tyT h3, (show kitB "tuple" "tuple" = some true by decide +kernel), (show kitB "tuple" "list" = some false by decide +kernel), (show kitB "tuple" "str" = some false by decide +kernel), false, false, by decide +kernel, by decide +kernel, rfl⟩
    | false => exact ⟨"list", .base (.lst h3.1), (show kitB "list" "tuple" = some false by decide +kernel), (show kitB "list" "list" = some true by decide +kernel), (show kitB "list" "str" = some false by decide +kernel), false, false, by decide +kernel, by decide +kernel, rfl⟩
theorem Rp.Wh (h : Rp K b H n d v) : Wh K H v (isI d) := by
  obtain ⟨s, ty, _, _, _, i, j, e1, e2, e3⟩ := h.ty
  exact ⟨_, i, j, ty, kit_ty e1, kit_ty e2, e3⟩
theorem Rp.tyT (h : Rp K b H n d v) : ∃ t, TyX K H v t ∧ PySem.W.kitOne K t (.type "tuple") = some (isT d) := by
  obtain ⟨s, ty, e, _⟩ := h.ty
  exact ⟨_, ty, kit_ty e⟩
theorem Rp.tyS (h : Rp K b H n d v) : ∃ t, TyX K H v t ∧ PySem.W.kitOne K t (.type "str") = some (isS d) := by
  obtain ⟨s, ty, _, _, e, _⟩ := h.ty
  exact ⟨_, ty, kit_ty e⟩
theorem Rp.tyQ (h : Rp K b H n d v) : ∃ t, TyX K H v t ∧ PySem.W.kitAny K t [.type "list", .type "tuple"] = some (isQ d) := by
  obtain ⟨s, ty, e1, e2, _⟩ := h.ty
  refine ⟨_, ty, ?_⟩
  rw [kitLT e2 e1]
  cases d with
  | sc w => rfl
  | seq t ds => cases t <;> rfl
theorem isI_num (h : isI d = true) : d = .sc (.int (num d)) := by
  cases d with
  | sc v =>
    cases v with
    | int i => rfl
    | _ => cases h
  | seq t xs => cases h
theorem Rp.int (h : Rp K b H n d v) (e : isI d = true) : v = .int (num d) := by
  rw [isI_num e] at h
  exact h.of_sc.1
theorem isS_str (h : isS d = true) : ∃ x, d = .sc (.str x) := by
  cases d with
  | sc v =>
    cases v with
    | str i => exact ⟨i, rfl⟩
    | _ => cases h
  | seq t xs => cases h
theorem isT_tup (h : isT d = true) : d = .seq true (items d) := by
  cases d with
  | sc v => cases h
  | seq t xs =>
    cases h
    rfl
theorem isQ_seq (h : isQ d = true) : d = .seq (isT d) (items d) := by
  cases d with
  | sc v => cases h
  | seq t xs => rfl
theorem num_D {lo hi : Int} {Q : VK} {E : XK} (h : Rp K b H n d v) (q : Q (.bl (wh lo hi d)) H) : spNumber K [v, .int lo, .int hi] H Q E := by
  refine ⟨v, lo, hi, rfl, ?_⟩
  by_cases e : isI d = true
  · refine .inl ⟨num d, h.int e, ?_⟩
    rw [isI_num e] at q
    exact q
  · refine .inr ⟨?_, ?_⟩
    · have := h.Wh
      rw [Bool.eq_false_iff.mpr e] at this
      exact this
    · have e2 : wh lo hi d = false := by
        unfold wh
        have : intD d = none := by
          unfold isI at e
          cases c : intD d with
          | none => rfl
          | some i => rw [c] at e; exact absurd rfl e
        rw [this]
      rw [e2] at q
      exact q
end
end K02
set_option Elab.async false
set_option linter.all false
set_option maxRecDepth 100000
set_option maxHeartbeats 4000000
namespace L2
open PySem PySem.Spec PyProof.Rows SrtO
/-! ### sorted(t), t a tuple of ints -/
section
variable {pg : Program} {w : World} {A : Around} {E : Value → Shared → Prop} {s : Shared}
abbrev hpC (h : Heap) (us : List Value) : Heap := (h.push (seqObj "list" #[] 0)).update h.objs.size (Obj.mapSeq (· ++ us.toArray))
theorem collect_tuple {t : Addr} {us : List Value} {Q : List Value → Shared → Prop} (ht : s.heap.IsTuple t us.toArray) (few : us.length ≤ sizeLine) (k : Q us { s with heap := hpC s.heap us }) : wpAny (model pg w) A (collect (.ref t)) Q E s := by
  obtain ⟨o, ho, hc, n, hd⟩ := id ht
  unfold collect
  refine wpAny_bind (wpAny_runValue (codeAny_builtin entry_proto_collect' (show wpAny _ _ (do again (.builtin "list.__iadd__" ⟨[← newList [], .ref t], []⟩)) _ _ s from wpAny_bind (wpAny_newList (wpAny_pure ⟨Code.quiet_builtin _ (by decide +kernel), codeAny_builtin entry_list_iadd' ?_⟩)))))
  show wpAny _ _ (Builtin.List.listExtendWith (.ref s.heap.objs.size) (.ref t) (.ref s.heap.objs.size)) _ _ { s with heap := s.heap.push (seqObj "list" #[] 0) }
  unfold Builtin.List.listExtendWith
  have ho1 : (s.heap.push (seqObj "list" #[] 0)).get? t = some o := Heap.get?_push_of_some _ ho
  refine wpAny_bind (wpAny_typeOf (T := "tuple") ⟨o, ho1, hc⟩ ?_)
  rw [if_pos (by simp)]
  refine wpAny_bind (listItems_at ho1 hd (wpAny_bind (listItems_at (xs := #[]) (n := 0) (Heap.get?_push_size _ rfl) rfl ?_)))
  rw [if_neg (by simp)]
  refine wpAny_bind (listUpdate_at (xs := #[]) (n := 0) (Heap.get?_push_size _ rfl) rfl ?_ (Nat.zero_le _) (by simp; omega))
  refine wpAny_pure (show wpAny (model pg w) A (do
      let o ← load s.heap.objs.size
      match o.data with
      | .seq xs _ => pure xs.toList
      | _ => unsupported "internal:collect") Q E { s with heap := hpC s.heap us } from wpAny_bind (wpAny_load (get?_update_seq (Heap.get?_push_size _ rfl) _) ?_))
  show wpAny _ _ (pure ((#[] : Array Value) ++ us.toArray).toList) Q E _
  rw [show ((#[] : Array Value) ++ us.toArray).toList = us by simp]
  exact wpAny_pure k
theorem sorted_tuple {t : Addr} {us : List Value} {lt : Value → Value → Bool} {Q : Value → Shared → Prop} (O : Swo lt) (ht : s.heap.IsTuple t us.toArray) (few : us.length ≤ sizeLine)
    (srt : 2 ≤ us.length → ∀ (h1 : Heap) (a : Addr), h1.get? a = some (seqObj "list" us.toArray 0) → (∀ b o, s.heap.get? b = some o → b ≠ a ∧ h1.get? b = some o) → SortableO pg w A.in1.in1 { s with heap := h1 } a us lt)
    (k : ∀ out : List Value, Srtd lt out → Stb lt out us → Q (.ref (s.heap.objs.size + 1)) { s with heap := sortedAll s.heap us out.toArray }) : wpAny (model pg w) A (call (.builtin "sorted") [.ref t]) Q E s := by
  refine Calls.call_function_entry kind_sorted plain_sorted entry_sorted (args_sorted1 _) ?_
  unfold Builtin.«sorted»
  refine wpAny_bind (m := checkCount "sorted" 1 1 _) (wpAny_pure (wpAny_bind (collect_tuple ht few (wpAny_bind (wpAny_newList ?_ few)))))
  have sz : (hpC s.heap us).objs.size = s.heap.objs.size + 1 := by rw [Heap.size_update, size_push']
  have at1 : ((hpC s.heap us).push (seqObj "list" us.toArray 0)).get? (s.heap.objs.size + 1) = some (seqObj "list" us.toArray 0) := by
    rw [← sz]
    exact Heap.get?_push_size _ rfl
  have stay : ∀ b o, s.heap.get? b = some o → b ≠ s.heap.objs.size + 1 ∧ ((hpC s.heap us).push (seqObj "list" us.toArray 0)).get? b = some o := fun b o q => by
    have bl := Heap.lt_size q
    refine ⟨Nat.ne_of_lt (Nat.lt_succ_of_lt bl), Heap.get?_push_of_some _ ?_⟩
    rw [Heap.get?_update_ne _ _ _ _ (Nat.ne_of_lt bl)]
    exact Heap.get?_push_of_some _ q
  show wpAny _ _ _ _ _ { s with heap := (hpC s.heap us).push (seqObj "list" us.toArray 0) }
  rw [sz]
  refine wpAny_bind (wpAny_holding (wpAny_call_entry slot_list_sort ⟨_, at1, rfl⟩ entry_list_sort ?_ (args_list_sort _)))
  refine list_sort_ord O at1 few (fun h2 => srt h2 _ _ at1 stay) fun out hs hb => ⟨_, rfl, ?_⟩
  exact wpAny_pure ⟨_, rfl, k out hs hb⟩
end
def rSortedU (K : PySem.W.Frag) : List V → Hp → VK → Prop := fun vs H Q => ∃ (a : Addr) (ns : List Int), vs = [V.ref a] ∧ SqT K H a (ns.map V.int) ∧ ∀ (ms : List Int) (p : Addr), ms.Perm ns → ms.Pairwise (· ≤ ·) → H p = none → Q (.ref p) (upd H p (.lst (ms.map V.int)))
section
variable {X : Cx}
theorem cr_sortedU : CallR X (.builtin "sorted") (rSortedU X.K) := by
  intro pins s σ H vs us Q I r h
  obtain ⟨a, ns, rfl, ha, q⟩ := h
  obtain ⟨its, rv, it, hz⟩ := I.tuple ha
  rw [Vals.ref1 r]
  have hin := rv.ints
  refine sorted_tuple swo_int (show s.heap.IsTuple a its.toArray from it) (by rw [← rv.length]; exact hz) (fun h2 _ _ _ _ => ints_sortable hin h2) fun out o1 o2 => ?_
  obtain ⟨k1, k2, k3⟩ := ints_out hin o1 o2
  obtain ⟨ep, at1⟩ := PyProof.Rows.sortedAll_at s.heap its out.toArray
  have len : ((out.map iv).map V.int).length ≤ sizeLine := by
    rw [List.length_map, k2.length_eq]
    rw [List.length_map] at hz
    exact hz
  refine ⟨.ref _, upd H (s.heap.objs.size + 1) (.lst ((out.map iv).map V.int)), ?_, rfl, q _ _ k2 k3 (I.hok.fresh (Nat.le_succ _))⟩
  exact I.laid (t' := s.toks) (fun _ _ => PyProof.Rows.sortedAll_old) (Nat.le_succ _) ⟨len, out, ep, vals_of_ints k1, at1⟩
/-! ### a tuple of ints among such tuples -/
abbrev dI (k : List Int) : PyData := .tuple (k.map PyData.int)
theorem eqvAll_ints : ∀ j k : List Int, PyData.eqvAll (j.map PyData.int) (k.map PyData.int) = decide (j = k)
  | [], [] => rfl
  | [], _ :: _ => rfl
  | _ :: _, [] => rfl
  | x :: j, y :: k => by
    show (PyData.eqv (.int x) (.int y) && PyData.eqvAll (j.map PyData.int) (k.map PyData.int)) = _
    rw [eqvAll_ints j k]
    by_cases e : x = y
    · by_cases f : j = k
      · simp [e, f, PyData.eqv]
      · simp [e, f, PyData.eqv]
    · simp [e, PyData.eqv]
theorem lay_ints : ∀ k : List Int, PyData.canLayAll0 (k.map PyData.int) = true ∧ PyData.depthAll (k.map PyData.int) ≤ 1
  | [] => by simp [PyData.canLayAll0, PyData.depthAll]
  | x :: k => by
    have h := lay_ints k
    simp [PyData.canLayAll0, PyData.canLay0, PyData.depthAll, PyData.depth, h.1]
    try omega
theorem lay_many : ∀ ks : List (List Int), PyData.canLayAll0 (ks.map dI) = true ∧ PyData.depthAll (ks.map dI) ≤ 3
  | [] => by simp [PyData.canLayAll0, PyData.depthAll]
  | k :: ks => by
    have h := lay_many ks
    have h2 := lay_ints k
    simp [PyData.canLayAll0, PyData.canLay0, PyData.depthAll, PyData.depth, h.1, h2.1]
    try omega
theorem any_ints (k : List Int) : ∀ ks : List (List Int), ((ks.map dI).any fun z => PyData.eqv z (dI k)) = decide (k ∈ ks)
  | [] => rfl
  | j :: ks => by
    rw [List.map_cons, List.any_cons, any_ints k ks, show PyData.eqv (dI j) (dI k) = decide (j = k) from eqvAll_ints j k]
    by_cases e : j = k
    · simp [e]
    · have : ¬ k = j := fun z => e z.symm
      simp [e, this]
theorem dp_ints {K : PySem.W.Frag} {H : Hp} : ∀ k : List Int, DpAll K H (k.map V.int) (k.map PyData.int)
  | [] => .nil
  | x :: k => .cons (.int x) (dp_ints k)
theorem dp_tup {K : PySem.W.Frag} {H : Hp} {a : Addr} {k : List Int} (h : SqT K H a (k.map V.int)) : Dp K H (.ref a) (dI k) := .tup h (dp_ints k)
theorem dp_many {K : PySem.W.Frag} {H : Hp} : ∀ {ks : List (Addr × List Int)}, (∀ p ∈ ks, SqT K H p.1 (p.2.map V.int)) → DpAll K H (ks.map fun p => V.ref p.1) ((ks.map (·.2)).map dI)
  | [], _ => .nil
  | p :: ks, h => .cons (dp_tup (h p (List.mem_cons_self ..))) (dp_many fun q hq => h q (List.mem_cons_of_mem _ hq))
def rInK (K : PySem.W.Frag) (neg : Bool) : R2 := fun x y H Q => ∃ (a p : Addr) (k : List Int) (ks : List (Addr × List Int)), x = .ref a ∧ y = .ref p ∧ SqT K H a (k.map V.int) ∧ SqE K H p (ks.map fun q => V.ref q.1) ∧ (∀ q ∈ ks, SqT K H q.1 (q.2.map V.int)) ∧ Q (.bl (if neg = true then !decide (k ∈ ks.map (·.2)) else decide (k ∈ ks.map (·.2)))) H
theorem shaped_ints (k : List Int) : SeqAt.shaped (dI k) = true := by
  have h := lay_ints k
  show (PyData.canLayAll0 (k.map PyData.int) && decide (PyData.depthAll (k.map PyData.int) + 1 ≤ 64)) = true
  rw [h.1, Bool.true_and]
  exact decide_eq_true (by omega)
theorem op_inK (hu : X.A.units + 65 < cLine) : OpR X (compareOp .In) (rInK X.K false) := by
  intro pins s σ H x y v u Q I rx ry h
  obtain ⟨a, p, k, ks, rfl, rfl, ha, hp, hk, q⟩ := h
  rw [if_neg (by decide)] at q
  obtain ⟨as, r1⟩ := Dp.reads I (dI k) _ v (dp_tup ha) rx
  have lm := lay_many (ks.map (·.2))
  have sk := shaped_ints k
  rcases hp with hp | hp
  · obtain ⟨bs, r2⟩ := Dp.reads I (.list ((ks.map (·.2)).map dI)) _ u (.lst hp (dp_many hk)) ry
    exact SeqAt.in_list_reads r2 r1 lm.1 (SeqAt.canLay_of_shaped sk) (by have := Nat.min_le_left (PyData.depthAll ((ks.map (·.2)).map dI)) (dI k).depth; omega) ⟨.bl _, H, I, by rw [any_ints] <;> rfl, q⟩
  · obtain ⟨bs, r2⟩ := Dp.reads I (.tuple ((ks.map (·.2)).map dI)) _ u (.tup hp (dp_many hk)) ry
    exact SeqAt.in_tuple_reads r2 r1 lm.1 (SeqAt.canLay_of_shaped sk) (by have := Nat.min_le_left (PyData.depthAll ((ks.map (·.2)).map dI)) (dI k).depth; omega) ⟨.bl _, H, I, by rw [any_ints] <;> rfl, q⟩
theorem op_notInK (hu : X.A.units + 65 < cLine) : OpR X (compareOp .NotIn) (rInK X.K true) := by
  intro pins s σ H x y v u Q I rx ry h
  obtain ⟨a, p, k, ks, rfl, rfl, ha, hp, hk, q⟩ := h
  rw [if_pos rfl] at q
  obtain ⟨as, r1⟩ := Dp.reads I (dI k) _ v (dp_tup ha) rx
  have lm := lay_many (ks.map (·.2))
  have sk := shaped_ints k
  rcases hp with hp | hp
  · obtain ⟨bs, r2⟩ := Dp.reads I (.list ((ks.map (·.2)).map dI)) _ u (.lst hp (dp_many hk)) ry
    exact SeqAt.notIn_list_reads r2 r1 lm.1 (SeqAt.canLay_of_shaped sk) (by have := Nat.min_le_left (PyData.depthAll ((ks.map (·.2)).map dI)) (dI k).depth; omega) ⟨.bl _, H, I, by rw [any_ints] <;> rfl, q⟩
  · obtain ⟨bs, r2⟩ := Dp.reads I (.tuple ((ks.map (·.2)).map dI)) _ u (.tup hp (dp_many hk)) ry
    exact SeqAt.notIn_tuple_reads r2 r1 lm.1 (SeqAt.canLay_of_shaped sk) (by have := Nat.min_le_left (PyData.depthAll ((ks.map (·.2)).map dI)) (dI k).depth; omega) ⟨.bl _, H, I, by rw [any_ints] <;> rfl, q⟩
/-! ### two lists of ints -/
def rEqI (K : PySem.W.Frag) : R2 := fun x y H Q => ∃ (a b : Addr) (j k : List Int), x = .ref a ∧ y = .ref b ∧ SqL K H a (j.map V.int) ∧ SqL K H b (k.map V.int) ∧ Q (.bl (decide (j = k))) H
theorem op_eqI (hu : X.A.units + 64 < cLine) : OpR X (compareOp .Eq) (rEqI X.K) := by
  intro pins s σ H x y v u Q I rx ry h
  obtain ⟨a, b, j, k, rfl, rfl, ha, hb, q⟩ := h
  refine op_eqD hu pins s σ H _ _ v u Q I rx ry ⟨.list (j.map PyData.int), .list (k.map PyData.int), .lst ha (dp_ints j), .lst hb (dp_ints k), ?_, ?_, ?_⟩
  · exact shaped_ints j
  · exact shaped_ints k
  · rw [show PyData.eqv (.list (j.map PyData.int)) (.list (k.map PyData.int)) = decide (j = k) from eqvAll_ints j k]
    exact q
end
theorem hu65 {A : Around} {k : Nat} (hr : Room k A) : A.units + 65 < cLine := by
  have := hr.un
  omega
end L2
set_option Elab.async false
set_option linter.all false
set_option maxRecDepth 100000
set_option maxHeartbeats 4000000
namespace L2
open PySem PySem.Spec PyProof.Rows
/-- a comprehension that makes f i at each turn i with p i, and leaves what stands -/
theorem lc_flt {J : It} {n : Nat} {G : Hp → Prop} {Y : Nat → Hp → V → Hp → Prop} (W : Walk J n G Y) {g : TG} {tt : TT} {te : TE} {vs : List Nat} {σ : St} {H1 : Hp} {D : Addr} {Qd : Hp → Prop} (f : Nat → V) (p : Nat → Bool) (hn : n ≤ 1000000) (hD : H1 D = none)
    (hG : ∀ H', (∀ a o, a ≠ D → H1 a = some o → H' a = some o) → G H')
    (hs : ∀ (i : Nat) (x : V) (H' H'' : Hp) (Kc : VK) (Z : Hp → Prop), i < n → (∀ a o, a ≠ D → H1 a = some o → H' a = some o) → Y i H' x H'' → (p i = true → ∀ H2, Same H' H2 → Kc (f i) H2) → (p i = false → ∀ H2, Same H' H2 → Z H2) → g x (wipe σ vs) H'' fun σ2 H3 => wipe σ2 vs = wipe σ vs ∧ tt σ2 H3 fun b H4 => if b = true then te σ2 H4 Kc else Z H4)
    (hd : ∀ H', (∀ a o, a ≠ D → H1 a = some o → H' a = some o) → H' D = some (.lst (((List.range n).filter p).map f)) → Qd H') :
    ∃ Wt : Nat → Nat → Hp → Prop, (∃ m, Wt 0 m (upd H1 D (.lst []))) ∧ ∀ i m H, Wt i m H →
      (J.stop i H ∧ Qd H) ∨ (J.go i H ∧ ∃ Nx : Hp → Prop, (∀ H', Nx H' → ∃ m', m' < m ∧ Wt (i + 1) m' H') ∧ ∀ x H', J.yld i H x H' → g x (wipe σ vs) H' fun σ2 H2 => wipe σ2 vs = wipe σ vs ∧ tt σ2 H2 fun b H3 =>
        if b = true then te σ2 H3 fun y H4 => ∃ acc, H4 D = some (.lst acc) ∧ acc.length < sizeLine ∧ Nx (upd H4 D (.lst (acc ++ [y]))) else Nx H3) := by
  refine lc_it W (fun i H' => (∀ a o, a ≠ D → H1 a = some o → H' a = some o) ∧ H' D = some (.lst (((List.range i).filter p).map f))) ⟨fun a o na e => by rw [upd_ne na]; exact e, upd_same⟩ (fun i H' _ h => hG H' h.1) ?_ fun H' h => hd H' h.1 h.2
  rintro i x H' H'' hi ⟨h1, h2⟩ y
  refine hs i x H' H'' _ _ hi h1 y (fun hp H2 s => ⟨_, s _ _ h2, ?_, fun a o na e => ?_, ?_⟩) fun hp H2 s => ⟨fun a o na e => s _ _ (h1 a o na e), ?_⟩
  · have : ((List.range i).filter p).length ≤ (List.range i).length := List.length_filter_le _ _
    rw [List.length_range] at this
    rw [List.length_map, sizeLine_eq]
    omega
  · rw [upd_ne na]
    exact s _ _ (h1 a o na e)
  · rw [upd_same, List.range_succ, List.filter_append, List.map_append]
    simp [hp]
  · rw [s _ _ h2, List.range_succ, List.filter_append, List.map_append]
    simp [hp]
/-- the same where none is left out -/
theorem lc_all {J : It} {n : Nat} {G : Hp → Prop} {Y : Nat → Hp → V → Hp → Prop} (W : Walk J n G Y) {g : TG} {tt : TT} {te : TE} {vs : List Nat} {σ : St} {H1 : Hp} {D : Addr} {Qd : Hp → Prop} (f : Nat → V) (hn : n ≤ 1000000) (hD : H1 D = none)
    (hG : ∀ H', (∀ a o, a ≠ D → H1 a = some o → H' a = some o) → G H')
    (hs : ∀ (i : Nat) (x : V) (H' H'' : Hp) (Kc : VK) (Z : Hp → Prop), i < n → (∀ a o, a ≠ D → H1 a = some o → H' a = some o) → Y i H' x H'' → (∀ H2, Same H' H2 → Kc (f i) H2) → g x (wipe σ vs) H'' fun σ2 H3 => wipe σ2 vs = wipe σ vs ∧ tt σ2 H3 fun b H4 => if b = true then te σ2 H4 Kc else Z H4)
    (hd : ∀ H', (∀ a o, a ≠ D → H1 a = some o → H' a = some o) → H' D = some (.lst ((List.range n).map f)) → Qd H') :
    ∃ Wt : Nat → Nat → Hp → Prop, (∃ m, Wt 0 m (upd H1 D (.lst []))) ∧ ∀ i m H, Wt i m H →
      (J.stop i H ∧ Qd H) ∨ (J.go i H ∧ ∃ Nx : Hp → Prop, (∀ H', Nx H' → ∃ m', m' < m ∧ Wt (i + 1) m' H') ∧ ∀ x H', J.yld i H x H' → g x (wipe σ vs) H' fun σ2 H2 => wipe σ2 vs = wipe σ vs ∧ tt σ2 H2 fun b H3 =>
        if b = true then te σ2 H3 fun y H4 => ∃ acc, H4 D = some (.lst acc) ∧ acc.length < sizeLine ∧ Nx (upd H4 D (.lst (acc ++ [y]))) else Nx H3) :=
  lc_flt W f (fun _ => true) hn hD hG (fun i x H' H'' Kc Z hi k y h1 _ => hs i x H' H'' Kc Z hi k y (h1 rfl)) fun H' k e => hd H' k (by rw [e, List.filter_eq_self.mpr (fun _ _ => rfl)])
/-! ### tuples of naturals compared -/
abbrev nvL (xs : List Nat) : List V := xs.map fun s : Nat => V.int ((s : Nat) : Int)
theorem nvL_ints (xs : List Nat) : nvL xs = (xs.map fun s : Nat => ((s : Nat) : Int)).map V.int := by
  rw [List.map_map]
  rfl
def dN (xs : List Nat) : PyData := .tuple ((xs.map fun s : Nat => ((s : Nat) : Int)).map PyData.int)
theorem dp_nv {K : PySem.W.Frag} {H : Hp} {a : Addr} {xs : List Nat} (h : SqT K H a (nvL xs)) : Dp K H (.ref a) (dN xs) := by
  rw [nvL_ints] at h
  exact .tup h (dp_ints _)
theorem canLay_ints : ∀ j : List Int, PyData.canLayAll0 (j.map PyData.int) = true
  | [] => rfl
  | i :: j => by
    rw [List.map_cons]
    unfold PyData.canLayAll0
    rw [canLay_ints j]
    rfl
theorem depth_ints : ∀ j : List Int, PyData.depthAll (j.map PyData.int) = 0
  | [] => rfl
  | i :: j => by
    rw [List.map_cons]
    unfold PyData.depthAll
    rw [depth_ints j]
    rfl
theorem canLay_nv (xs : List Nat) : PyData.canLay0 (dN xs) = true := by
  unfold dN PyData.canLay0
  exact canLay_ints _
theorem depth_nv (xs : List Nat) : PyData.depth (dN xs) = 1 := by
  unfold dN PyData.depth
  rw [depth_ints]
theorem shaped_nv (xs : List Nat) : SeqAt.shaped (dN xs) = true := by
  unfold SeqAt.shaped
  rw [canLay_nv, depth_nv]
  rfl
theorem cast_inj {xs ys : List Nat} : (xs.map fun s : Nat => ((s : Nat) : Int)) = (ys.map fun s : Nat => ((s : Nat) : Int)) ↔ xs = ys := by
  constructor
  · intro h
    have := congrArg (List.map Int.toNat) h
    simpa [List.map_map, Function.comp_def] using this
  · intro h
    rw [h]
theorem eqv_nv (xs ys : List Nat) : PyData.eqv (dN xs) (dN ys) = decide (xs = ys) := by
  unfold dN
  rw [show PyData.eqv (.tuple ((xs.map fun s : Nat => ((s : Nat) : Int)).map PyData.int)) (.tuple ((ys.map fun s : Nat => ((s : Nat) : Int)).map PyData.int)) = PyData.eqvAll _ _ by unfold PyData.eqv; rfl, eqvAll_ints]
  exact decide_eq_decide.mpr cast_inj
theorem eq_nv {K : PySem.W.Frag} {H : Hp} {a b : Addr} {xs ys : List Nat} {Q : VK} (ha : SqT K H a (nvL xs)) (hb : SqT K H b (nvL ys)) (q : Q (.bl (decide (xs = ys))) H) : rEqD K (.ref a) (.ref b) H Q :=
  ⟨_, _, dp_nv ha, dp_nv hb, shaped_nv _, shaped_nv _, by rw [eqv_nv]; exact q⟩
theorem ne_nv {K : PySem.W.Frag} {H : Hp} {a b : Addr} {xs ys : List Nat} {Q : VK} (ha : SqT K H a (nvL xs)) (hb : SqT K H b (nvL ys)) (q : Q (.bl (!decide (xs = ys))) H) : rNeD K (.ref a) (.ref b) H Q :=
  ⟨_, _, dp_nv ha, dp_nv hb, shaped_nv _, shaped_nv _, by rw [eqv_nv]; exact q⟩
end L2
set_option Elab.async false
set_option linter.all false
set_option maxRecDepth 100000
set_option maxHeartbeats 4000000
namespace K02
open PySem PySem.Spec PyProof.Rows L2
abbrev nv (ss : List Nat) : List V := ss.map fun s : Nat => V.int ((s : Nat) : Int)
abbrev nD (s : Nat) : D := .sc (.int ((s : Nat) : Int))
theorem iteT_of {α : Prop} {β : Prop} {c : Bool} (e : c = true) (h : α) : if c = true then α else β := by
  rw [if_pos e]
  exact h
theorem iteF_of {α : Prop} {β : Prop} {c : Bool} (e : c = false) (h : β) : if c = true then α else β := by
  rw [if_neg (by rw [e]; decide)]
  exact h
theorem nv_get {ss : List Nat} {i : Nat} (h : i < ss.length) : (nv ss)[i]? = some (.int ((ss.getD i 0 : Nat) : Int)) := by
  rw [List.getElem?_map, List.getElem?_eq_getElem h, List.getD_eq_getElem?_getD, List.getElem?_eq_getElem h]
  rfl
theorem nv_rp {K : PySem.W.Frag} {b : Addr} {H : Hp} {a : Addr} {ns : List Nat} (h : SqT K H a (nv ns)) (l : ns.length ≤ 900) : Rp K b H 1 (.seq true (ns.map nD)) (.ref a) := by
  refine Rp.tup h ⟨by rw [List.length_map, List.length_map], fun i d v q1 q2 => ?_⟩ (by rw [List.length_map]; exact l)
  rw [List.getElem?_map] at q1 q2
  cases e : ns[i]? with
  | none =>
    rw [e] at q1
    cases q1
  | some s =>
    rw [e] at q1 q2
    cases q1
    cases q2
    exact Rp.sc (.int _)
theorem Rp.its {K : PySem.W.Frag} {b : Addr} {H : Hp} {n : Nat} {d : D} {v : V} (h : Rp K b H n d v) (e : isT d = true) : ∃ (m : Nat) (p : Addr) (ys : List V), v = .ref p ∧ SqT K H p ys ∧ RpA K b H m (items d) ys ∧ ys.length ≤ 900 := by
  rw [isT_tup e] at h
  obtain ⟨m, a, vs, _, rfl, h3, h4, h5⟩ := h.of_seq
  unfold SqB at h3
  rw [if_pos rfl] at h3
  exact ⟨m, a, vs, rfl, h3, h4, h5⟩
theorem RpA.get {K : PySem.W.Frag} {b : Addr} {H : Hp} {n i : Nat} {ds : List D} {vs : List V} {x : V} (h : RpA K b H n ds vs) (hx : vs[i]? = some x) : ∃ d, ds[i]? = some d ∧ Rp K b H n d x := by
  obtain ⟨l, _⟩ := List.getElem?_eq_some_iff.mp hx
  have hd : ds[i]? = some (ds[i]'(by rw [← h.1]; exact l)) := List.getElem?_eq_getElem _
  exact ⟨_, hd, h.2 i _ _ hd hx⟩
theorem map_range_getD {α β : Type} (l : List α) (f : α → β) (z : α) : l.map f = (List.range l.length).map fun i => f (l.getD i z) := by
  refine List.ext_getElem? fun i => ?_
  rw [List.getElem?_map, List.getElem?_map]
  by_cases c : i < l.length
  · rw [List.getElem?_range c, List.getElem?_eq_getElem c]
    show some (f l[i]) = some (f (l.getD i z))
    rw [List.getD_eq_getElem?_getD, List.getElem?_eq_getElem c]
    rfl
  · rw [List.getElem?_eq_none (by omega), List.getElem?_eq_none (by rw [List.length_range]; omega)]
    rfl
/-! ### is_word, is_ring -/
def wordD (g : Int) (d : D) : Bool := isT d && (items d).all (wh 0 g)
def ringD (g : Int) (d : D) : Bool := wordD g d && decide (0 < (items d).length)
section
variable {P : Program} {w : World} {K : PySem.W.Frag} {mg : Str → Option Value} {base : Heap}
def grt (n : Int) : Int := (if 64 < n then 64 else n) - 1
def spWord (K : PySem.W.Frag) : Sp := fun vs H Q _ => ∃ (b : Addr) (m : Nat) (d : D) (v : V) (n : Int), vs = [v, .int n] ∧ Rp K b H m d v ∧ ∀ H', Same H H' → Q (.bl (wordD (grt n) d)) H'
theorem sc_word : FnScope ["value", "signs", "greatest", "sign"] ["value", "signs"] (defScope (top 19)) := ⟨rfl, rfl, rfl, by decide +kernel, rfl, by decide +kernel, by decide +kernel⟩
theorem ok_word {f : Addr} {fd : FuncData} {t_ALL_SIGNS : Tok} (F : FnP K "is_word" (top 19) f fd) (m_isinstance : mg "isinstance" = none) (m_tuple : mg "tuple" = none) (m_min : mg "min" = none) (m_all : mg "all" = none) (m_ALL_SIGNS : mg "ALL_SIGNS" = some (.int 64 t_ALL_SIGNS)) (c_is_number : Cal P w K mg base CX0 "is_number" 2 ["value", "least", "most"] (spNumber K)) : FnOk P w K mg base CX0 3 f fd ["value", "signs"] (spWord K) := by
  have sc := sc_word
  refine F.ok sc (fun vs H Q E h => ?_) (fun cdv A outer s H vs Q E hr h => ?_)
  · obtain ⟨b, m, d, v, n, rfl, _⟩ := h
    rfl
  · obtain ⟨b, m, d, v, n, rfl, hd, q⟩ := h
    have hr_is_number : Room 2 _ := hr
    refine ⟨_, PSs.nox (pss_cons (ps_if (pt_not (pt_val (pe_callB call_isi (by rfl) m_isinstance (by decide +kernel) (pa_cons (pv 0) (pa_cons (pe_bltn (v := .ty "tuple") rfl m_tuple boot_tuple rfl) pa_nil))))) (pss_one (ps_ret pe_bl)) pss_nil)
      (pss_cons (ps_set (i := 2) sc.nd rfl (Or.inr rfl) (pe_op op_sub (pe_callB (call_min2 rfl) (by rfl) m_min (by decide +kernel) (pa_cons (pv 1) (pa_cons (pe_glob (v := .int 64) rfl m_ALL_SIGNS ⟨_, rfl⟩) pa_nil))) pe_int))
      (pss_one (ps_ret (pe_callB (cr_all rfl) (by rfl) m_all (by decide +kernel) (pa_cons (pe_lc (own := [("sign", 3)]) (g := gName 3) rfl sc.nd (pi_tup (pv 0)) (blkOk_by (N := ["value", "signs", "greatest", "sign"]) (sc := defScope (top 19)) (by decide +kernel)) (fun _ _ _ _ _ => (pg_name (i := 3) sc.nd rfl (Or.inl rfl))) (fun _ _ _ _ _ => pts_nil) (fun _ _ _ _ _ => (pe_cal c_is_number hr_is_number rfl (pa_cons (pv 3) (pa_cons pe_int (pa_cons (pv 2) pa_nil)))))) pa_nil)))))), ?_⟩
    obtain ⟨t, ty, kt⟩ := hd.tyT
    refine ⟨_, rfl, _, _, _, _, _, rfl, .ty _, ty, kt, _, rfl, ?_⟩
    by_cases c : isT d = true
    case neg =>
      have c' := Bool.eq_false_iff.mpr c
      rw [c']
      refine iteT ?_
      have z := q _ (Same.refl H)
      unfold wordD at z
      rw [c'] at z
      exact z
    rw [c]
    refine iteF ?_
    obtain ⟨k, p, ys, rfl, hp, hys, l9⟩ := hd.its c
    refine ⟨_, rfl, _, _, rfl, _, _, rfl, rfl, ?_⟩
    refine ⟨_, rfl, p, rfl, ⟨_, hp⟩, fun D1 hD => ?_⟩
    refine lc_all walk_tup (fun i => .bl (wh 0 (grt n) ((items d).getD i (.sc .non)))) (by omega) hD (fun H' kp => sqT_at hp fun o e => kp _ _ (ne_of_none e hD) e) ?_ ?_
    · rintro i x H' H'' Kc Z hi kp ⟨rfl, hx⟩ kk
      obtain ⟨e, he, hr1⟩ := hys.get hx
      have sm := keep_same hD kp
      refine ⟨rfl, yes_of (iteT ?_)⟩
      refine ⟨_, rfl, _, rfl, num_D (E := E0) (hr1.same sm) ?_⟩
      have := kk _ (Same.refl _)
      rw [List.getD_eq_getElem?_getD, he] at this
      exact this
    · rintro H' kp hm
      refine ⟨D1, (List.range ys.length).map fun i => wh 0 (grt n) ((items d).getD i (.sc .non)), rfl, SqL.of (by rw [hm, List.map_map]; rfl), ?_⟩
      have e : ((List.range ys.length).map fun i => wh 0 (grt n) ((items d).getD i (.sc .non))).all id = (items d).all (wh 0 (grt n)) := by
        rw [hys.1, ← map_range_getD (items d) (wh 0 (grt n)) (.sc .non), List.all_map]
        rfl
      rw [e]
      have z := q _ (keep_same hD kp)
      unfold wordD at z
      rw [c, Bool.true_and] at z
      exact z
theorem grt64 : grt 64 = 63 := by decide
def spRing (K : PySem.W.Frag) : Sp := fun vs H Q _ => ∃ (b : Addr) (m : Nat) (d : D) (v : V) (n : Int), vs = [v, .int n] ∧ Rp K b H m d v ∧ ∀ H', Same H H' → Q (.bl (ringD (grt n) d)) H'
theorem sc_ring : FnScope ["value", "signs"] ["value", "signs"] (defScope (top 20)) := ⟨rfl, rfl, rfl, by decide +kernel, rfl, by decide +kernel, by decide +kernel⟩
theorem ok_ring {f : Addr} {fd : FuncData} (F : FnP K "is_ring" (top 20) f fd) (m_len : mg "len" = none) (c_is_word : Cal P w K mg base CX0 "is_word" 3 ["value", "signs"] (spWord K)) : FnOk P w K mg base CX0 4 f fd ["value", "signs"] (spRing K) := by
  have sc := sc_ring
  refine F.ok sc (fun vs H Q E h => ?_) (fun cdv A outer s H vs Q E hr h => ?_)
  · obtain ⟨b, m, d, v, n, rfl, _⟩ := h
    rfl
  · obtain ⟨b, m, d, v, n, rfl, hd, q⟩ := h
    have hr_is_word : Room 3 _ := hr
    refine ⟨_, PSs.nox (pss_one (ps_ret (pe_and (pe_cal c_is_word hr_is_word rfl (pa_cons (pv 0) (pa_cons (pv 1) pa_nil))) (pe_one (pe_cmpR op_gt (pe_callB call_len_seq (by rfl) m_len (by decide +kernel) (pa_cons (pv 0) pa_nil)) pe_int (nomark _)))))), ?_⟩
    refine ⟨_, rfl, _, rfl, b, m, d, v, n, rfl, hd, fun H1 s1 => ⟨_, rfl, ?_⟩⟩
    have q := q _ s1
    unfold ringD at q
    by_cases c : wordD (grt n) d = true
    case neg =>
      rw [Bool.eq_false_iff.mpr c] at q ⊢
      exact iteF q
    rw [c] at q ⊢
    refine iteT ?_
    obtain ⟨k, p, ys, rfl, hp, hys, l9⟩ := (hd.same s1).its (Bool.and_eq_true_iff.mp c).1
    refine ⟨_, rfl, p, ys, rfl, .inr hp, _, _, rfl, rfl, ?_⟩
    rw [hys.1]
    rw [Bool.true_and] at q
    have e : decide (((items d).length : Int) > 0) = decide (0 < (items d).length) := decide_eq_decide.mpr (by omega)
    show Q (.bl (decide (((items d).length : Int) > 0))) H1
    rw [e]
    exact q
end
end K02
set_option Elab.async false
set_option linter.all false
set_option maxRecDepth 100000
set_option maxHeartbeats 4000000
/-! ### rows of cells, their least forms (pure) -/
namespace RowM
/-- g repeats with period p from e on -/
def PerR (g : Int → Nat) (p : Nat) (e : Int) : Prop := ∀ c, e ≤ c → g (c + p) = g c
/-- and below b -/
def PerL (g : Int → Nat) (q : Nat) (b : Int) : Prop := ∀ c, c < b → g (c - q) = g c
def MinR (g : Int → Nat) (p : Nat) : Prop := 1 ≤ p ∧ (∃ e, PerR g p e) ∧ ∀ p' e, 1 ≤ p' → PerR g p' e → p ≤ p'
def MinL (g : Int → Nat) (q : Nat) : Prop := 1 ≤ q ∧ (∃ b, PerL g q b) ∧ ∀ q' b, 1 ≤ q' → PerL g q' b → q ≤ q'
theorem MinR.uniq {g : Int → Nat} {p p' : Nat} (h : MinR g p) (h' : MinR g p') : p = p' := by
  obtain ⟨h1, ⟨e, he⟩, h3⟩ := h
  obtain ⟨k1, ⟨e', he'⟩, k3⟩ := h'
  exact Nat.le_antisymm (h3 p' e' k1 he') (k3 p e h1 he)
theorem MinL.uniq {g : Int → Nat} {p p' : Nat} (h : MinL g p) (h' : MinL g p') : p = p' := by
  obtain ⟨h1, ⟨e, he⟩, h3⟩ := h
  obtain ⟨k1, ⟨e', he'⟩, k3⟩ := h'
  exact Nat.le_antisymm (h3 p' e' k1 he') (k3 p e h1 he)
/-- the least cell from which on g repeats, where it does not throughout -/
def EndAt (g : Int → Nat) (p : Nat) (e : Int) : Prop := PerR g p e ∧ g (e - 1 + p) ≠ g (e - 1)
/-- the greatest cell below which it repeats -/
def BelAt (g : Int → Nat) (q : Nat) (b : Int) : Prop := PerL g q b ∧ g (b - q) ≠ g b
theorem EndAt.uniq {g : Int → Nat} {p : Nat} {e e' : Int} (h : EndAt g p e) (h' : EndAt g p e') : e = e' := by
  obtain ⟨h1, h2⟩ := h
  obtain ⟨k1, k2⟩ := h'
  have a : ¬ e < e' := fun z => k2 (h1 _ (by omega))
  have b : ¬ e' < e := fun z => h2 (k1 _ (by omega))
  omega
theorem BelAt.uniq {g : Int → Nat} {p : Nat} {e e' : Int} (h : BelAt g p e) (h' : BelAt g p e') : e = e' := by
  obtain ⟨h1, h2⟩ := h
  obtain ⟨k1, k2⟩ := h'
  have a : ¬ e < e' := fun z => h2 (k1 _ z)
  have b : ¬ e' < e := fun z => k2 (h1 _ z)
  omega
/-- the word of the cells [a, a + n) -/
def cells (g : Int → Nat) (a : Int) (n : Nat) : List Nat := (List.range n).map fun i : Nat => g (a + (i : Int))
structure Form where
  left : List Nat
  told : List Nat
  right : List Nat
  start : Int
deriving DecidableEq
/-- the sign of a cell of a form -/
def sign (f : Form) (c : Int) : Nat :=
  if c < f.start then f.left.getD ((c - f.start) % (f.left.length : Int)).toNat 0
  else if c - f.start < (f.told.length : Int) then f.told.getD (c - f.start).toNat 0
  else f.right.getD ((c - f.start - (f.told.length : Int)) % (f.right.length : Int)).toNat 0
/-- the least form of cells -/
def Least (g : Int → Nat) (f : Form) : Prop := ∃ p q, MinR g p ∧ MinL g q ∧
  (((∀ c, g (c + p) = g c) ∧ f = ⟨cells g (-(p : Int)) p, [], cells g 0 p, 0⟩) ∨
   ∃ e b, EndAt g p e ∧ BelAt g q b ∧ f = ⟨cells g (min e b - q) q, cells g (min e b) (e - min e b).toNat, cells g e p, min e b⟩)
theorem Least.uniq {g : Int → Nat} {f f' : Form} (h : Least g f) (h' : Least g f') : f = f' := by
  obtain ⟨p, q, hp, hq, h⟩ := h
  obtain ⟨p', q', hp', hq', h'⟩ := h'
  obtain rfl := hp.uniq hp'
  obtain rfl := hq.uniq hq'
  rcases h with ⟨a, rfl⟩ | ⟨e, b, he, hb, rfl⟩
  · rcases h' with ⟨_, rfl⟩ | ⟨e', b', he', _, _⟩
    · rfl
    · exact absurd (a _) he'.2
  · rcases h' with ⟨a', _⟩ | ⟨e', b', he', hb', rfl⟩
    · exact absurd (a' _) he.2
    · obtain rfl := he.uniq he'
      obtain rfl := hb.uniq hb'
      rfl
/-! ### periods -/
section
variable {g : Int → Nat} {p q m n k : Nat} {e b a : Int}
theorem PerR.mono (h : PerR g p e) (le : e ≤ a) : PerR g p a := fun c hc => h c (by omega)
theorem PerL.mono (h : PerL g p e) (le : a ≤ e) : PerL g p a := fun c hc => h c (by omega)
theorem PerR.mul (h : PerR g p e) : ∀ k : Nat, ∀ c, e ≤ c → g (c + ((k * p : Nat) : Int)) = g c
  | 0, c, _ => by rw [Nat.zero_mul]; exact congrArg g (by omega)
  | k + 1, c, hc => by
    have z := PerR.mul h k c hc
    rw [← z, ← h (c + ((k * p : Nat) : Int)) (by omega), Nat.succ_mul]
    exact congrArg g (by omega)
theorem PerL.mul (h : PerL g p e) : ∀ k : Nat, ∀ c, c < e → g (c - ((k * p : Nat) : Int)) = g c
  | 0, c, _ => by rw [Nat.zero_mul]; exact congrArg g (by omega)
  | k + 1, c, hc => by
    have z := PerL.mul h k c hc
    rw [← z, ← h (c - ((k * p : Nat) : Int)) (by omega), Nat.succ_mul]
    exact congrArg g (by omega)
theorem PerR.gcd (m n : Nat) (h1 : PerR g m e) (h2 : PerR g n e) : PerR g (Nat.gcd m n) e := by
  induction m, n using Nat.gcd.induction with
  | H0 n => rw [Nat.gcd_zero_left]; exact h2
  | H1 m n hm ih =>
    rw [Nat.gcd_rec]
    refine ih (fun c hc => ?_) h1
    rw [← h1.mul (n / m) (c + ((n % m : Nat) : Int)) (by omega), ← h2 c hc]
    have : n % m + n / m * m = n := by rw [Nat.mul_comm]; exact Nat.mod_add_div n m
    exact congrArg g (by omega)
theorem PerL.gcd (m n : Nat) (h1 : PerL g m e) (h2 : PerL g n e) : PerL g (Nat.gcd m n) e := by
  induction m, n using Nat.gcd.induction with
  | H0 n => rw [Nat.gcd_zero_left]; exact h2
  | H1 m n hm ih =>
    rw [Nat.gcd_rec]
    refine ih (fun c hc => ?_) h1
    rw [← h1.mul (n / m) (c - ((n % m : Nat) : Int)) (by omega), ← h2 c hc]
    have : n % m + n / m * m = n := by rw [Nat.mul_comm]; exact Nat.mod_add_div n m
    exact congrArg g (by omega)
/-- a period of the whole tail, from that of a far part of it -/
theorem PerR.down (h : PerR g k e) (hn : PerR g n a) (n1 : 1 ≤ n) : PerR g k a := fun c hc => by
  have z1 := hn.mul (e - c).toNat c hc
  have z2 := hn.mul (e - c).toNat (c + k) (by omega)
  have le : (e - c).toNat ≤ (e - c).toNat * n := Nat.le_mul_of_pos_right _ n1
  generalize (e - c).toNat * n = x at z1 z2 le
  rw [← z1, ← z2, ← h (c + (x : Int)) (by omega)]
  exact congrArg g (by omega)
theorem PerL.up (h : PerL g k e) (hn : PerL g n a) (n1 : 1 ≤ n) : PerL g k a := fun c hc => by
  have z1 := hn.mul (c - e + 1).toNat c hc
  have z2 := hn.mul (c - e + 1).toNat (c - k) (by omega)
  have le : (c - e + 1).toNat ≤ (c - e + 1).toNat * n := Nat.le_mul_of_pos_right _ n1
  generalize (c - e + 1).toNat * n = x at z1 z2 le
  rw [← z1, ← z2, ← h (c - (x : Int)) (by omega)]
  exact congrArg g (by omega)
/-- it repeats throughout, where it does from a left and a right period below the told part on -/
theorem all_per (hl : PerL g m b) (m1 : 1 ≤ m) (h : PerR g p e) (le : e ≤ b - m - p) : ∀ c, g (c + p) = g c := by
  have key : ∀ t : Nat, ∀ c, e - c ≤ (t : Int) → g (c + p) = g c := by
    intro t
    induction t with
    | zero => exact fun c hc => h c (by omega)
    | succ t ih =>
      intro c hc
      by_cases z : e ≤ c
      · exact h c z
      · have e1 := hl (c + m) (by omega)
        have e2 := hl (c + p + m) (by omega)
        have e3 := ih (c + m) (by omega)
        rw [show c + (m : Int) - m = c by omega] at e1
        rw [show c + (p : Int) + m - m = c + p by omega] at e2
        rw [e1, e2, ← e3]
        exact congrArg g (by omega)
  exact fun c => key (e - c).toNat c (by omega)
/-- below is found in time, where it does not repeat throughout -/
theorem not_all (hr : PerR g n e) (n1 : 1 ≤ n) (hp : PerR g p a) (h : PerL g q b) (q1 : 1 ≤ q) (le : e + q + n ≤ b) : ∀ c, g (c + p) = g c := by
  -- q is a period throughout
  have key : ∀ t : Nat, ∀ c, c - b < (t : Int) → g (c - q) = g c := by
    intro t
    induction t with
    | zero => exact fun c hc => h c (by omega)
    | succ t ih =>
      intro c hc
      by_cases z : c < b
      · exact h c z
      · have e1 := hr (c - n) (by omega)
        have e2 := hr (c - q - n) (by omega)
        have e3 := ih (c - n) (by omega)
        rw [show c - (n : Int) + n = c by omega] at e1
        rw [show c - (q : Int) - n + n = c - q by omega] at e2
        rw [e1, e2, ← e3]
        exact congrArg g (by omega)
  have per : ∀ c, g (c + q) = g c := fun c => by
    have z := key (c + q - b + 1).toNat (c + q) (by omega)
    rw [← z]
    exact congrArg g (by omega)
  have perq : PerR g q (min a 0 - 1) := fun c _ => per c
  intro c
  have pq : ∀ k : Nat, ∀ c, g (c + ((k * q : Nat) : Int)) = g c := fun k => by
    induction k with
    | zero => intro c; rw [Nat.zero_mul]; exact congrArg g (by omega)
    | succ k ih =>
      intro c
      rw [← ih c, ← per (c + ((k * q : Nat) : Int)), Nat.succ_mul]
      exact congrArg g (by omega)
  have le2 : (a - c).toNat ≤ (a - c).toNat * q := Nat.le_mul_of_pos_right _ q1
  have z1 := pq (a - c).toNat c
  have z2 := pq (a - c).toNat (c + p)
  generalize (a - c).toNat * q = x at z1 z2 le2
  rw [← z1, ← z2, ← hp (c + (x : Int)) (by omega)]
  exact congrArg g (by omega)
end
/-! ### words that repeat -/
def RepW (w : List Nat) (d : Nat) : Prop := 1 ≤ d ∧ d ∣ w.length ∧ ∀ i, i < w.length → w.getD i 0 = w.getD (i % d) 0
def MinW (w : List Nat) (d : Nat) : Prop := RepW w d ∧ ∀ d', RepW w d' → d ≤ d'
/-- g is a word repeated from a on, and below s -/
def RT (g : Int → Nat) (R : List Nat) (a : Int) : Prop := ∀ i : Nat, g (a + (i : Int)) = R.getD (i % R.length) 0
def LT (g : Int → Nat) (L : List Nat) (s : Int) : Prop := ∀ t i : Nat, i < L.length → g (s - (((t + 1) * L.length : Nat) : Int) + (i : Int)) = L.getD i 0
section
variable {g : Int → Nat} {R L : List Nat} {a s : Int} {d : Nat}
theorem block {c s : Int} {m : Nat} (m1 : 1 ≤ m) (h : c < s) : ∃ t i : Nat, i < m ∧ c = s - (((t + 1) * m : Nat) : Int) + (i : Int) := by
  obtain ⟨x, hx⟩ : ∃ x : Nat, c = s - 1 - (x : Int) := ⟨(s - 1 - c).toNat, by omega⟩
  refine ⟨x / m, m - 1 - x % m, by omega, ?_⟩
  have e := Nat.mod_add_div x m
  have l := Nat.mod_lt x m1
  rw [Nat.succ_mul, Nat.mul_comm (x / m) m]
  omega
theorem RT.per (h : RT g R a) : PerR g R.length a := fun c hc => by
  obtain ⟨i, hi⟩ : ∃ i : Nat, c = a + (i : Int) := ⟨(c - a).toNat, by omega⟩
  subst hi
  have z := h (i + R.length)
  rw [Nat.add_mod_right] at z
  rw [h i, ← z]
  exact congrArg g (by omega)
theorem LT.per (h : LT g L s) (m1 : 1 ≤ L.length) : PerL g L.length s := fun c hc => by
  obtain ⟨t, i, hi, e⟩ := block m1 hc
  subst e
  rw [h t i hi, ← h (t + 1) i hi, Nat.succ_mul (t + 1)]
  exact congrArg g (by omega)
theorem RT.rep (h : RT g R a) (r : RepW R d) : PerR g d a := fun c hc => by
  obtain ⟨r1, r2, r3⟩ := r
  obtain ⟨i, hi⟩ : ∃ i : Nat, c = a + (i : Int) := ⟨(c - a).toNat, by omega⟩
  subst hi
  by_cases z : R.length = 0
  · have e1 := h i
    have e2 := h (i + d)
    have : R = [] := List.eq_nil_of_length_eq_zero z
    subst this
    have e3 : g (a + (i : Int)) = 0 := e1
    have e4 : g (a + ((i + d : Nat) : Int)) = 0 := e2
    rw [e3, ← e4]
    exact congrArg g (by omega)
  have z : 0 < R.length := by omega
  have e2 := h (i + d)
  rw [r3 _ (Nat.mod_lt _ z), Nat.mod_mod_of_dvd _ r2, Nat.add_mod_right] at e2
  rw [h i, r3 _ (Nat.mod_lt _ z), Nat.mod_mod_of_dvd _ r2, ← e2]
  exact congrArg g (by omega)
theorem LT.rep (h : LT g L s) (m1 : 1 ≤ L.length) (r : RepW L d) : PerL g d s := fun c hc => by
  obtain ⟨r1, ⟨k, r2⟩, r3⟩ := r
  obtain ⟨t, i, hi, e⟩ := block m1 hc
  subst e
  have dm : d ≤ L.length := by
    rw [r2]
    refine Nat.le_mul_of_pos_right _ ?_
    cases k with
    | zero =>
      rw [Nat.mul_zero] at r2
      omega
    | succ k => omega
  by_cases z : d ≤ i
  · have e1 := h t (i - d) (by omega)
    rw [h t i hi, r3 i hi]
    rw [r3 (i - d) (by omega)] at e1
    rw [← Nat.mod_eq_sub_mod z] at e1
    rw [← e1]
    exact congrArg g (by omega)
  · have e1 := h (t + 1) (L.length + i - d) (by omega)
    rw [h t i hi, r3 i hi]
    rw [r3 (L.length + i - d) (by omega)] at e1
    have e2 : (L.length + i - d) % d = i % d := by
      rw [← Nat.mod_eq_sub_mod (by omega), r2, Nat.mul_add_mod]
    rw [e2] at e1
    rw [← e1, Nat.succ_mul (t + 1)]
    exact congrArg g (by omega)
theorem RT.min (h : RT g R a) (n1 : 1 ≤ R.length) (r : MinW R d) : MinR g d := by
  refine ⟨r.1.1, ⟨a, h.rep r.1⟩, fun p' e p1 hp => ?_⟩
  have k1 : 1 ≤ Nat.gcd p' R.length := Nat.gcd_pos_of_pos_left _ p1
  have hk : PerR g (Nat.gcd p' R.length) a := (PerR.gcd p' R.length (hp.mono (show e ≤ max e a by omega)) (h.per.mono (show a ≤ max e a by omega))).down h.per n1
  refine Nat.le_trans (r.2 _ ⟨k1, Nat.gcd_dvd_right _ _, fun i hi => ?_⟩) (Nat.gcd_le_left _ p1)
  generalize Nat.gcd p' R.length = k at k1 hk
  have e1 := h i
  have e2 := h (i % k)
  have le : i % k ≤ i := Nat.mod_le _ _
  rw [Nat.mod_eq_of_lt hi] at e1
  rw [Nat.mod_eq_of_lt (show i % k < R.length by omega)] at e2
  rw [← e1, ← e2, ← hk.mul (i / k) (a + ((i % k : Nat) : Int)) (by omega)]
  have e3 := Nat.mod_add_div i k
  rw [Nat.mul_comm] at e3
  exact congrArg g (by omega)
theorem LT.min (h : LT g L s) (m1 : 1 ≤ L.length) (r : MinW L d) : MinL g d := by
  refine ⟨r.1.1, ⟨s, h.rep m1 r.1⟩, fun p' e p1 hp => ?_⟩
  have k1 : 1 ≤ Nat.gcd p' L.length := Nat.gcd_pos_of_pos_left _ p1
  have hk : PerL g (Nat.gcd p' L.length) s := (PerL.gcd p' L.length (hp.mono (show Min.min e s ≤ e by omega)) ((h.per m1).mono (show Min.min e s ≤ s by omega))).up (h.per m1) m1
  refine Nat.le_trans (r.2 _ ⟨k1, Nat.gcd_dvd_right _ _, fun i hi => ?_⟩) (Nat.gcd_le_left _ p1)
  generalize Nat.gcd p' L.length = k at k1 hk
  have le : i % k ≤ i := Nat.mod_le _ _
  have e1 := h 0 i hi
  have e2 := h 0 (i % k) (by omega)
  have e3 := Nat.mod_add_div i k
  rw [Nat.mul_comm] at e3
  rw [← e1, ← e2, ← hk.mul (i / k) (s - (((0 + 1) * L.length : Nat) : Int) + (i : Int)) (by omega)]
  exact congrArg g (by omega)
end
/-! ### the cells of a form -/
section
variable {f : Form}
theorem sign_RT : RT (sign f) f.right (f.start + (f.told.length : Int)) := fun i => by
  unfold sign
  rw [if_neg (by omega), if_neg (by omega)]
  have e : f.start + (f.told.length : Int) + (i : Int) - f.start - (f.told.length : Int) = (i : Int) := by omega
  rw [e, ← Int.natCast_emod, Int.toNat_natCast]
theorem sign_LT : LT (sign f) f.left f.start := fun t i hi => by
  have pos : (f.left.length : Int) ≤ (((t + 1) * f.left.length : Nat) : Int) := by
    have : f.left.length ≤ (t + 1) * f.left.length := Nat.le_mul_of_pos_left _ (Nat.succ_pos t)
    omega
  unfold sign
  rw [if_pos (by omega)]
  have e : (f.start - (((t + 1) * f.left.length : Nat) : Int) + (i : Int) - f.start) % (f.left.length : Int) = (i : Int) := by
    have e0 : f.start - (((t + 1) * f.left.length : Nat) : Int) + (i : Int) - f.start = (i : Int) + (f.left.length : Int) * (-((t + 1 : Nat) : Int)) := by
      rw [Int.natCast_mul, Int.mul_neg, Int.mul_comm (f.left.length : Int)]
      omega
    rw [e0, Int.add_mul_emod_self_left, Int.emod_eq_of_lt (by omega) (by omega)]
  rw [e, Int.toNat_natCast]
theorem sign_told {i : Nat} (hi : i < f.told.length) : sign f (f.start + (i : Int)) = f.told.getD i 0 := by
  unfold sign
  rw [if_neg (by omega), if_pos (by omega)]
  have e : f.start + (i : Int) - f.start = (i : Int) := by omega
  rw [e, Int.toNat_natCast]
/-- what a left, a told and a right word tell is all -/
theorem sign_is {g : Int → Nat} (hl : LT g f.left f.start) (l1 : 1 ≤ f.left.length) (ht : ∀ i, i < f.told.length → g (f.start + (i : Int)) = f.told.getD i 0) (hr : RT g f.right (f.start + (f.told.length : Int))) (c : Int) : sign f c = g c := by
  by_cases c1 : c < f.start
  · obtain ⟨t, i, hi, rfl⟩ := block l1 c1
    rw [hl t i hi, sign_LT t i hi]
  · obtain ⟨j, hj⟩ : ∃ j : Nat, c = f.start + (j : Int) := ⟨(c - f.start).toNat, by omega⟩
    subst hj
    by_cases c2 : j < f.told.length
    · rw [sign_told c2, ht j c2]
    · obtain ⟨i, hi⟩ : ∃ i : Nat, j = f.told.length + i := ⟨j - f.told.length, by omega⟩
      subst hi
      have e : f.start + ((f.told.length + i : Nat) : Int) = f.start + (f.told.length : Int) + (i : Int) := by omega
      rw [e, sign_RT i, hr i]
end
/-! ### both ways to a least form -/
section
variable {g : Int → Nat} {p q m n k : Nat} {e b a s : Int}
theorem least_all (hp : MinR g p) (hq : MinL g q) (hl : PerL g m s) (m1 : 1 ≤ m) (h : PerR g p e) (le : e ≤ s - m - p) : Least g ⟨cells g (-(p : Int)) p, [], cells g 0 p, 0⟩ :=
  ⟨p, q, hp, hq, .inl ⟨all_per hl m1 h le, rfl⟩⟩
theorem least_some (hp : MinR g p) (hq : MinL g q) (he : EndAt g p e) (hb : BelAt g q b) : Least g ⟨cells g (min e b - q) q, cells g (min e b) (e - min e b).toNat, cells g e p, min e b⟩ :=
  ⟨p, q, hp, hq, .inr ⟨e, b, he, hb, rfl⟩⟩
def RotR (g : Int → Nat) (a : Int) (n k : Nat) : Prop := ∀ i : Nat, i < n → g (a + (k : Int) + (i : Int)) = g (a + (i : Int))
def RotL (g : Int → Nat) (a : Int) (n k : Nat) : Prop := ∀ i : Nat, i < n → g (a - (k : Int) + (i : Int)) = g (a + (i : Int))
def First (n : Nat) (P : Nat → Prop) (k : Nat) : Prop := 1 ≤ k ∧ k ≤ n ∧ (k = n ∨ P k) ∧ ∀ k', 1 ≤ k' → k' < n → P k' → k ≤ k'
theorem RotR.per (hn : PerR g n a) (n1 : 1 ≤ n) (h : RotR g a n k) : PerR g k a := fun c hc => by
  obtain ⟨i, hi⟩ : ∃ i : Nat, c = a + (i : Int) := ⟨(c - a).toNat, by omega⟩
  subst hi
  have e := Nat.mod_add_div i n
  rw [Nat.mul_comm] at e
  have z := h (i % n) (Nat.mod_lt _ n1)
  have z1 := hn.mul (i / n) (a + ((i % n : Nat) : Int)) (by omega)
  have z2 := hn.mul (i / n) (a + (k : Int) + ((i % n : Nat) : Int)) (by omega)
  rw [show a + ((i % n : Nat) : Int) + ((i / n * n : Nat) : Int) = a + (i : Int) by omega] at z1
  rw [show a + (k : Int) + ((i % n : Nat) : Int) + ((i / n * n : Nat) : Int) = a + (i : Int) + (k : Int) by omega] at z2
  rw [z1, z2, z]
theorem first_R (hn : PerR g n a) (n1 : 1 ≤ n) (h : First n (RotR g a n) k) : MinR g k := by
  obtain ⟨k1, kn, hk, least⟩ := h
  refine ⟨k1, ⟨a, ?_⟩, fun p' e p1 hp => ?_⟩
  · rcases hk with rfl | hk
    · exact hn
    · exact RotR.per hn n1 hk
  · by_cases c : p' < n
    · have hp' := hp.down hn n1
      refine least p' p1 c fun i hi => ?_
      rw [← hp' (a + (i : Int)) (by omega)]
      exact congrArg g (by omega)
    · omega
theorem RotL.per (hn : PerL g n b) (n1 : 1 ≤ n) (h : RotL g (b - n) n k) : PerL g k b := fun c hc => by
  obtain ⟨t, i, hi, e⟩ := block n1 hc
  subst e
  have z := h i hi
  have z1 := hn.mul t (b - (n : Int) + (i : Int)) (by omega)
  have z2 := hn.mul t (b - (n : Int) - (k : Int) + (i : Int)) (by omega)
  have e : (t + 1) * n = t * n + n := Nat.succ_mul t n
  rw [show b - (n : Int) + (i : Int) - ((t * n : Nat) : Int) = b - (((t + 1) * n : Nat) : Int) + (i : Int) by omega] at z1
  rw [show b - (n : Int) - (k : Int) + (i : Int) - ((t * n : Nat) : Int) = b - (((t + 1) * n : Nat) : Int) + (i : Int) - (k : Int) by omega] at z2
  rw [z1, z2, z]
theorem first_L (hn : PerL g n b) (n1 : 1 ≤ n) (h : First n (RotL g (b - n) n) k) : MinL g k := by
  obtain ⟨k1, kn, hk, least⟩ := h
  refine ⟨k1, ⟨b, ?_⟩, fun p' e p1 hp => ?_⟩
  · rcases hk with rfl | hk
    · exact hn
    · exact RotL.per hn n1 hk
  · by_cases c : p' < n
    · have hp' := hp.up hn n1
      refine least p' p1 c fun i hi => ?_
      rw [← hp' (b - (n : Int) + (i : Int)) (by omega)]
      exact congrArg g (by omega)
    · omega
end
end RowM
set_option Elab.async false
set_option linter.all false
set_option maxRecDepth 100000
set_option maxHeartbeats 4000000
namespace K02
open PySem PySem.Spec PyProof.Rows L2 RowM
/-! ### a form: four values in a tuple -/
structure Fm4 (K : PySem.W.Frag) (H : Hp) (l t r : Addr) (f : Form) : Prop where
  left : SqT K H l (nv f.left)
  told : SqT K H t (nv f.told)
  right : SqT K H r (nv f.right)
def FmV (K : PySem.W.Frag) (H : Hp) (v : V) (f : Form) : Prop := ∃ (p l t r : Addr), v = .ref p ∧ SqT K H p [.ref l, .ref t, .ref r, .int f.start] ∧ Fm4 K H l t r f
theorem Fm4.same {K : PySem.W.Frag} {H H' : Hp} {l t r : Addr} {f : Form} (s : Same H H') (h : Fm4 K H l t r f) : Fm4 K H' l t r f := ⟨same_T s h.left, same_T s h.told, same_T s h.right⟩
theorem FmV.same {K : PySem.W.Frag} {H H' : Hp} {v : V} {f : Form} (s : Same H H') (h : FmV K H v f) : FmV K H' v f := by
  obtain ⟨p, l, t, r, e, hp, h4⟩ := h
  exact ⟨p, l, t, r, e, same_T s hp, h4.same s⟩
/-- both ends repeat something -/
structure Ok (f : Form) : Prop where
  l1 : 1 ≤ f.left.length
  r1 : 1 ≤ f.right.length
theorem len_nv (xs : List Nat) : (nv xs).length = xs.length := List.length_map ..
theorem nv_at (xs : List Nat) {j : Nat} (h : j < xs.length) : atI (nv xs) (j : Int) = some (.int ((xs.getD j 0 : Nat) : Int)) := atI_nat (nv_get h)
/-- a place by its rest -/
theorem mod_at {c : Int} {n : Nat} (h : 1 ≤ n) : ∃ j : Nat, c % (n : Int) = (j : Int) ∧ j < n ∧ (c % (n : Int)).toNat = j := by
  have h1 := Int.emod_nonneg c (show (n : Int) ≠ 0 by omega)
  have h2 := Int.emod_lt_of_pos c (show (0 : Int) < n by omega)
  exact ⟨(c % (n : Int)).toNat, by omega, by omega, rfl⟩
section
variable {P : Program} {w : World} {K : PySem.W.Frag} {mg : Str → Option Value} {base : Heap}
def spSign (K : PySem.W.Frag) : Sp := fun vs H Q _ => ∃ (v : V) (c : Int) (f : Form), vs = [v, .int c] ∧ FmV K H v f ∧ Ok f ∧ Q (.int ((sign f c : Nat) : Int)) H
theorem sc_sign : FnScope ["form", "cell", "left", "told", "right", "start", "at"] ["form", "cell"] (defScope (top 28)) := ⟨rfl, rfl, rfl, by decide +kernel, rfl, by decide +kernel, by decide +kernel⟩
theorem ok_sign {f : Addr} {fd : FuncData} (F : FnP K "sign_in" (top 28) f fd) (m_len : mg "len" = none) : FnOk P w K mg base CX0 1 f fd ["form", "cell"] (spSign K) := by
  have sc := sc_sign
  refine F.ok sc (fun vs H Q E h => ?_) (fun cdv A outer s H vs Q E hr h => ?_)
  · obtain ⟨v, c, g, rfl, _⟩ := h
    rfl
  · obtain ⟨v, c, g, rfl, ⟨p, l, t, r, rfl, hp, h4⟩, ho, q⟩ := h
    refine ⟨_, PSs.nox (pss_cons (ps_asg (pv 0) (pg_tup rfl (pgs_cons (pg_name (i := 2) sc.nd rfl (Or.inl rfl)) (pgs_cons (pg_name (i := 3) sc.nd rfl (Or.inl rfl)) (pgs_cons (pg_name (i := 4) sc.nd rfl (Or.inl rfl)) (pgs_cons (pg_name (i := 5) sc.nd rfl (Or.inl rfl)) pgs_nil))))))
      (pss_cons (ps_if (pt_cmpR op_lt (pv 1) (pv 5) (nomark _)) (pss_one (ps_ret (pe_ix (show IxR _ (rIxT K) from ix_tup) (pv 2) (pe_op op_mod (pe_op op_sub (pv 1) (pv 5)) (pe_callB call_len_seq (by rfl) m_len (by decide +kernel) (pa_cons (pv 2) pa_nil))) (fun _ _ => rfl)))) pss_nil)
      (pss_cons (ps_set (i := 6) sc.nd rfl (Or.inl rfl) (pe_op op_sub (pv 1) (pv 5)))
      (pss_cons (ps_if (pt_cmpR op_lt (pv 6) (pe_callB call_len_seq (by rfl) m_len (by decide +kernel) (pa_cons (pv 3) pa_nil)) (nomark _)) (pss_one (ps_ret (pe_ix (show IxR _ (rIxT K) from ix_tup) (pv 3) (pv 6) (fun _ _ => rfl)))) pss_nil)
      (pss_one (ps_ret (pe_ix (show IxR _ (rIxT K) from ix_tup) (pv 4) (pe_op op_mod (pe_op op_sub (pv 6) (pe_callB call_len_seq (by rfl) m_len (by decide +kernel) (pa_cons (pv 3) pa_nil))) (pe_callB call_len_seq (by rfl) m_len (by decide +kernel) (pa_cons (pv 4) pa_nil))) (fun _ _ => rfl)))))))), ?_⟩
    refine ⟨_, rfl, p, _, rfl, hp, rfl, _, _, rfl, _, _, rfl, _, _, rfl, _, _, rfl, rfl, ?_⟩
    refine ⟨_, rfl, _, rfl, _, _, rfl, rfl, _, rfl, ?_⟩
    unfold sign at q
    by_cases c1 : c < g.start
    · rw [if_pos c1] at q
      refine iteT_of (decide_eq_true c1) ?_
      obtain ⟨j, e1, e2, e3⟩ := mod_at (c := c - g.start) ho.l1
      rw [e3] at q
      refine ⟨_, rfl, _, rfl, _, rfl, _, _, rfl, rfl, _, rfl, l, _, rfl, .inr h4.left, _, _, rfl, rfl, (by rw [len_nv]; have := ho.l1; omega), ?_⟩
      refine ⟨l, _, _, _, rfl, rfl, h4.left, ?_, q⟩
      rw [len_nv, e1]
      exact nv_at _ e2
    rw [if_neg c1] at q
    refine iteF_of (decide_eq_false c1) ?_
    refine ⟨_, rfl, _, rfl, _, _, rfl, rfl, ?_⟩
    refine ⟨_, rfl, _, rfl, t, _, rfl, .inr h4.told, _, _, rfl, rfl, _, rfl, ?_⟩
    rw [len_nv]
    by_cases c2 : c - g.start < (g.told.length : Int)
    · rw [if_pos c2] at q
      refine iteT_of (decide_eq_true c2) ?_
      obtain ⟨j, hj⟩ : ∃ j : Nat, c - g.start = (j : Int) := ⟨(c - g.start).toNat, by omega⟩
      rw [hj] at q
      refine ⟨_, rfl, _, rfl, t, _, _, _, rfl, rfl, h4.told, ?_, q⟩
      rw [hj]
      exact nv_at _ (by omega)
    · rw [if_neg c2] at q
      refine iteF_of (decide_eq_false c2) ?_
      obtain ⟨j, e1, e2, e3⟩ := mod_at (c := c - g.start - (g.told.length : Int)) ho.r1
      rw [e3] at q
      refine ⟨_, rfl, _, rfl, _, rfl, t, _, rfl, .inr h4.told, _, _, rfl, rfl, _, rfl, r, _, rfl, .inr h4.right, _, _, rfl, rfl, (by show (0 : Int) < ((nv g.right).length : Int); rw [len_nv]; have := ho.r1; omega), ?_⟩
      refine ⟨r, _, _, _, rfl, rfl, h4.right, ?_, q⟩
      rw [len_nv, len_nv, e1]
      exact nv_at _ e2
/-! ### stretch_of -/
def spStr (K : PySem.W.Frag) : Sp := fun vs H Q _ => ∃ (v : V) (a b : Int) (f : Form), vs = [v, .int a, .int b] ∧ FmV K H v f ∧ Ok f ∧ a.natAbs ≤ 2 ^ 50 ∧ b.natAbs ≤ 2 ^ 50 ∧ b - a ≤ 1000000 ∧ ∀ p H', Same H H' → SqT K H' p (nv (cells (sign f) a (b - a).toNat)) → Q (.ref p) H'
theorem sc_str : FnScope ["form", "first", "end", "cell"] ["form", "first", "end"] (defScope (top 29)) := ⟨rfl, rfl, rfl, by decide +kernel, rfl, by decide +kernel, by decide +kernel⟩
theorem cells_len (g : Int → Nat) (a : Int) (n : Nat) : (cells g a n).length = n := by
  unfold cells
  rw [List.length_map, List.length_range]
theorem cells_at (g : Int → Nat) (a : Int) {n i : Nat} (h : i < n) : (cells g a n).getD i 0 = g (a + (i : Int)) := by
  unfold cells
  rw [List.getD_eq_getElem?_getD, List.getElem?_map, List.getElem?_range h]
  rfl
theorem ok_str {f : Addr} {fd : FuncData} (F : FnP K "stretch_of" (top 29) f fd) (m_range : mg "range" = none) (m_tuple : mg "tuple" = none) (c_sign_in : Cal P w K mg base CX0 "sign_in" 1 ["form", "cell"] (spSign K)) : FnOk P w K mg base CX0 2 f fd ["form", "first", "end"] (spStr K) := by
  have sc := sc_str
  refine F.ok sc (fun vs H Q E h => ?_) (fun cdv A outer s H vs Q E hr h => ?_)
  · obtain ⟨v, a, b, g, rfl, _⟩ := h
    rfl
  · obtain ⟨v, a, b, g, rfl, hv, ho, ha, hb, hn, q⟩ := h
    have hr_sign_in : Room 1 _ := hr
    refine ⟨_, PSs.nox (pss_one (ps_ret (pe_callTy call_tuple_of (by rfl) m_tuple (by decide +kernel) (pa_cons (pe_lc (own := [("cell", 3)]) (g := gName 3) rfl sc.nd (pi_range2 rfl m_range (pa_cons (pv 1) (pa_cons (pv 2) pa_nil))) (blkOk_by (N := ["form", "first", "end", "cell"]) (sc := defScope (top 29)) (by decide +kernel)) (fun _ _ _ _ _ => (pg_name (i := 3) sc.nd rfl (Or.inl rfl))) (fun _ _ _ _ _ => pts_nil) (fun _ _ _ _ _ => (pe_cal c_sign_in hr_sign_in rfl (pa_cons (pv 0) (pa_cons (pv 3) pa_nil))))) pa_nil)))), ?_⟩
    refine ⟨_, rfl, _, rfl, _, _, rfl, ⟨by omega, by omega, by omega, by omega⟩, fun D1 hD => ?_⟩
    refine lc_all (walk_range (lo := a) (n := (b - a).toNat)) (fun i => .int ((sign g (a + (i : Int)) : Nat) : Int)) (by omega) hD (fun _ _ => trivial) ?_ ?_
    · rintro i x H' H'' Kc Z hi kp ⟨rfl, rfl⟩ kk
      have sm := keep_same hD kp
      refine ⟨rfl, yes_of (iteT ?_)⟩
      exact ⟨_, rfl, _, rfl, _, _, g, rfl, hv.same sm, ho, kk _ (Same.refl _)⟩
    · rintro H' kp hm
      have e : (List.range (b - a).toNat).map (fun i : Nat => V.int ((sign g (a + (i : Int)) : Nat) : Int)) = nv (cells (sign g) a (b - a).toNat) := by
        simp [nv, cells, Function.comp_def]
      rw [e] at hm
      refine ⟨D1, _, rfl, .inl ⟨SqL.of hm, fun p hp => ?_⟩⟩
      exact q p _ ((keep_same hD kp).trans (Same.new hp)) (SqT.of upd_same)
end
end K02
set_option Elab.async false
set_option linter.all false
set_option maxRecDepth 100000
set_option maxHeartbeats 4000000
namespace RowM
theorem ext_getD {u w : List Nat} (l : u.length = w.length) (h : ∀ i, i < w.length → u.getD i 0 = w.getD i 0) : u = w := by
  refine List.ext_getElem? fun i => ?_
  by_cases c : i < w.length
  · have z := h i c
    rw [List.getD_eq_getElem?_getD, List.getD_eq_getElem?_getD, List.getElem?_eq_getElem (by omega), List.getElem?_eq_getElem c] at z
    rw [List.getElem?_eq_getElem (by omega), List.getElem?_eq_getElem c]
    exact congrArg some z
  · rw [List.getElem?_eq_none (by omega), List.getElem?_eq_none (by omega)]
theorem getD_app_l {u w : List Nat} {i : Nat} (h : i < u.length) : (u ++ w).getD i 0 = u.getD i 0 := by
  rw [List.getD_eq_getElem?_getD, List.getD_eq_getElem?_getD, List.getElem?_append_left h]
theorem getD_app_r {u w : List Nat} {i : Nat} (h : u.length ≤ i) : (u ++ w).getD i 0 = w.getD (i - u.length) 0 := by
  rw [List.getD_eq_getElem?_getD, List.getD_eq_getElem?_getD, List.getElem?_append_right h]
theorem getD_take {u : List Nat} {i d : Nat} (h : i < d) : (u.take d).getD i 0 = u.getD i 0 := by
  rw [List.getD_eq_getElem?_getD, List.getD_eq_getElem?_getD, List.getElem?_take, if_pos h]
theorem flat_getD (u : List Nat) : ∀ (m i : Nat), i < m * u.length → (List.replicate m u).flatten.getD i 0 = u.getD (i % u.length) 0
  | 0, i, h => by omega
  | m + 1, i, h => by
    rw [List.replicate_succ, List.flatten_cons]
    by_cases c : i < u.length
    · rw [getD_app_l c, Nat.mod_eq_of_lt c]
    · rw [Nat.succ_mul] at h
      rw [getD_app_r (by omega), flat_getD u m (i - u.length) (by omega), ← Nat.mod_eq_sub_mod (by omega)]
theorem flat_len (u : List Nat) : ∀ m : Nat, (List.replicate m u).flatten.length = m * u.length
  | 0 => by simp
  | m + 1 => by rw [List.replicate_succ, List.flatten_cons, List.length_append, flat_len u m, Nat.succ_mul, Nat.add_comm]
theorem take_len {w : List Nat} {d : Nat} (h : d ≤ w.length) : (w.take d).length = d := by rw [List.length_take, Nat.min_eq_left h]
theorem RepW.le {w : List Nat} {d : Nat} (h : RepW w d) (w1 : 1 ≤ w.length) : d ≤ w.length := Nat.le_of_dvd w1 h.2.1
/-- what the program asks of a part of a word -/
theorem rep_iff {w : List Nat} {d m : Nat} (d1 : 1 ≤ d) (e : w.length = m * d) (le : d ≤ w.length) : w = (List.replicate m (w.take d)).flatten ↔ RepW w d := by
  constructor
  · intro h
    refine ⟨d1, ⟨m, by rw [e, Nat.mul_comm]⟩, fun i hi => ?_⟩
    have z := flat_getD (w.take d) m i (by rw [take_len le, ← e]; exact hi)
    rw [← h, take_len le, getD_take (Nat.mod_lt _ d1)] at z
    exact z
  · intro h
    refine ext_getD (by rw [flat_len, take_len le, e]) fun i hi => ?_
    rw [flat_len, take_len le, ← e] at hi
    rw [flat_getD (w.take d) m i (by rw [take_len le, ← e]; exact hi), take_len le, getD_take (Nat.mod_lt _ d1)]
    exact h.2.2 i hi
theorem rep_self {w : List Nat} (w1 : 1 ≤ w.length) : RepW w w.length := ⟨w1, Nat.dvd_refl _, fun i hi => by rw [Nat.mod_eq_of_lt hi]⟩
/-- the least part, where none shorter repeats -/
theorem min_of {w : List Nat} {d : Nat} (w1 : 1 ≤ w.length) (h : RepW w d) (no : ∀ d', 1 ≤ d' → d' < d → ¬ RepW w d') : MinW w d := ⟨h, fun d' h' => Nat.not_lt.mp fun z => no d' h'.1 z h'⟩
section
variable {g : Int → Nat} {L R : List Nat} {a s : Int} {d e : Nat}
theorem LT.take (h : LT g L s) (l1 : 1 ≤ L.length) (r : RepW L d) : LT g (L.take d) s := fun t i hi => by
  have dl := r.le l1
  have pl := h.rep l1 r
  obtain ⟨r1, ⟨k, r2⟩, r3⟩ := r
  rw [take_len dl] at hi ⊢
  rw [getD_take hi]
  have z1 := pl.mul t (s - (d : Int) + (i : Int)) (by omega)
  have z2 := h 0 (L.length - d + i) (by omega)
  rw [r3 _ (by omega), show (L.length - d + i) % d = i from ?_] at z2
  · rw [show s - (((t + 1) * d : Nat) : Int) + (i : Int) = s - (d : Int) + (i : Int) - ((t * d : Nat) : Int) by rw [Nat.succ_mul]; omega, z1, ← z2]
    exact congrArg g (by omega)
  · cases k with
    | zero =>
      rw [Nat.mul_zero] at r2
      omega
    | succ k =>
      rw [r2, Nat.mul_succ, Nat.add_sub_cancel, Nat.mul_add_mod, Nat.mod_eq_of_lt hi]
theorem RT.take (h : RT g R a) (n1 : 1 ≤ R.length) (r : RepW R e) : RT g (R.take e) a := fun i => by
  have el := r.le n1
  obtain ⟨r1, r2, r3⟩ := r
  rw [take_len el, getD_take (Nat.mod_lt _ r1), h i, r3 _ (Nat.mod_lt _ n1), Nat.mod_mod_of_dvd _ r2]
end
/-- shorter words, the same cells -/
theorem sign_short {L t R : List Nat} {s : Int} {d e : Nat} (l1 : 1 ≤ L.length) (n1 : 1 ≤ R.length) (rl : RepW L d) (rr : RepW R e) (c : Int) : sign ⟨L.take d, t, R.take e, s⟩ c = sign ⟨L, t, R, s⟩ c :=
  sign_is (f := ⟨L.take d, t, R.take e, s⟩) (LT.take (sign_LT (f := ⟨L, t, R, s⟩)) l1 rl) (by show 1 ≤ (L.take d).length; rw [take_len (rl.le l1)]; exact rl.1) (fun i hi => sign_told (f := ⟨L, t, R, s⟩) hi) (RT.take (sign_RT (f := ⟨L, t, R, s⟩)) n1 rr) c
/-! ### where the ends begin -/
section
variable {f : Form}
/-- cells that the program steps through from above -/
theorem PerR.down1 {g : Int → Nat} {p : Nat} {c : Int} (h : PerR g p c) (e : g (c - 1) = g (c - 1 + p)) : PerR g p (c - 1) := fun x hx => by
  by_cases z : x = c - 1
  · rw [z]
    exact e.symm
  · exact h x (by omega)
theorem PerL.up1 {g : Int → Nat} {q : Nat} {c : Int} (h : PerL g q c) (e : g c = g (c - q)) : PerL g q (c + 1) := fun x hx => by
  by_cases z : x = c
  · rw [z]
    exact e.symm
  · exact h x (by omega)
end
/-! ### the least form has the same cells -/
theorem cells_len' (g : Int → Nat) (a : Int) (n : Nat) : (cells g a n).length = n := by
  unfold cells
  rw [List.length_map, List.length_range]
theorem cells_at' (g : Int → Nat) (a : Int) {n i : Nat} (h : i < n) : (cells g a n).getD i 0 = g (a + (i : Int)) := by
  unfold cells
  rw [List.getD_eq_getElem?_getD, List.getElem?_map, List.getElem?_range h]
  rfl
theorem LT_cells {g : Int → Nat} {q : Nat} {b s : Int} (h : PerL g q b) (le : s ≤ b) : LT g (cells g (s - q) q) s := fun t i hi => by
  rw [cells_len'] at hi ⊢
  rw [cells_at' g _ hi]
  have z := h.mul t (s - (q : Int) + (i : Int)) (by omega)
  rw [← z, Nat.succ_mul]
  exact congrArg g (by omega)
theorem RT_cells {g : Int → Nat} {p : Nat} {e a : Int} (h : PerR g p e) (p1 : 1 ≤ p) (le : e ≤ a) : RT g (cells g a p) a := fun i => by
  rw [cells_len', cells_at' g _ (Nat.mod_lt _ p1)]
  have z := h.mul (i / p) (a + ((i % p : Nat) : Int)) (by omega)
  have e3 := Nat.mod_add_div i p
  rw [Nat.mul_comm] at e3
  rw [← z]
  exact congrArg g (by omega)
theorem Least.sign {g : Int → Nat} {f : Form} (h : Least g f) (c : Int) : RowM.sign f c = g c := by
  obtain ⟨p, q, hp, hq, h⟩ := h
  obtain ⟨p1, _, _⟩ := hp
  obtain ⟨q1, _, hqm⟩ := hq
  rcases h with ⟨hall, rfl⟩ | ⟨e, b, he, hb, rfl⟩
  · have per : PerR g p 0 := fun c _ => hall c
    have perL : PerL g p 0 := fun c _ => by
      rw [← hall (c - p)]
      exact congrArg g (by omega)
    refine sign_is (f := ⟨cells g (-(p : Int)) p, [], cells g 0 p, 0⟩) ?_ (by show 1 ≤ (cells g (-(p : Int)) p).length; rw [cells_len']; exact p1) (fun i hi => by cases hi) ?_ c
    · have := LT_cells perL (Int.le_refl 0)
      rw [show (0 : Int) - (p : Int) = -(p : Int) by omega] at this
      exact this
    · exact RT_cells per p1 (by show (0 : Int) ≤ 0 + (([] : List Nat).length : Int); simp)
  · have hlen : (cells g (min e b) (e - min e b).toNat).length = (e - min e b).toNat := cells_len' _ _ _
    refine sign_is (f := ⟨cells g (min e b - q) q, cells g (min e b) (e - min e b).toNat, cells g e p, min e b⟩) (LT_cells hb.1 (by omega)) (by show 1 ≤ (cells g (min e b - q) q).length; rw [cells_len']; exact q1) (fun i hi => ?_) ?_ c
    · have hi' : i < (e - min e b).toNat := by
        rw [← hlen]
        exact hi
      exact (cells_at' g _ hi').symm
    · have : (min e b : Int) + ((cells g (min e b) (e - min e b).toNat).length : Int) = e := by
        rw [hlen]
        omega
      show RT g (cells g e p) (min e b + ((cells g (min e b) (e - min e b).toNat).length : Int))
      rw [this]
      exact RT_cells he.1 p1 (Int.le_refl e)
/-- two rows have the same least form where they have the same cells -/
theorem Least.cong {g g' : Int → Nat} (e : ∀ c, g c = g' c) {f : Form} (h : Least g f) : Least g' f := by
  have : g = g' := funext e
  rw [← this]
  exact h
theorem Least.eq_iff {g g' : Int → Nat} {f f' : Form} (h : Least g f) (h' : Least g' f') : f = f' ↔ ∀ c, g c = g' c := by
  constructor
  · intro e c
    rw [← h.sign c, ← h'.sign c, e]
  · intro e
    exact (h.cong e).uniq h'
theorem Least.len {g : Int → Nat} {f : Form} (h : Least g f) : 1 ≤ f.left.length ∧ 1 ≤ f.right.length := by
  obtain ⟨p, q, hp, hq, h⟩ := h
  rcases h with ⟨_, rfl⟩ | ⟨e, b, _, _, rfl⟩
  · exact ⟨by rw [cells_len']; exact hp.1, by rw [cells_len']; exact hp.1⟩
  · exact ⟨by rw [cells_len']; exact hq.1, by rw [cells_len']; exact hp.1⟩
end RowM
set_option Elab.async false
set_option linter.all false
set_option maxRecDepth 100000
set_option maxHeartbeats 4000000
namespace L2
open PySem PySem.Spec PyProof.Rows
/-! ### operators of an own class's plain instances -/
section
variable {X : Cx} {C g : Addr} {n : Nat} {sp : Sp} {CX : CXT} {E : XK}
/-- x op y, both of the class at C -/
def rBinO (C : Addr) (sp : Sp) (E : XK) : R2 := fun x y H Q => ∃ a b dx dy fs gs, x = .ref a ∧ y = .ref b ∧ H a = some (.ins C dx fs) ∧ H b = some (.ins C dy gs) ∧ sp [x, y] H Q E
theorem op_binO {op : Operator} (hc : PySem.W.selfFirst X.K C = true) (hs : PySem.W.findIn X.K (.ref C) (PySem.dunder op.info.2) = some (some (.ref g))) (hf : PySem.W.isFn X.K (.ref g) = true) (F : FnR X.prog X.w X.K X.mg X.base CX n g sp) (hr : Room n X.A) (hx : Passes CX X E) :
    OpR X (binaryOp op) (rBinO C sp E) := by
  intro pins s σ H x y v u Q I rx ry h
  obtain ⟨a, b, dx, dy, fs, gs, rfl, rfl, ha, hb, q⟩ := h
  cases (show v = Value.ref a from rx)
  cases (show u = Value.ref b from ry)
  obtain ⟨mA, J, _⟩ := ins_get I.hok ha
  obtain ⟨mB, J2, _⟩ := ins_get I.hok hb
  obtain ⟨od, J, _⟩ := J.look
  obtain ⟨od2, J2, _⟩ := J2.look
  obtain ⟨m, hF⟩ := I.fr
  refine PySem.W.binop_K (op := op) hF I.ok.mod.kin J J2.type hc hs hf ?_
  refine wpAny_mono (wpAny_call (run_fnR (us := [.ref a, .ref b]) (vs := [.ref a, .ref b]) F hr hx I (.cons rfl (.cons rfl .nil)) q)) (fun w z hz => ?_) fun _ _ e => e
  obtain ⟨z2, H2, I2, rz, qz⟩ := hz
  exact SlX.cmpback rz ⟨z2, H2, I2, rz, qz⟩
/-- ~x -/
theorem un_invO (hs : PySem.W.findIn X.K (.ref C) "__invert__" = some (some (.ref g))) (hf : PySem.W.isFn X.K (.ref g) = true) (F : FnR X.prog X.w X.K X.mg X.base CX n g sp) (hr : Room n X.A) (hx : Passes CX X E) :
    UnR X (unaryOp .Invert) (fun x H Q => ∃ a dx fs, x = .ref a ∧ H a = some (.ins C dx fs) ∧ sp [x] H Q E) := by
  intro pins s σ H x v Q I rx h
  obtain ⟨a, dx, fs, rfl, ha, q⟩ := h
  cases (show v = Value.ref a from rx)
  obtain ⟨mA, J, _⟩ := ins_get I.hok ha
  obtain ⟨od, J, _⟩ := J.look
  obtain ⟨m, hF⟩ := I.fr
  refine PySem.W.ksp_inv hF I.ok.mod.kin J hs hf ?_
  exact wpAny_call (run_fnR (us := [.ref a]) (vs := [.ref a]) F hr hx I (.cons rfl .nil) q)
/-- x op i, i an int -/
theorem op_binI {op : Operator} {fo ro rc : Option Value} (hc : PySem.W.selfFirst X.K C = true) (hs : PySem.W.findIn X.K (.ref C) (PySem.dunder op.info.2) = some (some (.ref g))) (hf : PySem.W.isFn X.K (.ref g) = true) (hrr : PySem.W.findIn X.K (.ref C) (dunderR op.info.2) = some rc) (hp : rc = none ∨ ∃ g : Addr, rc = some (.ref g))
    (h1 : PySem.W.findIn X.K (.type "int") (PySem.dunder op.info.2) = some fo) (h2 : PySem.W.findIn X.K (.type "int") (dunderR op.info.2) = some ro) (hsub : PySem.W.subIn X.K (.type "int") (.ref C) = some false) (F : FnR X.prog X.w X.K X.mg X.base CX n g sp) (hr : Room n X.A) (hx : Passes CX X E) :
    OpR X (binaryOp op) (fun x y H Q => ∃ a dx fs i, x = .ref a ∧ y = .int i ∧ H a = some (.ins C dx fs) ∧ sp [x, y] H Q E) := by
  intro pins s σ H x y v u Q I rx ry h
  obtain ⟨a, dx, fs, i, rfl, rfl, ha, q⟩ := h
  cases (show v = Value.ref a from rx)
  obtain ⟨t, e⟩ := (show ∃ t, u = Value.int i t from ry)
  subst e
  obtain ⟨mA, J, _⟩ := ins_get I.hok ha
  obtain ⟨od, J, _⟩ := J.look
  obtain ⟨m, hF⟩ := I.fr
  refine PySem.W.ksp_binT (op := op) (T := "int") hF I.ok.mod.kin J rfl hc hs hf hrr hp h1 h2 hsub ?_
  refine wpAny_mono (wpAny_call (run_fnR (us := [.ref a, .int i t]) (vs := [.ref a, .int i]) F hr hx I (.cons rfl (.cons ⟨t, rfl⟩ .nil)) q)) (fun w z hz => ?_) fun _ _ e => e
  obtain ⟨z2, H2, I2, rz, qz⟩ := hz
  exact SlX.cmpback rz ⟨z2, H2, I2, rz, qz⟩
/-- x == y, both of the class at C, by its own __eq__ -/
theorem op_eqO (hop : ∀ a b, compareOp .Eq a b = richCompare .Eq a b) (hs : PySem.W.findIn X.K (.ref C) "__eq__" = some (some (.ref g))) (hf : PySem.W.isFn X.K (.ref g) = true) (F : FnR X.prog X.w X.K X.mg X.base CX n g sp) (hr : Room n X.A) (hx : Passes CX X E) : OpR X (compareOp .Eq) (rBinO C sp E) := by
  intro pins s σ H x y v u Q I rx ry h
  obtain ⟨a, b, dx, dy, fs, gs, rfl, rfl, ha, hb, q⟩ := h
  cases (show v = Value.ref a from rx)
  cases (show u = Value.ref b from ry)
  obtain ⟨mA, J, _⟩ := ins_get I.hok ha
  obtain ⟨mB, J2, _⟩ := ins_get I.hok hb
  obtain ⟨od, J, _⟩ := J.look
  obtain ⟨od2, J2, _⟩ := J2.look
  obtain ⟨m, hF⟩ := I.fr
  rw [hop]
  refine PySem.W.cmp_K (op := .Eq) (tb := .ref C) hr.units0 hF I.ok.mod.kin J J2.type (by simp [PySem.W.notFirst]) hs hf ?_
  refine wpAny_mono (wpAny_call (run_fnR (us := [.ref a, .ref b]) (vs := [.ref a, .ref b]) F hr hx I (.cons rfl (.cons rfl .nil)) q)) (fun w z hz => ?_) fun _ _ e => e
  obtain ⟨z2, H2, I2, rz, qz⟩ := hz
  exact SlX.cmpback rz ⟨z2, H2, I2, rz, qz⟩
end
end L2
set_option Elab.async false
set_option linter.all false
set_option maxRecDepth 100000
set_option maxHeartbeats 4000000
namespace L2
open PySem PySem.Spec PyProof.Rows
/-! ### o[i], o of an own class with __getitem__ -/
section
variable {X : Cx} {C g : Addr} {n : Nat} {sp : Sp} {CX : CXT} {E : XK} {a b : Expr} {ta tb : TE} {pos : Pos}
def rIxO (C : Addr) (sp : Sp) (E : XK) : R2 := fun x y H Q => ∃ p dx fs, x = .ref p ∧ H p = some (.ins C dx fs) ∧ sp [x, y] H Q E
def OwnSub (b : Expr) : Prop := ∀ o i, subscripted b true o i = runValue (.builtin "lifetime.subscript" ⟨[o, i], []⟩)
theorem pe_ixO (hs : PySem.W.findIn X.K (.ref C) "__getitem__" = some (some (.ref g))) (hf : PySem.W.fnIn X.K g = true) (hfn : PySem.W.isFn X.K (.ref g) = true) (F : FnR X.prog X.w X.K X.mg X.base CX n g sp) (hr : Room (n + 1) X.A) (hx : Passes CX X E) (ha : PE X a ta) (hb : PE X b tb) (ho : OwnSub b) :
    PE X (.Subscript a b pos) (tOp (rIxO C sp E) ta tb) := by
  refine ⟨fun pins s σ H Q I h => Subscript_ (binT ha hb I h fun v u s2 x y H2 I2 rx ry q => ?_)⟩
  obtain ⟨p, dx, fs, rfl, hp, q⟩ := q
  cases (show v = Value.ref p from rx)
  obtain ⟨_, J, _⟩ := ins_get I2.hok hp
  obtain ⟨_, J, _⟩ := J.look
  obtain ⟨_, hF⟩ := I2.fr
  exact PySem.W.sub_K hF I2.ok.mod.kin J hs hf hfn (wpAny_call (SlX.run_at (us := [.ref p, u]) (ws := [.ref p, y]) F hr.in1 I2.env0.in1 hx I2 (.cons rfl (.cons ry .nil)) q)) (ho _ _)
end
/-! ### t * k of any k -/
theorem tuple_mul1 (l : Addr) (items : Array Value) (n : Nat) (dd : Option Addr) (sl : Array (Option Value)) (x : Int) (u : Tok) (c0 : (decide (x < -(2 ^ 63)) || decide (x ≥ 2 ^ 63)) = false) (c1 : (items.isEmpty || x == 1) = true) :
    Meets (Builtin.«tuple.__mul__» ⟨[.ref l, .int x u], []⟩) (fun _ R s => s.heap.get? l = some { cls := .type "tuple", dict := dd, data := .seq items n, slots := sl } ∧ R (.ok (.ret (Value.ref l))) s) :=
  .of_wp fun prog w A R s h => by
    obtain ⟨hp, g, d, tk, os⟩ := s
    obtain ⟨hl, h⟩ := h
    have f1 := AutoSeq1.idx_int
    wp_walk using wpAny_loadPart' hl
    repeat (first
      | (refine wpAny_ite_false (decide_eq_false (by rw [c0]; exact Bool.false_ne_true)) ?_; wp_walk using wpAny_loadPart' hl)
      | (refine wpAny_ite_true (decide_eq_true c1) ?_; wp_walk using wpAny_loadPart' hl))
    exact ⟨_, rfl, h⟩
theorem tuple_mul0 (l : Addr) (items : Array Value) (n : Nat) (dd : Option Addr) (sl : Array (Option Value)) (u : Tok) (c1 : items.isEmpty = false) :
    Meets (Builtin.«tuple.__mul__» ⟨[.ref l, .int 0 u], []⟩) (fun _ R s => s.heap.get? l = some { cls := .type "tuple", dict := dd, data := .seq items n, slots := sl } ∧
      R (.ok (.ret (Value.ref s.heap.objs.size))) { s with heap := s.heap.push { cls := Value.type "tuple", data := Data.seq #[] }, toks := s.toks }) :=
  .of_wp fun prog w A R s h => by
    obtain ⟨hp, g, d, tk, os⟩ := s
    obtain ⟨hl, h⟩ := h
    have f1 := AutoSeq1.idx_int
    wp_walk using wpAny_loadPart' hl
    exact ⟨_, rfl, h⟩
def rRepK (K : PySem.W.Frag) : R2 := fun x y H Q => ∃ (l : Addr) (k : Nat) (xs : List V), x = .ref l ∧ y = .int (k : Int) ∧ SqT K H l xs ∧ k ≤ 1000 ∧ xs.length ≤ 1000 ∧ ∀ p H', Same H H' → SqT K H' p (List.replicate k xs).flatten → Q (.ref p) H'
theorem op_repK {X : Cx} : OpR X (binaryOp .Mult) (rRepK X.K) := by
  intro pins s σ H x y v u Q I rx ry h
  obtain ⟨l, k, xs, rfl, rfl, hT, h2, h3, q⟩ := h
  by_cases hg : xs ≠ [] ∧ 2 ≤ k
  · exact op_repT pins s σ H _ _ v u Q I rx ry ⟨l, k, xs, rfl, rfl, hT, hg.1, by omega, by omega, h3, fun p hp => q p _ (Same.new hp) (SqT.of (by rw [Int.toNat_natCast]; exact upd_same))⟩
  cases rx
  obtain ⟨t, rfl⟩ := ry
  obtain ⟨its, r, ⟨⟨cls, dd, data, sl⟩, ho, hc, n, hd⟩, hs⟩ := I.tuple hT
  simp only at hc hd
  subst hc hd
  have way : ∀ {Q' : Value → Shared → Prop}, wpAny (model X.prog X.w) X.A (call (.builtin "tuple.__mul__") [.ref l, .int (k : Int) t]) Q' X.xe s → wpAny (model X.prog X.w) X.A (binaryOp .Mult (.ref l) (.int (k : Int) t)) Q' X.xe s := fun z =>
    wpAny_binaryOp_repeat_ref (T := "tuple") (U := "int") (by decide) ⟨_, ho, rfl⟩ (fun s' => typeIs_int s' k t) noFill_tuple_mul PySem.F.fills_int_mul PySem.F.slot_int_rmul repeat_tuple PySem.F.slot_int_index.lookup
      (call_meets PySem.F.slot_int_rmul (typeIs_int s k t) PySem.F.entry_int_rmul (PySem.F.args_int_rmul_2 _ _) (int_rmul_tuple k t l its.toArray n dd sl) ⟨ho, rfl, ⟨_, ho, rfl⟩, z⟩)
  have c0 : (decide ((k : Int) < -(2 ^ 63)) || decide ((k : Int) ≥ 2 ^ 63)) = false := by
    rw [decide_eq_false (by omega), decide_eq_false (by omega)] <;> rfl
  refine way (Q' := EP X pins σ Q) ?_
  by_cases e1 : (its.toArray.isEmpty || (k : Int) == 1) = true
  · refine call_meets PySem.F.slot_tuple_mul ⟨_, ho, rfl⟩ PySem.F.entry_tuple_mul (PySem.F.args_tuple_mul_2 _ _) (tuple_mul1 l its.toArray n dd sl k t c0 e1) ⟨ho, .ref l, H, I, rfl, q l H (Same.refl _) ?_⟩
    have e : (List.replicate k xs).flatten = xs := by
      rcases Bool.or_eq_true_iff.mp e1 with z | z
      · have : its = [] := by simpa using z
        subst this
        cases r
        simp
      · have : k = 1 := by
          have := eq_of_beq z
          omega
        subst this
        simp
    rw [e]
    exact hT
  · have e2 : its.toArray.isEmpty = false := by
      cases z : its.toArray.isEmpty with
      | false => rfl
      | true => rw [z] at e1; exact absurd rfl e1
    have k0 : k = 0 := by
      have n1 : ¬ (k : Int) == 1 := fun z => e1 (by rw [z, Bool.or_true])
      have n2 : xs ≠ [] := fun z => by
        subst z
        cases r
        cases e2
      have n3 : k ≠ 1 := fun z => n1 (by rw [z]; rfl)
      have n4 : ¬ 2 ≤ k := fun z => hg ⟨n2, z⟩
      omega
    subst k0
    refine call_meets PySem.F.slot_tuple_mul ⟨_, ho, rfl⟩ PySem.F.entry_tuple_mul (PySem.F.args_tuple_mul_2 _ _) (tuple_mul0 l its.toArray n dd sl t e2) ⟨ho, ?_⟩
    refine ⟨.ref s.heap.objs.size, _, I.laid (t' := s.toks) (o := .tup []) (fun b ob z => Heap.get?_push_of_some _ z) (Nat.le_refl _) ?_, rfl, q _ _ (Same.new (I.hok.fresh (Nat.le_refl _))) (SqT.of upd_same)⟩
    exact ⟨Nat.zero_le _, [], .nil, IsTup.new _ _⟩
end L2
set_option Elab.async false
set_option linter.all false
set_option maxRecDepth 100000
set_option maxHeartbeats 4000000
namespace K02
open PySem PySem.Spec PyProof.Rows L2 RowM
theorem nv_take (xs : List Nat) (d : Nat) : (nv xs).take d = nv (xs.take d) := by simp [nv, List.map_take]
theorem nv_flat (xs : List Nat) (m : Nat) : (List.replicate m (nv xs)).flatten = nv (List.replicate m xs).flatten := by simp [nv, List.map_flatten]
theorem cut_head {xs : List V} {d : Nat} (h : d ≤ xs.length) : cutV xs none (some (d : Int)) = xs.take d := by
  unfold cutV
  rw [HT.sIx_none, HT.sIx_nat, List.drop_zero, Nat.min_eq_left h, Nat.sub_zero]
section
variable {P : Program} {w : World} {K : PySem.W.Frag} {mg : Str → Option Value} {base : Heap}
def spPer (K : PySem.W.Frag) : Sp := fun vs H Q _ => ∃ (p : Addr) (u : List Nat), vs = [.ref p] ∧ SqT K H p (nv u) ∧ 1 ≤ u.length ∧ u.length ≤ 1000 ∧ ∀ p' H' d, Same H H' → MinW u d → SqT K H' p' (nv (u.take d)) → Q (.ref p') H'
theorem sc_per : FnScope ["word", "length", "part"] ["word"] (defScope (top 31)) := ⟨rfl, rfl, rfl, by decide +kernel, rfl, by decide +kernel, by decide +kernel⟩
theorem ok_per {f : Addr} {fd : FuncData} (F : FnP K "least_period" (top 31) f fd) (m_len : mg "len" = none) (m_range : mg "range" = none) : FnOk P w K mg base CX0 1 f fd ["word"] (spPer K) := by
  have sc := sc_per
  refine F.ok sc (fun vs H Q E h => ?_) (fun cdv A outer s H vs Q E hr h => ?_)
  · obtain ⟨p, u, rfl, _⟩ := h
    rfl
  · obtain ⟨p, u, rfl, hp, l1, l2, q⟩ := h
    refine ⟨_, PSs.nox (pss_cons (ps_set (i := 1) sc.nd rfl (Or.inl rfl) (pe_callB call_len_seq (by rfl) m_len (by decide +kernel) (pa_cons (pv 0) pa_nil)))
      (pss_cons (ps_for PassesOwn.never rfl (pi_range2 rfl m_range (pa_cons pe_int (pa_cons (pv 1) pa_nil))) (pg_name (i := 2) sc.nd rfl (Or.inl rfl)) (pss_one (ps_if (PW.pt (pw_and (pt_cmpR op_eq (pe_op op_mod (pv 1) (pv 2)) pe_int (nomark _)) (pw_and1 (pt_cmpR (show OpR _ _ (rEqD K) from op_eqD hr.units) (pv 0) (pe_op (show OpR _ (binaryOp .Mult) (rRepK K) from op_repK) (pe_slice sl_tupA (pv 0) po_none (po_some (pv 2))) (pe_op op_fdivN (pv 1) (pv 2))) (nomark _))))) (pss_one (ps_ret (pe_slice sl_tupA (pv 0) po_none (po_some (pv 2))))) pss_nil)))
      (pss_one (ps_ret (pv 0))))), ?_⟩
    refine ⟨_, rfl, p, _, rfl, .inr hp, ?_⟩
    rw [len_nv]
    refine ⟨_, rfl, _, _, rfl, ⟨by omega, by omega, by omega, by omega⟩, ?_⟩
    refine for_range (lo := 1) (n := ((u.length : Int) - 1).toNat) (fun i σ H' => ∃ x, σ = [some (.ref p), some (.int (u.length : Int)), x] ∧ Same H H' ∧ ∀ d, 1 ≤ d → d < 1 + i → ¬ RepW u d) ⟨none, rfl, Same.refl H, fun d h1 h2 => by omega⟩ ?_ ?_
    · rintro i σ H' hi ⟨x, rfl, sm, no⟩
      refine ⟨_, rfl, _, rfl, _, _, rfl, rfl, (by show (0 : Int) < 1 + (i : Int); omega), rfl, _, rfl, ?_⟩
      have part : (1 : Int) + (i : Int) = ((1 + i : Nat) : Int) := by omega
      have pl : 1 + i < u.length := by omega
      have next : ∀ H2, Same H' H2 → ¬ RepW u (1 + i) → ∃ x, [some (V.ref p), some (.int (u.length : Int)), some (.int (1 + (i : Int)))] = [some (V.ref p), some (.int (u.length : Int)), x] ∧ Same H H2 ∧ ∀ d, 1 ≤ d → d < 1 + (i + 1) → ¬ RepW u d := fun H2 s2 n1 => ⟨_, rfl, sm.trans s2, fun d d1 d2 => by
        by_cases z : d = 1 + i
        · rw [z]
          exact n1
        · exact no d d1 (by omega)⟩
      have dm : decide (V.int ((u.length : Int) % (1 + (i : Int))) = V.int 0) = decide (u.length % (1 + i) = 0) := by
        rw [dec_int, part, ← Int.natCast_emod]
        exact decide_eq_decide.mpr (by omega)
      by_cases c1 : u.length % (1 + i) = 0
      case neg => exact iteF_of (dm.trans (decide_eq_false c1)) (iteF (next _ (Same.refl _) fun r => c1 (Nat.mod_eq_zero_of_dvd r.2.1)))
      refine iteT_of (dm.trans (decide_eq_true c1)) ?_
      have em : u.length = u.length / (1 + i) * (1 + i) := (Nat.div_mul_cancel (Nat.dvd_of_mod_eq_zero c1)).symm
      have fd : (u.length : Int).fdiv (1 + (i : Int)) = ((u.length / (1 + i) : Nat) : Int) := by
        rw [part, Int.fdiv_eq_ediv_of_nonneg _ (by omega)]
        exact (Int.natCast_ediv _ _).symm
      have cut : cutV (nv u) none (some (1 + (i : Int))) = nv (u.take (1 + i)) := by
        rw [part, cut_head (by rw [len_nv]; omega), nv_take]
      refine ⟨_, rfl, _, rfl, _, rfl, _, rfl, slT (same_T sm hp) fun p2 H2 s2 hp2 => ?_⟩
      rw [cut] at hp2
      refine ⟨_, rfl, _, rfl, _, _, rfl, rfl, ⟨by omega, by show (1 + (i : Int)).natAbs < 1073741824; omega⟩, ?_⟩
      have le1 : u.length / (1 + i) ≤ 1000 := Nat.le_trans (Nat.div_le_self _ _) l2
      refine ⟨p2, u.length / (1 + i), _, rfl, congrArg V.int fd, hp2, le1, by rw [len_nv]; exact Nat.le_trans (List.length_take_le _ _) (by omega), fun p3 H3 s3 hp3 => ?_⟩
      rw [nv_flat] at hp3
      refine eq_nv (same_T s3 (same_T s2 (same_T sm hp))) hp3 ⟨_, rfl, ?_⟩
      by_cases c2 : RepW u (1 + i)
      case neg => exact iteF_of (decide_eq_false fun z => c2 ((rep_iff (by omega) em (by omega)).mp z)) (next _ (s2.trans s3) c2)
      refine iteT_of (decide_eq_true ((rep_iff (by omega) em (by omega)).mpr c2)) ?_
      refine ⟨_, rfl, _, rfl, _, rfl, slT (same_T s3 (same_T s2 (same_T sm hp))) fun p4 H4 s4 hp4 => ?_⟩
      rw [cut] at hp4
      exact q p4 H4 (1 + i) (sm.trans (s2.trans (s3.trans s4))) (min_of l1 c2 fun d d1 d2 => no d d1 d2) hp4
    · rintro σ H' ⟨x, rfl, sm, no⟩
      exact ⟨_, rfl, q p H' u.length sm (min_of l1 (rep_self l1) fun d d1 d2 => no d d1 (by omega)) (by rw [List.take_length]; exact same_T sm hp)⟩
end
end K02
set_option Elab.async false
set_option linter.all false
set_option maxRecDepth 100000
set_option maxHeartbeats 4000000
namespace K02
open PySem PySem.Spec PyProof.Rows L2 RowM
theorem dec_nat {a b : Nat} : decide (V.int ((a : Nat) : Int) = V.int ((b : Nat) : Int)) = decide (a = b) := by
  rw [dec_int]
  exact decide_eq_decide.mpr (by omega)
/-- where a form's right end begins to repeat, at the lowest -/
def lowE (f : Form) : Int := f.start - (f.left.length : Int) - (f.right.length : Int)
def topE (f : Form) : Int := f.start + (f.told.length : Int)
section
variable {P : Program} {w : World} {K : PySem.W.Frag} {mg : Str → Option Value} {base : Heap}
def spFrom (K : PySem.W.Frag) : Sp := fun vs H Q _ => ∃ (v : V) (f : Form), vs = [v] ∧ FmV K H v f ∧ Ok f ∧ (PerR (sign f) f.right.length (lowE f) → Q .non H) ∧ ∀ e, EndAt (sign f) f.right.length e → lowE f < e → e ≤ topE f → Q (.int e) H
theorem sc_from : FnScope ["form", "left", "told", "right", "start", "lowest", "cell"] ["form"] (defScope (top 32)) := ⟨rfl, rfl, rfl, by decide +kernel, rfl, by decide +kernel, by decide +kernel⟩
theorem ok_from {f : Addr} {fd : FuncData} (F : FnP K "repeats_from" (top 32) f fd) (m_len : mg "len" = none) (c_sign_in : Cal P w K mg base CX0 "sign_in" 1 ["form", "cell"] (spSign K)) : FnOk P w K mg base CX0 2 f fd ["form"] (spFrom K) := by
  have sc := sc_from
  refine F.ok sc (fun vs H Q E h => ?_) (fun cdv A outer s H vs Q E hr h => ?_)
  · obtain ⟨v, g, rfl, _⟩ := h
    rfl
  · obtain ⟨v, g, rfl, hv, ho, q0, q1⟩ := h
    obtain ⟨p, l, t, r, rfl, hp, h4⟩ := id hv
    have hr_sign_in : Room 1 _ := hr
    refine ⟨_, PSs.nox (pss_cons (ps_asg (pv 0) (pg_tup rfl (pgs_cons (pg_name (i := 1) sc.nd rfl (Or.inl rfl)) (pgs_cons (pg_name (i := 2) sc.nd rfl (Or.inl rfl)) (pgs_cons (pg_name (i := 3) sc.nd rfl (Or.inl rfl)) (pgs_cons (pg_name (i := 4) sc.nd rfl (Or.inl rfl)) pgs_nil))))))
      (pss_cons (ps_set (i := 5) sc.nd rfl (Or.inl rfl) (pe_op op_sub (pe_op op_sub (pv 4) (pe_callB call_len_seq (by rfl) m_len (by decide +kernel) (pa_cons (pv 1) pa_nil))) (pe_callB call_len_seq (by rfl) m_len (by decide +kernel) (pa_cons (pv 3) pa_nil))))
      (pss_cons (ps_set (i := 6) sc.nd rfl (Or.inl rfl) (pe_op op_add (pv 4) (pe_callB call_len_seq (by rfl) m_len (by decide +kernel) (pa_cons (pv 2) pa_nil))))
      (pss_cons (ps_while PassesOwn.never (PW.pt (pw_and (pt_cmpR op_gt (pv 6) (pv 5) (nomark _)) (pw_and1 (pt_cmpR op_eq (pe_cal c_sign_in hr_sign_in rfl (pa_cons (pv 0) (pa_cons (pe_op op_sub (pv 6) pe_int) pa_nil))) (pe_cal c_sign_in hr_sign_in rfl (pa_cons (pv 0) (pa_cons (pe_op op_add (pe_op op_sub (pv 6) pe_int) (pe_callB call_len_seq (by rfl) m_len (by decide +kernel) (pa_cons (pv 3) pa_nil))) pa_nil))) (nomark _))))) (pss_one (ps_set (i := 6) sc.nd rfl (Or.inl rfl) (pe_op op_sub (pv 6) pe_int))))
      (pss_one (ps_ret (pe_ifExp (pt_cmpR op_eq (pv 6) (pv 5) (nomark _)) pe_non (pv 6)))))))), ?_⟩
    refine ⟨_, rfl, p, _, rfl, hp, rfl, _, _, rfl, _, _, rfl, _, _, rfl, _, _, rfl, rfl, ?_⟩
    refine ⟨_, rfl, _, rfl, l, _, rfl, .inr h4.left, _, _, rfl, rfl, _, rfl, r, _, rfl, .inr h4.right, _, _, rfl, rfl, ?_⟩
    refine ⟨_, rfl, _, rfl, t, _, rfl, .inr h4.told, _, _, rfl, rfl, ?_⟩
    rw [len_nv, len_nv, len_nv]
    have per0 : PerR (sign g) g.right.length (topE g) := (sign_RT (f := g)).per
    have fin : ∀ c, PerR (sign g) g.right.length c → lowE g ≤ c → c ≤ topE g → (c = lowE g ∨ sign g (c - 1) ≠ sign g (c - 1 + (g.right.length : Int))) → tRet (tIf (tTest (tOp rEq (tVar 6) (tVar 5))) (tC .non) (tVar 6)) { nx := fun _ H' => Q .non H', rt := Q } [some (V.ref p), some (.ref l), some (.ref t), some (.ref r), some (.int g.start), some (.int (lowE g)), some (.int c)] H := fun c pc c1 c2 c3 => by
      refine ⟨_, rfl, _, rfl, rfl, _, rfl, ?_⟩
      by_cases z : c = lowE g
      · refine iteT_of (by rw [dec_int]; exact decide_eq_true z) ?_
        rw [z] at pc
        exact q0 pc
      · refine iteF_of (by rw [dec_int]; exact decide_eq_false z) ⟨_, rfl, q1 c ⟨pc, ?_⟩ (by omega) c2⟩
        exact fun e => c3.elim z fun n => n e.symm
    refine ⟨fun m σ H' => ∃ c : Int, σ = [some (V.ref p), some (.ref l), some (.ref t), some (.ref r), some (.int g.start), some (.int (lowE g)), some (.int c)] ∧ H' = H ∧ PerR (sign g) g.right.length c ∧ lowE g ≤ c ∧ c ≤ topE g ∧ (c - lowE g).toNat = m, ⟨_, topE g, rfl, rfl, per0, by unfold topE lowE; omega, Int.le_refl _, rfl⟩, ?_⟩
    rintro m σ H' ⟨c, rfl, rfl, pc, c1, c2, rfl⟩
    refine ⟨_, rfl, _, rfl, _, _, rfl, rfl, _, rfl, ?_⟩
    by_cases cl : c > lowE g
    case neg => exact iteF_of (decide_eq_false cl) (iteF (fin c pc c1 c2 (.inl (by omega))))
    refine iteT_of (decide_eq_true cl) ?_
    refine ⟨_, rfl, _, rfl, _, _, rfl, rfl, _, _, g, rfl, hv, ho, ?_⟩
    refine ⟨_, rfl, _, rfl, _, _, rfl, rfl, _, rfl, r, _, rfl, .inr h4.right, _, _, rfl, rfl, _, _, g, rfl, hv, ho, rfl, _, rfl, ?_⟩
    rw [len_nv]
    by_cases e : sign g (c - 1) = sign g (c - 1 + (g.right.length : Int))
    case neg => exact iteF_of (by rw [dec_nat]; exact decide_eq_false e) (fin c pc c1 c2 (.inr e))
    refine iteT_of (by rw [dec_nat]; exact decide_eq_true e) ?_
    refine ⟨fun σ' H2 => ∃ c' : Int, σ' = [some (V.ref p), some (.ref l), some (.ref t), some (.ref r), some (.int g.start), some (.int (lowE g)), some (.int c')] ∧ H2 = H' ∧ PerR (sign g) g.right.length c' ∧ lowE g ≤ c' ∧ c' ≤ topE g ∧ c' < c, fun σ' H2 ⟨c', a1, a2, a3, a4, a5, a6⟩ => ⟨(c' - lowE g).toNat, by omega, c', a1, a2, a3, a4, a5, rfl⟩, ?_⟩
    exact ⟨_, rfl, _, _, rfl, rfl, c - 1, rfl, rfl, pc.down1 e, by omega, by omega, by omega⟩
def spBel (K : PySem.W.Frag) : Sp := fun vs H Q _ => ∃ (v : V) (f : Form), vs = [v] ∧ FmV K H v f ∧ Ok f ∧ (¬ ∀ c, sign f (c + (f.right.length : Int)) = sign f c) ∧ ∀ b, BelAt (sign f) f.left.length b → f.start ≤ b → Q (.int b) H
theorem sc_bel : FnScope ["form", "left", "cell"] ["form"] (defScope (top 33)) := ⟨rfl, rfl, rfl, by decide +kernel, rfl, by decide +kernel, by decide +kernel⟩
theorem ok_bel {f : Addr} {fd : FuncData} (F : FnP K "repeats_below" (top 33) f fd) (m_len : mg "len" = none) (c_sign_in : Cal P w K mg base CX0 "sign_in" 1 ["form", "cell"] (spSign K)) : FnOk P w K mg base CX0 2 f fd ["form"] (spBel K) := by
  have sc := sc_bel
  refine F.ok sc (fun vs H Q E h => ?_) (fun cdv A outer s H vs Q E hr h => ?_)
  · obtain ⟨v, g, rfl, _⟩ := h
    rfl
  · obtain ⟨v, g, rfl, hv, ho, hN, q⟩ := h
    obtain ⟨p, l, t, r, rfl, hp, h4⟩ := id hv
    have hr_sign_in : Room 1 _ := hr
    refine ⟨_, PSs.nox (pss_cons (ps_set (i := 1) sc.nd rfl (Or.inl rfl) (pe_ix (show IxR _ (rIxT K) from ix_tup) (pv 0) pe_int (fun _ _ => rfl)))
      (pss_cons (ps_set (i := 2) sc.nd rfl (Or.inl rfl) (pe_ix (show IxR _ (rIxT K) from ix_tup) (pv 0) pe_int (fun _ _ => rfl)))
      (pss_cons (ps_while PassesOwn.never (pt_cmpR op_eq (pe_cal c_sign_in hr_sign_in rfl (pa_cons (pv 0) (pa_cons (pv 2) pa_nil))) (pe_cal c_sign_in hr_sign_in rfl (pa_cons (pv 0) (pa_cons (pe_op op_sub (pv 2) (pe_callB call_len_seq (by rfl) m_len (by decide +kernel) (pa_cons (pv 1) pa_nil))) pa_nil))) (nomark _)) (pss_one (ps_set (i := 2) sc.nd rfl (Or.inl rfl) (pe_op op_add (pv 2) pe_int))))
      (pss_one (ps_ret (pv 2)))))), ?_⟩
    refine ⟨_, rfl, p, _, _, _, rfl, rfl, hp, rfl, _, rfl, p, _, _, _, rfl, rfl, hp, rfl, ?_⟩
    have perR : PerR (sign g) g.right.length (topE g) := (sign_RT (f := g)).per
    have top : ∀ c, PerL (sign g) g.left.length c → c < topE g + (g.left.length : Int) + (g.right.length : Int) := fun c h => Int.not_le.mp fun z => hN (not_all perR ho.r1 perR h ho.l1 (by omega))
    refine ⟨fun m σ H' => ∃ c : Int, σ = [some (V.ref p), some (.ref l), some (.int c)] ∧ H' = H ∧ PerL (sign g) g.left.length c ∧ g.start ≤ c ∧ (topE g + (g.left.length : Int) + (g.right.length : Int) - c).toNat = m, ⟨_, g.start, rfl, rfl, (sign_LT (f := g)).per ho.l1, Int.le_refl _, rfl⟩, ?_⟩
    rintro m σ H' ⟨c, rfl, rfl, pc, c1, rfl⟩
    have c2 := top c pc
    refine ⟨_, rfl, _, rfl, _, _, g, rfl, hv, ho, ?_⟩
    refine ⟨_, rfl, _, rfl, _, rfl, l, _, rfl, .inr h4.left, _, _, rfl, rfl, _, _, g, rfl, hv, ho, rfl, _, rfl, ?_⟩
    rw [len_nv]
    by_cases e : sign g c = sign g (c - (g.left.length : Int))
    case neg => exact iteF_of (by rw [dec_nat]; exact decide_eq_false e) ⟨_, rfl, q c ⟨pc, fun z => e z.symm⟩ c1⟩
    refine iteT_of (by rw [dec_nat]; exact decide_eq_true e) ?_
    refine ⟨fun σ' H2 => ∃ c' : Int, σ' = [some (V.ref p), some (.ref l), some (.int c')] ∧ H2 = H' ∧ PerL (sign g) g.left.length c' ∧ g.start ≤ c' ∧ c < c', fun σ' H2 ⟨c', a1, a2, a3, a4, a5⟩ => ⟨(topE g + (g.left.length : Int) + (g.right.length : Int) - c').toNat, by omega, c', a1, a2, a3, a4, rfl⟩, ?_⟩
    exact ⟨_, rfl, _, _, rfl, rfl, c + 1, rfl, rfl, pc.up1 e, by omega, by omega⟩
/-! ### least_form -/
/-- how large a form may be -/
structure Big (f : Form) (n m z : Nat) : Prop where
  l : f.left.length ≤ n
  t : f.told.length ≤ m
  r : f.right.length ≤ n
  s : f.start.natAbs ≤ z
def spLf (K : PySem.W.Frag) : Sp := fun vs H Q _ => ∃ (l t r : Addr) (f : Form) (n m z : Nat), vs = [.ref l, .ref t, .ref r, .int f.start] ∧ Fm4 K H l t r f ∧ Ok f ∧ Big f n m z ∧ n ≤ 1000 ∧ m ≤ 200000 ∧ z ≤ 2 ^ 40 ∧ ∀ v H' f', Same H H' → FmV K H' v f' → Least (sign f) f' → Big f' n m (z + m + 2 * n) → Q v H'
theorem sc_lf : FnScope ["left", "told", "right", "start", "form", "before", "behind", "end", "first"] ["left", "told", "right", "start"] (defScope (top 30)) := ⟨rfl, rfl, rfl, by decide +kernel, rfl, by decide +kernel, by decide +kernel⟩
theorem ok_lf {f : Addr} {fd : FuncData} (F : FnP K "least_form" (top 30) f fd) (m_len : mg "len" = none) (m_min : mg "min" = none) (c_least_period : Cal P w K mg base CX0 "least_period" 1 ["word"] (spPer K)) (c_repeats_from : Cal P w K mg base CX0 "repeats_from" 2 ["form"] (spFrom K)) (c_repeats_below : Cal P w K mg base CX0 "repeats_below" 2 ["form"] (spBel K)) (c_stretch_of : Cal P w K mg base CX0 "stretch_of" 2 ["form", "first", "end"] (spStr K)) : FnOk P w K mg base CX0 3 f fd ["left", "told", "right", "start"] (spLf K) := by
  have sc := sc_lf
  refine F.ok sc (fun vs H Q E h => ?_) (fun cdv A outer s H vs Q E hr h => ?_)
  · obtain ⟨l, t, r, g, n, m, z, rfl, _⟩ := h
    rfl
  · obtain ⟨l, t, r, g, n, m, z, rfl, h4, ho, hb, hn, hm, hz, q⟩ := h
    have hr_least_period : Room 1 _ := hr.mono (by decide)
    have hr_repeats_from : Room 2 _ := hr
    have hr_repeats_below : Room 2 _ := hr
    have hr_stretch_of : Room 2 _ := hr
    have bl := hb.l
    have bt := hb.t
    have br := hb.r
    have bs := hb.s
    refine ⟨_, PSs.nox (pss_cons (ps_set (i := 4) sc.nd rfl (Or.inl rfl) (pe_tup (pa_cons (pe_cal c_least_period hr_least_period rfl (pa_cons (pv 0) pa_nil)) (pa_cons (pv 1) (pa_cons (pe_cal c_least_period hr_least_period rfl (pa_cons (pv 2) pa_nil)) (pa_cons (pv 3) pa_nil))))))
      (pss_cons (ps_set (i := 5) sc.nd rfl (Or.inl rfl) (pe_callB call_len_seq (by rfl) m_len (by decide +kernel) (pa_cons (pe_ix (show IxR _ (rIxT K) from ix_tup) (pv 4) pe_int (fun _ _ => rfl)) pa_nil)))
      (pss_cons (ps_set (i := 6) sc.nd rfl (Or.inl rfl) (pe_callB call_len_seq (by rfl) m_len (by decide +kernel) (pa_cons (pe_ix (show IxR _ (rIxT K) from ix_tup) (pv 4) pe_int (fun _ _ => rfl)) pa_nil)))
      (pss_cons (ps_set (i := 7) sc.nd rfl (Or.inl rfl) (pe_cal c_repeats_from hr_repeats_from rfl (pa_cons (pv 4) pa_nil)))
      (pss_cons (ps_if (pt_cmp (pc_isN (pv 7))) (pss_one (ps_ret (pe_tup (pa_cons (pe_cal c_stretch_of hr_stretch_of rfl (pa_cons (pv 4) (pa_cons (pe_un un_neg (pv 6)) (pa_cons pe_int pa_nil)))) (pa_cons (pe_tup pa_nil) (pa_cons (pe_cal c_stretch_of hr_stretch_of rfl (pa_cons (pv 4) (pa_cons pe_int (pa_cons (pv 6) pa_nil)))) (pa_cons pe_int pa_nil))))))) pss_nil)
      (pss_cons (ps_set (i := 8) sc.nd rfl (Or.inl rfl) (pe_callB (call_min2 rfl) (by rfl) m_min (by decide +kernel) (pa_cons (pv 7) (pa_cons (pe_cal c_repeats_below hr_repeats_below rfl (pa_cons (pv 4) pa_nil)) pa_nil))))
      (pss_one (ps_ret (pe_tup (pa_cons (pe_cal c_stretch_of hr_stretch_of rfl (pa_cons (pv 4) (pa_cons (pe_op op_sub (pv 8) (pv 5)) (pa_cons (pv 8) pa_nil)))) (pa_cons (pe_cal c_stretch_of hr_stretch_of rfl (pa_cons (pv 4) (pa_cons (pv 8) (pa_cons (pv 7) pa_nil)))) (pa_cons (pe_cal c_stretch_of hr_stretch_of rfl (pa_cons (pv 4) (pa_cons (pv 7) (pa_cons (pe_op op_add (pv 7) (pv 6)) pa_nil)))) (pa_cons (pv 8) pa_nil))))))))))))), ?_⟩
    refine ⟨_, rfl, l, _, rfl, h4.left, ho.l1, by omega, fun l2 H1 d1 s1 mw1 hl2 => ?_⟩
    refine ⟨_, rfl, ?_⟩
    refine ⟨_, rfl, r, _, rfl, same_T s1 h4.right, ho.r1, by omega, fun r2 H2 d2 s2 mw2 hr2 => ?_⟩
    refine ⟨_, rfl, (by show 4 ≤ sizeLine; decide), fun p hp => ?_⟩
    have s3 : Same H2 (upd H2 p (.tup [.ref l2, .ref t, .ref r2, .int g.start])) := Same.new hp
    have h3p : SqT K (upd H2 p (.tup [.ref l2, .ref t, .ref r2, .int g.start])) p [.ref l2, .ref t, .ref r2, .int g.start] := SqT.of upd_same
    generalize upd H2 p (.tup [.ref l2, .ref t, .ref r2, .int g.start]) = H3 at s3 h3p
    have d1l : d1 ≤ g.left.length := mw1.1.le ho.l1
    have d2l : d2 ≤ g.right.length := mw2.1.le ho.r1
    have s03 := s1.trans (s2.trans s3)
    let f0 : Form := ⟨g.left.take d1, g.told, g.right.take d2, g.start⟩
    have h04 : Fm4 K H3 l2 t r2 f0 := ⟨same_T s3 (same_T s2 hl2), same_T s03 h4.told, same_T s3 hr2⟩
    have hv0 : FmV K H3 (.ref p) f0 := ⟨p, l2, t, r2, rfl, h3p, h04⟩
    have le1 : f0.left.length = d1 := take_len d1l
    have le2 : f0.right.length = d2 := take_len d2l
    have ho0 : Ok f0 := ⟨by rw [le1]; exact mw1.1.1, by rw [le2]; exact mw2.1.1⟩
    have eg : sign f0 = sign g := funext fun c => sign_short ho.l1 ho.r1 mw1.1 mw2.1 c
    have mR : MinR (sign g) d2 := (sign_RT (f := g)).min ho.r1 mw2
    have mL : MinL (sign g) d1 := (sign_LT (f := g)).min ho.l1 mw1
    have dd1 := mw1.1.1
    have dd2 := mw2.1.1
    refine ⟨_, rfl, p, _, _, _, rfl, rfl, h3p, rfl, l2, _, rfl, .inr h04.left, ?_⟩
    rw [len_nv, le1]
    refine ⟨_, rfl, p, _, _, _, rfl, rfl, h3p, rfl, r2, _, rfl, .inr h04.right, ?_⟩
    rw [len_nv, le2]
    have perL : PerL (sign g) d1 g.start := by
      have := (sign_LT (f := f0)).per ho0.l1
      rw [le1, eg] at this
      exact this
    refine ⟨_, rfl, _, f0, rfl, hv0, ho0, fun pr => ?_, fun e he e1 e2 => ?_⟩
    · rw [le2, eg] at pr
      have lo : lowE f0 = g.start - (d1 : Int) - (d2 : Int) := by
        unfold lowE
        rw [le1, le2]
      rw [lo] at pr
      refine ⟨_, rfl, _, rfl, iteT_of (decide_eq_true rfl) ?_⟩
      refine ⟨_, rfl, _, rfl, _, rfl, _, _, _, f0, rfl, hv0, ho0, by omega, by omega, by omega, fun a1 H4 s4 ha1 => ?_⟩
      refine ⟨Nat.zero_le _, fun a2 ha2 => ?_⟩
      have s5 : Same H4 (upd H4 a2 (.tup [])) := Same.new ha2
      have ha2' : SqT K (upd H4 a2 (.tup [])) a2 (nv []) := SqT.of upd_same
      generalize upd H4 a2 (.tup []) = H5 at s5 ha2'
      refine ⟨_, rfl, _, rfl, _, _, _, f0, rfl, (hv0.same s4).same s5, ho0, by omega, by omega, by omega, fun a3 H6 s6 ha3 => ?_⟩
      refine ⟨(by show 4 ≤ sizeLine; decide), fun p4 hp4 => ?_⟩
      rw [eg] at ha1 ha3
      rw [show (0 - -(d2 : Int)).toNat = d2 by omega] at ha1
      rw [show ((d2 : Int) - 0).toNat = d2 by omega] at ha3
      have s7 : Same H6 (upd H6 p4 (.tup [.ref a1, .ref a2, .ref a3, .int 0])) := Same.new hp4
      refine q _ _ ⟨cells (sign g) (-(d2 : Int)) d2, [], cells (sign g) 0 d2, 0⟩ (s03.trans (s4.trans (s5.trans (s6.trans s7)))) ⟨p4, a1, a2, a3, rfl, SqT.of upd_same, same_T s7 (same_T s6 (same_T s5 ha1)), same_T s7 (same_T s6 ha2'), same_T s7 ha3⟩ (least_all mR mL perL mw1.1.1 pr (Int.le_refl _)) ⟨?_, Nat.zero_le _, ?_, Nat.zero_le _⟩
      · show (cells _ _ _).length ≤ n
        rw [cells_len]
        omega
      · show (cells _ _ _).length ≤ n
        rw [cells_len]
        omega
    · rw [le2, eg] at he
      have e1 : g.start - (d1 : Int) - (d2 : Int) < e := by
        have : lowE f0 = g.start - (d1 : Int) - (d2 : Int) := by
          unfold lowE
          rw [le1, le2]
        omega
      have e2 : e ≤ g.start + (g.told.length : Int) := e2
      refine ⟨_, rfl, _, rfl, iteF_of (decide_eq_false (by simp)) ?_⟩
      refine ⟨_, rfl, _, rfl, _, f0, rfl, hv0, ho0, ?_, fun b hb' b1 => ?_⟩
      · rw [le2, eg]
        exact fun z => he.2 (z _)
      rw [le1, eg] at hb'
      have b1 : g.start ≤ b := b1
      refine ⟨_, _, rfl, ?_⟩
      have em : (if b < e then b else e) = min e b := by
        split <;> omega
      rw [em]
      refine ⟨_, rfl, _, rfl, _, rfl, _, _, rfl, rfl, _, rfl, _, _, _, f0, rfl, hv0, ho0, by omega, by omega, by omega, fun a1 H4 s4 ha1 => ?_⟩
      refine ⟨_, rfl, _, rfl, _, rfl, _, _, _, f0, rfl, hv0.same s4, ho0, by omega, by omega, by omega, fun a2 H5 s5 ha2 => ?_⟩
      refine ⟨_, rfl, _, rfl, _, rfl, _, rfl, _, _, rfl, rfl, _, _, _, f0, rfl, (hv0.same s4).same s5, ho0, by omega, by omega, by omega, fun a3 H6 s6 ha3 => ?_⟩
      refine ⟨_, rfl, (by show 4 ≤ sizeLine; decide), fun p4 hp4 => ?_⟩
      rw [eg] at ha1 ha2 ha3
      rw [show (min e b - (min e b - (d1 : Int))).toNat = d1 by omega] at ha1
      rw [show (e + (d2 : Int) - e).toNat = d2 by omega] at ha3
      have s7 : Same H6 (upd H6 p4 (.tup [.ref a1, .ref a2, .ref a3, .int (min e b)])) := Same.new hp4
      refine q _ _ ⟨cells (sign g) (min e b - d1) d1, cells (sign g) (min e b) (e - min e b).toNat, cells (sign g) e d2, min e b⟩ (s03.trans (s4.trans (s5.trans (s6.trans s7)))) ⟨p4, a1, a2, a3, rfl, SqT.of upd_same, same_T s7 (same_T s6 (same_T s5 ha1)), same_T s7 (same_T s6 ha2), same_T s7 ha3⟩ (least_some mR mL he hb') ⟨?_, ?_, ?_, ?_⟩
      · show (cells _ _ _).length ≤ n
        rw [cells_len]
        omega
      · show (cells _ _ _).length ≤ m
        rw [cells_len]
        omega
      · show (cells _ _ _).length ≤ n
        rw [cells_len]
        omega
      · show (min e b).natAbs ≤ _
        omega
end
end K02
set_option Elab.async false
set_option linter.all false
set_option maxRecDepth 100000
set_option maxHeartbeats 4000000
namespace L2
open PySem PySem.Spec PyProof.Rows
/-! ### error classes whose __init__ stores its arguments and a code -/
/-- what such a class leaves of a call -/
def fsOf (code : Str) (xs : List Str) (vs : List V) : List (Str × V) := (("code" : Str), .str code) :: (xs.zip vs).reverse
def spIni (C : Addr) (xs : List Str) (code : Str) : Sp := fun vs H Q _ => ∃ (a : Addr) (us : List V), vs = .ref a :: us ∧ us.length = xs.length ∧ H a = some (exo a C none) ∧
  ∀ d H2, H d = none → (∀ b o, b ≠ a → H b = some o → H2 b = some o) → H2 a = some (exo a C (some d)) → H2 d = some (exd d (fsOf code xs us)) → Q .non H2
section
variable {P : Program} {w : World} {K : PySem.W.Frag} {mg : Str → Option Value} {base : Heap} {qual : Str} {params : Arguments} {scope : Scope} {f C : Addr} {fd : FuncData} {B newId : String} {bmB : List Value} {x y code : Str} {p1 p2 p3 p4 q1 q2 q3 q4 r1 r2 r3 r4 : Pos} {j : Nat}
abbrev iniSt (x : Str) (p1 p2 p3 p4 : Pos) : Stmt := .Assign [.Attribute (.Name "self" p1) x p2] (.Name x p3) p4
abbrev codeSt (code : Str) (j : Nat) (q1 q2 q3 q4 : Pos) : Stmt := .Assign [.Attribute (.Name "self" q1) "code" q2] (.Constant (.str code) j q3) q4
theorem ok_ini0 (SF : StoreFacts B bmB "object.__setattr__" "object") (T : OxB K C bmB newId) (nc : PySem.W.findIn K (.ref C) "code" = some none) (S : FnScope ["self"] ["self"] scope) (v0 : scope.names.lookup ("self" : Str) = some .local)
    (F : FunD K "__init__" qual params [codeSt code j q1 q2 q3 q4] scope [] [] f fd) : FnOk P w K mg base CX0 1 f fd ["self"] (spIni C [] code) := by
  refine F.ok S (fun vs H Q E h => ?_) (fun cdv A outer s H vs Q E hr h => ?_)
  · obtain ⟨a, us, rfl, hl, _⟩ := h
    cases us with
    | nil => rfl
    | cons _ _ => cases hl
  · obtain ⟨a, us, rfl, hl, ha, k⟩ := h
    cases us with
    | cons _ _ => cases hl
    | nil =>
      refine ⟨_, PSs.nox (pss_one (ps_oxb (newId := newId) SF (pe_var (i := 0) rfl (.inl v0)) pe_str)), ?_⟩
      refine ⟨_, rfl, a, C, rfl, T, nc, .inl ⟨ha, fun d hd nda => ?_⟩⟩
      refine k d _ hd (fun b o n e => ?_) upd_same ?_
      · rw [upd_ne n, upd_ne (ne_of_none e hd)]
        exact e
      · rw [upd_ne nda]
        exact upd_same
theorem ok_ini1 (SF : StoreFacts B bmB "object.__setattr__" "object") (T : OxB K C bmB newId) (nx : PySem.W.findIn K (.ref C) x = some none) (nc : PySem.W.findIn K (.ref C) "code" = some none) (S : FnScope ["self", x] ["self", x] scope) (v0 : scope.names.lookup ("self" : Str) = some .local) (v1 : scope.names.lookup x = some .local)
    (hd1 : (x == ("__debug__" : Str)) = false) (hd2 : (x == ("__classdict__" : Str)) = false)
    (F : FunD K "__init__" qual params [iniSt x p1 p2 p3 p4, codeSt code j q1 q2 q3 q4] scope [] [] f fd) : FnOk P w K mg base CX0 1 f fd ["self", x] (spIni C [x] code) := by
  refine F.ok S (fun vs H Q E h => ?_) (fun cdv A outer s H vs Q E hr h => ?_)
  · obtain ⟨a, us, rfl, hl, _⟩ := h
    match us, hl with
    | [_], _ => rfl
  · obtain ⟨a, us, rfl, hl, ha, k⟩ := h
    match us, hl with
    | [v], _ =>
      refine ⟨_, PSs.nox (pss_cons (ps_oxb (newId := newId) SF (pe_var (i := 0) rfl (.inl v0)) (pe_var (i := 1) rfl (.inl v1) hd1 hd2)) (pss_one (ps_oxb (newId := newId) SF (pe_var (i := 0) rfl (.inl v0)) pe_str))), ?_⟩
      refine ⟨_, rfl, _, rfl, a, C, rfl, T, nx, .inl ⟨ha, fun d hd nda => ?_⟩⟩
      refine ⟨_, rfl, a, C, rfl, T, nc, .inr ⟨d, _, upd_same, by rw [upd_ne nda]; exact upd_same, (by show 1 ≤ 900; decide), ?_⟩⟩
      refine k d _ hd (fun b o n e => ?_) ?_ upd_same
      · rw [upd_ne (ne_of_none e hd), upd_ne n, upd_ne (ne_of_none e hd)]
        exact e
      · rw [upd_ne nda.symm]
        exact upd_same
theorem ok_ini2 (SF : StoreFacts B bmB "object.__setattr__" "object") (T : OxB K C bmB newId) (nx : PySem.W.findIn K (.ref C) x = some none) (ny : PySem.W.findIn K (.ref C) y = some none) (nc : PySem.W.findIn K (.ref C) "code" = some none) (S : FnScope ["self", x, y] ["self", x, y] scope)
    (v0 : scope.names.lookup ("self" : Str) = some .local) (v1 : scope.names.lookup x = some .local) (v2 : scope.names.lookup y = some .local)
    (hd1 : (x == ("__debug__" : Str)) = false) (hd2 : (x == ("__classdict__" : Str)) = false) (hd3 : (y == ("__debug__" : Str)) = false) (hd4 : (y == ("__classdict__" : Str)) = false)
    (F : FunD K "__init__" qual params [iniSt x p1 p2 p3 p4, iniSt y r1 r2 r3 r4, codeSt code j q1 q2 q3 q4] scope [] [] f fd) : FnOk P w K mg base CX0 1 f fd ["self", x, y] (spIni C [x, y] code) := by
  refine F.ok S (fun vs H Q E h => ?_) (fun cdv A outer s H vs Q E hr h => ?_)
  · obtain ⟨a, us, rfl, hl, _⟩ := h
    match us, hl with
    | [_, _], _ => rfl
  · obtain ⟨a, us, rfl, hl, ha, k⟩ := h
    match us, hl with
    | [v, u], _ =>
      refine ⟨_, PSs.nox (pss_cons (ps_oxb (newId := newId) SF (pe_var (i := 0) rfl (.inl v0)) (pe_var (i := 1) rfl (.inl v1) hd1 hd2)) (pss_cons (ps_oxb (newId := newId) SF (pe_var (i := 0) rfl (.inl v0)) (pe_var (i := 2) rfl (.inl v2) hd3 hd4)) (pss_one (ps_oxb (newId := newId) SF (pe_var (i := 0) rfl (.inl v0)) pe_str)))), ?_⟩
      refine ⟨_, rfl, _, rfl, a, C, rfl, T, nx, .inl ⟨ha, fun d hd nda => ?_⟩⟩
      refine ⟨_, rfl, _, rfl, a, C, rfl, T, ny, .inr ⟨d, _, upd_same, by rw [upd_ne nda]; exact upd_same, (by show 1 ≤ 900; decide), ?_⟩⟩
      refine ⟨_, rfl, a, C, rfl, T, nc, .inr ⟨d, _, by rw [upd_ne nda.symm]; exact upd_same, upd_same, (by show 2 ≤ 900; decide), ?_⟩⟩
      refine k d _ hd (fun b o n e => ?_) ?_ upd_same
      · rw [upd_ne (ne_of_none e hd), upd_ne (ne_of_none e hd), upd_ne n, upd_ne (ne_of_none e hd)]
        exact e
      · rw [upd_ne nda.symm, upd_ne nda.symm]
        exact upd_same
/-! ### binding by position and by name -/
theorem kbn_of {body : List Stmt} {ps ks : List Str} {n : Nat} (F : FunD K "__init__" qual params body scope [] [] f fd) (g : {α : Type} → List α → List α → List α)
    (hrel : ∀ {vs zs : List V} {us ws : List Value}, Vals vs us → Vals zs ws → Vals (g vs zs) (g us ws))
    (h : ∀ (kV doc pm : Value) (an : Option Addr) (cdv ct : Value) (us ws : List Value), us.length = n → ws.length = ks.length → bindArgs (PySem.W.fnOf "__init__" qual params body scope .none kV doc pm an cdv ct) ⟨us, ks.zip ws⟩ = pure (ps.zip (g us ws))) :
    KBn K fd ps n ks (fun us ws => g us ws) (fun vs zs => g vs zs) := by
  obtain ⟨oc, od, dV, kV, doc, pm, an, cdv, ct, osl, rfl, lk, hcd, hD, hK⟩ := F.ex
  rcases hD with ⟨_, rfl⟩ | ⟨e, _⟩
  · exact ⟨fun s us ws _ l1 l2 => .of_eq (h kV doc pm an cdv ct us ws l1 l2), fun r1 r2 => hrel r1 r2⟩
  · exact absurd rfl e
/-- the places in the parameters' order: self, then (by name) the keywords' values turned as sw says -/
def gPos {α : Type} (us ws : List α) : List α := us
def gNam {α : Type} (us ws : List α) : List α := us ++ ws
def gTurn {α : Type} (us ws : List α) : List α := us ++ ws.reverse
/-- an error class as the law's defs see it: at C, over a base, with these fields -/
structure Ecl (P : Program) (w : World) (K : PySem.W.Frag) (mg : Str → Option Value) (base : Heap) (x : Str) (C : Addr) (bmB : List Value) (newId : String) (xs : List Str) : Prop where
  ox : OxB K C bmB newId
  gC : mg x = some (.ref C)
  no : ∀ y ∈ ("code" : Str) :: xs, PySem.W.findIn K (.ref C) y = some none
  ini : ∃ (B initId : String) (fI : Addr) (fd : FuncData), ExcBaseFacts B newId initId bmB ∧ PySem.W.findIn K (.ref C) "__init__" = some (some (.ref fI)) ∧ PySem.W.typeIn K (.ref fI) = some (.type "function") ∧
    FnOk P w K mg base CX0 1 fI fd ("self" :: xs) (spIni C xs x) ∧ KBn K fd ("self" :: xs) (xs.length + 1) [] (fun us ws => gPos us ws) (fun us ws => gPos us ws) ∧
    (xs ≠ [] → KBn K fd ("self" :: xs) 1 xs.reverse (fun us ws => gTurn us ws) (fun us ws => gTurn us ws)) ∧ Binds K fd ("self" :: xs) []
/-- the call's wish: a new exception with these fields -/
def rMade (x : Str) (C : Addr) (xs : List Str) (vs : List V) (H : Hp) (Q : VK) : Prop := vs.length = xs.length ∧ ∀ a H2, H a = none → Same H H2 → ExV H2 a C (fsOf x xs vs) → Q (.ref a) H2
end
section
variable {X : Cx} {x : Str} {C : Addr} {bmB : List Value} {newId : String} {xs : List Str} {p pos : Pos} {e : Expr} {es : List Expr} {kws : List Keyword} {t tk : TA}
theorem rMkB_of {g : List V → List V → List V} {vs zs us : List V} {H : Hp} {Q : VK} (hg : ∀ a, g (.ref a :: vs) zs = .ref a :: us) (hz : vs.length ≤ 1000) (h : rMade x C xs us H Q) : rMkB C (spIni C xs x) g vs zs H Q := by
  refine ⟨hz, fun a ha => ⟨a, us, hg a, h.1, upd_same, fun d H2 hd hs h1 h2 => ⟨rfl, h.2 a H2 ha (fun b o e => ?_) ⟨d, h1, h2⟩⟩⟩⟩
  exact hs b o (ne_of_none e ha) (by rw [upd_ne (ne_of_none e ha)]; exact e)
theorem pe_ecl (c : Ecl X.prog X.w X.K X.mg X.base x C bmB newId xs) (hl : xs.length ≤ 1000) (hr : Room 2 X.A) (hg : Gl X x) (ha : PA X (e :: es) t)
    (hdb : (x == ("__debug__" : Str)) = false := by decide) (he : starEach (e :: es) X.env = (false, eval e X.env) :: starEach es X.env := by rfl) (hpl : (backTo pos (starEach es X.env)).any (·.1) = false := by rfl) :
    PE X (.Call (.Name x p) (e :: es) [] pos) (fun σ H Q => t σ H fun vs H1 => rMade x C xs vs H1 Q) := by
  obtain ⟨B, initId, fI, fd, F, iC, tI, F1, b1, b2, b3⟩ := c.ini
  refine ⟨fun pins s σ H Q I h => ?_⟩
  refine wpAny_Call_Name_kw (ld_glob I hg c.gC ?_ hdb)
  refine PySem.W.callWith_K (h₀ := X.base) I.ok.mod.kin c.ox.kC (thn (ha.run pos pins s σ H _ I h) fun us s1 ⟨vs, H1, I1, r1, q1⟩ => ⟨I1.kIn, ?_⟩) he hpl
  exact run_mkB (ks := []) (ws := []) F c.ox iC tI F1 hr b1 pass0 I1 r1 .nil q1.1 rfl (rMkB_of (fun a => rfl) (by rw [q1.1]; exact hl) q1)
theorem pe_ecl0 (c : Ecl X.prog X.w X.K X.mg X.base x C bmB newId []) (hr : Room 2 X.A) (hg : Gl X x)
    (hdb : (x == ("__debug__" : Str)) = false := by decide) :
    PE X (.Call (.Name x p) [] [] pos) (fun _ H Q => rMade x C [] [] H Q) := by
  obtain ⟨B, initId, fI, fd, F, iC, tI, F1, b1, b2, b3⟩ := c.ini
  refine ⟨fun pins s σ H Q I h => ?_⟩
  refine wpAny_Call_Name_kw (ld_glob I hg c.gC ?_ hdb)
  refine PySem.W.callWith_K0 I.kIn c.ox.kC ?_
  exact run_mkB (n := 0) (ks := []) (ws := []) F c.ox iC tI F1 hr b1 pass0 I .nil .nil rfl rfl (rMkB_of (fun a => rfl) (Nat.zero_le _) h)
theorem pe_eclK (c : Ecl X.prog X.w X.K X.mg X.base x C bmB newId xs) (hne : xs ≠ []) (hr : Room 2 X.A) (hg : Gl X x)
    (hkw : PK X kws tk) (hall : (backToKw pos (keywordEach kws X.env)).all (·.1.isSome) = true := by rfl) (hks : (backToKw pos (keywordEach kws X.env)).filterMap (·.1) = xs.reverse := by rfl)
    (hdb : (x == ("__debug__" : Str)) = false := by decide) (hpl : ((backTo pos (starEach [] X.env)).any (·.1) || (backToKw pos (keywordEach kws X.env)).any (·.1.isNone)) = false := by rfl) :
    PE X (.Call (.Name x p) [] kws pos) (fun σ H Q => tk σ H fun zs H1 => rMade x C xs zs.reverse H1 Q) := by
  obtain ⟨B, initId, fI, fd, F, iC, tI, F1, b1, b2, b3⟩ := c.ini
  refine ⟨fun pins s σ H Q I h => ?_⟩
  refine wpAny_Call_Name_kw (ld_glob I hg c.gC ?_ hdb)
  refine PySem.W.callWith_KW0 (h₀ := X.base) I.ok.mod.kin c.ox.kC hall ?_ hpl
  refine thn (hkw.run pos pins s σ H _ I h) fun ws s2 ⟨zs, H2, I2, rz, q2⟩ => ⟨I2.kIn, ?_⟩
  rw [hks]
  have l2 : zs.length = xs.reverse.length := by
    rw [List.length_reverse, ← q2.1, List.length_reverse]
  exact run_mkB (n := 0) F c.ox iC tI F1 hr (b2 hne) pass0 I2 .nil rz rfl l2 (rMkB_of (fun a => rfl) (Nat.zero_le _) q2)
/-- raised -/
theorem pmk_ecl (c : Ecl X.prog X.w X.K X.mg X.base x C bmB newId xs) (hl : xs.length ≤ 1000) (hr : Room 2 X.A) (hg : Gl X x) (ha : PA X (e :: es) t)
    (hdb : (x == ("__debug__" : Str)) = false := by decide) (he : starEach (e :: es) X.env = (false, eval e X.env) :: starEach es X.env := by rfl) (hpl : (backTo pos (starEach es X.env)).any (·.1) = false := by rfl) :
    PMk X (.Call (.Name x p) (e :: es) [] pos) (fun σ H Q => t σ H fun vs H1 => vs.length = xs.length ∧ ∀ d H2, H1 d = none → Same H1 H2 → H2 d = some (.xd (fsOf x xs vs)) → Q (.ref C) (some d) H2) := by
  obtain ⟨B, initId, fI, fd, F, iC, tI, F1, b1, b2, b3⟩ := c.ini
  intro pins s σ H Q I h
  refine wpAny_Call_Name_kw (ld_glob I hg c.gC ?_ hdb)
  refine PySem.W.callWith_K (h₀ := X.base) I.ok.mod.kin c.ox.kC (thn (ha.run pos pins s σ H _ I h) fun us s1 ⟨vs, H1, I1, r1, hz, q1⟩ => ⟨I1.kIn, ?_⟩) he hpl
  refine run_pmkB F c.ox iC tI F1 hr b3 pass0 I1 r1 (by rw [hz]; exact hl) fun a ha => ⟨a, vs, rfl, hz, upd_same, fun d H2 hd hs h1 h2 => ⟨rfl, d, _, h1, h2, ?_, q1 d _ ?_ (fun b o e => ?_) upd_same⟩⟩
  · have nd : d ≠ a := fun z => by rw [z, upd_same] at hd; cases hd
    rw [upd_ne nd] at hd
    exact hd
  · have nd : d ≠ a := fun z => by rw [z, upd_same] at hd; cases hd
    rw [upd_ne nd] at hd
    exact hd
  · have nd : d ≠ a := fun z => by rw [z, upd_same] at hd; cases hd
    rw [upd_ne nd] at hd
    have nba := ne_of_none e ha
    rw [upd_ne (ne_of_none e hd), del_ne nba]
    exact hs b o nba (by rw [upd_ne nba]; exact e)
theorem pmk_ecl0 (c : Ecl X.prog X.w X.K X.mg X.base x C bmB newId []) (hr : Room 2 X.A) (hg : Gl X x)
    (hdb : (x == ("__debug__" : Str)) = false := by decide) :
    PMk X (.Call (.Name x p) [] [] pos) (fun _ H1 Q => ∀ d H2, H1 d = none → Same H1 H2 → H2 d = some (.xd (fsOf x [] [])) → Q (.ref C) (some d) H2) := by
  obtain ⟨B, initId, fI, fd, F, iC, tI, F1, b1, b2, b3⟩ := c.ini
  intro pins s σ H1 Q I q1
  refine wpAny_Call_Name_kw (ld_glob I hg c.gC ?_ hdb)
  refine PySem.W.callWith_K0 I.kIn c.ox.kC ?_
  refine run_pmkB F c.ox iC tI F1 hr b3 pass0 I .nil (Nat.zero_le _) fun a ha => ⟨a, [], rfl, rfl, upd_same, fun d H2 hd hs h1 h2 => ⟨rfl, d, _, h1, h2, ?_, q1 d _ ?_ (fun b o e => ?_) upd_same⟩⟩
  · have nd : d ≠ a := fun z => by rw [z, upd_same] at hd; cases hd
    rw [upd_ne nd] at hd
    exact hd
  · have nd : d ≠ a := fun z => by rw [z, upd_same] at hd; cases hd
    rw [upd_ne nd] at hd
    exact hd
  · have nd : d ≠ a := fun z => by rw [z, upd_same] at hd; cases hd
    rw [upd_ne nd] at hd
    have nba := ne_of_none e ha
    rw [upd_ne (ne_of_none e hd), del_ne nba]
    exact hs b o nba (by rw [upd_ne nba]; exact e)
end
end L2
set_option Elab.async false
set_option linter.all false
set_option maxRecDepth 100000
set_option maxHeartbeats 4000000
namespace K02
open PySem PySem.Spec PyProof.Rows L2 RowM
/-- a new exception of the class at C with these fields leaves -/
def Out (C : Addr) (x : Str) (xs : List Str) (vs : List V) (H : Hp) (E : XK) : Prop := ∀ d H2, H d = none → Same H H2 → H2 d = some (.xd (fsOf x xs vs)) → E (.ref C) (some d) H2
theorem same_free {H H1 : Hp} (s : Same H H1) {d : Addr} (h : H1 d = none) : H d = none := s.free h
theorem Out.same {C : Addr} {x : Str} {xs : List Str} {vs : List V} {H H1 : Hp} {E : XK} (h : Out C x xs vs H E) (s : Same H H1) : Out C x xs vs H1 E := fun d H2 hd s2 e => h d H2 (same_free s hd) (s.trans s2) e
theorem wh_cases {K : PySem.W.Frag} {b : Addr} {H : Hp} {n : Nat} {d : D} {v : V} {lo hi : Int} (h : Rp K b H n d v) (e : wh lo hi d = false) : (∃ i : Int, v = .int i ∧ (decide (lo ≤ i) && decide (i ≤ hi)) = false) ∨ Wh K H v false := by
  by_cases c : isI d = true
  · refine .inl ⟨num d, h.int c, ?_⟩
    rw [isI_num c] at e
    exact e
  · have := h.Wh
    rw [Bool.eq_false_iff.mpr c] at this
    exact .inr this
/-! ### a row -/
abbrev rowF (l t r : Addr) (s : Int) : List (Str × V) := [("left", .ref l), ("told", .ref t), ("right", .ref r), ("start", .int s)]
def RowV (K : PySem.W.Frag) (C : Addr) (H : Hp) (v : V) (f : Form) : Prop := ∃ (a dx l t r : Addr), v = .ref a ∧ H a = some (.ins C dx (rowF l t r f.start)) ∧ Fm4 K H l t r f
theorem RowV.same {K : PySem.W.Frag} {C : Addr} {H H' : Hp} {v : V} {f : Form} (s : Same H H') (h : RowV K C H v f) : RowV K C H' v f := by
  obtain ⟨a, dx, l, t, r, e, ha, h4⟩ := h
  exact ⟨a, dx, l, t, r, e, s _ _ ha, h4.same s⟩
theorem sqT_ins {K : PySem.W.Frag} {H : Hp} {a p C dx : Addr} {fs : List (Str × V)} {o : HO} {xs : List V} (ha : H a = some (.ins C dx fs)) (h : SqT K H p xs) : SqT K (upd H a o) p xs := by
  rcases h with (h | ⟨u, h⟩) | h
  · exact .inl (.inl (by rw [upd_ne (fun z => by rw [z, ha] at h; cases h)]; exact h))
  · exact .inl (.inr ⟨u, by rw [upd_ne (fun z => by rw [z, ha] at h; cases h)]; exact h⟩)
  · exact .inr h
theorem Fm4.ins {K : PySem.W.Frag} {H : Hp} {a C dx : Addr} {fs : List (Str × V)} {o : HO} {l t r : Addr} {f : Form} (ha : H a = some (.ins C dx fs)) (h : Fm4 K H l t r f) : Fm4 K (upd H a o) l t r f := ⟨sqT_ins ha h.left, sqT_ins ha h.told, sqT_ins ha h.right⟩
/-- all signs are some -/
def Sg (xs : List Nat) : Prop := ∀ x ∈ xs, x < 64
structure Sgs (f : Form) : Prop where
  l : Sg f.left
  t : Sg f.told
  r : Sg f.right
theorem word_nv {xs : List Nat} (h : Sg xs) : wordD 63 (.seq true (xs.map nD)) = true := by
  unfold wordD
  show (true && (xs.map nD).all (wh 0 63)) = true
  rw [Bool.true_and, List.all_eq_true]
  intro d hd
  obtain ⟨x, hx, rfl⟩ := List.mem_map.mp hd
  have := h x hx
  exact wh_of (by omega) (by omega)
theorem ring_nv {xs : List Nat} (h : Sg xs) (l : 1 ≤ xs.length) : ringD 63 (.seq true (xs.map nD)) = true := by
  unfold ringD
  rw [word_nv h]
  show (true && decide (0 < (xs.map nD).length)) = true
  rw [List.length_map, decide_eq_true (by omega)]
  rfl
section
variable {P : Program} {w : World} {K : PySem.W.Frag} {mg : Str → Option Value} {base : Heap}
def kept (a : Addr) (H H' : Hp) : Prop := ∀ c o, c ≠ a → H c = some o → H' c = some o
def spInit (K : PySem.W.Frag) (C CW CI : Addr) : Sp := fun vs H Q E => ∃ (a dx : Addr) (xl xt xr xs : V), vs = [.ref a, xl, xt, xr, xs] ∧ H a = some (.ins C dx []) ∧
  ((∃ (l t r : Addr) (f : Form) (n m z : Nat), xl = .ref l ∧ xt = .ref t ∧ (xr = .ref r ∨ (xr = .non ∧ r = l)) ∧ xs = .int f.start ∧ Fm4 K H l t r f ∧ Ok f ∧ Sgs f ∧ f.start.natAbs ≤ 9999 ∧ Big f n m z ∧ n ≤ 900 ∧ m ≤ 900 ∧ z ≤ 2 ^ 40 ∧
    ∀ H' l' t' r' f', kept a H H' → H' a = some (.ins C dx (rowF l' t' r' f'.start)) → Fm4 K H' l' t' r' f' → Least (sign f) f' → Big f' n m (z + m + 2 * n) → Q .non H') ∨
   ∃ (b : Addr) (k : Nat) (dl dt dr ds : D), Rp K b H k dl xl ∧ Rp K b H k dt xt ∧ Rp K b H k dr xr ∧ Rp K b H k ds xs ∧
    ((ringD 63 dl = false ∧ Out CW "InvalidWord" ["value"] [xl] H E) ∨ (ringD 63 dl = true ∧ wordD 63 dt = false ∧ Out CW "InvalidWord" ["value"] [xt] H E) ∨
     (ringD 63 dl = true ∧ wordD 63 dt = true ∧ xr ≠ .non ∧ ringD 63 dr = false ∧ Out CW "InvalidWord" ["value"] [xr] H E) ∨
     (ringD 63 dl = true ∧ wordD 63 dt = true ∧ (xr = .non ∨ ringD 63 dr = true) ∧ wh (-9999) 9999 ds = false ∧ Out CI "InvalidNumber" ["value"] [xs] H E)))
theorem sc_init : FnScope ["self", "left", "told", "right", "start", "form"] ["self", "left", "told", "right", "start"] (defScope (methOf (top 25) 0)) := ⟨rfl, rfl, rfl, by decide +kernel, rfl, by decide +kernel, by decide +kernel⟩
theorem ok_init {f : Addr} {fd : FuncData} {C CW CI : Addr} {b1 b2 : List Value} {n1 n2 : String} {t_ALL_SIGNS t_FARTHEST : Tok} {dvs : List V} {dks : List (Str × V)} (F : FunD K "__init__" "Row.__init__" (defArgs (methOf (top 25) 0)) (defBody (methOf (top 25) 0)) (defScope (methOf (top 25) 0)) dvs dks f fd) (cl : Cls K C) (na1 : NoAttr K C "left") (na2 : NoAttr K C "told") (na3 : NoAttr K C "right") (na4 : NoAttr K C "start")
    (c_InvalidWord : Ecl P w K mg base "InvalidWord" CW b1 n1 ["value"]) (c_InvalidNumber : Ecl P w K mg base "InvalidNumber" CI b2 n2 ["value"]) (m_ALL_SIGNS : mg "ALL_SIGNS" = some (.int 64 t_ALL_SIGNS)) (m_FARTHEST : mg "FARTHEST" = some (.int 9999 t_FARTHEST)) (c_is_ring : Cal P w K mg base CX0 "is_ring" 4 ["value", "signs"] (spRing K)) (c_is_word : Cal P w K mg base CX0 "is_word" 3 ["value", "signs"] (spWord K)) (c_is_number : Cal P w K mg base CX0 "is_number" 2 ["value", "least", "most"] (spNumber K)) (c_least_form : Cal P w K mg base CX0 "least_form" 3 ["left", "told", "right", "start"] (spLf K)) : FnOk P w K mg base (L2.CX P w) 5 f fd ["self", "left", "told", "right", "start"] (spInit K C CW CI) := by
  have sc := sc_init
  refine F.ok sc (fun vs H Q E h => ?_) (fun cdv A outer s H vs Q E hr h => ?_)
  · obtain ⟨a, dx, xl, xt, xr, xs, rfl, _⟩ := h
    rfl
  · obtain ⟨a, dx, xl, xt, xr, xs, rfl, ha, h⟩ := h
    have hr_ecl : Room 2 _ := hr.mono (by decide)
    have hr_is_ring : Room 4 _ := hr
    have hr_is_word : Room 3 _ := hr.mono (by decide)
    have hr_is_number : Room 2 _ := hr.mono (by decide)
    have hr_least_form : Room 3 _ := hr.mono (by decide)
    refine ⟨_, (pss_cons (ps_if (pt_not (pt_val (pe_cal c_is_ring hr_is_ring rfl (pa_cons (pv 1) (pa_cons (pe_glob (v := .int 64) rfl m_ALL_SIGNS ⟨_, rfl⟩) pa_nil))))) (pss_one (ps_raise rfl (takes_of rfl rfl rfl rfl) (pmk_ecl c_InvalidWord (by decide) hr_ecl rfl (pa_cons (pv 1) pa_nil)))) pss_nil)
      (pss_cons (ps_if (pt_not (pt_val (pe_cal c_is_word hr_is_word rfl (pa_cons (pv 2) (pa_cons (pe_glob (v := .int 64) rfl m_ALL_SIGNS ⟨_, rfl⟩) pa_nil))))) (pss_one (ps_raise rfl (takes_of rfl rfl rfl rfl) (pmk_ecl c_InvalidWord (by decide) hr_ecl rfl (pa_cons (pv 2) pa_nil)))) pss_nil)
      (pss_cons (ps_if (PW.pt (pw_and (pt_cmp (pc_notN (pv 3))) (pw_and1 (pt_not (pt_val (pe_cal c_is_ring hr_is_ring rfl (pa_cons (pv 3) (pa_cons (pe_glob (v := .int 64) rfl m_ALL_SIGNS ⟨_, rfl⟩) pa_nil)))))))) (pss_one (ps_raise rfl (takes_of rfl rfl rfl rfl) (pmk_ecl c_InvalidWord (by decide) hr_ecl rfl (pa_cons (pv 3) pa_nil)))) pss_nil)
      (pss_cons (ps_if (pt_not (pt_val (pe_cal c_is_number hr_is_number rfl (pa_cons (pv 4) (pa_cons (pe_un un_neg (pe_glob (v := .int 9999) rfl m_FARTHEST ⟨_, rfl⟩)) (pa_cons (pe_glob (v := .int 9999) rfl m_FARTHEST ⟨_, rfl⟩) pa_nil)))))) (pss_one (ps_raise rfl (takes_of rfl rfl rfl rfl) (pmk_ecl c_InvalidNumber (by decide) hr_ecl rfl (pa_cons (pv 4) pa_nil)))) pss_nil)
      (pss_cons (ps_set (i := 5) sc.nd rfl (Or.inl rfl) (pe_cal c_least_form hr_least_form rfl (pa_cons (pv 1) (pa_cons (pv 2) (pa_cons (pe_ifExp (pt_cmp (pc_isN (pv 3))) (pv 1) (pv 3)) (pa_cons (pv 4) pa_nil))))))
      (pss_cons (ps_fld (pv 0) (pe_ix (show IxR _ (rIxT K) from ix_tup) (pv 5) pe_int (fun _ _ => rfl)) rfl)
      (pss_cons (ps_fld (pv 0) (pe_ix (show IxR _ (rIxT K) from ix_tup) (pv 5) pe_int (fun _ _ => rfl)) rfl)
      (pss_cons (ps_fld (pv 0) (pe_ix (show IxR _ (rIxT K) from ix_tup) (pv 5) pe_int (fun _ _ => rfl)) rfl)
      (pss_one (ps_fld (pv 0) (pe_ix (show IxR _ (rIxT K) from ix_tup) (pv 5) pe_int (fun _ _ => rfl)) rfl)))))))))), ?_⟩
    rcases h with ⟨l, t, r, g, n, m, z, rfl, rfl, hxr, rfl, h4, ho, hs, hz0, hb, hn, hm, hz, q⟩ | ⟨b, k, dl, dt, dr, ds, hl, ht, hr2, hs, h⟩
    · have bl := hb.l
      have bt := hb.t
      have br := hb.r
      refine ⟨_, rfl, 0, 1, _, _, _, rfl, nv_rp h4.left (by omega), fun H1 s1 => ?_⟩
      rw [grt64, ring_nv hs.l ho.l1]
      refine ⟨_, rfl, iteF ?_⟩
      refine ⟨_, rfl, 0, 1, _, _, _, rfl, nv_rp (same_T s1 h4.told) (by omega), fun H2 s2 => ?_⟩
      rw [grt64, word_nv hs.t]
      refine ⟨_, rfl, iteF ?_⟩
      have hp2 : ∀ {H3 : Hp}, Same H H3 → (xr ≠ .non → ∃ r0, xr = .ref r0 ∧ SqT K H3 r0 (nv g.right)) := fun s3 nn => by
        rcases hxr with rfl | ⟨rfl, _⟩
        · exact ⟨r, rfl, same_T s3 h4.right⟩
        · exact absurd rfl nn
      have s12 := s1.trans s2
      -- the fields
      have fields : ∀ {H3 : Hp} {v : V} {f' : Form}, Same H H3 → FmV K H3 v f' → Least (sign g) f' → Big f' n m (z + m + 2 * n) →
          tSeq (sFld K (tVar 0) (tOp (rIxT K) (tVar 5) (tC (V.int 0))) "left") (tSeq (sFld K (tVar 0) (tOp (rIxT K) (tVar 5) (tC (V.int 1))) "told") (tSeq (sFld K (tVar 0) (tOp (rIxT K) (tVar 5) (tC (V.int 2))) "right") (sFld K (tVar 0) (tOp (rIxT K) (tVar 5) (tC (V.int 3))) "start")))
            { nx := fun _ H' => Q .non H', rt := Q } [some (.ref a), some (.ref l), some (.ref t), some xr, some (.int g.start), some v] H3 := fun {H3 v f'} s3 hv lf big => by
        obtain ⟨p, l', t', r', rfl, hp, h4'⟩ := hv
        have ha3 := s3 _ _ ha
        refine ⟨_, rfl, p, _, _, _, rfl, rfl, hp, rfl, _, rfl, a, C, dx, _, rfl, ha3, cl, na1, (by decide), ?_⟩
        have hp1 : SqT K (upd H3 a (.ins C dx [("left", .ref l')])) p [.ref l', .ref t', .ref r', .int f'.start] := sqT_ins ha3 hp
        refine ⟨_, rfl, p, _, _, _, rfl, rfl, hp1, rfl, _, rfl, a, C, dx, _, rfl, upd_same, cl, na2, (by show 1 < 1000; decide), ?_⟩
        rw [upd_upd]
        have hp2 : SqT K (upd H3 a (.ins C dx [("left", .ref l'), ("told", .ref t')])) p [.ref l', .ref t', .ref r', .int f'.start] := sqT_ins ha3 hp
        refine ⟨_, rfl, p, _, _, _, rfl, rfl, hp2, rfl, _, rfl, a, C, dx, _, rfl, upd_same, cl, na3, (by show 2 < 1000; decide), ?_⟩
        rw [upd_upd]
        have hp3 : SqT K (upd H3 a (.ins C dx [("left", .ref l'), ("told", .ref t'), ("right", .ref r')])) p [.ref l', .ref t', .ref r', .int f'.start] := sqT_ins ha3 hp
        refine ⟨_, rfl, p, _, _, _, rfl, rfl, hp3, rfl, _, rfl, a, C, dx, _, rfl, upd_same, cl, na4, (by show 3 < 1000; decide), ?_⟩
        rw [upd_upd]
        refine q _ l' t' r' f' (fun c o nc e => by rw [upd_ne nc]; exact s3 _ _ e) upd_same (h4'.ins ha3) lf big
      rcases hxr with rfl | ⟨rfl, rfl⟩
      · refine ⟨_, rfl, _, rfl, iteT_of (by simp) ?_⟩
        refine ⟨_, rfl, 0, 1, _, _, _, rfl, nv_rp (same_T s12 h4.right) (by omega), fun H3 s3 => ?_⟩
        rw [grt64, ring_nv hs.r ho.r1]
        refine ⟨_, rfl, iteF ?_⟩
        refine ⟨_, rfl, _, rfl, _, _, _, rfl, .inl ⟨_, rfl, ?_⟩⟩
        rw [decide_eq_true (show (-9999 : Int) ≤ g.start by omega), decide_eq_true (show g.start ≤ 9999 by omega)]
        refine ⟨_, rfl, iteF ?_⟩
        have s13 := s12.trans s3
        refine ⟨_, rfl, _, rfl, _, rfl, _, rfl, iteF_of (decide_eq_false (by simp)) ?_⟩
        exact ⟨_, rfl, _, rfl, l, t, r, g, n, m, z, rfl, h4.same s13, ho, hb, by omega, by omega, hz, fun v H4 f' s4 hv lf big => fields (s13.trans s4) hv lf big⟩
      · refine ⟨_, rfl, _, rfl, iteF_of (by simp) (iteF ?_)⟩
        refine ⟨_, rfl, _, rfl, _, _, _, rfl, .inl ⟨_, rfl, ?_⟩⟩
        rw [decide_eq_true (show (-9999 : Int) ≤ g.start by omega), decide_eq_true (show g.start ≤ 9999 by omega)]
        refine ⟨_, rfl, iteF ?_⟩
        refine ⟨_, rfl, _, rfl, _, rfl, _, rfl, iteT_of (decide_eq_true rfl) ?_⟩
        exact ⟨_, rfl, _, rfl, r, t, r, g, n, m, z, rfl, h4.same s12, ho, hb, by omega, by omega, hz, fun v H4 f' s4 hv lf big => fields (s12.trans s4) hv lf big⟩
    · rcases h with ⟨e1, ke⟩ | ⟨e1, e2, ke⟩ | ⟨e1, e2, nn, e3, ke⟩ | ⟨e1, e2, e3, e4, ke⟩
      · refine ⟨_, rfl, b, k, dl, xl, 64, rfl, hl, fun H1 s1 => ?_⟩
        rw [grt64, e1]
        exact ⟨_, rfl, iteT ⟨_, rfl, rfl, ke.same s1⟩⟩
      · refine ⟨_, rfl, b, k, dl, xl, 64, rfl, hl, fun H1 s1 => ?_⟩
        rw [grt64, e1]
        refine ⟨_, rfl, iteF ?_⟩
        refine ⟨_, rfl, b, k, dt, xt, 64, rfl, ht.same s1, fun H2 s2 => ?_⟩
        rw [grt64, e2]
        exact ⟨_, rfl, iteT ⟨_, rfl, rfl, ke.same (s1.trans s2)⟩⟩
      · refine ⟨_, rfl, b, k, dl, xl, 64, rfl, hl, fun H1 s1 => ?_⟩
        rw [grt64, e1]
        refine ⟨_, rfl, iteF ?_⟩
        refine ⟨_, rfl, b, k, dt, xt, 64, rfl, ht.same s1, fun H2 s2 => ?_⟩
        rw [grt64, e2]
        refine ⟨_, rfl, iteF ?_⟩
        refine ⟨_, rfl, _, rfl, iteT_of (show (!decide (xr = V.non)) = true by rw [decide_eq_false nn]; rfl) ?_⟩
        refine ⟨_, rfl, b, k, dr, xr, 64, rfl, hr2.same (s1.trans s2), fun H3 s3 => ?_⟩
        rw [grt64, e3]
        exact ⟨_, rfl, iteT ⟨_, rfl, rfl, ke.same ((s1.trans s2).trans s3)⟩⟩
      · refine ⟨_, rfl, b, k, dl, xl, 64, rfl, hl, fun H1 s1 => ?_⟩
        rw [grt64, e1]
        refine ⟨_, rfl, iteF ?_⟩
        refine ⟨_, rfl, b, k, dt, xt, 64, rfl, ht.same s1, fun H2 s2 => ?_⟩
        rw [grt64, e2]
        refine ⟨_, rfl, iteF ?_⟩
        have s12 := s1.trans s2
        by_cases nn : xr = .non
        · refine ⟨_, rfl, _, rfl, iteF_of (show (!decide (xr = V.non)) = false by rw [decide_eq_true nn]; rfl) (iteF ?_)⟩
          refine ⟨_, rfl, _, rfl, xs, -9999, 9999, rfl, ?_⟩
          rcases wh_cases (hs.same s12) e4 with ⟨i, rfl, ei⟩ | wf
          · refine .inl ⟨i, rfl, ?_⟩
            rw [ei]
            exact ⟨_, rfl, iteT ⟨_, rfl, rfl, ke.same s12⟩⟩
          · exact .inr ⟨wf, _, rfl, iteT ⟨_, rfl, rfl, ke.same s12⟩⟩
        · refine ⟨_, rfl, _, rfl, iteT_of (show (!decide (xr = V.non)) = true by rw [decide_eq_false nn]; rfl) ?_⟩
          refine ⟨_, rfl, b, k, dr, xr, 64, rfl, hr2.same s12, fun H3 s3 => ?_⟩
          rw [grt64, e3.resolve_left nn]
          refine ⟨_, rfl, iteF ?_⟩
          refine ⟨_, rfl, _, rfl, xs, -9999, 9999, rfl, ?_⟩
          rcases wh_cases (hs.same (s12.trans s3)) e4 with ⟨i, rfl, ei⟩ | wf
          · refine .inl ⟨i, rfl, ?_⟩
            rw [ei]
            exact ⟨_, rfl, iteT ⟨_, rfl, rfl, ke.same (s12.trans s3)⟩⟩
          · exact .inr ⟨wf, _, rfl, iteT ⟨_, rfl, rfl, ke.same (s12.trans s3)⟩⟩
end
end K02
set_option Elab.async false
set_option linter.all false
set_option maxRecDepth 100000
set_option maxHeartbeats 4000000
namespace K02
open PySem PySem.Spec PyProof.Rows L2 RowM
section
variable {P : Program} {w : World} {K : PySem.W.Frag} {mg : Str → Option Value} {base : Heap}
/-- Row(xl, xt, xr, start=xs) -/
def rRow (K : PySem.W.Frag) (C CW CI : Addr) (E : XK) (xl xt xr xs : V) (H : Hp) (Q : VK) : Prop :=
  (∃ (l t r : Addr) (f : Form) (n m z : Nat), xl = .ref l ∧ xt = .ref t ∧ (xr = .ref r ∨ (xr = .non ∧ r = l)) ∧ xs = .int f.start ∧ Fm4 K H l t r f ∧ Ok f ∧ Sgs f ∧ f.start.natAbs ≤ 9999 ∧ Big f n m z ∧ n ≤ 900 ∧ m ≤ 900 ∧ z ≤ 2 ^ 40 ∧
    ∀ v H' f', (∀ a, v = .ref a → H a = none) → Same H H' → RowV K C H' v f' → Least (sign f) f' → Big f' n m (z + m + 2 * n) → Q v H') ∨
   ∃ (b : Addr) (k : Nat) (dl dt dr ds : D), Rp K b H k dl xl ∧ Rp K b H k dt xt ∧ Rp K b H k dr xr ∧ Rp K b H k ds xs ∧
    ((ringD 63 dl = false ∧ Out CW "InvalidWord" ["value"] [xl] H E) ∨ (ringD 63 dl = true ∧ wordD 63 dt = false ∧ Out CW "InvalidWord" ["value"] [xt] H E) ∨
     (ringD 63 dl = true ∧ wordD 63 dt = true ∧ xr ≠ .non ∧ ringD 63 dr = false ∧ Out CW "InvalidWord" ["value"] [xr] H E) ∨
     (ringD 63 dl = true ∧ wordD 63 dt = true ∧ (xr = .non ∨ ringD 63 dr = true) ∧ wh (-9999) 9999 ds = false ∧ Out CI "InvalidNumber" ["value"] [xs] H E))
theorem rRow_init {C CW CI x dx : Addr} {E : XK} {xl xt xr xs : V} {H : Hp} {Q : VK} (h : rRow K C CW CI E xl xt xr xs H Q) (nx : H x = none) (ndx : H dx = none) (ne : dx ≠ x) :
    spInit K C CW CI [.ref x, xl, xt, xr, xs] (upd (upd H dx (.own x)) x (.ins C dx [])) (fun v H2 => v = .non ∧ Q (.ref x) H2) E := by
  have s1 : Same H (upd (upd H dx (.own x)) x (.ins C dx [])) := fun c o z => by
    rw [upd_ne (ne_of_none z nx), upd_ne (ne_of_none z ndx)]
    exact z
  refine ⟨x, dx, xl, xt, xr, xs, rfl, upd_same, ?_⟩
  rcases h with ⟨l, t, r, f, n, m, z, e1, e2, e3, e4, h4, ho, hs, h9, hb, hn, hm, hz, q⟩ | ⟨b, k, dl, dt, dr, ds, hl, ht, hr, hs, h⟩
  · refine .inl ⟨l, t, r, f, n, m, z, e1, e2, e3, e4, h4.same s1, ho, hs, h9, hb, hn, hm, hz, fun H' l' t' r' f' kp hins h4' lf big => ⟨rfl, ?_⟩⟩
    refine q _ H' f' (fun c e => by cases e; exact nx) (fun c o e => ?_) ⟨x, dx, l', t', r', rfl, hins, h4'⟩ lf big
    exact kp c o (ne_of_none e nx) (s1 _ _ e)
  · refine .inr ⟨b, k, dl, dt, dr, ds, hl.same s1, ht.same s1, hr.same s1, hs.same s1, ?_⟩
    rcases h with ⟨e1, ke⟩ | ⟨e1, e2, ke⟩ | ⟨e1, e2, e3, e4, ke⟩ | ⟨e1, e2, e3, e4, ke⟩
    · exact .inl ⟨e1, ke.same s1⟩
    · exact .inr (.inl ⟨e1, e2, ke.same s1⟩)
    · exact .inr (.inr (.inl ⟨e1, e2, e3, e4, ke.same s1⟩))
    · exact .inr (.inr (.inr ⟨e1, e2, e3, e4, ke.same s1⟩))
abbrev PSI : List Str := ["self", "left", "told", "right", "start"]
def g3 {α : Type} : List α → List α → List α → List α → List α := fun us _ _ ws => us ++ ws
def g1 {α : Type} : List α → List α → List α → List α → List α := fun us ds _ ws => us ++ (ds ++ ws)
def g0 {α : Type} : List α → List α → List α → List α → List α := fun us _ _ ws => match ws with
  | [r, l, s, t] => us ++ [l, t, r, s]
  | _ => us
/-- the class Row as the other defs see it; T: the empty word that told is left out for -/
structure RowC (P : Program) (w : World) (K : PySem.W.Frag) (mg : Str → Option Value) (base : Heap) (C CW CI T : Addr) : Prop where
  cl : Cls K C
  gC : mg "Row" = some (.ref C)
  n1 : NoAttr K C "left"
  n2 : NoAttr K C "told"
  n3 : NoAttr K C "right"
  n4 : NoAttr K C "start"
  nil : ∀ H, SqT K H T []
  ini : ∃ f fd, Mk K C f ∧ FnOk P w K mg base (L2.CX P w) 5 f fd PSI (spInit K C CW CI) ∧ (∃ ds, Vals [.ref T, .non, .int 0] ds ∧ Binds K fd PSI ds) ∧ (∃ ds, Vals [.non, .int 0] ds ∧ Binds K fd PSI ds) ∧ (∃ ds, Vals [.int 0] ds ∧ Binds K fd PSI ds) ∧
    (∃ g, KBn K fd PSI 4 ["start"] g (fun vs zs => g3 vs [.ref T, .non] [] zs)) ∧ (∃ g, KBn K fd PSI 2 ["start"] g (fun vs zs => g1 vs [.ref T, .non] [] zs)) ∧ ∃ g, KBn K fd PSI 1 ["right", "left", "start", "told"] g (fun vs zs => g0 vs [.ref T, .non] [] zs)
end
section
variable {X : Cx} {C CW CI T : Addr} {E : XK} {p pos : Pos} {e : Expr} {es : List Expr} {kws : List Keyword} {t tk : TA}
theorem pe_row1 (c : RowC X.prog X.w X.K X.mg X.base C CW CI T) (hr : Room 6 X.A) (hg : Gl X "Row") (hx : Passes (L2.CX X.prog X.w) X E) (ha : PA X (e :: es) t)
    (he : starEach (e :: es) X.env = (false, eval e X.env) :: starEach es X.env := by rfl) (hpl : (backTo pos (starEach es X.env)).any (·.1) = false := by rfl) :
    PE X (.Call (.Name "Row" p) (e :: es) [] pos) (fun σ H Q => t σ H fun vs H1 => ∃ xl, vs = [xl] ∧ rRow X.K C CW CI E xl (.ref T) .non (.int 0) H1 Q) := by
  obtain ⟨f, fd, M, F, ⟨ds, vd, b⟩, _⟩ := c.ini
  refine ⟨fun pins s σ H Q I hq => ?_⟩
  refine wpAny_Call_Name_kw (ld_glob I hg c.gC ?_ (by decide))
  refine PySem.W.callWith_K (h₀ := X.base) I.ok.mod.kin M.kp (thn (ha.run pos pins s σ H _ I hq) fun us s1 ⟨vs, H1, I1, r, q⟩ => ⟨I1.kIn, ?_⟩) he hpl
  obtain ⟨xl, rfl, q⟩ := q
  exact run_make M F hr b vd hx I1 r fun a dx na ndx ne => rRow_init q na ndx ne
theorem pe_row2 (c : RowC X.prog X.w X.K X.mg X.base C CW CI T) (hr : Room 6 X.A) (hg : Gl X "Row") (hx : Passes (L2.CX X.prog X.w) X E) (ha : PA X (e :: es) t)
    (he : starEach (e :: es) X.env = (false, eval e X.env) :: starEach es X.env := by rfl) (hpl : (backTo pos (starEach es X.env)).any (·.1) = false := by rfl) :
    PE X (.Call (.Name "Row" p) (e :: es) [] pos) (fun σ H Q => t σ H fun vs H1 => ∃ xl xt, vs = [xl, xt] ∧ rRow X.K C CW CI E xl xt .non (.int 0) H1 Q) := by
  obtain ⟨f, fd, M, F, _, ⟨ds, vd, b⟩, _⟩ := c.ini
  refine ⟨fun pins s σ H Q I hq => ?_⟩
  refine wpAny_Call_Name_kw (ld_glob I hg c.gC ?_ (by decide))
  refine PySem.W.callWith_K (h₀ := X.base) I.ok.mod.kin M.kp (thn (ha.run pos pins s σ H _ I hq) fun us s1 ⟨vs, H1, I1, r, q⟩ => ⟨I1.kIn, ?_⟩) he hpl
  obtain ⟨xl, xt, rfl, q⟩ := q
  exact run_make M F hr b vd hx I1 r fun a dx na ndx ne => rRow_init q na ndx ne
theorem pe_row3 (c : RowC X.prog X.w X.K X.mg X.base C CW CI T) (hr : Room 6 X.A) (hg : Gl X "Row") (hx : Passes (L2.CX X.prog X.w) X E) (ha : PA X (e :: es) t)
    (he : starEach (e :: es) X.env = (false, eval e X.env) :: starEach es X.env := by rfl) (hpl : (backTo pos (starEach es X.env)).any (·.1) = false := by rfl) :
    PE X (.Call (.Name "Row" p) (e :: es) [] pos) (fun σ H Q => t σ H fun vs H1 => ∃ xl xt xr, vs = [xl, xt, xr] ∧ rRow X.K C CW CI E xl xt xr (.int 0) H1 Q) := by
  obtain ⟨f, fd, M, F, _, _, ⟨ds, vd, b⟩, _⟩ := c.ini
  refine ⟨fun pins s σ H Q I hq => ?_⟩
  refine wpAny_Call_Name_kw (ld_glob I hg c.gC ?_ (by decide))
  refine PySem.W.callWith_K (h₀ := X.base) I.ok.mod.kin M.kp (thn (ha.run pos pins s σ H _ I hq) fun us s1 ⟨vs, H1, I1, r, q⟩ => ⟨I1.kIn, ?_⟩) he hpl
  obtain ⟨xl, xt, xr, rfl, q⟩ := q
  exact run_make M F hr b vd hx I1 r fun a dx na ndx ne => rRow_init q na ndx ne
/-- Row(xl, xt, xr, start=xs) -/
theorem pe_rowK3 (c : RowC X.prog X.w X.K X.mg X.base C CW CI T) (hr : Room 6 X.A) (hg : Gl X "Row") (hx : Passes (L2.CX X.prog X.w) X E) (ha : PA X (e :: es) t) (hk : PK X kws tk)
    (hall : (backToKw pos (keywordEach kws X.env)).all (·.1.isSome) = true := by rfl) (hks : (backToKw pos (keywordEach kws X.env)).filterMap (·.1) = [("start" : Str)] := by rfl)
    (he : starEach (e :: es) X.env = (false, eval e X.env) :: starEach es X.env := by rfl) (hpl : ((backTo pos (starEach (e :: es) X.env)).any (·.1) || (backToKw pos (keywordEach kws X.env)).any (·.1.isNone)) = false := by rfl) :
    PE X (.Call (.Name "Row" p) (e :: es) kws pos) (fun σ H Q => t σ H fun vs H1 => tk σ H1 fun zs H2 => ∃ xl xt xr xs, vs = [xl, xt, xr] ∧ zs = [xs] ∧ rRow X.K C CW CI E xl xt xr xs H2 Q) := by
  obtain ⟨f, fd, M, F, _, _, _, ⟨g, kb⟩, _⟩ := c.ini
  refine ⟨fun pins s σ H Q I hq => wpAny_Call_Name_kw (ld_glob I hg c.gC (PySem.W.callWith_KW (h₀ := X.base) I.ok.mod.kin M.kp hall (thn (ha.run pos pins s σ H _ I hq) fun us s1 ⟨vs, H1, I1, r, q⟩ => thn (hk.run pos pins s1 σ H1 _ I1 q) fun ws s2 ⟨zs, H2, I2, rz, q2⟩ => ⟨I2.kIn, ?_⟩) hpl he) (by decide))⟩
  obtain ⟨xl, xt, xr, xs, rfl, rfl, q⟩ := q2
  rw [hks]
  exact run_makeK M F hr kb hx I2 r rz rfl rfl fun a dx na ndx ne => rRow_init q na ndx ne
/-- Row(xl, start=xs) -/
theorem pe_rowK1 (c : RowC X.prog X.w X.K X.mg X.base C CW CI T) (hr : Room 6 X.A) (hg : Gl X "Row") (hx : Passes (L2.CX X.prog X.w) X E) (ha : PA X (e :: es) t) (hk : PK X kws tk)
    (hall : (backToKw pos (keywordEach kws X.env)).all (·.1.isSome) = true := by rfl) (hks : (backToKw pos (keywordEach kws X.env)).filterMap (·.1) = [("start" : Str)] := by rfl)
    (he : starEach (e :: es) X.env = (false, eval e X.env) :: starEach es X.env := by rfl) (hpl : ((backTo pos (starEach (e :: es) X.env)).any (·.1) || (backToKw pos (keywordEach kws X.env)).any (·.1.isNone)) = false := by rfl) :
    PE X (.Call (.Name "Row" p) (e :: es) kws pos) (fun σ H Q => t σ H fun vs H1 => tk σ H1 fun zs H2 => ∃ xl xs, vs = [xl] ∧ zs = [xs] ∧ rRow X.K C CW CI E xl (.ref T) .non xs H2 Q) := by
  obtain ⟨f, fd, M, F, _, _, _, _, ⟨g, kb⟩, _⟩ := c.ini
  refine ⟨fun pins s σ H Q I hq => wpAny_Call_Name_kw (ld_glob I hg c.gC (PySem.W.callWith_KW (h₀ := X.base) I.ok.mod.kin M.kp hall (thn (ha.run pos pins s σ H _ I hq) fun us s1 ⟨vs, H1, I1, r, q⟩ => thn (hk.run pos pins s1 σ H1 _ I1 q) fun ws s2 ⟨zs, H2, I2, rz, q2⟩ => ⟨I2.kIn, ?_⟩) hpl he) (by decide))⟩
  obtain ⟨xl, xs, rfl, rfl, q⟩ := q2
  rw [hks]
  exact run_makeK (n := 1) M F hr kb hx I2 r rz rfl rfl fun a dx na ndx ne => rRow_init q na ndx ne
/-- Row(right=xr, left=xl, start=xs, told=xt) -/
theorem pe_rowK0 (c : RowC X.prog X.w X.K X.mg X.base C CW CI T) (hr : Room 6 X.A) (hg : Gl X "Row") (hx : Passes (L2.CX X.prog X.w) X E) (hk : PK X kws tk)
    (hall : (backToKw pos (keywordEach kws X.env)).all (·.1.isSome) = true := by rfl) (hks : (backToKw pos (keywordEach kws X.env)).filterMap (·.1) = [("right" : Str), "left", "start", "told"] := by rfl)
    (hpl : ((backTo pos (starEach [] X.env)).any (·.1) || (backToKw pos (keywordEach kws X.env)).any (·.1.isNone)) = false := by rfl) :
    PE X (.Call (.Name "Row" p) [] kws pos) (fun σ H Q => tk σ H fun zs H2 => ∃ xl xt xr xs, zs = [xr, xl, xs, xt] ∧ rRow X.K C CW CI E xl xt xr xs H2 Q) := by
  obtain ⟨f, fd, M, F, _, _, _, _, _, ⟨g, kb⟩⟩ := c.ini
  refine ⟨fun pins s σ H Q I hq => wpAny_Call_Name_kw (ld_glob I hg c.gC (PySem.W.callWith_KW0 (h₀ := X.base) I.ok.mod.kin M.kp hall (thn (hk.run pos pins s σ H _ I hq) fun ws s2 ⟨zs, H2, I2, rz, q2⟩ => ⟨I2.kIn, ?_⟩) hpl) (by decide))⟩
  obtain ⟨xl, xt, xr, xs, rfl, q⟩ := q2
  rw [hks]
  exact run_makeK (n := 0) (us := []) (vs := []) M F hr kb hx I2 .nil rz rfl rfl fun a dx na ndx ne => rRow_init q na ndx ne
end
end K02
set_option Elab.async false
set_option linter.all false
set_option maxRecDepth 100000
set_option maxHeartbeats 4000000
namespace K02
open PySem PySem.Spec PyProof.Rows L2 RowM
theorem passN {P : Program} {w : World} {X : Cx} (hp : X.prog = P) (hw : X.w = w) : Passes (L2.CX P w) X E0 := fun _ _ _ _ _ _ _ ⟨_, _, _, _, _, _, _, _, _, _, _, _, e⟩ => e.elim
/-- a row of the cells g -/
def Rw (K : PySem.W.Frag) (C : Addr) (H : Hp) (v : V) (g : Int → Nat) (n m z : Nat) : Prop := ∃ f, RowV K C H v f ∧ Least g f ∧ Big f n m z
theorem Rw.same {K : PySem.W.Frag} {C : Addr} {H H' : Hp} {v : V} {g : Int → Nat} {n m z : Nat} (s : Same H H') (h : Rw K C H v g n m z) : Rw K C H' v g n m z := by
  obtain ⟨f, a, b, c⟩ := h
  exact ⟨f, a.same s, b, c⟩
theorem sign_move (f : Form) (d c : Int) : sign ⟨f.left, f.told, f.right, f.start + d⟩ c = sign f (c - d) := by
  unfold sign
  dsimp only
  rw [show c - (f.start + d) = c - d - f.start by omega]
  by_cases h : c - d < f.start
  · rw [if_pos h, if_pos (by omega)]
  · rw [if_neg h, if_neg (by omega)]
abbrev FnM (K : PySem.W.Frag) (x q : Str) (st : Stmt) (f : Addr) (fd : FuncData) : Prop := FunD K x q (defArgs st) (defBody st) (defScope st) [] [] f fd
section
variable {P : Program} {w : World} {K : PySem.W.Frag} {mg : Str → Option Value} {base : Heap}
/-! ### made_row -/
def spMade (K : PySem.W.Frag) (C : Addr) : Sp := fun vs H Q _ => ∃ (l t r : Addr) (f : Form) (n m z : Nat), vs = [.ref l, .ref t, .ref r, .int f.start] ∧ Fm4 K H l t r f ∧ Ok f ∧ Big f n m z ∧ n ≤ 1000 ∧ m ≤ 200000 ∧ z ≤ 2 ^ 40 ∧ ∀ v H' f', Same H H' → RowV K C H' v f' → Least (sign f) f' → Big f' n m (z + m + 2 * n) → Q v H'
theorem sc_made : FnScope ["left", "told", "right", "start", "form", "row"] ["left", "told", "right", "start"] (defScope (top 27)) := ⟨rfl, rfl, rfl, by decide +kernel, rfl, by decide +kernel, by decide +kernel⟩
def f00 : Form := ⟨[0], [], [0], 0⟩
theorem ok_made {f : Addr} {fd : FuncData} {C CW CI T : Addr} (F : FnP K "made_row" (top 27) f fd) (o_R : RowC P w K mg base C CW CI T) (c_least_form : Cal P w K mg base CX0 "least_form" 3 ["left", "told", "right", "start"] (spLf K)) : FnOk P w K mg base CX0 7 f fd ["left", "told", "right", "start"] (spMade K C) := by
  have sc := sc_made
  refine F.ok sc (fun vs H Q E h => ?_) (fun cdv A outer s H vs Q E hr h => ?_)
  · obtain ⟨l, t, r, g, n, m, z, rfl, _⟩ := h
    rfl
  · obtain ⟨l, t, r, g, n, m, z, rfl, h4, ho, hb, hn, hm, hz, q⟩ := h
    have hr_least_form : Room 3 _ := hr.mono (by decide)
    have hr_row : Room 6 _ := hr
    have px := passN (P := P) (w := w) (X := (cxOf CX0 P w K mg base ["left", "told", "right", "start", "form", "row"] "made_row" (defScope (top 27)) f cdv A outer s H E).nox) rfl rfl
    refine ⟨_, PSs.nox (pss_cons (ps_set (i := 4) sc.nd rfl (Or.inl rfl) (pe_cal c_least_form hr_least_form rfl (pa_cons (pv 0) (pa_cons (pv 1) (pa_cons (pv 2) (pa_cons (pv 3) pa_nil))))))
      (pss_cons (ps_set (i := 5) sc.nd rfl (Or.inl rfl) (pe_row1 o_R hr_row rfl px (pa_cons (pe_tup (pa_cons pe_int pa_nil)) pa_nil)))
      (pss_cons (ps_fld (pv 5) (pe_ix (show IxR _ (rIxT K) from ix_tup) (pv 4) pe_int (fun _ _ => rfl)) rfl)
      (pss_cons (ps_fld (pv 5) (pe_ix (show IxR _ (rIxT K) from ix_tup) (pv 4) pe_int (fun _ _ => rfl)) rfl)
      (pss_cons (ps_fld (pv 5) (pe_ix (show IxR _ (rIxT K) from ix_tup) (pv 4) pe_int (fun _ _ => rfl)) rfl)
      (pss_cons (ps_fld (pv 5) (pe_ix (show IxR _ (rIxT K) from ix_tup) (pv 4) pe_int (fun _ _ => rfl)) rfl)
      (pss_one (ps_ret (pv 5))))))))), ?_⟩
    refine ⟨_, rfl, _, rfl, _, rfl, _, rfl, l, t, r, g, n, m, z, rfl, h4, ho, hb, hn, hm, hz, fun v1 H1 f' s1 hv lf big => ?_⟩
    obtain ⟨p, l', t', r', rfl, hp, h4'⟩ := hv
    refine ⟨(by show 1 ≤ sizeLine; decide), fun t1 ht1 => ?_⟩
    have s2 : Same H1 (upd H1 t1 (.tup [.int 0])) := Same.new ht1
    have h0 : SqT K (upd H1 t1 (.tup [.int 0])) t1 (nv [0]) := SqT.of upd_same
    refine ⟨_, rfl, .inl ⟨t1, T, t1, f00, 1, 0, 0, rfl, rfl, .inr ⟨rfl, rfl⟩, rfl, ⟨h0, o_R.nil _, h0⟩, ⟨by decide, by decide⟩, ⟨fun x hx => ?_, fun x hx => (nomatch hx), fun x hx => ?_⟩, by decide, ⟨by decide, by decide, by decide, by decide⟩, by decide, by decide, by decide, fun v2 H3 f2 fr s3 hv2 lf2 big2 => ?_⟩⟩
    · rw [List.mem_singleton.mp hx]
      decide
    · rw [List.mem_singleton.mp hx]
      decide
    obtain ⟨a, dx, l3, t3, r3, rfl, ha, h43⟩ := hv2
    have s13 := s2.trans s3
    have hp3 := same_T s13 hp
    have h4a := h4'.same s13
    refine ⟨_, rfl, p, _, _, _, rfl, rfl, hp3, rfl, _, rfl, a, C, dx, _, rfl, ha, o_R.cl, o_R.n1, (by show 4 < 1000; decide), ?_⟩
    have k1 : SqT K (upd H3 a (.ins C dx (rowF l' t3 r3 f2.start))) p [.ref l', .ref t', .ref r', .int f'.start] := sqT_ins ha hp3
    refine ⟨_, rfl, p, _, _, _, rfl, rfl, k1, rfl, _, rfl, a, C, dx, _, rfl, upd_same, o_R.cl, o_R.n2, (by show 4 < 1000; decide), ?_⟩
    rw [upd_upd]
    have k2 : SqT K (upd H3 a (.ins C dx (rowF l' t' r3 f2.start))) p [.ref l', .ref t', .ref r', .int f'.start] := sqT_ins ha hp3
    refine ⟨_, rfl, p, _, _, _, rfl, rfl, k2, rfl, _, rfl, a, C, dx, _, rfl, upd_same, o_R.cl, o_R.n3, (by show 4 < 1000; decide), ?_⟩
    rw [upd_upd]
    have k3 : SqT K (upd H3 a (.ins C dx (rowF l' t' r' f2.start))) p [.ref l', .ref t', .ref r', .int f'.start] := sqT_ins ha hp3
    refine ⟨_, rfl, p, _, _, _, rfl, rfl, k3, rfl, _, rfl, a, C, dx, _, rfl, upd_same, o_R.cl, o_R.n4, (by show 4 < 1000; decide), ?_⟩
    rw [upd_upd]
    have hna : H1 a = none := by
      have := fr a rfl
      rw [upd_ne (fun e => by rw [e, upd_same] at this; cases this)] at this
      exact this
    have sfin : Same H (upd H3 a (.ins C dx (rowF l' t' r' f'.start))) := fun c o e => by
      have e1 := s1 _ _ e
      rw [upd_ne (ne_of_none e1 hna)]
      exact s13 _ _ e1
    exact ⟨_, rfl, q _ _ f' sfin ⟨a, dx, l', t', r', rfl, upd_same, h4a.ins ha⟩ lf big⟩
end
end K02
set_option Elab.async false
set_option linter.all false
set_option maxRecDepth 100000
set_option maxHeartbeats 4000000
namespace K02
open PySem PySem.Spec PyProof.Rows L2 RowM
section
variable {P : Program} {w : World} {K : PySem.W.Frag} {mg : Str → Option Value} {base : Heap}
structure RowA (K : PySem.W.Frag) (C : Addr) : Prop where
  cl : Cls K C
  n1 : NoAttr K C "left"
  n2 : NoAttr K C "told"
  n3 : NoAttr K C "right"
  n4 : NoAttr K C "start"
theorem RowC.a {C CW CI T : Addr} (o : RowC P w K mg base C CW CI T) : RowA K C := ⟨o.cl, o.n1, o.n2, o.n3, o.n4⟩
theorem Least.ok {g : Int → Nat} {f : Form} (h : Least g f) : Ok f := ⟨h.len.1, h.len.2⟩
/-! ### row[at] -/
def spIx (K : PySem.W.Frag) (C : Addr) : Sp := fun vs H Q _ => ∃ (v : V) (c : Int) (f : Form), vs = [v, .int c] ∧ RowV K C H v f ∧ Ok f ∧ ∀ H', Same H H' → Q (.int ((sign f c : Nat) : Int)) H'
theorem sc_ix : FnScope ["self", "at"] ["self", "at"] (defScope (methOf (top 25) 1)) := ⟨rfl, rfl, rfl, by decide +kernel, rfl, by decide +kernel, by decide +kernel⟩
theorem ok_ix {f : Addr} {fd : FuncData} {C : Addr} (F : FnM K "__getitem__" "Row.__getitem__" (methOf (top 25) 1) f fd) (o : RowA K C) (c_sign_in : Cal P w K mg base CX0 "sign_in" 1 ["form", "cell"] (spSign K)) : FnOk P w K mg base CX0 2 f fd ["self", "at"] (spIx K C) := by
  have sc := sc_ix
  refine F.ok sc (fun vs H Q E h => ?_) (fun cdv A outer s H vs Q E hr h => ?_)
  · obtain ⟨v, c, g, rfl, _⟩ := h
    rfl
  · obtain ⟨v, c, g, rfl, ⟨a, dx, l, t, r, rfl, ha, h4⟩, ho, q⟩ := h
    have hr_sign_in : Room 1 _ := hr
    refine ⟨_, PSs.nox (pss_one (ps_ret (pe_cal c_sign_in hr_sign_in rfl (pa_cons (pe_tup (pa_cons (pe_fld (pv 0) rfl) (pa_cons (pe_fld (pv 0) rfl) (pa_cons (pe_fld (pv 0) rfl) (pa_cons (pe_fld (pv 0) rfl) pa_nil))))) (pa_cons (pv 1) pa_nil))))), ?_⟩
    refine ⟨_, rfl, a, C, dx, _, _, rfl, ha, o.cl, o.n1, rfl, _, rfl, a, C, dx, _, _, rfl, ha, o.cl, o.n2, rfl, _, rfl, a, C, dx, _, _, rfl, ha, o.cl, o.n3, rfl, _, rfl, a, C, dx, _, _, rfl, ha, o.cl, o.n4, rfl, (by show 4 ≤ sizeLine; decide), fun p hp => ?_⟩
    have s1 : Same H (upd H p (.tup [.ref l, .ref t, .ref r, .int g.start])) := Same.new hp
    exact ⟨_, rfl, _, c, g, rfl, ⟨p, l, t, r, rfl, SqT.of upd_same, h4.same s1⟩, ho, q _ s1⟩
/-! ### row.word -/
def spWrd (K : PySem.W.Frag) (C : Addr) : Sp := fun vs H Q _ => ∃ (v : V) (a b : Int) (f : Form), vs = [v, .int a, .int b] ∧ RowV K C H v f ∧ Ok f ∧ a.natAbs ≤ 2 ^ 50 ∧ b.natAbs ≤ 2 ^ 50 ∧ b - a ≤ 1000000 ∧ ∀ p H', Same H H' → SqT K H' p (nv (cells (sign f) a (b - a).toNat)) → Q (.ref p) H'
theorem sc_wrd : FnScope ["self", "first", "end"] ["self", "first", "end"] (defScope (methOf (top 25) 3)) := ⟨rfl, rfl, rfl, by decide +kernel, rfl, by decide +kernel, by decide +kernel⟩
theorem ok_wrd {f : Addr} {fd : FuncData} {C : Addr} (F : FnM K "word" "Row.word" (methOf (top 25) 3) f fd) (o : RowA K C) (c_stretch_of : Cal P w K mg base CX0 "stretch_of" 2 ["form", "first", "end"] (spStr K)) : FnOk P w K mg base CX0 3 f fd ["self", "first", "end"] (spWrd K C) := by
  have sc := sc_wrd
  refine F.ok sc (fun vs H Q E h => ?_) (fun cdv A outer s H vs Q E hr h => ?_)
  · obtain ⟨v, a, b, g, rfl, _⟩ := h
    rfl
  · obtain ⟨v, x, y, g, rfl, ⟨a, dx, l, t, r, rfl, ha, h4⟩, ho, b1, b2, b3, q⟩ := h
    have hr_stretch_of : Room 2 _ := hr
    refine ⟨_, PSs.nox (pss_one (ps_ret (pe_cal c_stretch_of hr_stretch_of rfl (pa_cons (pe_tup (pa_cons (pe_fld (pv 0) rfl) (pa_cons (pe_fld (pv 0) rfl) (pa_cons (pe_fld (pv 0) rfl) (pa_cons (pe_fld (pv 0) rfl) pa_nil))))) (pa_cons (pv 1) (pa_cons (pv 2) pa_nil)))))), ?_⟩
    refine ⟨_, rfl, a, C, dx, _, _, rfl, ha, o.cl, o.n1, rfl, _, rfl, a, C, dx, _, _, rfl, ha, o.cl, o.n2, rfl, _, rfl, a, C, dx, _, _, rfl, ha, o.cl, o.n3, rfl, _, rfl, a, C, dx, _, _, rfl, ha, o.cl, o.n4, rfl, (by show 4 ≤ sizeLine; decide), fun p hp => ?_⟩
    have s1 : Same H (upd H p (.tup [.ref l, .ref t, .ref r, .int g.start])) := Same.new hp
    exact ⟨_, rfl, _, rfl, _, x, y, g, rfl, ⟨p, l, t, r, rfl, SqT.of upd_same, h4.same s1⟩, ho, b1, b2, b3, fun p2 H2 s2 h2 => q p2 H2 (s1.trans s2) h2⟩
/-! ### moved -/
def spMv (K : PySem.W.Frag) (C : Addr) (sg : Int) : Sp := fun vs H Q _ => ∃ (v : V) (d : Int) (f : Form) (n m z : Nat), vs = [v, .int d] ∧ RowV K C H v f ∧ Ok f ∧ Big f n m z ∧ n ≤ 1000 ∧ m ≤ 200000 ∧ z + d.natAbs ≤ 2 ^ 40 ∧ ∀ v' H' f', Same H H' → RowV K C H' v' f' → Least (fun c => sign f (c - sg * d)) f' → Big f' n m (z + d.natAbs + m + 2 * n) → Q v' H'
theorem sc_shr : FnScope ["self", "other"] ["self", "other"] (defScope (methOf (top 25) 4)) := ⟨rfl, rfl, rfl, by decide +kernel, rfl, by decide +kernel, by decide +kernel⟩
theorem ok_shr {f : Addr} {fd : FuncData} {C : Addr} (F : FnM K "__rshift__" "Row.__rshift__" (methOf (top 25) 4) f fd) (o : RowA K C) (c_made_row : Cal P w K mg base CX0 "made_row" 7 ["left", "told", "right", "start"] (spMade K C)) : FnOk P w K mg base CX0 8 f fd ["self", "other"] (spMv K C 1) := by
  have sc := sc_shr
  refine F.ok sc (fun vs H Q E h => ?_) (fun cdv A outer s H vs Q E hr h => ?_)
  · obtain ⟨v, d, g, n, m, z, rfl, _⟩ := h
    rfl
  · obtain ⟨v, d, g, n, m, z, rfl, ⟨a, dx, l, t, r, rfl, ha, h4⟩, ho, hb, hn, hm, hz, q⟩ := h
    have hr_made_row : Room 7 _ := hr
    have bs := hb.s
    refine ⟨_, PSs.nox (pss_one (ps_ret (pe_cal c_made_row hr_made_row rfl (pa_cons (pe_fld (pv 0) rfl) (pa_cons (pe_fld (pv 0) rfl) (pa_cons (pe_fld (pv 0) rfl) (pa_cons (pe_op op_add (pe_fld (pv 0) rfl) (pv 1)) pa_nil))))))), ?_⟩
    refine ⟨_, rfl, a, C, dx, _, _, rfl, ha, o.cl, o.n1, rfl, _, rfl, a, C, dx, _, _, rfl, ha, o.cl, o.n2, rfl, _, rfl, a, C, dx, _, _, rfl, ha, o.cl, o.n3, rfl, _, rfl, a, C, dx, _, _, rfl, ha, o.cl, o.n4, rfl, _, rfl, _, _, rfl, rfl, ?_⟩
    refine ⟨l, t, r, ⟨g.left, g.told, g.right, g.start + d⟩, n, m, z + d.natAbs, rfl, ⟨h4.left, h4.told, h4.right⟩, ⟨ho.l1, ho.r1⟩, ⟨hb.l, hb.t, hb.r, by show (g.start + d).natAbs ≤ _; omega⟩, hn, hm, hz, fun v' H' f' s1 hv lf big => q v' H' f' s1 hv (lf.cong fun c => ?_) big⟩
    show sign ⟨g.left, g.told, g.right, g.start + d⟩ c = sign g (c - 1 * d)
    rw [sign_move, Int.one_mul]
theorem sc_shl : FnScope ["self", "other"] ["self", "other"] (defScope (methOf (top 25) 5)) := ⟨rfl, rfl, rfl, by decide +kernel, rfl, by decide +kernel, by decide +kernel⟩
theorem ok_shl {f : Addr} {fd : FuncData} {C : Addr} (F : FnM K "__lshift__" "Row.__lshift__" (methOf (top 25) 5) f fd) (o : RowA K C) (c_made_row : Cal P w K mg base CX0 "made_row" 7 ["left", "told", "right", "start"] (spMade K C)) : FnOk P w K mg base CX0 8 f fd ["self", "other"] (spMv K C (-1)) := by
  have sc := sc_shl
  refine F.ok sc (fun vs H Q E h => ?_) (fun cdv A outer s H vs Q E hr h => ?_)
  · obtain ⟨v, d, g, n, m, z, rfl, _⟩ := h
    rfl
  · obtain ⟨v, d, g, n, m, z, rfl, ⟨a, dx, l, t, r, rfl, ha, h4⟩, ho, hb, hn, hm, hz, q⟩ := h
    have hr_made_row : Room 7 _ := hr
    have bs := hb.s
    refine ⟨_, PSs.nox (pss_one (ps_ret (pe_cal c_made_row hr_made_row rfl (pa_cons (pe_fld (pv 0) rfl) (pa_cons (pe_fld (pv 0) rfl) (pa_cons (pe_fld (pv 0) rfl) (pa_cons (pe_op op_sub (pe_fld (pv 0) rfl) (pv 1)) pa_nil))))))), ?_⟩
    refine ⟨_, rfl, a, C, dx, _, _, rfl, ha, o.cl, o.n1, rfl, _, rfl, a, C, dx, _, _, rfl, ha, o.cl, o.n2, rfl, _, rfl, a, C, dx, _, _, rfl, ha, o.cl, o.n3, rfl, _, rfl, a, C, dx, _, _, rfl, ha, o.cl, o.n4, rfl, _, rfl, _, _, rfl, rfl, ?_⟩
    refine ⟨l, t, r, ⟨g.left, g.told, g.right, g.start - d⟩, n, m, z + d.natAbs, rfl, ⟨h4.left, h4.told, h4.right⟩, ⟨ho.l1, ho.r1⟩, ⟨hb.l, hb.t, hb.r, by show (g.start - d).natAbs ≤ _; omega⟩, hn, hm, hz, fun v' H' f' s1 hv lf big => q v' H' f' s1 hv (lf.cong fun c => ?_) big⟩
    have := sign_move g (-d) c
    rw [show g.start + -d = g.start - d by omega] at this
    show sign ⟨g.left, g.told, g.right, g.start - d⟩ c = sign g (c - -1 * d)
    rw [this, show -1 * d = -d by omega]
/-! ### == -/
def spEq (K : PySem.W.Frag) (C : Addr) : Sp := fun vs H Q _ => ∃ (x y : V) (f f' : Form), vs = [x, y] ∧ RowV K C H x f ∧ RowV K C H y f' ∧ ∀ H', Same H H' → Q (.bl (decide (f = f'))) H'
theorem sc_eq : FnScope ["self", "other"] ["self", "other"] (defScope (methOf (top 25) 9)) := ⟨rfl, rfl, rfl, by decide +kernel, rfl, by decide +kernel, by decide +kernel⟩
structure RowT (K : PySem.W.Frag) (C : Addr) : Prop where
  ha : PySem.W.findIn K (.ref C) "__class__" = some (some (.builtin "object.__class__"))
  hn : PySem.W.specialIn K (.builtin "object.__class__") "__get__" = some (some (.builtin "getset_descriptor.__get__"))
  htk : PySem.W.takesIn K (.builtin "object.__class__") = some true
  hm : PySem.W.mroIn K C (.type "object") = some true
  kit : PySem.W.kitOne K (.ref C) (.ref C) = some true
theorem RowT.ty {C : Addr} (c : RowT K C) (cl : Cls K C) {H : Hp} {a dx : Addr} {fs : List (Str × V)} (h : H a = some (.ins C dx fs)) : TyX K H (.ref a) (.ref C) := .base (.ins h cl c.ha c.hn c.htk c.hm)
theorem ps_dead {X : Cx} {st : Stmt} : PS X st (fun _ _ _ => False) := ⟨fun _ _ _ _ _ _ h => h.elim⟩
theorem form_eq {f f' : Form} : f = f' ↔ f.start = f'.start ∧ f.told = f'.told ∧ f.left = f'.left ∧ f.right = f'.right := by
  constructor
  · rintro rfl
    exact ⟨rfl, rfl, rfl, rfl⟩
  · obtain ⟨a, b, c, d⟩ := f
    obtain ⟨a', b', c', d'⟩ := f'
    rintro ⟨h1, h2, h3, h4⟩
    dsimp only at h1 h2 h3 h4
    rw [h1, h2, h3, h4]
theorem ok_eq {f : Addr} {fd : FuncData} {C : Addr} (F : FnM K "__eq__" "Row.__eq__" (methOf (top 25) 9) f fd) (o : RowA K C) (ot : RowT K C) (c_Row : mg "Row" = some (.ref C)) (m_isinstance : mg "isinstance" = none) : FnOk P w K mg base CX0 1 f fd ["self", "other"] (spEq K C) := by
  have sc := sc_eq
  refine F.ok sc (fun vs H Q E h => ?_) (fun cdv A outer s H vs Q E hr h => ?_)
  · obtain ⟨x, y, g, g', rfl, _⟩ := h
    rfl
  · obtain ⟨x, y, g, g', rfl, ⟨a, dx, l, t, r, rfl, ha, h4⟩, ⟨a', dx', l', t', r', rfl, ha', h4'⟩, q⟩ := h
    refine ⟨_, PSs.nox (pss_cons (ps_if (pt_not (pt_val (pe_callB call_isi (by rfl) m_isinstance (by decide +kernel) (pa_cons (pv 1) (pa_cons (pe_glob (v := .ref C) rfl c_Row rfl) pa_nil))))) (pss_one ps_dead) pss_nil)
      (pss_cons (ps_if (PW.pt (pw_or (pt_cmpR op_ne (pe_fld (pv 0) rfl) (pe_fld (pv 1) rfl) (nomark _)) (pw_or1 (pt_cmpR (show OpR _ _ (rNeD K) from op_neD hr.units) (pe_fld (pv 0) rfl) (pe_fld (pv 1) rfl) (nomark _))))) (pss_one (ps_ret pe_bl)) pss_nil)
      (pss_one (ps_ret (pe_and (pe_cmpR (show OpR _ _ (rEqD K) from op_eqD hr.units) (pe_fld (pv 0) rfl) (pe_fld (pv 1) rfl) (nomark _)) (pe_one (pe_cmpR (show OpR _ _ (rEqD K) from op_eqD hr.units) (pe_fld (pv 0) rfl) (pe_fld (pv 1) rfl) (nomark _)))))))), ?_⟩
    refine ⟨_, rfl, _, _, _, _, _, rfl, .own _, ot.ty o.cl ha', ot.kit, _, rfl, iteF ?_⟩
    refine ⟨_, rfl, a, C, dx, _, _, rfl, ha, o.cl, o.n4, rfl, _, rfl, a', C, dx', _, _, rfl, ha', o.cl, o.n4, rfl, rfl, _, rfl, ?_⟩
    have q := q H (Same.refl H)
    by_cases c1 : g.start = g'.start
    case neg =>
      rw [decide_eq_false fun e => c1 (form_eq.mp e).1] at q
      exact iteT_of (by show (!decide (V.int g.start = V.int g'.start)) = true; rw [dec_int, decide_eq_false c1]; rfl) (iteT q)
    refine iteF_of (by show (!decide (V.int g.start = V.int g'.start)) = false; rw [dec_int, decide_eq_true c1]; rfl) ?_
    refine ⟨_, rfl, a, C, dx, _, _, rfl, ha, o.cl, o.n2, rfl, _, rfl, a', C, dx', _, _, rfl, ha', o.cl, o.n2, rfl, ne_nv h4.told h4'.told ⟨_, rfl, ?_⟩⟩
    by_cases c2 : g.told = g'.told
    case neg =>
      rw [decide_eq_false fun e => c2 (form_eq.mp e).2.1] at q
      exact iteT_of (by rw [decide_eq_false c2]; rfl) q
    refine iteF_of (by rw [decide_eq_true c2]; rfl) ?_
    refine ⟨_, rfl, a, C, dx, _, _, rfl, ha, o.cl, o.n1, rfl, _, rfl, a', C, dx', _, _, rfl, ha', o.cl, o.n1, rfl, eq_nv h4.left h4'.left ⟨_, rfl, ?_⟩⟩
    by_cases c3 : g.left = g'.left
    case neg =>
      rw [decide_eq_false fun e => c3 (form_eq.mp e).2.2.1] at q
      exact iteF_of (decide_eq_false c3) q
    refine iteT_of (decide_eq_true c3) ?_
    refine ⟨_, rfl, a, C, dx, _, _, rfl, ha, o.cl, o.n3, rfl, _, rfl, a', C, dx', _, _, rfl, ha', o.cl, o.n3, rfl, eq_nv h4.right h4'.right ?_⟩
    have e : decide (g = g') = decide (g.right = g'.right) := decide_eq_decide.mpr (form_eq.trans ⟨fun z => z.2.2.2, fun z => ⟨c1, c2, c3, z⟩⟩)
    rw [e] at q
    exact q
end
end K02
set_option Elab.async false
set_option linter.all false
set_option maxRecDepth 100000
set_option maxHeartbeats 4000000
namespace L2
open PySem PySem.Spec PyProof.Rows
/-! ### str(x), repr(x) of an own class's plain instance -/
section
variable {X : Cx} {C g : Addr} {n : Nat} {sp : Sp} {CX : CXT} {E : XK}
def rTextO (C : Addr) (sp : Sp) (E : XK) : List V → Hp → VK → Prop := fun xs H Q => ∃ a dx fs, xs = [V.ref a] ∧ H a = some (.ins C dx fs) ∧ sp [.ref a] H (fun z H2 => ∃ y, z = .str y ∧ Q z H2) E
theorem call_strO (hs : PySem.W.findIn X.K (.ref C) "__str__" = some (some (.ref g))) (hf : PySem.W.isFn X.K (.ref g) = true) (F : FnR X.prog X.w X.K X.mg X.base CX n g sp) (hr : Room (n + 2) X.A) (hx : Passes CX X E) : CallR X (.type "str") (rTextO C sp E) := by
  intro pins s σ H xs us Q I r h
  obtain ⟨a, dx, fs, rfl, ha, q⟩ := h
  obtain ⟨u, rfl, ru⟩ := r.one
  cases (show u = Value.ref a from ru)
  obtain ⟨mA, J, _⟩ := ins_get I.hok ha
  obtain ⟨od, J, _⟩ := J.look
  have hr2 : Room n X.A.in1.in1 := (show Room (n + 1) X.A.in1 from Room.in1 hr).in1
  refine PySem.W.kso_call hr2.units0 I.kIn J hs hf (wpAny_mono (wpAny_call (SlX.run_at (us := [.ref a]) (ws := [.ref a]) F hr2 I.env0.in1.in1 hx I (.cons rfl .nil) q)) (fun w z hz => ?_) fun _ _ x => x)
  obtain ⟨z2, H2, I2, rz, y, ey, qz⟩ := hz
  subst ey
  obtain ⟨t, e⟩ := (show ∃ t, w = Value.str y t from rz)
  cases e
  exact ⟨.str y, H2, I2, ⟨t, rfl⟩, qz⟩
theorem call_reprO (hs : PySem.W.findIn X.K (.ref C) "__repr__" = some (some (.ref g))) (hf : PySem.W.isFn X.K (.ref g) = true) (F : FnR X.prog X.w X.K X.mg X.base CX n g sp) (hr : Room (n + 1) X.A) (hx : Passes CX X E) : CallR X (.builtin "repr") (rTextO C sp E) := by
  intro pins s σ H xs us Q I r h
  obtain ⟨a, dx, fs, rfl, ha, q⟩ := h
  obtain ⟨u, rfl, ru⟩ := r.one
  cases (show u = Value.ref a from ru)
  obtain ⟨mA, J, _⟩ := ins_get I.hok ha
  obtain ⟨od, J, _⟩ := J.look
  obtain ⟨m, hF⟩ := I.fr
  have hr2 : Room n X.A.in1 := hr.in1
  refine PySem.W.repr_K hr2.units0 hF I.ok.mod.kin J hs hf (wpAny_mono (wpAny_call (SlX.run_at (us := [.ref a]) (ws := [.ref a]) F hr2 I.env0.in1 hx I (.cons rfl .nil) q)) (fun w z hz => ?_) fun _ _ x => x)
  obtain ⟨z2, H2, I2, rz, y, ey, qz⟩ := hz
  subst ey
  obtain ⟨t, e⟩ := (show ∃ t, w = Value.str y t from rz)
  cases e
  exact ⟨.str y, H2, I2, ⟨t, rfl⟩, qz⟩
end
end L2
set_option Elab.async false
set_option linter.all false
set_option maxRecDepth 100000
set_option maxHeartbeats 4000000
/-! where no repr is under way: the text of a tuple of ints, told exactly -/
namespace L2
open PySem PySem.Spec PyProof.Rows
/-- no repr is under way -/
abbrev Quiet (A : Around) : Prop := A.guards = some []
def FnG (P : Program) (w : World) (K : PySem.W.Frag) (mg : Str → Option Value) (base : Heap) (CX : CXT) (k : Nat) (f : Addr) (sp : Sp) : Prop :=
  ∀ (A : Around) (outer : List Env) (s : Shared) (H : Hp) (us : List Value) (vs : List V) (Q : VK) (E : XK), Quiet A → Room k A → Env0 P w K mg base A outer s H → Vals vs us → sp vs H Q E →
    codeAny (model P w) A (.call (.ref f) ⟨us, []⟩) (CR CX outer P w H s Q E) s
section
variable {P : Program} {w : World} {K : PySem.W.Frag} {mg : Str → Option Value} {base : Heap} {CX : CXT} {k : Nat} {f : Addr} {fd : FuncData} {x qual : Str} {params : Arguments} {body : List Stmt} {scope : Scope} {N ps : List Str} {sp : Sp}
theorem fnG_of (F : FunD K x qual params body scope [] [] f fd) (S : FnScope N ps scope) (bd : Binds K fd ps []) (len : ∀ vs H Q E, sp vs H Q E → vs.length = ps.length)
    (hbody : ∀ (cdv : Value) (A : Around) (outer : List Env) (s : Shared) (H : Hp) (vs : List V) (Q : VK) (E : XK), Quiet A → Room k (A.deeper (envOfC qual scope s.heap.objs.size f cdv)) → sp vs H Q E →
      ∃ t, PSs (cxOf CX P w K mg base N qual scope f cdv A outer s H E) body t ∧ t { nx := fun _ H' => Q .non H', rt := Q } (start N vs) H) : FnG P w K mg base CX (k + 1) f sp := by
  obtain ⟨oc, od, dV, kV, doc, pm, an, cdv, ct, osl, rfl, lk, hcd, _, _⟩ := F.ex
  intro A outer s H us vs Q E hg r e0 rv hsp
  have hl := len _ _ _ _ hsp
  have KX : K.In s.heap := e0.mod.kin.keeps fun b o e => (e0.bs b o e).1
  have nl := e0.mod.nolimit.keeps fun b o e => (e0.bs b o e).1
  have b0 := bd s us KX (by rw [List.append_nil, ← rv.length]; exact hl)
  rw [List.append_nil] at b0
  refine codeAny_call_function r.depth (KX _ _ lk) rfl S.co S.gen rfl (PySem.W.codeRec_of KX hcd) (b0 _ _ _ _ ?_)
  refine wpAny_newFunctionEnv_cells S.kind (fun y hy => (S.par y.1 (List.of_mem_zip (show (y.1, y.2) ∈ _ from hy)).1).imp id fun z => ⟨z, PySem.W.cellsFrom_some _ _ _ (.inl z)⟩) fun env he s1 ic => ?_
  cases he
  refine ⟨nl.keeps ic.toInCall.keep, codeAny_func ?_⟩
  obtain ⟨t, ht, hq⟩ := hbody cdv A outer s H vs Q E hg (r.deeper _) hsp
  have I := inv_start (CX := CX) (P := P) (w := w) (K := K) (mg := mg) (base := base) (f := f) (cd := cdv) (E := E) S r.hd e0 hl rv ic
  refine wpAny_mono (ht.run [] s1 (start N vs) H _ I hq) (fun fl s' z => ?_) fun _ _ z => z
  cases fl with
  | ret u =>
    obtain ⟨v, _, H', J, rr, q⟩ := z
    exact ⟨v, H', J.os, J.bare, J.base, J.hok, rr, q⟩
  | next =>
    obtain ⟨_, H', J, q⟩ := z
    exact ⟨.non, H', J.os, J.bare, J.base, J.hok, rfl, q⟩
  | brk => exact z.choose_spec.choose_spec.2.elim
  | cont => exact z.choose_spec.choose_spec.2.elim
def CalG (P : Program) (w : World) (K : PySem.W.Frag) (mg : Str → Option Value) (base : Heap) (CX : CXT) (x : Str) (k : Nat) (ps : List Str) (sp : Sp) : Prop :=
  ∃ f : Addr, FnG P w K mg base CX k f sp ∧ mg x = some (.ref f) ∧ PySem.W.keepIn K (.ref f) = true
end
section
variable {X : Cx} {CX : CXT} {k n : Nat} {ps : List Str} {sp : Sp} {x : Str} {q pos : Pos} {e : Expr} {es : List Expr} {t : TA} {E : XK} {C g : Addr}
theorem run_fnG {A : Around} {pins : List (Addr × Obj)} {σ : St} {H : Hp} {s : Shared} {us : List Value} {vs : List V} {Q : VK} {f : Addr} (F : FnG X.prog X.w X.K X.mg X.base CX k f sp) (hg : Quiet A) (hr : Room k A) (e0 : Env0 X.prog X.w X.K X.mg X.base A X.stack s H) (hx : Passes CX X E) (I : Inv X pins σ H s) (r : Vals vs us) (h : sp vs H Q E) :
    wpAny (model X.prog X.w) A (call (.ref f) us) (EP X pins σ Q) X.xe s := by
  refine wpAny_call (codeAny_mono (F A X.stack s H us vs Q E hg hr e0 r h) fun y s' hq => ?_)
  cases y with
  | error z => exact hx pins σ H s z s' I hq
  | ok fl =>
    cases fl with
    | ret u => exact I.after hq
    | next => cases hq
    | brk => cases hq
    | cont => cases hq
/-- f(..) -/
theorem pe_calG (c : CalG X.prog X.w X.K X.mg X.base CX x k ps sp) (hq : Quiet X.A) (hr : Room k X.A) (hg : Gl X x) (hx : Passes CX X E) (ha : PA X (e :: es) t)
    (hdb : (x == ("__debug__" : Str)) = false := by decide) (he : starEach (e :: es) X.env = (false, eval e X.env) :: starEach es X.env := by rfl) (hpl : (backTo pos (starEach es X.env)).any (·.1) = false := by rfl) :
    PE X (.Call (.Name x q) (e :: es) [] pos) (tCall sp [] E t) := by
  obtain ⟨f, F, hm, hk⟩ := c
  refine ⟨fun pins s σ H Q I h => wpAny_Call_Name_kw (ld_glob I hg hm (PySem.W.callWith_K (h₀ := X.base) I.ok.mod.kin hk (thn (ha.run pos pins s σ H _ I h) fun us s1 ⟨vs, H1, I1, rv, h1⟩ => ⟨I1.kIn, ?_⟩) he hpl) hdb)⟩
  have h1 : sp (vs ++ []) H1 Q E := h1
  rw [List.append_nil] at h1
  exact run_fnG F hq hr I1.env0 hx I1 rv h1
/-- repr(o), o of an own class -/
theorem call_reprG (hs : PySem.W.findIn X.K (.ref C) "__repr__" = some (some (.ref g))) (hf : PySem.W.isFn X.K (.ref g) = true) (F : FnG X.prog X.w X.K X.mg X.base CX n g sp) (hq : Quiet X.A) (hr : Room (n + 1) X.A) (hx : Passes CX X E) : CallR X (.builtin "repr") (rTextO C sp E) := by
  intro pins s σ H xs us Q I r h
  obtain ⟨a, dx, fs, rfl, ha, q⟩ := h
  obtain ⟨u, rfl, ru⟩ := r.one
  cases (show u = Value.ref a from ru)
  obtain ⟨_, J, _⟩ := ins_get I.hok ha
  obtain ⟨_, J, _⟩ := J.look
  obtain ⟨_, hF⟩ := I.fr
  refine PySem.W.repr_K hr.in1.units0 hF I.ok.mod.kin J hs hf (wpAny_mono (run_fnG (us := [.ref a]) (vs := [.ref a]) F (A := X.A.in1) hq hr.in1 I.env0.in1 hx I (.cons rfl .nil) q) (fun v z hz => ?_) fun _ _ y => y)
  obtain ⟨_, H2, I2, rz, y, rfl, qz⟩ := hz
  obtain ⟨t, rfl⟩ := (show ∃ t, v = Value.str y t from rz)
  exact ⟨.str y, H2, I2, ⟨t, rfl⟩, qz⟩
/-! ### the text of a tuple of ints -/
def intsT (ns : List Int) : Str := tupleText (ns.map fun n => (toString n : String))
theorem reprAll_ints {prog : Program} {w : World} : ∀ {ns : List Int} {its : List Value}, Vals (ns.map V.int) its → (∀ n ∈ ns, n.natAbs.log2 < 1920) → ReprAll prog w its (ns.map fun n => ((toString n : String) : Str))
  | [], _, r, _ => by
    cases r
    exact .nil
  | n :: ns, _, r, h => by
    cases r with
    | cons r1 r2 =>
      obtain ⟨t, rfl⟩ := r1
      exact .cons (ReprIs.int t (h n List.mem_cons_self)) (reprAll_ints r2 fun m hm => h m (List.mem_cons_of_mem _ hm))
theorem run_reprT {pins : List (Addr × Obj)} {σ : St} {H : Hp} {s : Shared} {A : Around} {a : Addr} {ns : List Int} {Q : Value → Shared → Prop} (I : Inv X pins σ H s) (hg : Quiet A) (ht : SqT X.K H a (ns.map V.int)) (hn : ∀ n ∈ ns, n.natAbs.log2 < 1920) (hz : (intsT ns).length ≤ sizeLine) (q : ∀ u tk, Q (.str (intsT ns) u) { s with toks := tk }) {E : Value → Shared → Prop} (t0 : Nat) :
    wpAny (model X.prog X.w) A (call (.builtin "tuple.__repr__") [.ref a]) Q E { s with toks := t0 } := by
  obtain ⟨its, rv, ⟨o, ho, hc, n, hd⟩, _⟩ := I.tuple ht
  exact call_tuple_repr (s := { s with toks := t0 }) ⟨o, ho, hc⟩ hg (fun c hc => by cases hc) ho hd (reprAll_ints rv hn) (fun u tk => q u tk) hz
/-- {t} -/
def tFmtI (K : PySem.W.Frag) (te : TE) : TE := fun σ H Q => te σ H fun x H1 => ∃ (a : Addr) (ns : List Int), x = .ref a ∧ SqT K H1 a (ns.map V.int) ∧ (∀ n ∈ ns, n.natAbs.log2 < 1920) ∧ (intsT ns).length ≤ sizeLine ∧ Q (.str (intsT ns)) H1
theorem pe_fmtI {te : TE} (hq : Quiet X.A) (hr : Room k X.A) (he : PE X e te) : PE X (.FormattedValue e (-1) none pos) (tFmtI X.K te) := by
  refine ⟨fun pins s σ H Q I h => wpAny_FormattedValue_plain (thn (he.run pins s σ H _ I h) fun v s1 hv => ?_)⟩
  obtain ⟨x, H1, I1, r1, a, ns, rfl, ht, hn, hz, q⟩ := hv
  cases r1
  obtain ⟨its, rv, ⟨o, ho, hc, _⟩, _⟩ := I1.tuple ht
  have hu := hr.units
  exact wpAny_formatField_slot (fun _ _ => nofun) (by omega) ⟨o, ho, hc⟩ F.slot_tuple_format F.slot_tuple_str F.slot_tuple_repr (run_reprT (A := X.A.in1.in1) I1 hq ht hn hz (fun u tk => ⟨_, u, rfl, .str (intsT ns), H1, I1.tok _, ⟨u, rfl⟩, q⟩) _)
/-- repr(t) -/
theorem call_reprI (hq : Quiet X.A) (hr : Room k X.A) : CallR X (.builtin "repr") (fun xs H Q => ∃ (a : Addr) (ns : List Int), xs = [V.ref a] ∧ SqT X.K H a (ns.map V.int) ∧ (∀ n ∈ ns, n.natAbs.log2 < 1920) ∧ (intsT ns).length ≤ sizeLine ∧ Q (.str (intsT ns)) H) := by
  intro pins s σ H xs us Q I r h
  obtain ⟨a, ns, rfl, ht, hn, hz, q⟩ := h
  rw [Vals.ref1 r]
  obtain ⟨its, rv, ⟨o, ho, hc, _⟩, _⟩ := I.tuple ht
  have hu := hr.units
  exact call_repr_slot (by omega) ⟨o, ho, hc⟩ F.slot_tuple_repr (run_reprT (A := X.A.in1) I hq ht hn hz (fun u tk => ⟨_, u, rfl, .str (intsT ns), H, I.tok _, ⟨u, rfl⟩, q⟩) s.toks)
end
end L2
namespace LamX
open PySem PySem.Spec PyProof.Rows L2
/-! ### the end of a law, told that no repr is under way -/
section
variable {P : Program} {w : World} {K : PySem.W.Frag} {mg mb : Str → Option Value} {CX : CXT} {k : Nat} {fa a : Addr} {cs : List (Addr × Addr)} {sp : Sp} {s1 : Shared} {vs : List Value} {ns : List Int}
/-- what may be tracked at a law's start: the script (locked), the tables -/
def startH (K : PySem.W.Frag) (a : Addr) (vs : List Value) (ns : List Int) (ts : List Addr) : Hp := fun b => if b ∈ ts then some (.tbl #[]) else if b = a ∧ K.lookup a = none then some (.frz { cls := .type "list", data := .seq vs.toArray } (.lst (ns.map V.int))) else none
theorem start_cases {ts : List Addr} {b : Addr} {u : HO} (e : startH K a vs ns ts b = some u) : (b ∈ ts ∧ u = .tbl #[]) ∨ (b ∉ ts ∧ b = a ∧ K.lookup a = none ∧ u = .frz { cls := .type "list", data := .seq vs.toArray } (.lst (ns.map V.int))) := by
  unfold startH at e
  split at e
  · rename_i h
    exact .inl ⟨h, (Option.some.inj e).symm⟩
  · rename_i h
    split at e
    · rename_i h2
      exact .inr ⟨h, h2.1, h2.2, (Option.some.inj e).symm⟩
    · cases e
theorem law_callG (KX : K.In s1.heap) (hns : s1.heap.Ns mainGlobals mg) (hb : s1.heap.Ns builtinsNs mb) (hbb : ∀ x : Str, x ≠ "__name__" → mb x = bootBuiltins x) (hlim : s1.heap.NoLimit) (hg : s1.gens = #[])
    (tab : ∀ p ∈ cs, s1.heap.get? p.2 = some { cls := .none, data := .fields #[] }) (out : ∀ p ∈ cs, K.lookup p.2 = none) (hd : ∀ p ∈ cs, PySem.W.CodeHd s1.heap p.1 p.2)
    (bmod : ∃ (bm : Addr) (ob : Obj), mg "__builtins__" = some (.ref bm) ∧ bm ≠ builtinsNs ∧ s1.heap.get? bm = some ob ∧ ob.cls = .type "module" ∧ ob.dict = some builtinsNs ∧ ob.data = .plain)
    (ho : s1.heap.get? a = some { cls := .type "list", data := .seq vs.toArray }) (hi : IntsAre vs ns) (hl : ns.length ≤ sizeLine) (hr : Room k callerA)
    (F : ∀ base : Heap, K.In base → base.Ns mainGlobals mg → (∀ p ∈ cs, TabB base mg p.1 p.2) → FnG P w K mg base CX k fa sp)
    (hsp : ∀ H : Hp, (∀ p ∈ cs, H p.2 = some (.tbl #[])) → SqL K H a (ns.map V.int) → sp [.ref a] H (fun v _ => v = .bl true) fun _ _ _ => False)
    (hCX : ∀ H e s', CX [] H s1 (fun _ _ _ => False) e s' → False) :
    codeAny (model P w) callerA (.call (.ref fa) ⟨[.ref a], []⟩) (fun r s' => r = .ok (.ret (.bool true)) ∧ OldK s1.heap s'.heap ∧ s'.os = s1.os ∧ AllBare s'.gens) s1 := by
  -- the tables' places
  have isT : ∀ b ∈ cs.map (·.2), s1.heap.get? b = some { cls := .none, data := .fields #[] } ∧ K.lookup b = none := fun b z => by
    obtain ⟨p, hp, rfl⟩ := List.mem_map.mp z
    exact ⟨tab p hp, out p hp⟩
  have inT : ∀ p ∈ cs, p.2 ∈ cs.map (·.2) := fun p hp => List.mem_map.mpr ⟨p, hp, rfl⟩
  generalize hts : cs.map (·.2) = ts at isT inT
  have anT : a ∉ ts := fun z => by
    have := (isT a z).1
    rw [ho] at this
    have y : Data.seq vs.toArray _ = Data.fields #[] := congrArg Obj.data (Option.some.inj this)
    cases y
  let H : Hp := startH K a vs ns ts
  have hH : ∀ b u, H b = some u → (b ∈ ts ∧ u = .tbl #[]) ∨ (b ∉ ts ∧ b = a ∧ K.lookup a = none ∧ u = .frz { cls := .type "list", data := .seq vs.toArray } (.lst (ns.map V.int))) := fun b u e => start_cases e
  have hTbl : ∀ p ∈ cs, H p.2 = some (.tbl #[]) := fun p hp => if_pos (inT p hp)
  have hok : HOk P w H s1.heap := fun b u e => by
    rcases hH b u e with ⟨z, rfl⟩ | ⟨_, rfl, _, rfl⟩
    · exact (isT b z).1
    · exact ⟨ho, by rw [List.length_map]; exact hl, vs, _, vals_ints hi, ho⟩
  -- an object that is no table and not the script is none of H
  have free : ∀ {b : Addr} {o : Obj}, s1.heap.get? b = some o → (∀ xs n, o.data ≠ .seq xs n) → o.data ≠ .fields #[] → H b = none := fun {b o} e n1 n2 => by
    cases z : H b with
    | none => rfl
    | some u =>
      rcases hH b u z with ⟨y, _⟩ | ⟨_, rfl, _, _⟩
      · rw [(isT b y).1] at e
        cases e
        exact absurd rfl n2
      · rw [ho] at e
        cases e
        exact absurd rfl (n1 _ _)
  have hid : ∀ {b : Addr} {o : Obj}, s1.heap.get? b = some o → (∀ xs n, o.data ≠ .seq xs n) → o.data ≠ .fields #[] → (hidT s1.heap H).get? b = some o := fun e n1 n2 => hidT_get e (free e n1 n2)
  have hidNs : ∀ {b : Addr} {m : Str → Option Value}, s1.heap.Ns b m → (hidT s1.heap H).Ns b m := fun {b m} z => by
    obtain ⟨o, es, ep, e, d, r⟩ := z
    exact ⟨o, es, ep, hid e (fun _ _ y => by rw [d] at y; cases y) (fun y => by rw [d] at y; cases y), d, r⟩
  have KH : K.In (hidT s1.heap H) := fun b o e => hidT_get (KX b o e) (by
    cases z : H b with
    | none => rfl
    | some u =>
      rcases hH b u z with ⟨y, _⟩ | ⟨_, rfl, y, _⟩
      · rw [(isT b y).2] at e
        cases e
      · rw [y] at e
        cases e)
  have TB : ∀ p ∈ cs, TabB (hidT s1.heap H) mg p.1 p.2 := fun p hp => by
    have tp := tab p hp
    refine ⟨?_, ?_, fun z => ?_⟩
    · obtain ⟨o, us, file, tf, flags, tg, inF, text, tt, e1, r1, r2, r3, rest⟩ := hd p hp
      exact ⟨o, us, file, tf, flags, tg, inF, text, tt, hid e1 (fun _ _ z => by rw [r2] at z; cases z) (fun z => by rw [r2] at z; cases z; simp at r3), r1, r2, r3, rest⟩
    · obtain ⟨bm, ob, b1, b2, b3, b4, b5, b6⟩ := bmod
      refine ⟨bm, ob, b1, b2, fun z => ?_, fun z => ?_, hid b3 (fun _ _ z => by rw [b6] at z; cases z) (fun z => by rw [b6] at z; cases z), b4, b5, b6⟩
      · obtain ⟨o, _, _, e, d, _⟩ := hns
        rw [z, e] at b3
        cases b3
        rw [d] at b6
        cases b6
      · rw [z, tp] at b3
        cases b3
        cases b6
    · obtain ⟨o, _, _, e, d, _⟩ := hns
      rw [z, tp] at e
      cases e
      cases d
  have MD : L2.Mod K mg (hidT s1.heap H) := ⟨KH, hidNs hns, ⟨mb, hidNs hb, hbb⟩, hlim.elim fun mc z => ⟨mc, hidNs z.1, z.2⟩⟩
  have E0' : Env0 P w K mg (hidT s1.heap H) callerA [] s1 H := ⟨rfl, MD, fun _ _ e => of_hidT e, Nat.le_of_eq (hidT_size _ _), trivial, fun _ z => absurd (show _ ∈ ([] : List Addr) from z) List.not_mem_nil, hok, .of_eq hg⟩
  have hS : SqL K H a (ns.map V.int) := by
    cases z : K.lookup a with
    | none => exact .inl (.inr ⟨_, show startH K a vs ns ts a = _ from (if_neg anT).trans (if_pos ⟨rfl, z⟩)⟩)
    | some o =>
      have e := KX a o z
      rw [ho] at e
      cases e
      exact .inr ⟨_, vs.toArray, _, z, rfl, rfl, rfl, by rw [List.size_toArray, hi.length]; exact hl, vals_ints hi⟩
  refine codeAny_mono (F _ KH (hidNs hns) TB callerA [] s1 H [.ref a] [.ref a] _ _ rfl hr E0' (.cons rfl .nil) (hsp H hTbl hS)) fun r s' z => ?_
  cases r with
  | error e => exact (hCX H e s' z).elim
  | ok fl =>
    cases fl with
    | next => cases z
    | brk => cases z
    | cont => cases z
    | ret u =>
      obtain ⟨v, H', os, bare, un, hok', rv, rfl⟩ := z
      cases (show u = Value.bool true from rv)
      have nofs : ∀ b : Addr, b ∉ frs ([] : List Env) := fun b z => absurd (show b ∈ ([] : List Addr) from z) List.not_mem_nil
      have kept : ∀ b o, b ∉ ts → s1.heap.get? b = some o → s'.heap.get? b = some o := fun b o nb e => by
        cases y : H b with
        | none => exact un.keep b o e y (nofs b) List.not_mem_nil
        | some u =>
          rcases hH b u y with ⟨x, _⟩ | ⟨_, rfl, _, rfl⟩
          · exact absurd x nb
          · rw [ho] at e
            cases e
            exact (hok' b _ (un.frzs b _ _ y)).1
      have more : ∀ p ∈ cs, ∃ xs : Array Value, s'.heap.get? p.2 = some { cls := .none, data := .fields xs } := fun p hp => by
        obtain ⟨m, y⟩ := un.tbls p.2 #[] (hTbl p hp)
        exact ⟨_, hok' p.2 _ y⟩
      have ofT : ∀ {b : Addr}, b ∈ ts → ∃ p ∈ cs, p.2 = b := fun {b} z => by
        rw [← hts] at z
        exact List.mem_map.mp z
      refine ⟨rfl, ⟨fun b o e => ?_, fun b o e => ?_⟩, os, bare⟩
      · by_cases c : b ∈ ts
        · obtain ⟨p, hp, rfl⟩ := ofT c
          obtain ⟨xs, y⟩ := more p hp
          rw [tab p hp] at e
          cases e
          exact .inr (.inl ⟨((hd p hp).tab (tab p hp)).isCodeTable, rfl, #[], xs, rfl, by rw [Array.empty_append]; exact y⟩)
        · exact .inl (kept b o c e)
      · by_cases c : b ∈ ts
        · obtain ⟨p, hp, rfl⟩ := ofT c
          obtain ⟨xs, y⟩ := more p hp
          exact ⟨_, y⟩
        · exact ⟨o, kept b o c e⟩
def LawG (l : PySem.W.OpenLaw) (w : World) (K : PySem.W.Frag) (CX : CXT) (k n : Nat) (mg : Str → Option Value) (fa : Addr) (h : Heap) : Prop :=
  ∃ (cs : List (Addr × Addr)) (sp : Sp), (∀ p ∈ cs, h.get? p.2 = some { cls := .none, data := .fields #[] }) ∧ (∀ p ∈ cs, K.lookup p.2 = none) ∧ (∀ p ∈ cs, PySem.W.CodeHd h p.1 p.2) ∧
    (∀ (H : Hp) (a : Addr) (ns : List Int), ns.length ≤ n → (∀ z ∈ ns, Builtin.Int.intBits z ≤ 1048576) → (∀ p ∈ cs, H p.2 = some (.tbl #[])) → SqL K H a (ns.map V.int) → sp [.ref a] H (fun v _ => v = .bl true) fun _ _ _ => False) ∧
    ∀ base : Heap, K.In base → base.Ns mainGlobals mg → (∀ p ∈ cs, TabB base mg p.1 p.2) → FnG l.prog w K mg base CX k fa sp
theorem walkG {l : PySem.W.OpenLaw} {n k : Nat} {q : Program} {loose : List Str} {XP : (Str → Option Value) → Heap → Prop} {YP : World → Heap → Prop} {d : DefRec} {CX : World → CXT} (h1 : l.most = some n) (h2 : n ≤ sizeLine) (h3 : d.params.defaults = []) (h4 : Room k callerA)
    (F : ∀ (w : World) (mg : Str → Option Value) (fa : Addr) (h : Heap), YP w h → h.Ns mainGlobals mg → mg d.name = some (.ref fa) → ∃ K : PySem.W.Frag, K.In h ∧ LawG l w K (CX w) k n mg fa h)
    (hCX : ∀ (w : World) (H : Hp) (s : Shared) (e : Value) (s' : Shared), CX w [] H s (fun _ _ _ => False) e s' → False) : PySem.W.WalkO q loose XP YP l.row.toRowW d [] (fun f vs => PySem.call f vs) := by
  refine Att.attach_callB h1 h3 fun w s0 s1 mg mb fa o pm cd doc a vs ns G Y _ _ _ e1 e2 e3 e4 e5 e6 => ?_
  obtain ⟨K, KX, cs, sp, t1, t2, t3, t4, t5⟩ := F w mg fa _ Y G.T.g e1
  exact law_callG KX G.T.g G.T.b G.T.builtins G.T.nolimit e6 t1 t2 t3 G.T.bmain e2 e3 (Nat.le_trans e4 h2) h4 t5 (fun H y z => t4 H a ns e4 e5 y z) fun H e s' => hCX w H s1 e s'
end
end LamX
set_option Elab.async false
set_option linter.all false
set_option maxRecDepth 100000
set_option maxHeartbeats 4000000
/-! a def of an own class that returns NotImplemented, and `==` that comes to it (own text) -/
namespace L2
open PySem PySem.Spec PyProof.Rows
abbrev NQ := Hp → Prop
/-- where a statement returns NotImplemented -/
structure PSN (X : Cx) (st : Stmt) (t : St → Hp → NQ → Prop) : Prop where
  run : ∀ (pins : List (Addr × Obj)) (s : Shared) (σ : St) (H : Hp) (Q : NQ), Inv X pins σ H s → t σ H Q → wpAny (model X.prog X.w) X.A (exec st X.env) (fun f s' => f = .ret .notImplemented ∧ ∃ σ' H', Inv X pins σ' H' s' ∧ Q H') X.xe s
structure PSNs (X : Cx) (sts : List Stmt) (t : St → Hp → NQ → Prop) : Prop where
  run : ∀ (pins : List (Addr × Obj)) (s : Shared) (σ : St) (H : Hp) (Q : NQ), Inv X pins σ H s → t σ H Q → wpAny (model X.prog X.w) X.A (execs sts X.env) (fun f s' => f = .ret .notImplemented ∧ ∃ σ' H', Inv X pins σ' H' s' ∧ Q H') X.xe s
section
variable {X : Cx} {t u : St → Hp → NQ → Prop} {pos : Pos}
theorem psn_ret {p : Pos} (hg : Gl X "NotImplemented") (hm : X.mg "NotImplemented" = none) : PSN X (.Return (some (.Name "NotImplemented" p)) pos) (fun _ H Q => Q H) :=
  ⟨fun pins s σ H Q I h => wpAny_Return_some (ld_blt I hg hm (by decide +kernel) ⟨rfl, σ, H, I, h⟩)⟩
theorem psns_head {st : Stmt} {rest : List Stmt} (h : PSN X st t) : PSNs X (st :: rest) t := by
  refine ⟨fun pins s σ H Q I q => wpAny_execs_cons (thn (h.run pins s σ H Q I q) fun f s1 z => ?_)⟩
  obtain ⟨rfl, z⟩ := z
  exact ⟨rfl, z⟩
theorem psn_if {c : Expr} {a b : List Stmt} {tc : TT} (hc : PT X c tc) (ha : PSNs X a t) (hb : PSNs X b u) : PSN X (.If c a b pos) (fun σ H Q => tc σ H fun r H1 => if r = true then t σ H1 Q else u σ H1 Q) := by
  refine ⟨fun pins s σ H D I h => ?_⟩
  refine wpAny_If (thn (hc.run pins s σ H _ I h) fun d s1 ⟨H1, I1, q1⟩ => ?_)
  cases d with
  | true => exact ha.run pins s1 σ H1 D I1 q1
  | false => exact hb.run pins s1 σ H1 D I1 q1
theorem psns_never {sts : List Stmt} : PSNs X sts (fun _ _ _ => False) := ⟨fun _ _ _ _ _ _ h => h.elim⟩
end
abbrev SpN := List V → Hp → NQ → Prop
def NR (outer : List Env) (P : Program) (w : World) (H : Hp) (s : Shared) (Q : NQ) (r : Result) (s' : Shared) : Prop :=
  r = .ok (.ret .notImplemented) ∧ ∃ H', s'.os = s.os ∧ AllBare s'.gens ∧ Un (frs outer) [] H H' s.heap s'.heap ∧ HOk P w H' s'.heap ∧ Q H'
/-- the def at f returns NotImplemented where sp holds -/
def FnNI (P : Program) (w : World) (K : PySem.W.Frag) (mg : Str → Option Value) (base : Heap) (k : Nat) (f : Addr) (sp : SpN) : Prop :=
  ∀ (A : Around) (outer : List Env) (s : Shared) (H : Hp) (us : List Value) (vs : List V) (Q : NQ), Room k A → Env0 P w K mg base A outer s H → Vals vs us → sp vs H Q →
    codeAny (model P w) A (.call (.ref f) ⟨us, []⟩) (NR outer P w H s Q) s
theorem fnN_of {P : Program} {w : World} {K : PySem.W.Frag} {mg : Str → Option Value} {base : Heap} {k : Nat} {f : Addr} {name qual : Str} {params : Arguments} {body : List Stmt} {scope : Scope} {dV kV doc pm cdv ct oc : Value} {an od : Option Addr}
    {osl : Array (Option Value)} {N ps : List Str} {sp : SpN} (lk : K.lookup f = some ⟨oc, od, .func (PySem.W.fnOf name qual params body scope dV kV doc pm an cdv ct), osl⟩) (hcd : PySem.W.codeIn K cdv qual = true) (S : FnScope N ps scope)
    (bd : Binds K (PySem.W.fnOf name qual params body scope dV kV doc pm an cdv ct) ps []) (len : ∀ vs H Q, sp vs H Q → vs.length = ps.length)
    (hbody : ∀ (A : Around) (outer : List Env) (s : Shared) (H : Hp) (vs : List V) (Q : NQ), Room k (A.deeper (envOfC qual scope s.heap.objs.size f cdv)) → sp vs H Q →
      ∃ t, PSNs (cxOf CX0 P w K mg base N qual scope f cdv A outer s H E0).nox body t ∧ t (start N vs) H Q) : FnNI P w K mg base (k + 1) f sp := by
  intro A outer s H us vs Q hr e0 r hsp
  have hl := len _ _ _ hsp
  have KX : K.In s.heap := e0.mod.kin.keeps fun b o e => (e0.bs b o e).1
  have lim : s.heap.NoLimit := e0.mod.nolimit.keeps fun b o e => (e0.bs b o e).1
  have hb := bd s us KX (by rw [List.append_nil, ← r.length]; exact hl)
  rw [List.append_nil] at hb
  have hkind : ∀ y ∈ ps.zip us, scope.names.lookup y.1 = some .local ∨ (scope.names.lookup y.1 = some .cell ∧ ((cellsFrom (s.heap.objs.size + 1) scope.names []).lookup y.1).isSome = true) := fun ⟨n, v⟩ hy => by
    rcases S.par n (List.of_mem_zip hy).1 with q | q
    · exact .inl q
    · exact .inr ⟨q, PySem.W.cellsFrom_some _ _ _ (.inl q)⟩
  refine codeAny_call_function hr.depth (KX _ _ lk) rfl S.co S.gen rfl (PySem.W.codeRec_of KX hcd) (hb _ _ _ _ ?_)
  refine wpAny_newFunctionEnv_cells S.kind hkind fun env he s1 x => ?_
  subst he
  refine ⟨lim.keeps x.toInCall.keep, codeAny_func ?_⟩
  obtain ⟨t, ht, hq⟩ := hbody A outer s H vs Q (hr.deeper _) hsp
  have I : Inv (cxOf CX0 P w K mg base N qual scope f cdv A outer s H E0) [] (start N vs) H s1 := inv_start S hr.hd e0 hl r x
  refine wpAny_mono (ht.run [] s1 (start N vs) H _ (I.wish _) hq) (fun fl s' hs => ?_) fun e s' hs => hs.elim
  obtain ⟨rfl, σ', H', J, q⟩ := hs
  have J : Inv (cxOf CX0 P w K mg base N qual scope f cdv A outer s H E0) [] σ' H' s' := J.unwish
  exact ⟨rfl, H', J.os, J.bare, J.base, J.hok, q⟩
theorem run_fnNI {X : Cx} {pins : List (Addr × Obj)} {σ : St} {H : Hp} {s : Shared} {k : Nat} {f : Addr} {sp : SpN} {Q : NQ} {us : List Value} {vs : List V} (F : FnNI X.prog X.w X.K X.mg X.base k f sp) (hr : Room k X.A) (I : Inv X pins σ H s) (r : Vals vs us) (h : sp vs H Q) :
    codeAny (model X.prog X.w) X.A (.call (.ref f) ⟨us, []⟩) (fun r s' => match r with | .ok (.ret v) => v = .notImplemented ∧ ∃ H', Inv X pins σ H' s' ∧ Q H' | .ok _ => False | .error e => X.xe e s') s := by
  refine codeAny_mono (F X.A X.stack s H us vs Q hr I.env0 r h) fun r s' hq => ?_
  obtain ⟨rfl, H', os, ag, un, hok, q⟩ := hq
  exact ⟨rfl, H', I.call' (ch := []) os un hok ag fun b hb => (nomatch hb), q⟩
end L2

namespace L2
open PySem PySem.Spec PyProof.Rows
theorem int_declines_ins (b : Int) (u : Tok) (l C dx : Addr) :
    Meets (Builtin.«int.__eq__» ⟨[.int b u, .ref l], []⟩) (fun _ R s => s.heap.get? l = some (PySem.W.instObj C dx) ∧ R (.ok (.ret .notImplemented)) s) :=
  .of_wp fun prog w A R s h => by obtain ⟨hp, g, d, tk, os⟩ := s; obtain ⟨hl, h⟩ := h; unfold PySem.W.instObj at hl; wp_walk using wpAny_loadPart' hl, wpAny_load hl; exact ⟨_, rfl, h⟩
theorem bool_declines_ins (b : Bool) (l C dx : Addr) :
    Meets (Builtin.«int.__eq__» ⟨[.bool b, .ref l], []⟩) (fun _ R s => s.heap.get? l = some (PySem.W.instObj C dx) ∧ R (.ok (.ret .notImplemented)) s) :=
  .of_wp fun prog w A R s h => by obtain ⟨hp, g, d, tk, os⟩ := s; obtain ⟨hl, h⟩ := h; unfold PySem.W.instObj at hl; wp_walk using wpAny_loadPart' hl, wpAny_load hl; exact ⟨_, rfl, h⟩
theorem str_declines_ins (b : Str) (u : Tok) (l C dx : Addr) :
    Meets (Builtin.«str.__eq__» ⟨[.str b u, .ref l], []⟩) (fun _ R s => s.heap.get? l = some (PySem.W.instObj C dx) ∧ R (.ok (.ret .notImplemented)) s) :=
  .of_wp fun prog w A R s h => by obtain ⟨hp, g, d, tk, os⟩ := s; obtain ⟨hl, h⟩ := h; unfold PySem.W.instObj at hl; wp_walk using wpAny_loadPart' hl, wpAny_load hl; exact ⟨_, rfl, h⟩
theorem none_declines_ins (l C dx : Addr) :
    Meets (Builtin.«NoneType.__eq__» ⟨[.none, .ref l], []⟩) (fun _ R s => s.heap.get? l = some (PySem.W.instObj C dx) ∧ R (.ok (.ret .notImplemented)) s) :=
  .of_wp fun prog w A R s h => by obtain ⟨hp, g, d, tk, os⟩ := s; obtain ⟨hl, h⟩ := h; wp_walk; exact ⟨_, rfl, h⟩
section
variable {X : Cx} {C g : Addr} {n : Nat} {sp : SpN}
/-- x == y, y of another kind T whose own __eq__ declines, the class's own __eq__ having returned NotImplemented -/
theorem eq_NI {pins : List (Addr × Obj)} {σ : St} {H : Hp} {s : Shared} {a dx : Addr} {fs : List (Str × V)} {y : V} {u : Value} {T id : String} {E : Value → Shared → Prop} {Q : Value → Shared → Prop} {N : NQ} (I : Inv X pins σ H s) (ha : H a = some (.ins C dx fs)) (ry : RelV y u)
    (hop : compareOp .Eq (.ref a) u = richCompare .Eq (.ref a) u) (hs : PySem.W.findIn X.K (.ref C) "__eq__" = some (some (.ref g))) (hf : PySem.W.isFn X.K (.ref g) = true) (F : FnNI X.prog X.w X.K X.mg X.base n g sp) (hr : Room n X.A) (hsub : PySem.W.subIn X.K (.type T) (.ref C) = some false)
    (hT : ∀ s' : Shared, s'.TypeIs u T) (hsl : Slot T "__eq__" id) (hsame : isSame (.ref a) u = pure false) (hxe : X.xe = E)
    (hdec : ∀ (s' : Shared) (Q' : Value → Shared → Prop), s'.heap.get? a = some (PySem.W.instObj C dx) → Q' .notImplemented s' → wpAny (model X.prog X.w) X.A (call (.builtin id) [u, .ref a]) Q' E s')
    (hq : sp [.ref a, y] H N) (hN : ∀ H1, N H1 → H1 a = some (.ins C dx fs) ∧ ∀ s', Inv X pins σ H1 s' → Q (.bool false) s') : wpAny (model X.prog X.w) X.A (compareOp .Eq (.ref a) u) Q E s := by
  subst hxe
  obtain ⟨mA, J, _⟩ := ins_get I.hok ha
  obtain ⟨od, J, _⟩ := J.look
  obtain ⟨m, hF⟩ := I.fr
  have KX : X.K.In s.heap := I.kIn
  have hu := hr.units0
  have one : wpAny (model X.prog X.w) X.A (tryCompare (.ref a) (cmpInfo .Eq).2.1 u) (fun r s' => r = none ∧ ∃ H1, Inv X pins σ H1 s' ∧ H1 a = some (.ins C dx fs) ∧ ∀ s', Inv X pins σ H1 s' → Q (.bool false) s') X.xe s := by
    unfold tryCompare
    refine wpAny_bind (PySem.W.ifBound_K KX J hs hf (wpAny_mono (wpAny_call (run_fnNI (us := [.ref a, u]) (vs := [.ref a, y]) F hr I (.cons rfl (.cons ry .nil)) hq)) (fun v s1 hv => ?_) fun _ _ e => e))
    obtain ⟨rfl, H1, I1, hn⟩ := hv
    exact wpAny_pure ⟨rfl, H1, I1, hN H1 hn⟩
  rw [hop]
  unfold richCompare
  simp only [oneThing_ref]
  refine wpAny_holding (wpAny_bind (wpAny_cRoomFor hu ?_))
  refine wpAny_bind (J.type.here (wpAny_bind (wpAny_typeOf (hT s) ?_)))
  rw [if_pos (show (Value.ref C != Value.type T) = true from by simp)]
  refine wpAny_bind ((PySem.W.looks_subIn KX hsub).here ?_)
  simp only [Bool.false_eq_true, if_false]
  refine wpAny_bind (wpAny_mono one (fun r s1 z => ?_) fun _ _ e => e)
  obtain ⟨rfl, H1, I1, h1, q⟩ := z
  obtain ⟨mB, J1, _⟩ := ins_get I1.hok h1
  simp only [Bool.not_false, if_true]
  refine wpAny_bind (wpAny_tryCompare_declines (hT s1) hsl (hdec s1 _ J1.obj ⟨rfl, ?_⟩))
  refine wpAny_bind (wpAny_rule (wpAny_bind (wpAny_of_eq hsame (wpAny_pure ?_))))
  exact q s1 I1
/-- x == y, y an int, a bool, a text, None: the class's own __eq__ returns NotImplemented -/
def rEqNI (C : Addr) (sp : SpN) : R2 := fun x y H Q => ∃ a dx fs, x = .ref a ∧ H a = some (.ins C dx fs) ∧ ((∃ i, y = .int i) ∨ (∃ b, y = .bl b) ∨ (∃ t, y = .str t) ∨ y = .non) ∧ sp [x, y] H fun H1 => H1 a = some (.ins C dx fs) ∧ Q (.bl false) H1
theorem op_eqNI (hs : PySem.W.findIn X.K (.ref C) "__eq__" = some (some (.ref g))) (hf : PySem.W.isFn X.K (.ref g) = true) (F : FnNI X.prog X.w X.K X.mg X.base n g sp) (hr : Room n X.A)
    (s1 : PySem.W.subIn X.K (.type "int") (.ref C) = some false) (s2 : PySem.W.subIn X.K (.type "bool") (.ref C) = some false) (s3 : PySem.W.subIn X.K (.type "str") (.ref C) = some false) (s4 : PySem.W.subIn X.K (.type "NoneType") (.ref C) = some false) : OpR X (compareOp .Eq) (rEqNI C sp) := by
  intro pins s σ H x y v u Q I rx ry h
  obtain ⟨a, dx, fs, rfl, ha, hy, q⟩ := h
  cases (show v = Value.ref a from rx)
  have fin : ∀ H1, (H1 a = some (.ins C dx fs) ∧ Q (.bl false) H1) → H1 a = some (.ins C dx fs) ∧ ∀ s', Inv X pins σ H1 s' → EP X pins σ Q (.bool false) s' := fun H1 z => ⟨z.1, fun s' J => ⟨.bl false, H1, J, rfl, z.2⟩⟩
  rcases hy with ⟨i, rfl⟩ | ⟨b, rfl⟩ | ⟨t, rfl⟩ | rfl
  · obtain ⟨k, rfl⟩ := (show ∃ t, u = Value.int i t from ry)
    exact eq_NI (T := "int") I ha ry rfl hs hf F hr s1 (fun s' => typeIs_int s' i k) PySem.F.slot_int_eq_refl rfl rfl (fun s' Q' h1 h2 => call_meets PySem.F.slot_int_eq_refl (typeIs_int s' i k) PySem.F.entry_int_eq (PySem.F.args_int_eq_2 _ _) (int_declines_ins i k a C dx) ⟨h1, h2⟩) q fin
  · obtain rfl := (show u = Value.bool b from ry)
    exact eq_NI (T := "bool") I ha ry rfl hs hf F hr s2 (fun _ => rfl) PySem.F.slot_bool_eq_refl rfl rfl (fun s' Q' h1 h2 => call_meets PySem.F.slot_bool_eq_refl rfl PySem.F.entry_int_eq (PySem.F.args_int_eq_2 _ _) (bool_declines_ins b a C dx) ⟨h1, h2⟩) q fin
  · obtain ⟨k, rfl⟩ := (show ∃ k, u = Value.str t k from ry)
    exact eq_NI (T := "str") I ha ry rfl hs hf F hr s3 (fun s' => typeIs_str s' t k) PySem.F.slot_str_eq_refl rfl rfl (fun s' Q' h1 h2 => call_meets PySem.F.slot_str_eq_refl (typeIs_str s' t k) PySem.F.entry_str_eq (PySem.F.args_str_eq_2 _ _) (str_declines_ins t k a C dx) ⟨h1, h2⟩) q fin
  · obtain rfl := (show u = Value.none from ry)
    exact eq_NI (T := "NoneType") I ha ry rfl hs hf F hr s4 (fun _ => rfl) PySem.F.slot_NoneType_eq_refl rfl rfl (fun s' Q' h1 h2 => call_meets PySem.F.slot_NoneType_eq_refl rfl PySem.F.entry_NoneType_eq (PySem.F.args_NoneType_eq_2 _ _) (none_declines_ins a C dx) ⟨h1, h2⟩) q fin
end
end L2
set_option Elab.async false
set_option linter.all false
set_option maxRecDepth 100000
set_option maxHeartbeats 4000000
namespace L2
open PySem PySem.Spec PyProof.Rows
theorem tup_declines_ins {P : Program} {w : World} {K : PySem.W.Frag} (l t C dx : Addr) (items : Array Value) (n : Nat) (dd : Option Addr) (sl : Array (Option Value)) (hs : PySem.W.subIn K (.ref C) (.type "tuple") = some false) :
    MeetsIn P w (Builtin.«tuple.__eq__» ⟨[.ref t, .ref l], []⟩) (fun _ R s => K.In s.heap ∧ s.heap.get? t = some { cls := .type "tuple", dict := dd, data := .seq items n, slots := sl } ∧ s.heap.get? l = some (PySem.W.instObj C dx) ∧ R (.ok (.ret .notImplemented)) s) :=
  .of_wp fun A R s h => by
    obtain ⟨hp, g, d, tk, os⟩ := s
    obtain ⟨hk, ht, hl, h⟩ := h
    have ty : ∀ {Q : Bool → Shared → Prop} {E : Value → Shared → Prop}, Q false ⟨hp, g, d, tk, os⟩ → wpAny (model P w) A.in1 (isInstance (.ref l) (.type "tuple")) Q E ⟨hp, g, d, tk, os⟩ := fun q => by
      unfold isInstance
      exact wpAny_bind (wpAny_typeOf_ref hl (by exact (PySem.W.looks_subIn hk hs).here q))
    wp_walk using wpAny_loadPart' ht, ty
    exact ⟨_, rfl, h⟩
theorem lst_declines_ins {P : Program} {w : World} {K : PySem.W.Frag} (l t C dx : Addr) (items : Array Value) (n : Nat) (dd : Option Addr) (sl : Array (Option Value)) (hs : PySem.W.subIn K (.ref C) (.type "list") = some false) :
    MeetsIn P w (Builtin.«list.__eq__» ⟨[.ref t, .ref l], []⟩) (fun _ R s => K.In s.heap ∧ s.heap.get? t = some { cls := .type "list", dict := dd, data := .seq items n, slots := sl } ∧ s.heap.get? l = some (PySem.W.instObj C dx) ∧ R (.ok (.ret .notImplemented)) s) :=
  .of_wp fun A R s h => by
    obtain ⟨hp, g, d, tk, os⟩ := s
    obtain ⟨hk, ht, hl, h⟩ := h
    have ty : ∀ {Q : Bool → Shared → Prop} {E : Value → Shared → Prop}, Q false ⟨hp, g, d, tk, os⟩ → wpAny (model P w) A.in1 (isInstance (.ref l) (.type "list")) Q E ⟨hp, g, d, tk, os⟩ := fun q => by
      unfold isInstance
      exact wpAny_bind (wpAny_typeOf_ref hl (by exact (PySem.W.looks_subIn hk hs).here q))
    wp_walk using wpAny_loadPart' ht, ty
    exact ⟨_, rfl, h⟩
theorem same_ins {M : Model} {A : Around} {E : Value → Shared → Prop} {s : Shared} {a t C dx : Addr} {o : Obj} {Q : Bool → Shared → Prop} (ha : s.heap.get? a = some (PySem.W.instObj C dx)) (ht : s.heap.get? t = some o) (n : a ≠ t) (q : Q false s) : wpAny M A (isSame (.ref a) (.ref t)) Q E s := by
  unfold isSame
  dsimp only
  rw [if_neg (by simpa using n)]
  refine wpAny_bind (wpAny_load ha (wpAny_bind (wpAny_load ht ?_)))
  exact wpAny_pure q
section
variable {X : Cx} {C g : Addr} {n : Nat} {sp : SpN}
theorem SqT_same {K : PySem.W.Frag} {H H1 : Hp} {t : Addr} {xs : List V} (e : Same H H1) (h : SqT K H t xs) : SqT K H1 t xs := by
  rcases h with (h | ⟨o', h⟩) | h
  · exact .inl (.inl (e _ _ h))
  · exact .inl (.inr ⟨o', e _ _ h⟩)
  · exact .inr h
/-- as eq_NI, y an object of the heap -/
theorem eq_NIr {pins : List (Addr × Obj)} {σ : St} {H : Hp} {s : Shared} {a t dx : Addr} {fs : List (Str × V)} {T id : String} {Q : Value → Shared → Prop} {N : NQ} (I : Inv X pins σ H s) (ha : H a = some (.ins C dx fs))
    (hop : compareOp .Eq (.ref a) (.ref t) = richCompare .Eq (.ref a) (.ref t)) (hs : PySem.W.findIn X.K (.ref C) "__eq__" = some (some (.ref g))) (hf : PySem.W.isFn X.K (.ref g) = true) (F : FnNI X.prog X.w X.K X.mg X.base n g sp) (hr : Room n X.A) (hsub : PySem.W.subIn X.K (.type T) (.ref C) = some false)
    (hT : s.TypeIs (.ref t) T) (hsl : Slot T "__eq__" id) (hq : sp [.ref a, .ref t] H N)
    (hN : ∀ H1 s1, N H1 → Inv X pins σ H1 s1 → s1.TypeIs (.ref t) T ∧ wpAny (model X.prog X.w) X.A (call (.builtin id) [.ref t, .ref a]) (fun v s2 => v = .notImplemented ∧ wpAny (model X.prog X.w) X.A (isSame (.ref a) (.ref t)) (fun b s3 => Q (.bool b) s3) X.xe s2) X.xe s1) : wpAny (model X.prog X.w) X.A (compareOp .Eq (.ref a) (.ref t)) Q X.xe s := by
  obtain ⟨mA, J, _⟩ := ins_get I.hok ha
  obtain ⟨od, J, _⟩ := J.look
  obtain ⟨m, hF⟩ := I.fr
  have KX : X.K.In s.heap := I.kIn
  have hu := hr.units0
  have one : wpAny (model X.prog X.w) X.A (tryCompare (.ref a) (cmpInfo .Eq).2.1 (.ref t)) (fun r s' => r = none ∧ ∃ H1, Inv X pins σ H1 s' ∧ N H1) X.xe s := by
    unfold tryCompare
    refine wpAny_bind (PySem.W.ifBound_K KX J hs hf (wpAny_mono (wpAny_call (run_fnNI (us := [.ref a, .ref t]) (vs := [.ref a, .ref t]) F hr I (.cons rfl (.cons rfl .nil)) hq)) (fun v s1 hv => ?_) fun _ _ e => e))
    obtain ⟨rfl, H1, I1, hn⟩ := hv
    exact wpAny_pure ⟨rfl, H1, I1, hn⟩
  rw [hop]
  unfold richCompare
  simp only [oneThing_ref]
  refine wpAny_holding (wpAny_bind (wpAny_cRoomFor hu ?_))
  refine wpAny_bind (J.type.here (wpAny_bind (wpAny_typeOf hT ?_)))
  rw [if_pos (show (Value.ref C != Value.type T) = true from by simp)]
  refine wpAny_bind ((PySem.W.looks_subIn KX hsub).here ?_)
  simp only [Bool.false_eq_true, if_false]
  refine wpAny_bind (wpAny_mono one (fun r s1 z => ?_) fun _ _ e => e)
  obtain ⟨rfl, H1, I1, hn⟩ := z
  obtain ⟨hT1, hc⟩ := hN H1 s1 hn I1
  simp only [Bool.not_false, if_true]
  refine wpAny_bind (wpAny_tryCompare_declines hT1 hsl (wpAny_mono hc (fun v s2 h2 => ⟨h2.1, ?_⟩) fun _ _ e => e))
  exact wpAny_bind (wpAny_rule (wpAny_bind (wpAny_mono h2.2 (fun _ _ z => wpAny_pure z) fun _ _ e => e)))
/-- x == y, y a tuple or a list -/
def rEqNIs (K : PySem.W.Frag) (C : Addr) (sp : SpN) : R2 := fun x y H Q => ∃ a dx fs t xs, x = .ref a ∧ y = .ref t ∧ H a = some (.ins C dx fs) ∧ (SqT K H t xs ∨ SqL K H t xs) ∧ sp [x, y] H fun H1 => Same H H1 ∧ Q (.bl false) H1
theorem op_eqNIs (hs : PySem.W.findIn X.K (.ref C) "__eq__" = some (some (.ref g))) (hf : PySem.W.isFn X.K (.ref g) = true) (F : FnNI X.prog X.w X.K X.mg X.base n g sp) (hr : Room n X.A) (s1 : PySem.W.subIn X.K (.type "tuple") (.ref C) = some false) (s2 : PySem.W.subIn X.K (.type "list") (.ref C) = some false)
    (c1 : PySem.W.subIn X.K (.ref C) (.type "tuple") = some false) (c2 : PySem.W.subIn X.K (.ref C) (.type "list") = some false) : OpR X (compareOp .Eq) (rEqNIs X.K C sp) := by
  intro pins s σ H x y v u Q I rx ry h
  obtain ⟨a, dx, fs, t, xs, rfl, rfl, ha, hsq, q⟩ := h
  cases (show v = Value.ref a from rx)
  cases (show u = Value.ref t from ry)
  have mem : ∀ {H1 : Hp} {s1 : Shared}, Inv X pins σ H1 s1 → H1 a = some (.ins C dx fs) → s1.heap.get? a = some (PySem.W.instObj C dx) := fun I1 h1 => by
    obtain ⟨_, J1, _⟩ := ins_get I1.hok h1
    exact J1.obj
  rcases hsq with hS | hS
  · obtain ⟨its, _, ⟨o, ho, hc, hd⟩, _⟩ := I.tuple hS
    refine eq_NIr (T := "tuple") (N := fun H1 => Same H H1 ∧ Q (.bl false) H1) I ha rfl hs hf F hr s1 ⟨o, ho, hc⟩ PySem.F.slot_tuple_eq q fun H1 s1' hn I1 => ?_
    obtain ⟨its1, _, ⟨⟨cls, dd, data, sl⟩, ho1, hc1, n1, hd1⟩, _⟩ := I1.tuple (SqT_same hn.1 hS)
    simp only at hc1 hd1
    subst hc1 hd1
    have h1 := mem I1 (hn.1 _ _ ha)
    have ne : a ≠ t := fun z => by rw [z, ho1] at h1; cases h1
    exact ⟨⟨_, ho1, rfl⟩, call_meetsIn PySem.F.slot_tuple_eq ⟨_, ho1, rfl⟩ PySem.F.entry_tuple_eq (PySem.F.args_tuple_eq_2 _ _) (tup_declines_ins a t C dx _ _ _ _ c1) ⟨I1.kIn, ho1, h1, rfl, same_ins h1 ho1 ne ⟨.bl false, H1, I1, rfl, hn.2⟩⟩⟩
  · obtain ⟨its, _, pl, _⟩ := I.list hS
    obtain ⟨o, ho, hc, hd⟩ := pl.isList
    refine eq_NIr (T := "list") (N := fun H1 => Same H H1 ∧ Q (.bl false) H1) I ha rfl hs hf F hr s2 ⟨o, ho, hc⟩ PySem.F.slot_list_eq q fun H1 s1' hn I1 => ?_
    obtain ⟨its1, _, pl1, _⟩ := I1.list (Same.seq hn.1 hS)
    obtain ⟨⟨cls, dd, data, sl⟩, ho1, hc1, n1, hd1⟩ := pl1.isList
    simp only at hc1 hd1
    subst hc1 hd1
    have h1 := mem I1 (hn.1 _ _ ha)
    have ne : a ≠ t := fun z => by rw [z, ho1] at h1; cases h1
    exact ⟨⟨_, ho1, rfl⟩, call_meetsIn PySem.F.slot_list_eq ⟨_, ho1, rfl⟩ PySem.F.entry_list_eq (PySem.F.args_list_eq_2 _ _) (lst_declines_ins a t C dx _ _ _ _ c2) ⟨I1.kIn, ho1, h1, rfl, same_ins h1 ho1 ne ⟨.bl false, H1, I1, rfl, hn.2⟩⟩⟩
end
end L2
set_option Elab.async false
set_option linter.all false
set_option maxRecDepth 100000
set_option maxHeartbeats 4000000
namespace K02
open PySem PySem.Spec PyProof.Rows L2 RowM
section
variable {P : Program} {w : World} {K : PySem.W.Frag} {mg : Str → Option Value} {base : Heap}
/-! ### row == what is no row -/
def spEqN (K : PySem.W.Frag) (C : Addr) : SpN := fun vs H Q => ∃ (x y : V) (t : Value), vs = [x, y] ∧ TyX K H y t ∧ PySem.W.kitOne K t (.ref C) = some false ∧ Q H
theorem ok_eqN {f : Addr} {fd : FuncData} {C : Addr} (F : FnM K "__eq__" "Row.__eq__" (methOf (top 25) 9) f fd) (c_Row : mg "Row" = some (.ref C)) (m_isinstance : mg "isinstance" = none) (m_NI : mg "NotImplemented" = none) : FnNI P w K mg base 1 f (spEqN K C) := by
  have sc := sc_eq
  have bd := F.bindsN (ps := ["self", "other"]) fun _ _ _ _ _ _ us hl => match us, hl with | [_, _], _ => rfl
  obtain ⟨oc, od, dV, kV, doc, pm, an, cdv, ct, osl, rfl, lk, hcd, _, _⟩ := F.ex
  refine fnN_of lk hcd sc bd (fun vs H Q h => ?_) (fun A outer s H vs Q hr h => ?_)
  · obtain ⟨x, y, t, rfl, _⟩ := h
    rfl
  · obtain ⟨x, y, t, rfl, hy, hk, q⟩ := h
    refine ⟨_, psns_head (psn_if (pt_not (pt_val (pe_callB call_isi (by rfl) m_isinstance (by decide +kernel) (pa_cons (pv 1) (pa_cons (pe_glob (v := .ref C) rfl c_Row rfl) pa_nil))))) (psns_head (psn_ret rfl m_NI)) psns_never), ?_⟩
    exact ⟨_, rfl, _, _, _, _, _, rfl, .own _, hy, hk, _, rfl, iteT q⟩
/-! ### repr(row) -/
abbrev nZ (xs : List Nat) : List Int := xs.map fun s : Nat => ((s : Nat) : Int)
theorem nv_ints (xs : List Nat) : nv xs = (nZ xs).map V.int := nvL_ints xs
def rowT (f : Form) : Str := ("Row(" : Str) ++ intsT (nZ f.left) ++ (", " : Str) ++ intsT (nZ f.told) ++ (", " : Str) ++ intsT (nZ f.right) ++ (", start=" : Str) ++ ((toString f.start : String) : Str) ++ (")" : Str)
theorem ints_len {xs : List Nat} (h : Sg xs) : (intsT (nZ xs)).length ≤ 4 * xs.length + 2 := by
  have h1 := fmt_text ((nZ xs).map fun n => ((toString n : String) : Str))
  have h2 : piled ((nZ xs).map fun n => ((toString n : String) : Str)) ≤ 4 * xs.length := by
    clear h1
    induction xs with
    | nil => decide
    | cons x xs ih =>
      have hx := h x List.mem_cons_self
      have e := toString_length_le (v := (x : Int)) (by omega) (k := 2) (by decide) (by omega)
      have := ih fun y hy => h y (List.mem_cons_of_mem _ hy)
      show piled (Str.ofString (toString (x : Int)) :: (nZ xs).map fun n => ((toString n : String) : Str)) ≤ _
      rw [piled_cons, List.length_cons]
      omega
  show (tupleText _).length ≤ _
  omega
theorem log_small {n : Int} (h : n.natAbs < 2 ^ 60) : n.natAbs.log2 < 1920 := by
  by_cases z : n.natAbs = 0
  · rw [z]
    decide
  · have := (Nat.log2_lt z).mpr h
    omega
theorem log_nv {xs : List Nat} (h : Sg xs) : ∀ n ∈ nZ xs, n.natAbs.log2 < 1920 := fun n hn => by
  obtain ⟨x, hx, rfl⟩ := List.mem_map.mp hn
  have := h x hx
  exact log_small (by omega)
/-- a form that a row's text is short for -/
structure Tx (f : Form) : Prop where
  s : Sgs f
  l : f.left.length ≤ 1000
  t : f.told.length ≤ 1000
  r : f.right.length ≤ 1000
  z : f.start.natAbs < 2 ^ 60
def spRep (K : PySem.W.Frag) (C : Addr) : Sp := fun vs H Q _ => ∃ (v : V) (f : Form), vs = [v] ∧ RowV K C H v f ∧ Tx f ∧ Q (.str (rowT f)) H
theorem sc_rep : FnScope ["self"] ["self"] (defScope (methOf (top 25) 12)) := ⟨rfl, rfl, rfl, by decide +kernel, rfl, by decide +kernel, by decide +kernel⟩
theorem app_len (a b : Str) : (a ++ b).length = a.length + b.length := strLen_append a b
theorem empty_app (a : Str) : Str.empty ++ a = a := by
  show (⟨#[] ++ a.cps⟩ : Str) = a
  rw [Array.empty_append]
theorem ok_rep {f : Addr} {fd : FuncData} {C : Addr} (F : FnM K "__repr__" "Row.__repr__" (methOf (top 25) 12) f fd) (o : RowA K C) : FnG P w K mg base CX0 1 f (spRep K C) := by
  have sc := sc_rep
  refine fnG_of F sc (F.bindsN (ps := ["self"]) fun _ _ _ _ _ _ us hl => match us, hl with | [_], _ => rfl) (fun vs H Q E h => ?_) (fun cdv A outer s H vs Q E hq0 hr h => ?_)
  · obtain ⟨v, g, rfl, _⟩ := h
    rfl
  · obtain ⟨v, g, rfl, ⟨a, dx, l, t, r, rfl, ha, h4⟩, tx, q⟩ := h
    have hq : Quiet (cxOf CX0 P w K mg base ["self"] "Row.__repr__" (defScope (methOf (top 25) 12)) f cdv A outer s H E).nox.A := hq0
    refine ⟨_, PSs.nox (pss_one (ps_ret (pe_joined (PJ.cons pe_str (PJ.cons (pe_fmtI hq hr (pe_fld (pv 0) rfl)) (PJ.cons pe_str (PJ.cons (pe_fmtI hq hr (pe_fld (pv 0) rfl)) (PJ.cons pe_str (PJ.cons (pe_fmtI hq hr (pe_fld (pv 0) rfl)) (PJ.cons pe_str (PJ.cons (pe_fmt (pe_fld (pv 0) rfl)) (PJ.cons pe_str PJ.nil)))))))))))), ?_⟩
    have l1 := ints_len tx.s.l
    have l2 := ints_len tx.s.t
    have l3 := ints_len tx.s.r
    have t1 := tx.l
    have t2 := tx.t
    have t3 := tx.r
    have l4 := int_text_len_1921 (log_small tx.z)
    have c1 : (("Row(" : Str)).length = 4 := by decide +kernel
    have c2 : ((", " : Str)).length = 2 := by decide +kernel
    have c3 : ((", start=" : Str)).length = 8 := by decide +kernel
    have c4 : ((")" : Str)).length = 1 := by decide +kernel
    have hlL := h4.left
    have hlT := h4.told
    have hlR := h4.right
    rw [nv_ints] at hlL hlT hlR
    have sz : ∀ n : Nat, n ≤ 100000 → n ≤ sizeLine := fun n h => by rw [sizeLine_eq]; omega
    refine ⟨_, rfl, by rw [empty_app]; exact sz _ (by omega), ?_⟩
    rw [empty_app]
    refine ⟨_, rfl, a, C, dx, _, _, rfl, ha, o.cl, o.n1, rfl, l, _, rfl, hlL, log_nv tx.s.l, sz _ (by omega), _, rfl, sz _ (by rw [app_len]; omega), ?_⟩
    refine ⟨_, rfl, sz _ (by rw [app_len, app_len]; omega), ?_⟩
    refine ⟨_, rfl, a, C, dx, _, _, rfl, ha, o.cl, o.n2, rfl, t, _, rfl, hlT, log_nv tx.s.t, sz _ (by omega), _, rfl, sz _ (by rw [app_len, app_len, app_len]; omega), ?_⟩
    refine ⟨_, rfl, sz _ (by rw [app_len, app_len, app_len, app_len]; omega), ?_⟩
    refine ⟨_, rfl, a, C, dx, _, _, rfl, ha, o.cl, o.n3, rfl, r, _, rfl, hlR, log_nv tx.s.r, sz _ (by omega), _, rfl, sz _ (by rw [app_len, app_len, app_len, app_len, app_len]; omega), ?_⟩
    refine ⟨_, rfl, sz _ (by rw [app_len, app_len, app_len, app_len, app_len, app_len]; omega), ?_⟩
    refine ⟨_, rfl, a, C, dx, _, _, rfl, ha, o.cl, o.n4, rfl, .inr ⟨_, rfl, log_small tx.z, _, rfl, sz _ (by rw [app_len, app_len, app_len, app_len, app_len, app_len, app_len]; omega), ?_⟩⟩
    refine ⟨_, rfl, sz _ (by rw [app_len, app_len, app_len, app_len, app_len, app_len, app_len, app_len]; omega), ?_⟩
    exact q
end
end K02
set_option Elab.async false
set_option linter.all false
set_option maxRecDepth 100000
set_option maxHeartbeats 4000000
namespace RowM
/-- a word put at a cell -/
def putG (g : Int → Nat) (a : Int) (u : List Nat) : Int → Nat := fun c => if a ≤ c ∧ c < a + (u.length : Int) then u.getD (c - a).toNat 0 else g c
theorem putG_nil (g : Int → Nat) (a : Int) : putG g a [] = g := funext fun c => by
  have : ¬ (a ≤ c ∧ c < a + ((([] : List Nat).length : Nat) : Int)) := fun z => by
    have h : (([] : List Nat).length : Nat) = 0 := rfl
    rw [h] at z
    omega
  unfold putG
  rw [if_neg this]
theorem cells_join {g : Int → Nat} {a : Int} {n m : Nat} : cells g a n ++ cells g (a + (n : Int)) m = cells g a (n + m) := by
  refine ext_getD (by rw [List.length_append, cells_len', cells_len', cells_len']) fun i hi => ?_
  rw [cells_len'] at hi
  rw [cells_at' g a hi]
  by_cases c : i < n
  · rw [getD_app_l (by rw [cells_len']; exact c), cells_at' g a c]
  · rw [getD_app_r (by rw [cells_len']; omega), cells_len', cells_at' g _ (by omega)]
    exact congrArg g (by omega)
/-- the word around a place, with another word there, is that of the cells with it put -/
theorem cells_put {g : Int → Nat} {a b e : Int} {u : List Nat} (h1 : b ≤ a) (h2 : a + (u.length : Int) ≤ e) : cells g b (a - b).toNat ++ u ++ cells g (a + (u.length : Int)) (e - (a + (u.length : Int))).toNat = cells (putG g a u) b (e - b).toNat := by
  have l1 := cells_len' g b (a - b).toNat
  refine ext_getD (by rw [List.length_append, List.length_append, cells_len', cells_len', cells_len']; omega) fun i hi => ?_
  rw [cells_len'] at hi
  rw [cells_at' _ b hi]
  unfold putG
  by_cases c : i < (a - b).toNat
  · rw [List.append_assoc, getD_app_l (by rw [l1]; exact c), cells_at' g b c, if_neg (by omega)]
  · by_cases d : i < (a - b).toNat + u.length
    · rw [getD_app_l (by rw [List.length_append, l1]; exact d), getD_app_r (by rw [l1]; omega), l1, if_pos (by omega)]
      congr 1
      omega
    · rw [getD_app_r (by rw [List.length_append, l1]; omega), List.length_append, l1, cells_at' g _ (by omega), if_neg (by omega)]
      exact congrArg g (by omega)
/-- a row written out: a left word, the cells between, a right word -/
theorem sign_of_cells {g : Int → Nat} {q p : Nat} {b e : Int} (q1 : 1 ≤ q) (p1 : 1 ≤ p) (hl : PerL g q b) (hr : PerR g p e) (le : b ≤ e) (c : Int) : sign ⟨cells g (b - q) q, cells g b (e - b).toNat, cells g e p, b⟩ c = g c := by
  refine sign_is (f := ⟨cells g (b - q) q, cells g b (e - b).toNat, cells g e p, b⟩) (LT_cells hl (Int.le_refl _)) (by show 1 ≤ (cells g (b - q) q).length; rw [cells_len']; exact q1) (fun i hi => ?_) ?_ c
  · have hi' : i < (cells g b (e - b).toNat).length := hi
    rw [cells_len'] at hi'
    exact (cells_at' g _ hi').symm
  · have : (b : Int) + ((cells g b (e - b).toNat).length : Int) = e := by
      rw [cells_len']
      omega
    show RT g (cells g e p) (b + ((cells g b (e - b).toNat).length : Int))
    rw [this]
    exact RT_cells hr p1 (Int.le_refl e)
theorem cells_cong {g g' : Int → Nat} {a : Int} {n : Nat} (h : ∀ i : Nat, i < n → g (a + (i : Int)) = g' (a + (i : Int))) : cells g a n = cells g' a n := by
  refine ext_getD (by rw [cells_len', cells_len']) fun i hi => ?_
  rw [cells_len'] at hi
  rw [cells_at' _ _ hi, cells_at' _ _ hi]
  exact h i hi
/-- .. and of the cells with a word put -/
theorem sign_put {g : Int → Nat} {q p : Nat} {s t a b e : Int} {u : List Nat} (q1 : 1 ≤ q) (p1 : 1 ≤ p) (hl : PerL g q s) (hr : PerR g p t) (b1 : b ≤ s) (b2 : b ≤ a) (e1 : t ≤ e) (e2 : a + (u.length : Int) ≤ e) (le : b ≤ e) (c : Int) :
    sign ⟨cells g (b - q) q, cells g b (a - b).toNat ++ u ++ cells g (a + (u.length : Int)) (e - (a + (u.length : Int))).toNat, cells g e p, b⟩ c = putG g a u c := by
  have out : ∀ x, x < b → putG g a u x = g x := fun x hx => by
    unfold putG
    rw [if_neg (by omega)]
  have out2 : ∀ x, e ≤ x → putG g a u x = g x := fun x hx => by
    unfold putG
    rw [if_neg (by omega)]
  rw [cells_put b2 e2, cells_cong (g := g) (g' := putG g a u) (a := b - q) (n := q) (fun i hi => (out _ (by omega)).symm), cells_cong (g := g) (g' := putG g a u) (a := e) (n := p) (fun i hi => (out2 _ (by omega)).symm)]
  refine sign_of_cells q1 p1 (fun x hx => ?_) (fun x hx => ?_) le c
  · rw [out _ hx, out _ (by omega)]
    exact hl x (by omega)
  · rw [out2 _ hx, out2 _ (by omega)]
    exact hr x (by omega)
/-! ### the nearest cells -/
/-- as near to 0 as n, or nearer -/
def aZ (n : Int) : Int := if n < 0 then -n else n
def Near (m n : Int) : Prop := aZ m < aZ n ∨ (aZ m = aZ n ∧ m ≤ n)
theorem Near.anti {m n : Int} (h : Near m n) (h' : Near n m) : m = n := by
  unfold Near at h h'
  omega
theorem Near.total (m n : Int) : Near m n ∨ Near n m := by
  unfold Near
  omega
def IsN (bad : Int → Prop) (m : Int) : Prop := bad m ∧ ∀ c, bad c → Near m c
theorem IsN.uniq {bad : Int → Prop} {m n : Int} (h : IsN bad m) (h' : IsN bad n) : m = n := (h.2 n h'.1).anti (h'.2 m h.1)
/-- among finitely many there is one -/
theorem near_min : ∀ {l : List Int}, l ≠ [] → ∃ m ∈ l, ∀ n ∈ l, Near m n
  | [], h => absurd rfl h
  | [x], _ => ⟨x, List.mem_cons_self, fun n hn => by
    rw [List.mem_singleton.mp hn]
    unfold Near
    omega⟩
  | x :: y :: l, _ => by
    obtain ⟨m, hm, h⟩ := near_min (l := y :: l) (by simp)
    rcases Near.total x m with z | z
    · refine ⟨x, List.mem_cons_self, fun n hn => ?_⟩
      rcases List.mem_cons.mp hn with e | hn
      · rw [e]
        unfold Near
        omega
      · have := h n hn
        unfold Near at this z ⊢
        omega
    · refine ⟨m, List.mem_cons_of_mem _ hm, fun n hn => ?_⟩
      rcases List.mem_cons.mp hn with e | hn
      · rw [e]
        exact z
      · exact h n hn
/-- bad cells step towards 0: below b, and from e on, within w cells -/
structure Steps (bad : Int → Prop) (b e : Int) (w1 w2 : Nat) : Prop where
  l : ∀ c, c + (w1 : Int) < b → (∀ i : Nat, 1 ≤ i → i ≤ w1 → ¬ bad (c + (i : Int))) → ¬ bad c
  lu : ∀ c, c < b → (∀ i : Nat, 1 ≤ i → i ≤ w1 → ¬ bad (c - (i : Int))) → ¬ bad c
  r : ∀ c, e + (w2 : Int) ≤ c → (∀ i : Nat, 1 ≤ i → i ≤ w2 → ¬ bad (c - (i : Int))) → ¬ bad c
  ru : ∀ c, e ≤ c → (∀ i : Nat, 1 ≤ i → i ≤ w2 → ¬ bad (c + (i : Int))) → ¬ bad c
/-- the nearest bad cell below b -/
theorem near_below {bad : Int → Prop} {b e : Int} {w1 w2 : Nat} (S : Steps bad b e w1 w2) (w11 : 1 ≤ w1) {m : Int} (h : IsN bad m) (hb : m < b) : min 0 b - (w1 : Int) ≤ m ∧ m < min 0 b + (w1 : Int) := by
  constructor
  · refine Int.not_lt.mp fun z => S.l m (by omega) (fun i i1 i2 hi => ?_) h.1
    have := h.2 _ hi
    unfold Near aZ at this
    omega
  · refine Int.not_le.mp fun z => S.lu m hb (fun i i1 i2 hi => ?_) h.1
    have := h.2 _ hi
    unfold Near aZ at this
    omega
theorem near_above {bad : Int → Prop} {b e : Int} {w1 w2 : Nat} (S : Steps bad b e w1 w2) (w21 : 1 ≤ w2) {m : Int} (h : IsN bad m) (he : e ≤ m) : max 0 e - (w2 : Int) ≤ m ∧ m < max 0 e + (w2 : Int) := by
  constructor
  · refine Int.not_lt.mp fun z => S.ru m he (fun i i1 i2 hi => ?_) h.1
    have := h.2 _ hi
    unfold Near aZ at this
    omega
  · refine Int.not_le.mp fun z => S.r m (by omega) (fun i i1 i2 hi => ?_) h.1
    have := h.2 _ hi
    unfold Near aZ at this
    omega
/-- where there is a bad cell there is a nearest one -/
theorem near_ex {bad : Int → Prop} {c : Int} (h : bad c) : ∃ m, IsN bad m := by
  classical
  let l := ((List.range (2 * c.natAbs + 1)).map fun i : Nat => (i : Int) - (c.natAbs : Int)).filter fun x => decide (bad x)
  have cm : c ∈ l := List.mem_filter.mpr ⟨List.mem_map.mpr ⟨(c + (c.natAbs : Int)).toNat, List.mem_range.mpr (by omega), by omega⟩, by simpa using h⟩
  obtain ⟨m, hm, near⟩ := near_min (l := l) (fun z => by rw [z] at cm; cases cm)
  obtain ⟨hm1, hm2⟩ := List.mem_filter.mp hm
  refine ⟨m, by simpa using hm2, fun n hn => ?_⟩
  by_cases z : n.natAbs ≤ c.natAbs
  · exact near n (List.mem_filter.mpr ⟨List.mem_map.mpr ⟨(n + (c.natAbs : Int)).toNat, List.mem_range.mpr (by omega), by omega⟩, by simpa using hn⟩)
  · have := near c cm
    unfold Near aZ at this ⊢
    omega
/-- what a list of bad cells tells that holds the nearest one -/
theorem near_list {bad : Int → Prop} {l : List Int} (hl : ∀ c ∈ l, bad c) (hm : ∀ m, IsN bad m → m ∈ l) : (l = [] → ∀ c, ¬ bad c) ∧ ∀ m ∈ l, (∀ n ∈ l, Near m n) → IsN bad m := by
  refine ⟨fun e c hc => ?_, fun m h1 h2 => ?_⟩
  · obtain ⟨m, h⟩ := near_ex hc
    have := hm m h
    rw [e] at this
    cases this
  · obtain ⟨k, h⟩ := near_ex (hl m h1)
    have e : m = k := (h2 k (hm k h)).anti (h.2 m (hl m h1))
    rw [e]
    exact h
end RowM
set_option Elab.async false
set_option linter.all false
set_option maxRecDepth 100000
set_option maxHeartbeats 4000000
namespace K02
open PySem PySem.Spec PyProof.Rows L2 RowM
theorem row_no {l t r : Addr} {s : Int} {m : Str} (h1 : (m == ("left" : Str)) = false) (h2 : (m == ("told" : Str)) = false) (h3 : (m == ("right" : Str)) = false) (h4 : (m == ("start" : Str)) = false) : (rowF l t r s).lookup m = none := by
  simp [List.lookup, h1, h2, h3, h4]
def MethO (P : Program) (w : World) (K : PySem.W.Frag) (mg : Str → Option Value) (base : Heap) (C : Addr) (x : Str) (CX : CXT) (k : Nat) (ps : List Str) (sp : Sp) : Prop := ∃ f fd, Meth K C x f ∧ FnOk P w K mg base CX k f fd ps sp ∧ Binds K fd ps []
theorem RowV.split {K : PySem.W.Frag} {C : Addr} {H : Hp} {v : V} {f : Form} (h : RowV K C H v f) : ∃ a dx l t r, v = .ref a ∧ H a = some (.ins C dx (rowF l t r f.start)) ∧ Fm4 K H l t r f := h
section
variable {P : Program} {w : World} {K : PySem.W.Frag} {mg : Str → Option Value} {base : Heap}
/-! ### changed -/
def spChg (K : PySem.W.Frag) (C CW : Addr) : Sp := fun vs H Q E => ∃ (v x : V) (c : Int) (f : Form) (n m z : Nat), vs = [v, .int c, x] ∧ RowV K C H v f ∧ Ok f ∧ Big f n m z ∧ n ≤ 1000 ∧ m ≤ 1000 ∧ z ≤ 30000 ∧ c.natAbs ≤ 30000 ∧
  ((∃ (u : Addr) (xs : List Nat), x = .ref u ∧ SqT K H u (nv xs) ∧ Sg xs ∧ xs.length ≤ 900 ∧ ∀ v' H' f', Same H H' → RowV K C H' v' f' → Least (putG (sign f) c xs) f' → Big f' n 70000 200000 → Q v' H') ∨
   ∃ (b : Addr) (k : Nat) (d : D), Rp K b H k d x ∧ wordD 63 d = false ∧ Out CW "InvalidWord" ["value"] [x] H E)
theorem sc_chg : FnScope ["self", "cell", "word", "first", "end", "told", "left"] ["self", "cell", "word"] (defScope (methOf (top 25) 6)) := ⟨rfl, rfl, rfl, by decide +kernel, rfl, by decide +kernel, by decide +kernel⟩
theorem ok_chg {f : Addr} {fd : FuncData} {C CW : Addr} {b1 : List Value} {n1 : String} {t_ALL_SIGNS : Tok} (F : FnM K "changed" "Row.changed" (methOf (top 25) 6) f fd) (o_R : RowA K C) (c_InvalidWord : Ecl P w K mg base "InvalidWord" CW b1 n1 ["value"]) (m_ALL_SIGNS : mg "ALL_SIGNS" = some (.int 64 t_ALL_SIGNS)) (m_min : mg "min" = none) (m_max : mg "max" = none) (m_len : mg "len" = none)
    (c_is_word : Cal P w K mg base CX0 "is_word" 3 ["value", "signs"] (spWord K)) (c_made_row : Cal P w K mg base CX0 "made_row" 7 ["left", "told", "right", "start"] (spMade K C)) (mW : MethO P w K mg base C "word" CX0 3 ["self", "first", "end"] (spWrd K C)) : FnOk P w K mg base (L2.CX P w) 8 f fd ["self", "cell", "word"] (spChg K C CW) := by
  have sc := sc_chg
  obtain ⟨fW, fdW, M_word, F_word, b_word⟩ := mW
  refine F.ok sc (fun vs H Q E h => ?_) (fun cdv A outer s H vs Q E hr h => ?_)
  · obtain ⟨v, x, c, g, n, m, z, rfl, _⟩ := h
    rfl
  · obtain ⟨v, x, c, g, n, m, z, rfl, hv, ho, hb, hn, hm, hz, hc, h⟩ := h
    obtain ⟨a, dx, l, t, r, rfl, ha, h4⟩ := hv.split
    have hr_ecl : Room 2 _ := hr.mono (by decide)
    have hr_is_word : Room 3 _ := hr.mono (by decide)
    have hr_word : Room 3 _ := hr.mono (by decide)
    have hr_made_row : Room 7 _ := hr
    have nw : ∀ {l t r : Addr} {s : Int}, (rowF l t r s).lookup ("word" : Str) = none := row_no (by decide) (by decide) (by decide) (by decide)
    have bl := hb.l
    have bt := hb.t
    have br := hb.r
    have bs := hb.s
    refine ⟨_, (pss_cons (ps_if (pt_not (pt_val (pe_cal c_is_word hr_is_word rfl (pa_cons (pv 2) (pa_cons (pe_glob (v := .int 64) rfl m_ALL_SIGNS ⟨_, rfl⟩) pa_nil))))) (pss_one (ps_raise rfl (takes_of rfl rfl rfl rfl) (pmk_ecl c_InvalidWord (by decide) hr_ecl rfl (pa_cons (pv 2) pa_nil)))) pss_nil)
      (pss_cons (ps_set (i := 3) sc.nd rfl (Or.inl rfl) (pe_callB (call_min2 rfl) (by rfl) m_min (by decide +kernel) (pa_cons (pe_fld (pv 0) rfl) (pa_cons (pv 1) pa_nil))))
      (pss_cons (ps_set (i := 4) sc.nd rfl (Or.inl rfl) (pe_callB (call_max2 rfl) (by rfl) m_max (by decide +kernel) (pa_cons (pe_op op_add (pe_fld (pv 0) rfl) (pe_callB call_len_seq (by rfl) m_len (by decide +kernel) (pa_cons (pe_fld (pv 0) rfl) pa_nil))) (pa_cons (pe_op op_add (pv 1) (pe_callB call_len_seq (by rfl) m_len (by decide +kernel) (pa_cons (pv 2) pa_nil))) pa_nil))))
      (pss_cons (ps_set (i := 5) sc.nd rfl (Or.inl rfl) (pe_op (show OpR _ (binaryOp .Add) (rCatA K) from op_catA) (pe_op (show OpR _ (binaryOp .Add) (rCatA K) from op_catA) (pe_meth (pv 0) o_R.cl M_word F_word hr_word b_word .nil pass0 (pa_cons (pv 3) (pa_cons (pv 1) pa_nil))) (pv 2)) (pe_meth (pv 0) o_R.cl M_word F_word hr_word b_word .nil pass0 (pa_cons (pe_op op_add (pv 1) (pe_callB call_len_seq (by rfl) m_len (by decide +kernel) (pa_cons (pv 2) pa_nil))) (pa_cons (pv 4) pa_nil)))))
      (pss_cons (ps_set (i := 6) sc.nd rfl (Or.inl rfl) (pe_meth (pv 0) o_R.cl M_word F_word hr_word b_word .nil pass0 (pa_cons (pe_op op_sub (pv 3) (pe_callB call_len_seq (by rfl) m_len (by decide +kernel) (pa_cons (pe_fld (pv 0) rfl) pa_nil))) (pa_cons (pv 3) pa_nil))))
      (pss_one (ps_ret (pe_cal c_made_row hr_made_row rfl (pa_cons (pv 6) (pa_cons (pv 5) (pa_cons (pe_meth (pv 0) o_R.cl M_word F_word hr_word b_word .nil pass0 (pa_cons (pv 4) (pa_cons (pe_op op_add (pv 4) (pe_callB call_len_seq (by rfl) m_len (by decide +kernel) (pa_cons (pe_fld (pv 0) rfl) pa_nil))) pa_nil))) (pa_cons (pv 3) pa_nil)))))))))))), ?_⟩
    rcases h with ⟨u, xs, rfl, hu, hsg, hxs, q⟩ | ⟨b, k, d, hd, e, ke⟩
    · refine ⟨_, rfl, 0, 1, _, _, _, rfl, nv_rp hu hxs, fun H1 s1 => ?_⟩
      rw [grt64, word_nv hsg]
      refine ⟨_, rfl, iteF ?_⟩
      have ha1 := s1 _ _ ha
      have h41 := h4.same s1
      refine ⟨_, rfl, a, C, dx, _, _, rfl, ha1, o_R.cl, o_R.n4, rfl, _, rfl, _, _, rfl, ?_⟩
      refine ⟨_, rfl, a, C, dx, _, _, rfl, ha1, o_R.cl, o_R.n4, rfl, _, rfl, a, C, dx, _, _, rfl, ha1, o_R.cl, o_R.n2, rfl, t, _, rfl, .inr h41.told, _, _, rfl, rfl, _, rfl, _, rfl, u, _, rfl, .inr (same_T s1 hu), _, _, rfl, rfl, _, _, rfl, ?_⟩
      rw [len_nv, len_nv]
      have eb : (if c < g.start then c else g.start) = min g.start c := by
        split <;> omega
      have ee : (if c + (xs.length : Int) > g.start + (g.told.length : Int) then c + (xs.length : Int) else g.start + (g.told.length : Int)) = max (g.start + (g.told.length : Int)) (c + (xs.length : Int)) := by
        split <;> omega
      rw [eb, ee]
      obtain ⟨b0, hb0⟩ : ∃ b0, b0 = min g.start c := ⟨_, rfl⟩
      obtain ⟨e0, he0⟩ : ∃ e0, e0 = max (g.start + (g.told.length : Int)) (c + (xs.length : Int)) := ⟨_, rfl⟩
      rw [← hb0, ← he0]
      have g1 : b0 ≤ g.start := by omega
      have g2 : b0 ≤ c := by omega
      have g3 : g.start + (g.told.length : Int) ≤ e0 := by omega
      have g4 : c + (xs.length : Int) ≤ e0 := by omega
      have g5 : b0.natAbs ≤ 31000 := by omega
      have g6 : e0.natAbs ≤ 33000 := by omega
      clear hb0 he0 eb ee
      have hv1 : RowV K C H1 (.ref a) g := hv.same s1
      refine ⟨_, rfl, a, dx, _, rfl, ha1, nw, _, rfl, _, rfl, _, b0, c, g, rfl, hv1, ho, by omega, by omega, by omega, fun p1 H2 s2 hp1 => ?_⟩
      have s02 := s1.trans s2
      refine ⟨_, rfl, catT hp1 (same_T s02 hu) (by rw [len_nv, len_nv, cells_len, sizeLine_eq]; omega) fun p2 H3 s3 hp2 => ?_⟩
      have s03 := s02.trans s3
      have ha3 := s03 _ _ ha
      refine ⟨_, rfl, a, dx, _, rfl, ha3, nw, _, rfl, _, rfl, u, _, rfl, .inr (same_T s03 hu), _, _, rfl, rfl, ?_⟩
      rw [len_nv]
      refine ⟨_, rfl, _, c + (xs.length : Int), e0, g, rfl, hv.same s03, ho, by omega, by omega, by omega, fun p3 H4 s4 hp3 => ?_⟩
      have s04 := s03.trans s4
      refine catT (same_T s4 hp2) hp3 (by rw [List.length_append, len_nv, len_nv, len_nv, cells_len, cells_len, sizeLine_eq]; omega) fun p4 H5 s5 hp4 => ?_
      have s05 := s04.trans s5
      have ha5 := s05 _ _ ha
      have h45 := h4.same s05
      refine ⟨_, rfl, a, dx, _, rfl, ha5, nw, _, rfl, _, rfl, a, C, dx, _, _, rfl, ha5, o_R.cl, o_R.n1, rfl, l, _, rfl, .inr h45.left, _, _, rfl, rfl, ?_⟩
      rw [len_nv]
      refine ⟨_, rfl, _, b0 - (g.left.length : Int), b0, g, rfl, hv.same s05, ho, by omega, by omega, by omega, fun p5 H6 s6 hp5 => ?_⟩
      have s06 := s05.trans s6
      have ha6 := s06 _ _ ha
      have h46 := h4.same s06
      refine ⟨_, rfl, _, rfl, _, rfl, a, dx, _, rfl, ha6, nw, _, rfl, _, rfl, _, rfl, a, C, dx, _, _, rfl, ha6, o_R.cl, o_R.n3, rfl, r, _, rfl, .inr h46.right, _, _, rfl, rfl, ?_⟩
      rw [len_nv]
      refine ⟨_, e0, e0 + (g.right.length : Int), g, rfl, hv.same s06, ho, by omega, by omega, by omega, fun p6 H7 s7 hp6 => ?_⟩
      have s07 := s06.trans s7
      rw [show (b0 - (b0 - (g.left.length : Int))).toNat = g.left.length by omega] at hp5
      rw [show (e0 + (g.right.length : Int) - e0).toNat = g.right.length by omega] at hp6
      rw [← List.map_append, ← List.map_append] at hp4
      let F : Form := ⟨cells (sign g) (b0 - (g.left.length : Int)) g.left.length, cells (sign g) b0 (c - b0).toNat ++ xs ++ cells (sign g) (c + (xs.length : Int)) (e0 - (c + (xs.length : Int))).toNat, cells (sign g) e0 g.right.length, b0⟩
      have eF : ∀ x, sign F x = putG (sign g) c xs x := fun x => sign_put ho.l1 ho.r1 ((sign_LT (f := g)).per ho.l1) (sign_RT (f := g)).per g1 g2 g3 g4 (by omega) x
      refine ⟨_, rfl, p5, p4, p6, F, n, 70000, 31000, rfl, ⟨same_T s7 hp5, same_T (s6.trans s7) hp4, hp6⟩, ⟨?_, ?_⟩, ⟨?_, ?_, ?_, g5⟩, hn, by decide, by decide, fun v' H8 f' s8 hv8 lf big => q v' H8 f' (s07.trans s8) hv8 (lf.cong eF) ⟨big.l, big.t, big.r, ?_⟩⟩
      · show 1 ≤ (cells _ _ _).length
        rw [cells_len]
        exact ho.l1
      · show 1 ≤ (cells _ _ _).length
        rw [cells_len]
        exact ho.r1
      · show (cells _ _ _).length ≤ n
        rw [cells_len]
        exact bl
      · show (cells _ _ _ ++ xs ++ cells _ _ _).length ≤ 70000
        rw [List.length_append, List.length_append, cells_len, cells_len]
        omega
      · show (cells _ _ _).length ≤ n
        rw [cells_len]
        exact br
      · have := big.s
        omega
    · refine ⟨_, rfl, b, k, d, x, 64, rfl, hd, fun H1 s1 => ?_⟩
      rw [grt64, e]
      exact ⟨_, rfl, iteT ⟨_, rfl, rfl, ke.same s1⟩⟩
end
end K02
set_option Elab.async false
set_option linter.all false
set_option maxRecDepth 100000
set_option maxHeartbeats 4000000
namespace K02
open PySem PySem.Spec PyProof.Rows L2 RowM
def oV : Option Int → V
  | none => .non
  | some i => .int i
/-- a piece: from where, to where, what it repeats with -/
structure Pc where
  a : Option Int
  b : Option Int
  p : Nat
def pcLow (x : Pc) : Int := match x.a with
  | none => min 0 (x.b.getD 0) - (x.p : Int)
  | some a => a
def pcHigh (x : Pc) : Int := match x.b with
  | none => max 0 (pcLow x) + (x.p : Int)
  | some b => b
def pcNear (x : Pc) : Int := min (max 0 (pcLow x)) (pcHigh x)
def pcLo (x : Pc) : Int := max (pcLow x) (pcNear x - (x.p : Int))
def pcHi (x : Pc) : Int := min (pcHigh x) (pcNear x + (x.p : Int))
structure PcOk (x : Pc) : Prop where
  one : x.a ≠ none ∨ x.b ≠ none
  a : (x.a.getD 0).natAbs ≤ 2 ^ 45
  b : (x.b.getD 0).natAbs ≤ 2 ^ 45
  p : x.p ≤ 1000000
def rgI (lo hi : Int) : List Int := (List.range (hi - lo).toNat).map fun i : Nat => lo + (i : Int)
def pcL (x : Pc) : List Int := rgI (pcLo x) (pcHi x)
theorem mem_rgI {lo hi c : Int} : c ∈ rgI lo hi ↔ lo ≤ c ∧ c < hi := by
  unfold rgI
  rw [List.mem_map]
  constructor
  · rintro ⟨i, hi, rfl⟩
    have := List.mem_range.mp hi
    omega
  · rintro ⟨h1, h2⟩
    exact ⟨(c - lo).toNat, List.mem_range.mpr (by omega), by omega⟩
theorem rgI_len (lo hi : Int) : (rgI lo hi).length = (hi - lo).toNat := by
  unfold rgI
  rw [List.length_map, List.length_range]
theorem pcL_len {x : Pc} : (pcL x).length ≤ 2 * x.p := by
  unfold pcL
  rw [rgI_len]
  unfold pcLo pcHi
  omega
theorem rgV_rgI (lo hi : Int) : rgV lo hi = (rgI lo hi).map V.int := by
  unfold rgI rgV
  rw [List.map_map]
  rfl
section
variable {P : Program} {w : World} {K : PySem.W.Frag} {mg : Str → Option Value} {base : Heap}
def spNc : Sp := fun vs H Q _ => ∃ x : Pc, vs = [oV x.a, oV x.b, .int (x.p : Int)] ∧ PcOk x ∧ ∀ l H', Same H H' → H l = none → H' l = some (.lst ((pcL x).map V.int)) → Q (.ref l) H'
theorem sc_nc : FnScope ["first", "end", "period", "low", "high", "near"] ["first", "end", "period"] (defScope (top 36)) := ⟨rfl, rfl, rfl, by decide +kernel, rfl, by decide +kernel, by decide +kernel⟩
theorem min_if {a b : Int} : (if b < a then b else a) = min a b := by split <;> omega
theorem max_if {a b : Int} : (if b > a then b else a) = max a b := by split <;> omega
theorem ok_nc {f : Addr} {fd : FuncData} (F : FnP K "near_cells" (top 36) f fd) (m_min : mg "min" = none) (m_max : mg "max" = none) (m_list : mg "list" = none) (m_range : mg "range" = none) : FnOk P w K mg base CX0 1 f fd ["first", "end", "period"] spNc := by
  have sc := sc_nc
  refine F.ok sc (fun vs H Q E h => ?_) (fun cdv A outer s H vs Q E hr h => ?_)
  · obtain ⟨x, rfl, _⟩ := h
    rfl
  · obtain ⟨x, rfl, ho, q⟩ := h
    refine ⟨_, PSs.nox (pss_cons (ps_set (i := 3) sc.nd rfl (Or.inl rfl) (pe_ifExp (pt_cmp (pc_isN (pv 0))) (pe_op op_sub (pe_callB (call_min2 rfl) (by rfl) m_min (by decide +kernel) (pa_cons pe_int (pa_cons (pv 1) pa_nil))) (pv 2)) (pv 0)))
      (pss_cons (ps_set (i := 4) sc.nd rfl (Or.inl rfl) (pe_ifExp (pt_cmp (pc_isN (pv 1))) (pe_op op_add (pe_callB (call_max2 rfl) (by rfl) m_max (by decide +kernel) (pa_cons pe_int (pa_cons (pv 3) pa_nil))) (pv 2)) (pv 1)))
      (pss_cons (ps_set (i := 5) sc.nd rfl (Or.inl rfl) (pe_callB (call_min2 rfl) (by rfl) m_min (by decide +kernel) (pa_cons (pe_callB (call_max2 rfl) (by rfl) m_max (by decide +kernel) (pa_cons pe_int (pa_cons (pv 3) pa_nil))) (pa_cons (pv 4) pa_nil))))
      (pss_one (ps_ret (pe_listRg rfl rfl m_list (prg_2 rfl m_range (pe_callB (call_max2 rfl) (by rfl) m_max (by decide +kernel) (pa_cons (pv 3) (pa_cons (pe_op op_sub (pv 5) (pv 2)) pa_nil))) (pe_callB (call_min2 rfl) (by rfl) m_min (by decide +kernel) (pa_cons (pv 4) (pa_cons (pe_op op_add (pv 5) (pv 2)) pa_nil)))))))))), ?_⟩
    obtain ⟨xa, xb, xp⟩ := x
    obtain ⟨o1, oa, ob, op⟩ := ho
    dsimp only at o1 oa ob op
    cases xa with
    | none =>
      cases xb with
      | none => exact absurd rfl (o1.resolve_left fun z => z rfl)
      | some b =>
      have ob : b.natAbs ≤ 2 ^ 45 := ob
      refine ⟨_, rfl, _, rfl, iteT_of (decide_eq_true rfl) ?_⟩
      refine ⟨_, rfl, _, _, rfl, _, rfl, _, _, rfl, rfl, ?_⟩
      refine ⟨_, rfl, _, rfl, iteF_of (by simp [oV]) ?_⟩
      refine ⟨_, rfl, ?_⟩
      refine ⟨_, rfl, _, _, rfl, _, rfl, _, _, rfl, ?_⟩
      refine ⟨_, rfl, _, rfl, _, rfl, _, _, rfl, rfl, _, _, rfl, _, rfl, _, rfl, _, rfl, _, _, rfl, rfl, _, _, rfl, _, _, rfl, rfl, ?_, fun l hl => ?_⟩
      · simp only [min_if, max_if]
        refine ⟨by omega, by omega, by omega, by omega, ?_⟩
        omega
      · refine q _ _ (Same.new hl) hl (upd_same.trans ?_)
        rw [rgV_rgI]
        simp only [min_if, max_if]
        rfl
    | some a =>
      have oa : a.natAbs ≤ 2 ^ 45 := oa
      refine ⟨_, rfl, _, rfl, iteF_of (by simp [oV]) ?_⟩
      refine ⟨_, rfl, ?_⟩
      cases xb with
      | none =>
      refine ⟨_, rfl, _, rfl, iteT_of (decide_eq_true rfl) ?_⟩
      refine ⟨_, rfl, _, _, rfl, _, rfl, _, _, rfl, rfl, ?_⟩
      refine ⟨_, rfl, _, _, rfl, _, rfl, _, _, rfl, ?_⟩
      refine ⟨_, rfl, _, rfl, _, rfl, _, _, rfl, rfl, _, _, rfl, _, rfl, _, rfl, _, rfl, _, _, rfl, rfl, _, _, rfl, _, _, rfl, rfl, ?_, fun l hl => ?_⟩
      · simp only [min_if, max_if]
        refine ⟨by omega, by omega, by omega, by omega, ?_⟩
        omega
      · refine q _ _ (Same.new hl) hl (upd_same.trans ?_)
        rw [rgV_rgI]
        simp only [min_if, max_if]
        rfl
      | some b =>
      have ob : b.natAbs ≤ 2 ^ 45 := ob
      refine ⟨_, rfl, _, rfl, iteF_of (by simp [oV]) ?_⟩
      refine ⟨_, rfl, ?_⟩
      refine ⟨_, rfl, _, _, rfl, _, rfl, _, _, rfl, ?_⟩
      refine ⟨_, rfl, _, rfl, _, rfl, _, _, rfl, rfl, _, _, rfl, _, rfl, _, rfl, _, rfl, _, _, rfl, rfl, _, _, rfl, _, _, rfl, rfl, ?_, fun l hl => ?_⟩
      · simp only [min_if, max_if]
        refine ⟨by omega, by omega, by omega, by omega, ?_⟩
        omega
      · refine q _ _ (Same.new hl) hl (upd_same.trans ?_)
        rw [rgV_rgI]
        simp only [min_if, max_if]
        rfl
end
end K02
set_option Elab.async false
set_option linter.all false
set_option maxRecDepth 100000
set_option maxHeartbeats 4000000
namespace K02
open PySem PySem.Spec PyProof.Rows L2 RowM
theorem same_L {K : PySem.W.Frag} {H H' : Hp} {a : Addr} {xs : List V} (s : Same H H') (h : SqL K H a xs) : SqL K H' a xs := sqL_at h fun o e => s _ _ e
def pcV (x : Pc) : List V := [oV x.a, oV x.b, .int (x.p : Int)]
structure PcsV (K : PySem.W.Frag) (H : Hp) (l : Addr) (xs : List Pc) : Prop where
  ex : ∃ ts : List Addr, SqL K H l (ts.map V.ref) ∧ ts.length = xs.length ∧ ∀ (i : Nat) (t : Addr) (x : Pc), ts[i]? = some t → xs[i]? = some x → SqT K H t (pcV x)
theorem PcsV.same {K : PySem.W.Frag} {H H' : Hp} {l : Addr} {xs : List Pc} (s : Same H H') (h : PcsV K H l xs) : PcsV K H' l xs := by
  obtain ⟨ts, h1, h2, h3⟩ := h.ex
  exact ⟨ts, same_L s h1, h2, fun i t x e1 e2 => same_T s (h3 i t x e1 e2)⟩
section
variable {P : Program} {w : World} {K : PySem.W.Frag} {mg : Str → Option Value} {base : Heap}
/-! ### telling_cells -/
def spTel (K : PySem.W.Frag) : Sp := fun vs H Q _ => ∃ (l : Addr) (xs : List Pc), vs = [.ref l] ∧ PcsV K H l xs ∧ (xs.flatMap pcL).length ≤ 1000000 ∧ (∀ x ∈ xs, PcOk x) ∧ ∀ r H', Same H H' → H r = none → SqL K H' r ((xs.flatMap pcL).map V.int) → Q (.ref r) H'
theorem sc_tel : FnScope ["pieces", "first", "end", "period", "cell"] ["pieces"] (defScope (top 35)) := ⟨rfl, rfl, rfl, by decide +kernel, rfl, by decide +kernel, by decide +kernel⟩
theorem flat_take : ∀ {xs : List Pc} {i : Nat} {x : Pc}, xs[i]? = some x → (xs.take (i + 1)).flatMap pcL = (xs.take i).flatMap pcL ++ pcL x
  | [], _, _, h => by simp at h
  | y :: xs, 0, x, h => by
    simp at h
    subst h
    simp
  | y :: xs, i + 1, x, h => by
    have h : xs[i]? = some x := h
    have := flat_take h
    rw [List.take_succ_cons, List.flatMap_cons, this, List.take_succ_cons, List.flatMap_cons, List.append_assoc]
theorem flat_pre (xs : List Pc) (i : Nat) : ((xs.take i).flatMap pcL).length ≤ (xs.flatMap pcL).length := by
  have e : xs.flatMap pcL = (xs.take i).flatMap pcL ++ (xs.drop i).flatMap pcL := by rw [← List.flatMap_append, List.take_append_drop]
  rw [e, List.length_append]
  omega
theorem ok_tel {f : Addr} {fd : FuncData} (F : FnP K "telling_cells" (top 35) f fd) (c_near_cells : Cal P w K mg base CX0 "near_cells" 1 ["first", "end", "period"] spNc) : FnOk P w K mg base CX0 2 f fd ["pieces"] (spTel K) := by
  have sc := sc_tel
  refine F.ok sc (fun vs H Q E h => ?_) (fun cdv A outer s H vs Q E hr h => ?_)
  · obtain ⟨l, xs, rfl, _⟩ := h
    rfl
  · obtain ⟨l, xs, rfl, hl, hx3, hx, q⟩ := h
    obtain ⟨ts, h1, h2, h3⟩ := hl.ex
    have hr_near_cells : Room 1 _ := hr
    refine ⟨_, PSs.nox (pss_one (ps_ret (pe_lc2 (own := [("first", 1), ("end", 2), ("period", 3), ("cell", 4)]) (vs1 := [4]) (g := gTup K 3 _) (wi1 := iList K _) rfl sc.nd (pi_list (pv 0)) (blkOk_by (N := ["pieces", "first", "end", "period", "cell"]) (sc := defScope (top 35)) (by decide +kernel)) (by decide) (fun _ _ _ _ _ => (pg_tup rfl (pgs_cons (pg_name (i := 1) sc.nd rfl (Or.inl rfl)) (pgs_cons (pg_name (i := 2) sc.nd rfl (Or.inl rfl)) (pgs_cons (pg_name (i := 3) sc.nd rfl (Or.inl rfl)) pgs_nil))))) (fun _ _ _ _ _ => pts_nil) (fun _ _ _ _ _ => (pi_list (pe_cal c_near_cells hr_near_cells rfl (pa_cons (pv 1) (pa_cons (pv 2) (pa_cons (pv 3) pa_nil)))))) (fun _ _ _ _ _ => (pg_name (i := 4) sc.nd rfl (Or.inl rfl))) (fun _ _ _ _ _ => pts_nil) (fun _ _ _ _ _ => (pv 4))))), ?_⟩
    refine ⟨_, rfl, l, rfl, ⟨_, h1⟩, fun D hD => ?_⟩
    have nD : ∀ {a o}, H a = some o → a ≠ D := fun e => ne_of_none e hD
    refine ⟨fun i m H' => m = xs.length - i ∧ i ≤ xs.length ∧ (∀ a o, a ≠ D → H a = some o → H' a = some o) ∧ H' D = some (.lst (((xs.take i).flatMap pcL).map V.int)), ⟨xs.length, rfl, Nat.zero_le _, fun a o na e => by rw [upd_ne na]; exact e, upd_same⟩, ?_⟩
    rintro i m H' ⟨rfl, hi, kp, hm⟩
    have W := walk_list (K := K) (a := l) (xs := ts.map V.ref)
    have sm := keep_same hD kp
    have g1 := same_L sm h1
    by_cases hlt : i < xs.length
    case neg =>
      have e : i = xs.length := by omega
      subst e
      rw [List.take_length] at hm
      refine .inl ⟨?_, q D H' sm hD (SqL.of hm)⟩
      have := W.stops H' g1
      rw [List.length_map, h2] at this
      exact this
    have hlt' : i < (ts.map V.ref).length := by rw [List.length_map, h2]; exact hlt
    refine .inr ⟨W.goes i H' hlt' g1, fun H2 => (∀ a o, a ≠ D → H a = some o → H2 a = some o) ∧ H2 D = some (.lst (((xs.take (i + 1)).flatMap pcL).map V.int)), fun H2 z => ⟨_, by omega, rfl, hlt, z.1, z.2⟩, fun v H'' y => ?_⟩
    obtain ⟨rfl, hv⟩ := W.yields i H' v H'' hlt' g1 y
    rw [List.getElem?_map, List.getElem?_eq_getElem (by omega)] at hv
    have hv := (Option.some.inj hv).symm
    subst hv
    have ex : xs[i]? = some xs[i] := List.getElem?_eq_getElem _
    have hxi := hx _ (List.getElem_mem hlt)
    have ht := same_T sm (h3 i _ _ (List.getElem?_eq_getElem (by omega)) ex)
    generalize xs[i] = x at ex hxi ht
    generalize ts[i] = t at ht
    refine ⟨t, _, rfl, ht, rfl, _, _, rfl, _, _, rfl, _, _, rfl, rfl, rfl, yes_of (iteT ?_)⟩
    refine ⟨_, rfl, _, rfl, _, rfl, x, rfl, hxi, fun nl H4 s4 en hnl => ?_⟩
    have hnD : nl ≠ D := fun z => by
      rw [z, hm] at en
      cases en
    have W1 := walk_list (K := K) (a := nl) (xs := (pcL x).map V.int)
    refine ⟨nl, rfl, ⟨_, SqL.of hnl⟩, fun j k H5 => k = (pcL x).length - j ∧ j ≤ (pcL x).length ∧ (∀ a o, a ≠ D → H4 a = some o → H5 a = some o) ∧ H5 D = some (.lst (((xs.take i).flatMap pcL ++ (pcL x).take j).map V.int)), ⟨_, rfl, Nat.zero_le _, fun a o na e => e, by rw [List.take_zero, List.append_nil]; exact s4 _ _ hm⟩, ?_⟩
    rintro j k H5 ⟨rfl, hj, k5, h5⟩
    have g5 : SqL K H5 nl ((pcL x).map V.int) := SqL.of (k5 _ _ hnD hnl)
    by_cases jlt : j < (pcL x).length
    case neg =>
      have e : j = (pcL x).length := by omega
      subst e
      rw [List.take_length, ← flat_take ex] at h5
      refine .inl ⟨?_, fun a o na e => k5 a o na (s4 _ _ (kp a o na e)), h5⟩
      have := W1.stops H5 g5
      rw [List.length_map] at this
      exact this
    have jlt' : j < ((pcL x).map V.int).length := by rw [List.length_map]; exact jlt
    refine .inr ⟨W1.goes j H5 jlt' g5, fun H6 => (∀ a o, a ≠ D → H4 a = some o → H6 a = some o) ∧ H6 D = some (.lst (((xs.take i).flatMap pcL ++ (pcL x).take (j + 1)).map V.int)), fun H6 z => ⟨_, by omega, rfl, jlt, z.1, z.2⟩, fun v H6 y => ?_⟩
    obtain ⟨rfl, hv⟩ := W1.yields j H5 v H6 jlt' g5 y
    rw [List.getElem?_map, List.getElem?_eq_getElem jlt] at hv
    have hv := (Option.some.inj hv).symm
    subst hv
    refine ⟨rfl, yes_of (iteT ?_)⟩
    refine ⟨_, rfl, _, h5, ?_, fun a o na e => by rw [upd_ne na]; exact k5 a o na e, ?_⟩
    · have a1 := flat_pre xs (i + 1)
      rw [flat_take ex, List.length_append] at a1
      rw [List.length_map, List.length_append, List.length_take, sizeLine_eq]
      omega
    · rw [upd_same, List.take_succ, List.getElem?_eq_getElem jlt, ← List.append_assoc, List.map_append (l₂ := Option.toList _)]
      rfl
/-! ### pieces_of -/
def pcsOf (f : Form) : List Pc := [⟨none, some f.start, f.left.length⟩, ⟨some f.start, some (f.start + (f.told.length : Int)), f.told.length⟩, ⟨some (f.start + (f.told.length : Int)), none, f.right.length⟩]
theorem pcs3 {K : PySem.W.Frag} {H : Hp} {l a b c : Addr} {x y z : Pc} (hl : SqL K H l [.ref a, .ref b, .ref c]) (ha : SqT K H a (pcV x)) (hb : SqT K H b (pcV y)) (hc : SqT K H c (pcV z)) : PcsV K H l [x, y, z] := by
  refine ⟨[a, b, c], hl, rfl, fun i t x e1 e2 => ?_⟩
  match i, e1, e2 with
  | 0, e1, e2 => cases e1; cases e2; exact ha
  | 1, e1, e2 => cases e1; cases e2; exact hb
  | 2, e1, e2 => cases e1; cases e2; exact hc
  | _ + 3, e1, e2 => cases e1
def spPcs (K : PySem.W.Frag) (C : Addr) : Sp := fun vs H Q _ => ∃ (v : V) (f : Form), vs = [v] ∧ RowV K C H v f ∧ ∀ r H', Same H H' → PcsV K H' r (pcsOf f) → Q (.ref r) H'
theorem sc_pcs : FnScope ["row", "end"] ["row"] (defScope (top 34)) := ⟨rfl, rfl, rfl, by decide +kernel, rfl, by decide +kernel, by decide +kernel⟩
theorem ok_pcs {f : Addr} {fd : FuncData} {C : Addr} (F : FnP K "pieces_of" (top 34) f fd) (o_R : RowA K C) (m_len : mg "len" = none) : FnOk P w K mg base CX0 1 f fd ["row"] (spPcs K C) := by
  have sc := sc_pcs
  refine F.ok sc (fun vs H Q E h => ?_) (fun cdv A outer s H vs Q E hr h => ?_)
  · obtain ⟨v, g, rfl, _⟩ := h
    rfl
  · obtain ⟨v, g, rfl, hv, q⟩ := h
    obtain ⟨a, dx, l, t, r, rfl, ha, h4⟩ := hv.split
    refine ⟨_, PSs.nox (pss_cons (ps_set (i := 1) sc.nd rfl (Or.inl rfl) (pe_op op_add (pe_fld (pv 0) rfl) (pe_callB call_len_seq (by rfl) m_len (by decide +kernel) (pa_cons (pe_fld (pv 0) rfl) pa_nil))))
      (pss_one (ps_ret (pe_lst (pa_cons (pe_tup (pa_cons pe_non (pa_cons (pe_fld (pv 0) rfl) (pa_cons (pe_callB call_len_seq (by rfl) m_len (by decide +kernel) (pa_cons (pe_fld (pv 0) rfl) pa_nil)) pa_nil)))) (pa_cons (pe_tup (pa_cons (pe_fld (pv 0) rfl) (pa_cons (pv 1) (pa_cons (pe_op op_sub (pv 1) (pe_fld (pv 0) rfl)) pa_nil)))) (pa_cons (pe_tup (pa_cons (pv 1) (pa_cons pe_non (pa_cons (pe_callB call_len_seq (by rfl) m_len (by decide +kernel) (pa_cons (pe_fld (pv 0) rfl) pa_nil)) pa_nil)))) pa_nil))))))), ?_⟩
    refine ⟨_, rfl, a, C, dx, _, _, rfl, ha, o_R.cl, o_R.n4, rfl, _, rfl, a, C, dx, _, _, rfl, ha, o_R.cl, o_R.n2, rfl, t, _, rfl, .inr h4.told, _, _, rfl, rfl, ?_⟩
    rw [len_nv]
    refine ⟨_, rfl, a, C, dx, _, _, rfl, ha, o_R.cl, o_R.n4, rfl, _, rfl, a, C, dx, _, _, rfl, ha, o_R.cl, o_R.n1, rfl, l, _, rfl, .inr h4.left, (by show 3 ≤ sizeLine; decide), fun p1 hp1 => ?_⟩
    rw [len_nv]
    have s1 : Same H (upd H p1 (.tup (pcV ⟨none, some g.start, g.left.length⟩))) := Same.new hp1
    have t1 : SqT K (upd H p1 (.tup (pcV ⟨none, some g.start, g.left.length⟩))) p1 (pcV ⟨none, some g.start, g.left.length⟩) := SqT.of upd_same
    show tCons _ _ _ (upd H p1 (.tup (pcV ⟨none, some g.start, g.left.length⟩))) _
    generalize upd H p1 (.tup (pcV ⟨none, some g.start, g.left.length⟩)) = H1 at s1 t1
    have ha1 := s1 _ _ ha
    refine ⟨_, rfl, a, C, dx, _, _, rfl, ha1, o_R.cl, o_R.n4, rfl, _, rfl, _, rfl, _, rfl, a, C, dx, _, _, rfl, ha1, o_R.cl, o_R.n4, rfl, _, _, rfl, rfl, (by show 3 ≤ sizeLine; decide), fun p2 hp2 => ?_⟩
    dsimp only
    rw [show g.start + (g.told.length : Int) - g.start = (g.told.length : Int) by omega]
    have s2 : Same H1 (upd H1 p2 (.tup (pcV ⟨some g.start, some (g.start + (g.told.length : Int)), g.told.length⟩))) := Same.new hp2
    have t2 : SqT K (upd H1 p2 (.tup (pcV ⟨some g.start, some (g.start + (g.told.length : Int)), g.told.length⟩))) p2 (pcV ⟨some g.start, some (g.start + (g.told.length : Int)), g.told.length⟩) := SqT.of upd_same
    show tCons _ _ _ (upd H1 p2 (.tup (pcV ⟨some g.start, some (g.start + (g.told.length : Int)), g.told.length⟩))) _
    generalize upd H1 p2 (.tup (pcV ⟨some g.start, some (g.start + (g.told.length : Int)), g.told.length⟩)) = H2 at s2 t2
    have ha2 := s2 _ _ ha1
    refine ⟨_, rfl, _, rfl, a, C, dx, _, _, rfl, ha2, o_R.cl, o_R.n3, rfl, r, _, rfl, .inr (same_T (s1.trans s2) h4.right), (by show 3 ≤ sizeLine; decide), fun p3 hp3 => ?_⟩
    rw [len_nv]
    have s3 : Same H2 (upd H2 p3 (.tup (pcV ⟨some (g.start + (g.told.length : Int)), none, g.right.length⟩))) := Same.new hp3
    have t3 : SqT K (upd H2 p3 (.tup (pcV ⟨some (g.start + (g.told.length : Int)), none, g.right.length⟩))) p3 (pcV ⟨some (g.start + (g.told.length : Int)), none, g.right.length⟩) := SqT.of upd_same
    show tNil _ (upd H2 p3 (.tup (pcV ⟨some (g.start + (g.told.length : Int)), none, g.right.length⟩))) _
    generalize upd H2 p3 (.tup (pcV ⟨some (g.start + (g.told.length : Int)), none, g.right.length⟩)) = H3 at s3 t3
    refine ⟨(by show 3 ≤ sizeLine; decide), fun p hp => ?_⟩
    have s4 : Same H3 (upd H3 p (.lst [.ref p1, .ref p2, .ref p3])) := Same.new hp
    exact q p _ (((s1.trans s2).trans s3).trans s4) (pcs3 (SqL.of upd_same) (same_T ((s2.trans s3).trans s4) t1) (same_T (s3.trans s4) t2) (same_T s4 t3))
end
end K02
set_option Elab.async false
set_option linter.all false
set_option maxRecDepth 100000
set_option maxHeartbeats 4000000
namespace L2
open PySem PySem.Spec PyProof.Rows
/-- err.f in an except suite, whatever its class -/
def tXfA (K : PySem.W.Frag) (a : Addr) (cls : Value) (d : Option Addr) (f : Str) (te : TE) : TE := fun σ H Q => te σ H fun x H1 => x = .ref a ∧ ∃ (C dd : Addr) (bmB : List Value) (newId : String) (fs : List (Str × V)) (v : V), cls = .ref C ∧ OxB K C bmB newId ∧ PySem.W.findIn K (.ref C) f = some none ∧ d = some dd ∧ H1 dd = some (.xd fs) ∧ fs.lookup f = some v ∧ Q v H1
theorem pe_xfA {X : Cx} {a : Addr} {oe : Obj} {cls : Value} {d : Option Addr} {pn : List (Addr × Obj)} {e : Expr} {te : TE} {pos : Pos} {n : Str}
    (hz : Zc cls d oe) (hf : ∃ vs, oe.data = .fields vs) (he : PE (X.suite a ((a, oe) :: pn)) e te) (hb : attributeBase e n X.env (eval e X.env) = eval e X.env := by rfl) :
    PE (X.suite a ((a, oe) :: pn)) (.Attribute e n pos) (tXfA X.K a cls d n te) := by
  refine ⟨fun pins s σ H Q I h => ?_⟩
  refine attr_of hb (thn (he.run pins s σ H _ I h) fun u s1 hh => ?_)
  obtain ⟨x, H1, I1, rx, ex, C, dd, bmB, newId, fs, v, ec, T, hno, ed, ea, l, q⟩ := hh
  subst ex
  obtain rfl : u = Value.ref a := rx
  subst ec
  subst ed
  obtain ⟨ha, _⟩ := I1.pin (a, oe) (List.mem_append_left _ List.mem_cons_self)
  obtain ⟨vs, hd⟩ := hf
  have hx : ObjOk X.prog X.w H1 s1.heap dd (.xd fs) := I1.hok dd _ ea
  obtain ⟨mA, hns, hr⟩ := hx
  obtain ⟨od, ho, hl⟩ := lookIn_ns hns
  obtain ⟨u, hu, ru⟩ := RelO.some_of (v := v) (o := mA n) (by rw [← l]; exact hr n)
  have J : PySem.W.InstAt s1.heap a oe C (some od) := ⟨ha, hz.1, by unfold PySem.W.notCls; rw [hd] <;> rfl, by rw [hz.2]; exact ho⟩
  exact HandSPX.exc_get I1.kIn J T.ga T.gg T.exC (PySem.W.findObj_own T.hd hno rfl (by rw [hl, hu])) (handed_of ru) ⟨v, H1, I1.tok _, ru, q⟩
/-- a name whose slot is known where the slots are as many as the names -/
theorem pe_varL {X : Cx} {x : Str} {i : Nat} {v : V} {pos : Pos} (hN : X.N[i]? = some x) (hv : Vis X.env.scope x) (hd : (x == ("__debug__" : Str)) = false := by decide) (hcd : (x == ("__classdict__" : Str)) = false := by decide) :
    PE X (.Name x pos) (fun σ H Q => (σ.length = X.N.length → σ[i]? = some (some v)) ∧ Q v H) :=
  ⟨fun pins s σ H Q I h => (pe_var (pos := pos) hN hv hd hcd).run pins s σ H Q I ⟨v, h.1 I.len, h.2⟩⟩
end L2
set_option Elab.async false
set_option linter.all false
set_option maxRecDepth 100000
set_option maxHeartbeats 4000000
/-! a caught exception handed on to a def -/
namespace L2
open PySem PySem.Spec PyProof.Rows L2H
/-- an exception's object: its class, its own dict -/
def ExcP (C : Value) (d : Option Addr) (p : Addr × Obj) : Prop := Zc C d p.2 ∧ ∃ vs, p.2.data = .fields vs
/-- a def that may be called within an except suite; p: an object that stands and is not tracked -/
structure FnE (P : Program) (w : World) (K : PySem.W.Frag) (mg : Str → Option Value) (base : Heap) (k : Nat) (f : Addr) (fd : FuncData) (ps : List Str) (sp : Addr × Obj → List V → Hp → VK → Prop) : Prop where
  len : ∀ p vs H Q, sp p vs H Q → vs.length = ps.length
  run : ∀ (p : Addr × Obj) (A : Around) (outer : List Env) (s : Shared) (H : Hp) (args : Args) (us : List Value) (vs : List V) (Q : VK), RoomH k A → PinOk outer H s p → Env0 P w K mg base A outer s H → BindsTo s fd args (ps.zip us) → Vals vs us → sp p vs H Q →
    codeAny (model P w) A (.call (.ref f) args) (CR CX0 outer P w H s Q E0) s
theorem fnE_of {P : Program} {w : World} {K : PySem.W.Frag} {mg : Str → Option Value} {base : Heap} {k : Nat} {f : Addr} {fd : FuncData} {x qual : Str} {params : Arguments} {body : List Stmt} {scope : Scope} {N ps : List Str} {sp : Addr × Obj → List V → Hp → VK → Prop}
    (F : FunD K x qual params body scope [] [] f fd) (S : FnScope N ps scope) (len : ∀ p vs H Q, sp p vs H Q → vs.length = ps.length)
    (hbody : ∀ (cdv : Value) (p : Addr × Obj) (A : Around) (outer : List Env) (s : Shared) (H : Hp) (vs : List V) (Q : VK), RoomH k (A.deeper (envOfC qual scope s.heap.objs.size f cdv)) → sp p vs H Q →
      ∃ t, PSs (cxH CX0 P w K mg base N qual scope f cdv A outer s H E0 p) body t ∧ t { nx := fun _ H' => Q .non H', rt := Q } (L2.start N vs) H) : FnE P w K mg base (k + 1) f fd ps sp := by
  obtain ⟨oc, od, dV, kV, doc, pm, an, cdv, ct, osl, rfl, lk, hcd, _, _⟩ := F.ex
  refine ⟨len, fun p A outer s H args us vs Q r pin e0 hb rv hsp => ?_⟩
  have KX : K.In s.heap := e0.mod.kin.keeps (fun b o e => (e0.bs b o e).1)
  have ks : ∀ y ∈ ps.zip us, scope.names.lookup y.1 = some .local ∨ (scope.names.lookup y.1 = some .cell ∧ ((cellsFrom (s.heap.objs.size + 1) scope.names []).lookup y.1).isSome = true) := by
    rintro ⟨n, v⟩ hy
    exact (S.par n (List.of_mem_zip hy).1).imp id fun z => ⟨z, PySem.W.cellsFrom_some _ _ _ (.inl z)⟩
  apply codeAny_call_function r.depth (KX _ _ lk) rfl S.co S.gen rfl (PySem.W.codeRec_of KX hcd)
  refine hb _ _ _ _ (wpAny_newFunctionEnv_cells S.kind ks fun env he s1 x => ?_)
  cases he
  refine ⟨e0.mod.nolimit.keeps fun b o e => x.toInCall.keep b o ((e0.bs b o e).1), codeAny_func ?_⟩
  obtain ⟨t, ht, hq⟩ := hbody cdv p A outer s H vs Q (r.deeper _) hsp
  have I := inv_startH (CX := CX0) (P := P) (w := w) (K := K) (mg := mg) (base := base) (f := f) (cd := cdv) (E := E0) S pin e0 (len _ _ _ _ hsp) rv x
  refine wpAny_mono (ht.run [] s1 (L2.start N vs) H _ I hq) (fun fl s' hs => ?_) fun _ _ z => z
  cases fl with
  | ret u =>
    obtain ⟨v, σ', H', J, rr, q⟩ := hs
    exact ⟨v, H', J.os, J.bare, J.base, J.hok, rr, q⟩
  | next =>
    obtain ⟨σ', H', J, q⟩ := hs
    exact ⟨.non, H', J.os, J.bare, J.base, J.hok, rfl, q⟩
  | brk =>
    obtain ⟨_, _, _, q⟩ := hs
    cases q
  | cont =>
    obtain ⟨_, _, _, q⟩ := hs
    cases q
/-- such a def of the module, as callers see it -/
def CalE (P : Program) (w : World) (K : PySem.W.Frag) (mg : Str → Option Value) (base : Heap) (x : Str) (k : Nat) (ps : List Str) (sp : Addr × Obj → List V → Hp → VK → Prop) : Prop :=
  ∃ f fd, FnE P w K mg base k f fd ps sp ∧ mg x = some (.ref f) ∧ PySem.W.keepIn K (.ref f) = true ∧ Binds K fd ps []
section
variable {X : Cx} {k : Nat} {ps : List Str} {sp : Addr × Obj → List V → Hp → VK → Prop} {x : Str} {q pos : Pos} {e : Expr} {es : List Expr} {t : TA} {p : Addr × Obj}
/-- f(..) where p is pinned -/
theorem pe_calE (c : CalE X.prog X.w X.K X.mg X.base x k ps sp) (hp : p ∈ X.pn) (hr : RoomH k X.A) (hg : Gl X x) (ha : PA X (e :: es) t)
    (hdb : (x == ("__debug__" : Str)) = false := by decide) (he : starEach (e :: es) X.env = (false, eval e X.env) :: starEach es X.env := by rfl) (hpl : (backTo pos (starEach es X.env)).any (·.1) = false := by rfl) :
    PE X (.Call (.Name x q) (e :: es) [] pos) (fun σ H Q => t σ H fun vs H1 => sp p vs H1 Q) := by
  obtain ⟨f, fd, F, hm, hk, hb⟩ := c
  refine ⟨fun pins s σ H Q I h => ?_⟩
  refine wpAny_Call_Name_kw (ld_glob I hg hm ?_ hdb)
  refine PySem.W.callWith_K (h₀ := X.base) I.ok.mod.kin hk (thn (ha.run pos pins s σ H _ I h) fun us s1 ⟨vs, H1, I1, rv, h1⟩ => ⟨I1.kIn, ?_⟩) he hpl
  have hl : us.length = ps.length := rv.length.symm.trans (F.len _ _ _ _ h1)
  have b := hb s1 us I1.kIn (by rw [List.append_nil]; exact hl)
  rw [List.append_nil] at b
  obtain ⟨g1, g2, g3, g4, g5⟩ := I1.pin p (List.mem_append_left _ hp)
  have pin : PinOk X.stack H1 s1 p := ⟨g1, g2, fun hm => (List.mem_cons.mp (I1.stkSub p.1 hm)).elim g3 g4, g5⟩
  refine wpAny_call (codeAny_mono (F.run p X.A X.stack s1 H1 ⟨us, []⟩ us vs Q hr pin I1.env0 b rv h1) fun r s' hq => ?_)
  cases r with
  | error e => cases hq
  | ok fl =>
    cases fl with
    | ret u => exact I1.after hq
    | next => cases hq
    | brk => cases hq
    | cont => cases hq
/-- err.f, err pinned -/
theorem pe_xfP {cls : Value} {d : Option Addr} {te : TE} {n : Str} (hp : p ∈ X.pn) (hz : ExcP cls d p) (he : PE X e te) (hb : attributeBase e n X.env (eval e X.env) = eval e X.env := by rfl) :
    PE X (.Attribute e n pos) (tXfA X.K p.1 cls d n te) := by
  refine ⟨fun pins s σ H Q I h => attr_of hb (thn (he.run pins s σ H _ I h) fun u s1 hh => ?_)⟩
  obtain ⟨y, H1, I1, ry, ey, C, dd, bmB, newId, fs, v, ec, T, hno, ed, ea, l, q⟩ := hh
  cases ey
  cases (show u = Value.ref p.1 from ry)
  cases ec
  cases ed
  obtain ⟨ha, _⟩ := I1.pin p (List.mem_append_left _ hp)
  obtain ⟨⟨z1, z2⟩, vs, hd⟩ := hz
  obtain ⟨mA, hns, hr⟩ := (show ObjOk X.prog X.w H1 s1.heap dd (.xd fs) from I1.hok dd _ ea)
  obtain ⟨od, ho, hl⟩ := lookIn_ns hns
  obtain ⟨u, hu, ru⟩ := RelO.some_of (v := v) (o := mA n) (by rw [← l]; exact hr n)
  have J : PySem.W.InstAt s1.heap p.1 p.2 C (some od) := ⟨ha, z1, by unfold PySem.W.notCls; rw [hd] <;> rfl, by rw [z2]; exact ho⟩
  exact HandSPX.exc_get I1.kIn J T.ga T.gg T.exC (PySem.W.findObj_own T.hd hno rfl (by rw [hl, hu])) (handed_of ru) ⟨v, H1, I1.tok _, ru, q⟩
/-- isinstance(err, C), err pinned -/
def rIsP (K : PySem.W.Frag) (p : Addr × Obj) : List V → Hp → VK → Prop := fun xs H Q => ∃ (bmB : List Value) (newId : String) (C dd : Addr) (fs : List (Str × V)) (c : V) (cv : Value) (b : Bool), xs = [.ref p.1, c] ∧ ClsV c cv ∧ OxB K C bmB newId ∧ ExcP (.ref C) (some dd) p ∧ H dd = some (.xd fs) ∧ PySem.W.kitOne K (.ref C) cv = some b ∧ Q (.bl b) H
theorem call_isP (hp : p ∈ X.pn) : CallR X (.builtin "isinstance") (rIsP X.K p) := by
  intro pins s σ H xs us Q I r h
  obtain ⟨bmB, newId, C, dd, fs, c, cv, b, rfl, hcv, T, ⟨⟨z1, z2⟩, vs, hd⟩, ea, e, q⟩ := h
  obtain ⟨u1, u2, rfl, r1, r2⟩ := vals2 r
  cases hcv.eq r2
  cases (show u1 = Value.ref p.1 from r1)
  obtain ⟨ha, _⟩ := I.pin p (List.mem_append_left _ hp)
  obtain ⟨mA, hns, hr⟩ := (show ObjOk X.prog X.w H s.heap dd (.xd fs) from I.hok dd _ ea)
  obtain ⟨od, ho, hl⟩ := lookIn_ns hns
  have J : PySem.W.InstAt s.heap p.1 p.2 C (some od) := ⟨ha, z1, by unfold PySem.W.notCls; rw [hd] <;> rfl, by rw [z2]; exact ho⟩
  exact PySem.W.kia_one (PySem.W.kitx_exc (od := some od) T.hcl T.ga T.gg T.exC T.ha T.hn T.ht T.hm) I.kIn J e (fun z => nomatch z) fun tk => ⟨.bl b, H, I.tok tk, rfl, q⟩
end
end L2
set_option Elab.async false
set_option linter.all false
set_option maxRecDepth 100000
set_option maxHeartbeats 4000000
/-! min of pairs of ints; min of ints by a lambda's pairs, with a default -/
namespace L2
open PySem PySem.Spec PyProof.Rows LamX
/-! ### pairs in order -/
def lePr (p q : Int × Int) : Prop := p.1 < q.1 ∨ (p.1 = q.1 ∧ p.2 ≤ q.2)
def ltPr (p q : Int × Int) : Bool := HT.lexLt [p.1, p.2] [q.1, q.2]
theorem ltPr_iff {p q : Int × Int} : ltPr p q = true ↔ (p.1 < q.1 ∨ (p.1 = q.1 ∧ p.2 < q.2)) := by
  unfold ltPr
  rw [HT.lexLt_cons, HT.lexLt_cons]
  by_cases h : p.1 = q.1
  · rw [if_pos h]
    by_cases h2 : p.2 = q.2
    · rw [if_pos h2]
      simp [HT.lexLt_nil_nil, h, h2]
    · rw [if_neg h2]
      simp [h]
  · rw [if_neg h]
    simp [h]
theorem argBest_lePr (f : Nat → Int × Int) : ∀ k : Nat, argBest (fun i j => ltPr (f i) (f j)) k ≤ k ∧ ∀ j, j ≤ k → lePr (f (argBest (fun i j => ltPr (f i) (f j)) k)) (f j)
  | 0 => ⟨Nat.le_refl _, fun j hj => by
    have : j = 0 := by omega
    subst this
    exact .inr ⟨rfl, Int.le_refl _⟩⟩
  | k + 1 => by
    obtain ⟨h1, h2⟩ := argBest_lePr f k
    show (if ltPr (f (k + 1)) (f (argBest (fun i j => ltPr (f i) (f j)) k)) = true then k + 1 else argBest (fun i j => ltPr (f i) (f j)) k) ≤ k + 1 ∧ ∀ j, j ≤ k + 1 → lePr (f (if ltPr (f (k + 1)) (f (argBest (fun i j => ltPr (f i) (f j)) k)) = true then k + 1 else argBest (fun i j => ltPr (f i) (f j)) k)) (f j)
    generalize argBest (fun i j => ltPr (f i) (f j)) k = b at h1 h2 ⊢
    by_cases c : ltPr (f (k + 1)) (f b) = true
    · rw [if_pos c]
      refine ⟨Nat.le_refl _, fun j hj => ?_⟩
      have z := ltPr_iff.mp c
      by_cases e : j = k + 1
      · rw [e]
        exact .inr ⟨rfl, Int.le_refl _⟩
      · have y := h2 j (by omega)
        unfold lePr at y ⊢
        omega
    · rw [if_neg c]
      refine ⟨by omega, fun j hj => ?_⟩
      by_cases e : j = k + 1
      · rw [e]
        have z : ¬ ((f (k + 1)).1 < (f b).1 ∨ ((f (k + 1)).1 = (f b).1 ∧ (f (k + 1)).2 < (f b).2)) := fun z => c (ltPr_iff.mpr z)
        unfold lePr
        omega
      · exact h2 j (by omega)
theorem richLt_prs {prog : Program} {w : World} {A : Around} {E : Value → Shared → Prop} {s : Shared} {l b : Addr} {its its2 : List Value} {p q : Int × Int} {Q : Value → Shared → Prop} (hl : IsTup s.heap l its.toArray) (hb : IsTup s.heap b its2.toArray) (hi : IntsAre its [p.1, p.2]) (hj : IntsAre its2 [q.1, q.2]) (hu : A.units < cLine) (h : Q (.bool (ltPr p q)) s) :
    wpAny (model prog w) A (richCompare .Lt (.ref l) (.ref b)) Q E s :=
  (show wpAny (model prog w) A (compareOp .Lt (.ref l) (.ref b)) Q E s from HT.lt_tupInts hl hb hi hj hu h)
/-! ### min(xs), xs a list of pairs -/
def PrAll (K : PySem.W.Frag) (H : Hp) (vs : List V) (ps : List (Int × Int)) : Prop := vs.length = ps.length ∧ ∀ (i : Nat) (v : V) (p : Int × Int), vs[i]? = some v → ps[i]? = some p → ∃ t, v = .ref t ∧ SqT K H t [.int p.1, .int p.2]
def rMinPr (K : PySem.W.Frag) : List V → Hp → VK → Prop := fun xs H Q => ∃ (a : Addr) (vs : List V) (ps : List (Int × Int)), xs = [V.ref a] ∧ SqL K H a vs ∧ PrAll K H vs ps ∧ ps ≠ [] ∧
  ∀ (i : Nat) (v : V) (p : Int × Int), vs[i]? = some v → ps[i]? = some p → (∀ q ∈ ps, lePr p q) → Q v H
section
variable {X : Cx}
theorem cr_minPr (hc : X.calm = true) (hu : X.A.units + 64 < cLine) : CallR X (.builtin "min") (rMinPr X.K) := by
  intro pins s σ H xs us Q I r h
  obtain ⟨a, vs, ps, rfl, hs, ⟨hl, hp⟩, hne, q⟩ := h
  obtain ⟨its, rv, pl, _⟩ := I.list hs
  rw [Vals.ref1 r]
  have hlen := rv.length
  have n0 : 0 < its.toArray.size := by
    rw [List.size_toArray, ← hlen, hl]
    exact List.length_pos_iff.mpr hne
  have at_ : ∀ (i : Nat) (u : Value), its.toArray[i]? = some u → ∃ (v : V) (p : Int × Int) (t : Addr), vs[i]? = some v ∧ ps[i]? = some p ∧ RelV v u ∧ v = .ref t ∧ u = .ref t ∧ SqT X.K H t [.int p.1, .int p.2] := fun i u hu => by
    have hu' : its[i]? = some u := by simpa using hu
    obtain ⟨il, _⟩ := List.getElem?_eq_some_iff.mp hu'
    have hv : vs[i]? = some (vs[i]'(by omega)) := List.getElem?_eq_getElem _
    have hpp : ps[i]? = some (ps[i]'(by omega)) := List.getElem?_eq_getElem _
    obtain ⟨u2, e1, e2⟩ := rv.get hv
    rw [hu'] at e1
    cases e1
    obtain ⟨t, e3, e4⟩ := hp i _ _ hv hpp
    rw [e3] at e2
    exact ⟨_, _, t, hv, hpp, by rw [e3]; exact e2, e3, e2, e4⟩
  have I0 := I
  refine call_min_walkH (PySem.W.iter_listW (A := X.A.in1) (I.ok.hd hc) pl.isList fun s₂ e W st hfp hw hk => ?_)
  refine ⟨_, _, _, _, _, _, _, s.heap, fun i j => ltPr (ps.getD i (0, 0)) (ps.getD j (0, 0)), rfl, W, st, hfp, n0, hw, hk, fun i j vi vj s' Q' E' hk' hi hj hq => ?_, fun v s' hP m => ?_⟩
  · obtain ⟨v1, p1, t1, _, b1, _, _, rfl, d1⟩ := at_ i vi hi
    obtain ⟨v2, p2, t2, _, b2, _, _, rfl, d2⟩ := at_ j vj hj
    obtain ⟨x1, y1, ⟨o1, z1⟩, _⟩ := I.tuple d1
    obtain ⟨x2, y2, ⟨o2, z2⟩, _⟩ := I.tuple d2
    dsimp only at hq
    rw [List.getD_eq_getElem?_getD, List.getD_eq_getElem?_getD, b1, b2] at hq
    exact richLt_prs ⟨o1, hk' _ _ z1.1, z1.2⟩ ⟨o2, hk' _ _ z2.1, z2.2⟩ (intsAre_of (ns := [p1.1, p1.2]) y1) (intsAre_of (ns := [p2.1, p2.2]) y2) (by show X.A.units + 1 < _; omega) hq
  · obtain ⟨h', tk, rfl, hk'⟩ := PySem.W.moved_old e rfl m
    obtain ⟨z, p, t, a1, b1, c1, _, _, _⟩ := at_ _ v hP
    obtain ⟨k1, k2⟩ := argBest_lePr (fun i => ps.getD i (0, 0)) (its.toArray.size - 1)
    refine ⟨z, H, I.kept hk', c1, q _ z p a1 b1 fun x hx => ?_⟩
    obtain ⟨j, hj⟩ := List.mem_iff_getElem?.mp hx
    obtain ⟨jl, _⟩ := List.getElem?_eq_some_iff.mp hj
    have := k2 j (by rw [List.size_toArray, ← hlen, hl]; omega)
    rw [List.getD_eq_getElem?_getD, List.getD_eq_getElem?_getD, b1, hj] at this
    exact this
/-! ### a lambda of parameters alone, called -/
theorem lamP_call {P : Program} {w : World} {K : PySem.W.Frag} {mg : Str → Option Value} {base : Heap} {A : Around} {outer : List Env} {s : Shared} {H : Hp} {f c' : Addr} {qual : Str} {params : Arguments} {body : Expr} {scope : Scope} {pm ctv : Value} {N ps : List Str} {us : List Value} {vs : List V} {Q : VK} {k : Nat} {t : TE} {cl : List (Str × Addr)}
    (hr : Room (k + 1) A) (e0 : Env0 P w K mg base A outer s H) (of : s.heap.get? f = some (PySem.W.kla_obj "<lambda>" qual params body scope cl pm c' ctv)) (hcl : cl = []) (hc : s.heap.CodeRec (.ref c') qual) (S : FnScope N ps scope) (hl : vs.length = ps.length) (r : Vals vs us)
    (hbind : ∀ cl pm cv ctv, bindArgs (PySem.W.kla_fn "<lambda>" qual params body scope cl pm cv ctv) ⟨us, []⟩ = pure (ps.zip us))
    (hb : Room k (A.deeper (envOfC qual scope s.heap.objs.size f (.ref c'))) → PE (cxOf CX0 P w K mg base N qual scope f (.ref c') A outer s H E0) body t) (hq : t (start N vs) H Q) :
    codeAny (model P w) A (.call (.ref f) ⟨us, []⟩) (CR CX0 outer P w H s Q E0) s := by
  subst hcl
  have lim : s.heap.NoLimit := e0.mod.nolimit.keeps fun b o e => (e0.bs b o e).1
  have hkind : ∀ y ∈ ps.zip us, scope.names.lookup y.1 = some .local ∨ (scope.names.lookup y.1 = some .cell ∧ ((cellsFrom (s.heap.objs.size + 1) scope.names []).lookup y.1).isSome = true) := fun y hy => by
    rcases S.par y.1 (List.of_mem_zip (show (y.1, y.2) ∈ _ from hy)).1 with q | q
    · exact .inl q
    · exact .inr ⟨q, PySem.W.cellsFrom_some _ _ _ (.inl q)⟩
  refine PySem.W.kla_callFunE hr.depth of rfl S.co S.gen rfl hc ?_
  rw [hbind]
  refine wpAny_pure (wpAny_newFunctionEnv_cells S.kind hkind fun env he s1 x => ?_)
  cases he
  refine ⟨lim.keeps x.toInCall.keep, PySem.W.kla_codeExpr ?_⟩
  have I := inv_start (CX := CX0) (P := P) (w := w) (K := K) (mg := mg) (base := base) (f := f) (cd := .ref c') (E := E0) S hr.hd e0 hl r x
  refine wpAny_mono ((hb (hr.deeper _)).run [] s1 (start N vs) H Q I hq) (fun v s' hs => ?_) fun _ _ z => z
  obtain ⟨z, H', J, rv, q⟩ := hs
  exact ⟨z, H', J.os, J.bare, J.base, J.hok, rv, q⟩
/-! ### a call that is run with nothing tracked leaves all that stood -/
abbrev H0 : Hp := fun _ => none
theorem env0_bare {P : Program} {w : World} {K : PySem.W.Frag} {mg : Str → Option Value} {base : Heap} {A : Around} {outer : List Env} {s : Shared} {H : Hp} (e : Env0 P w K mg base A outer s H) : Env0 P w K mg base A outer s H0 :=
  ⟨e.frames, e.mod, fun b o h => ⟨(e.bs b o h).1, rfl⟩, e.bsz, e.funs, fun _ _ => rfl, fun a o h => (nomatch h), e.bare⟩
theorem bare_after {pins : List (Addr × Obj)} {σ : St} {H H2 : Hp} {s s' : Shared} (I : Inv X pins σ H s) (os : s'.os = s.os) (ag : AllBare s'.gens) (un : Un (frs X.stack) [] H0 H2 s.heap s'.heap) :
    Inv X pins σ H s' ∧ ∀ b o, s.heap.get? b = some o → ∃ sl, s'.heap.get? b = some { o with slots := sl } := by
  have at_ : ∀ b o, s.heap.get? b = some o → b ∉ frs X.stack → s'.heap.get? b = some o := fun b o e nf => un.keep b o e rfl nf (by simp)
  have any_ : ∀ b o, s.heap.get? b = some o → ∃ sl, s'.heap.get? b = some { o with slots := sl } := fun b o e => un.any e rfl (by simp)
  refine ⟨I.call' (ch := []) os ⟨fun b o e _ nf _ => at_ b o e nf, fun b o e _ _ _ => any_ b o e, fun b o e n _ => n, fun b o e _ => un.there b o e (by simp), fun _ _ q => q, fun _ _ _ q => q, fun _ ps q => ⟨#[], by rw [q]; simp⟩⟩ (fun b o e => ?_) ag (fun b hb => (nomatch hb)), any_⟩
  have nf : ∀ c o, H c = some o → c ∉ frs X.stack := fun c o q z => by
    have := I.stkFree c z
    rw [this] at q
    cases q
  refine (I.hok b o e).stay (fun c u hc q => at_ c u q ?_) (fun _ q => q) fun _ _ q => q
  rcases hc with rfl | hc
  · exact nf _ _ e
  · exact nf _ _ hc
end
/-! ### min(e, key=lambda x: (abs(x), x), default=None) -/
theorem clo_nil {cells : List (Str × Addr)} : ∀ {names : List (Str × NameKind)} {acc : List (Str × Addr)}, (∀ y ∈ names, y.2 ≠ .free) → cloFrom cells names acc = acc
  | [], _, _ => rfl
  | (n, k) :: r, acc, h => by
    unfold cloFrom
    rw [if_neg (by have := h _ List.mem_cons_self; simpa using this)]
    exact clo_nil fun y hy => h y (List.mem_cons_of_mem _ hy)
def aZ (n : Int) : Int := if n < 0 then -n else n
/-- m is as near to 0 as n -/
def near (m n : Int) : Prop := aZ m < aZ n ∨ (aZ m = aZ n ∧ m ≤ n)
def tMinK (K : PySem.W.Frag) (T : List (Addr × Str)) (te : TE) : TE := fun σ H Q => te σ H fun x H1 => ∃ (a : Addr) (ns : List Int), [x] = [V.ref a] ∧ SqL K H1 a (ns.map V.int) ∧ Tabs T H1 ∧ ∀ H2, ExtN H1 H2 → Tabs T H2 → (ns = [] → Q .non H2) ∧ ∀ m ∈ ns, (∀ n ∈ ns, near m n) → Q (.int m) H2
theorem tup_slots {h : Heap} {t : Addr} {its : Array Value} {h' : Heap} (a : ∀ b o, h.get? b = some o → ∃ sl, h'.get? b = some { o with slots := sl }) (x : IsTup h t its) : IsTup h' t its := by
  obtain ⟨o, e, hc, n, hd⟩ := x
  obtain ⟨sl, e2⟩ := a _ _ e
  exact ⟨_, e2, hc, n, hd⟩
theorem lst_slots {h : Heap} {t : Addr} {its : Array Value} {h' : Heap} (a : ∀ b o, h.get? b = some o → ∃ sl, h'.get? b = some { o with slots := sl }) (x : h.IsList t its) : h'.IsList t its := by
  obtain ⟨o, e, hc, n, hd⟩ := x
  obtain ⟨sl, e2⟩ := a _ _ e
  exact ⟨_, e2, hc, n, hd⟩
theorem codeRec_of {P : Program} {w : World} {H : Hp} {h : Heap} {c : Addr} {q : Str} (hok : HOk P w H h) (e : H c = some (CodeO c q)) : h.CodeRec (.ref c) q := by
  obtain ⟨⟨oc, vs, t, hoc, hd, hv⟩, _, _⟩ := hok c _ e
  exact ⟨c, oc, vs, t, rfl, hoc, hd, hv⟩
section
variable {X : Cx}
theorem pe_minKey {T : List (Addr × Str)} {c P : Addr} {k : Nat} {params : Arguments} {body : Expr} {scope : Scope} {te tb : TE} {N : List Str} {x : Str} {e : Expr} {p lpos kp kp2 cpos pos : Pos} {jn : Nat} (hc : X.calm = true) (hg : Gl X "min") (hm : X.mg "min" = none) (he : PE X e te)
    (TB : TabB X.base X.mg c P) (hcode : X.env.code = .ref c) (hmT : (P, X.env.qual ++ "<lambda>") ∈ T) (hu : ∀ p ∈ T, p.1 = P → p.2 = X.env.qual ++ "<lambda>") (hr : Room (k + 2) X.A) (S : FnScope N [x] scope) (hdef : defaultsOf params X.env = ([], []))
    (hbind : ∀ (u : Value) cl pm cv ctv, bindArgs (PySem.W.kla_fn "<lambda>" (X.env.qual ++ "<lambda>") params body scope cl pm cv ctv) ⟨[u], []⟩ = pure [(x, u)])
    (hb : ∀ (A : Around) (outer : List Env) (s : Shared) (f c' : Addr), Room k (A.deeper (envOfC (X.env.qual ++ "<lambda>") scope s.heap.objs.size f (.ref c'))) → PE (cxOf CX0 X.prog X.w X.K X.mg X.base N (X.env.qual ++ "<lambda>") scope f (.ref c') A outer s H0 E0) body tb)
    (ht : ∀ (n : Int) (Q : VK), (∀ p, Q (.ref p) (upd H0 p (.tup [.int (aZ n), .int n]))) → tb (start N [.int n]) H0 Q)
    (h1 : starEach [e] X.env = (false, eval e X.env) :: starEach [] X.env := by rfl) (h2 : (backTo pos (starEach [e] X.env)) = (false, eval e X.env) :: backTo pos (starEach [] X.env) := by rfl)
    (h3 : (backTo pos (starEach [e] X.env)).any (·.1) = false := by rfl) :
    PE X (.Call (.Name "min" p) [e] [⟨some "key", .Lambda params body scope lpos, kp⟩, ⟨some "default", .Constant .none jn cpos, kp2⟩] pos) (tMinK X.K T te) := by
  refine ⟨fun pins s σ H Q I h => ?_⟩
  refine wpAny_Call_Name_kw (ld_blt I hg hm PyProof.Rows.boot_min ?_ (by decide) (by decide))
  refine PyProof.Rows.callWith_kw (thn (PA.run (pa_cons he pa_nil h1) pos pins s σ H (fun vs H1 => ∃ (a : Addr) (ns : List Int), vs = [V.ref a] ∧ SqL X.K H1 a (ns.map V.int) ∧ Tabs T H1 ∧ ∀ H2, ExtN H1 H2 → Tabs T H2 → (ns = [] → Q .non H2) ∧ ∀ m ∈ ns, (∀ n ∈ ns, near m n) → Q (.int m) H2) I h) fun us s1 ⟨vs, H1, I1, r1, q1⟩ => ?_) h2 h3
  obtain ⟨a, ns, rfl, hs, hT, q⟩ := q1
  rw [Vals.ref1 r1]
  show wpAny _ _ (evalAll ((do let v ← eval (.Lambda params body scope lpos) X.env; standAt pos; pure v) :: (do let v ← eval (.Constant .none jn cpos) X.env; standAt pos; pure v) :: [])) _ _ s1
  have cl0 : cloFrom X.env.cells scope.names [] = [] := clo_nil S.nofree
  refine PySem.wpAny_evalAll_cons (wpAny_bind (lam_make2 I1 TB hcode hmT hu hT hdef (fun y hy z => absurd z (S.nofree y hy)) fun f c' pm ctv H2 s2 I2 eN T2 hf hfn hfr hco => wpAny_bind (wpAny_standAt (wpAny_pure ?_))))
  refine PySem.wpAny_evalAll_cons (wpAny_bind (PyProof.Rows.Constant_none (wpAny_bind (wpAny_standAt (wpAny_pure (wpAny_evalAll_nil ?_))))))
  obtain ⟨q0, qm⟩ := q H2 eN T2
  show wpAny _ _ (call (.builtin "min") [.ref a] [(Str.ofString "key", .ref f), (Str.ofString "default", .none)]) _ _ s2
  have hs2 : SqL X.K H2 a (ns.map V.int) := by
    rcases hs with (h | ⟨o, h⟩) | h
    · exact .inl (.inl (eN _ _ h (fun ps z => nomatch z)))
    · exact .inl (.inr ⟨o, eN _ _ h (fun ps z => nomatch z)⟩)
    · exact .inr h
  obtain ⟨its, rv, pl, _⟩ := I2.list hs2
  have hlen : its.length = ns.length := by rw [← rv.length, List.length_map]
  have at_ : ∀ (i : Nat) (u : Value), its.toArray[i]? = some u → ∃ n t, ns[i]? = some n ∧ u = .int n t := fun i u hu => by
    have hu' : its[i]? = some u := by simpa using hu
    obtain ⟨il, _⟩ := List.getElem?_eq_some_iff.mp hu'
    have hn : ns[i]? = some (ns[i]'(by omega)) := List.getElem?_eq_getElem _
    have hv : (ns.map V.int)[i]? = some (.int (ns[i]'(by omega))) := by rw [List.getElem?_map, hn]; rfl
    obtain ⟨u2, e1, t, e2⟩ := rv.get hv
    rw [hu'] at e1
    cases e1
    exact ⟨_, t, hn, e2⟩
  have key : ∀ i, (fun i : Nat => ((aZ (ns.getD i 0), ns.getD i 0) : Int × Int)) i = (aZ (ns.getD i 0), ns.getD i 0) := fun _ => rfl
  have cdr : ∀ {s' : Shared}, Inv X pins σ H2 s' → s'.heap.CodeRec (.ref c') (X.env.qual ++ "<lambda>") := fun I' => codeRec_of I'.hok hco
  have hrL : Room (k + 1) X.A.in1 := hr.in1
  refine call_min_walkKD (PySem.W.iter_listW (A := X.A.in1) (I2.ok.hd hc) pl.isList fun s₂ e W st hfp hw hk => ?_)
  have szI : s2.heap.objs.size ≤ s2.heap.objs.size := Nat.le_refl _
  have szS : s2.heap.objs.size ≤ s₂.heap.objs.size := by
    rw [e]
    show _ ≤ (s2.heap.push _).objs.size
    rw [Heap.size_push]
    exact Nat.le_succ _
  have fpI : FpOk X pins H2 s2.heap.objs.size := I2.fpOk szI (I2.hok.fresh szI)
  have fpS : FpOk X pins H2 s₂.heap.objs.size := I2.fpOk szS (I2.hok.fresh szS)
  have nfr : ∀ {b : Addr} {s' : Shared}, Inv X pins σ H2 s' → FpOk X pins H2 b → b ∉ frs X.stack := fun {b s'} I' fp hm => (List.mem_cons.mp (I'.stkSub b hm)).elim fp.2.1 fp.2.2.1
  have flt : f < s2.heap.objs.size := Heap.lt_size hf
  refine ⟨_, _, _, _, _, _, _, fun s' => Inv X pins σ H2 s' ∧ s'.heap.get? f = some (PySem.W.kla_obj "<lambda>" (X.env.qual ++ "<lambda>") params body scope (cloFrom X.env.cells scope.names []) pm c' ctv),
    fun i kv s' => ∃ (t : Addr) (jt : List Value), kv = .ref t ∧ IntsAre jt [aZ (ns.getD i 0), ns.getD i 0] ∧ IsTup s'.heap t jt.toArray ∧ t ∉ s₂.heap.objs.size :: [s2.heap.objs.size],
    fun i j => ltPr ((fun i : Nat => ((aZ (ns.getD i 0), ns.getD i 0) : Int × Int)) i) ((fun i : Nat => ((aZ (ns.getD i 0), ns.getD i 0) : Int × Int)) j), rfl, W, st, hfp, ⟨?_, ?_, ?_, ?_⟩, ?_, ?_, ?_⟩
  · rintro s3 s4 ⟨I3, f3⟩ m
    obtain ⟨h4, g4, d4, t4, o4⟩ := s4
    obtain ⟨m1, m2, m3, m4, m5⟩ := m
    dsimp only at m2 m3 m4
    subst m2 m3 m4
    refine ⟨I3.turnedL (ch := [s₂.heap.objs.size, s2.heap.objs.size]) m1 fun b hb => ?_, m1 _ _ (fun hm => ?_) f3⟩
    · rcases List.mem_cons.mp hb with rfl | hb
      · exact fpS
      · rw [List.mem_singleton.mp hb]
        exact fpI
    · rcases List.mem_cons.mp hm with z | hm
      · exact Nat.lt_irrefl _ (Nat.lt_of_lt_of_le flt (by rw [z]; exact szS))
      · exact Nat.lt_irrefl _ (Nat.lt_of_lt_of_le flt (by rw [List.mem_singleton.mp hm]; exact szI))
  · rintro i kv s3 s4 ⟨t, jt, e1, e2, ⟨o, e3, e4⟩, e5⟩ m
    exact ⟨t, jt, e1, e2, ⟨o, m.heap _ _ e5 e3, e4⟩, e5⟩
  · rintro i v s3 o Q' E' hi hP ⟨I3, f3⟩ hS hSo hK
    obtain ⟨n, tk, hn, rfl⟩ := at_ i v hP
    have en : ns.getD i 0 = n := by rw [List.getD_eq_getElem?_getD, hn]; rfl
    refine wpAny_call (codeAny_mono (lamP_call (H := H0) (vs := [.int n]) (us := [.int n tk]) (ps := [x]) (N := N) (Q := fun z H3 => ∃ p, z = .ref p ∧ H3 = upd H0 p (.tup [.int (aZ n), .int n])) hrL (env0_bare I3.env0.in1) f3 cl0 (cdr I3) S rfl (.cons ⟨tk, rfl⟩ .nil) (hbind (.int n tk)) (fun hr2 => hb _ _ _ _ _ hr2) (ht n _ fun p => ⟨p, rfl, rfl⟩)) fun r s4 hq => ?_)
    cases r with
    | error e => exact (show False from hq).elim
    | ok fl =>
      cases fl with
      | ret u =>
        obtain ⟨z, H3, os, ag, un, hok, rz, p, rfl, rfl⟩ := hq
        cases rz
        obtain ⟨I4, any4⟩ := bare_after I3 os ag un
        have exact4 : ∀ {b : Addr} {o : Obj}, b ∉ frs X.stack → s3.heap.get? b = some o → s4.heap.get? b = some o := fun nf e => un.keep _ _ e rfl nf (by simp)
        have newp : s3.heap.get? p = none := by
          cases z : s3.heap.get? p with
          | none => rfl
          | some o' =>
            have := un.free p o' z rfl (by simp)
            rw [upd_same] at this
            cases this
        obtain ⟨⟨oI, gI, hI⟩, lI⟩ := hS
        obtain ⟨_, jt, rj, tj⟩ := hok p _ upd_same
        refine hK (.ref p) s4 ⟨I4, exact4 hfr f3⟩ ⟨⟨oI, exact4 (nfr I3 fpI) gI, hI⟩, lst_slots any4 lI⟩ (exact4 (nfr I3 fpS) hSo) ⟨p, jt, rfl, by rw [en]; exact intsAre_of (ns := [aZ n, n]) rj, tj, fun hm => ?_⟩ fun j kv' ⟨t, jt', e1, e2, e3, e4⟩ => ⟨t, jt', e1, e2, tup_slots any4 e3, e4⟩
        rcases List.mem_cons.mp hm with z | hm
        · rw [z] at newp
          rw [newp] at hSo
          cases hSo
        · rw [List.mem_singleton.mp hm] at newp
          rw [newp] at gI
          cases gI
      | next => exact (show False from hq).elim
      | brk => exact (show False from hq).elim
      | cont => exact (show False from hq).elim
  · rintro i j ki kj s3 Q' E' ⟨I3, f3⟩ ⟨t1, j1, rfl, a1, b1, _⟩ ⟨t2, j2, rfl, a2, b2, _⟩ hq
    have hu := hr.un
    exact richLt_prs b1 b2 a1 a2 (by show X.A.units + 1 < _; omega) hq
  · subst e
    exact ⟨I2.kept hk, hk _ _ hf⟩
  · rintro hz s3 ⟨I3, _⟩
    refine ⟨.non, H2, I3, rfl, q0 (List.eq_nil_of_length_eq_zero ?_)⟩
    rw [List.size_toArray] at hz
    omega
  · rintro hp v s3 hP ⟨I3, _⟩
    obtain ⟨m, tk, hm, rfl⟩ := at_ _ v hP
    obtain ⟨k1, k2⟩ := argBest_lePr (fun i : Nat => ((aZ (ns.getD i 0), ns.getD i 0) : Int × Int)) (its.toArray.size - 1)
    refine ⟨.int m, H2, I3, ⟨tk, rfl⟩, qm m (List.mem_of_getElem? hm) fun n hn => ?_⟩
    obtain ⟨j, hj⟩ := List.mem_iff_getElem?.mp hn
    obtain ⟨jl, _⟩ := List.getElem?_eq_some_iff.mp hj
    have := k2 j (by rw [List.size_toArray, hlen]; omega)
    dsimp only at this hm
    rw [List.getD_eq_getElem?_getD, List.getD_eq_getElem?_getD, hm, hj] at this
    exact this
end
end L2
set_option Elab.async false
set_option linter.all false
set_option maxRecDepth 100000
set_option maxHeartbeats 4000000
namespace K02
open PySem PySem.Spec PyProof.Rows L2 RowM LamX
/-- a def that makes lambdas: its code object is known -/
theorem okC {P : Program} {w : World} {K : PySem.W.Frag} {mg : Str → Option Value} {base : Heap} {CX : CXT} {N ps : List Str} {k : Nat} {sp : Sp} {x qual : Str} {params : Arguments} {body : List Stmt} {scope : Scope} {p : He.Defn} {fd : FuncData} (F : FunD K x qual params body scope [] [] (He.fAd K p) fd) (S : FnScope N ps scope) (len : ∀ vs H Q E, sp vs H Q E → vs.length = ps.length)
    (hbody : ∀ (A : Around) (outer : List Env) (s : Shared) (H : Hp) (vs : List V) (Q : VK) (E : XK), Room k (A.deeper (envOfC qual scope s.heap.objs.size (He.fAd K p) (.ref (He.codeOf K p)))) → sp vs H Q E →
      ∃ t, PSs (cxOf CX P w K mg base N qual scope (He.fAd K p) (.ref (He.codeOf K p)) A outer s H E) body t ∧ t { nx := fun _ H' => Q .non H', rt := Q } (L2.start N vs) H) : FnOk P w K mg base CX (k + 1) (He.fAd K p) fd ps sp := by
  obtain ⟨oc, od, dV, kV, doc, pm, an, cdv, ct, osl, rfl, lk, hcd, _, _⟩ := F.ex
  obtain ⟨c, rfl⟩ := He.codeIn_ref hcd
  have e := He.codeOf_eq lk rfl
  rw [e] at hbody
  exact fn_of lk hcd S len fun A outer s H vs Q E hr hsp => hbody A outer s H vs Q E hr hsp
abbrev qN : Str := "nearest.<locals>.<lambda>"
section
variable {P : Program} {w : World} {K : PySem.W.Frag} {mg : Str → Option Value} {base : Heap}
def spNear (K : PySem.W.Frag) (T : List (Addr × Str)) : Sp := fun vs H Q _ => ∃ (a : Addr) (ns : List Int), vs = [.ref a] ∧ SqL K H a (ns.map V.int) ∧ Tabs T H ∧ ∀ H2, ExtN H H2 → Tabs T H2 → (ns = [] → Q .non H2) ∧ ∀ m ∈ ns, (∀ n ∈ ns, Near m n) → Q (.int m) H2
theorem sc_near : FnScope ["cells"] ["cells"] (defScope (top 37)) := ⟨rfl, rfl, rfl, by decide +kernel, rfl, by decide +kernel, by decide +kernel⟩
theorem ok_near {fd : FuncData} {T : List (Addr × Str)} {PN : Addr} (F : FnP K "nearest" (top 37) (He.fAd K ("nearest", none)) fd) (t_B : TabB base mg (He.codeOf K ("nearest", none)) PN) (t_m : (PN, qN) ∈ T) (t_u : ∀ p ∈ T, p.1 = PN → p.2 = qN) (m_min : mg "min" = none) (m_abs : mg "abs" = none) : FnOk P w K mg base CX0 4 (He.fAd K ("nearest", none)) fd ["cells"] (spNear K T) := by
  have sc := sc_near
  refine okC F sc (fun vs H Q E h => ?_) (fun A outer s H vs Q E hr h => ?_)
  · obtain ⟨a, ns, rfl, _⟩ := h
    rfl
  · obtain ⟨a, ns, rfl, ha, hT, q⟩ := h
    refine ⟨_, PSs.nox (pss_one (ps_ret (pe_minKey (k := 1) (N := ["cell"]) (x := "cell") rfl rfl m_min (pv 0) t_B rfl t_m t_u hr ⟨rfl, rfl, rfl, by decide +kernel, rfl, by decide +kernel, by decide +kernel⟩ rfl (fun _ _ _ _ _ => rfl) (fun _ _ _ _ _ _ => pe_tup (pa_cons (pe_callB call_abs (by rfl) m_abs (by decide +kernel) (pa_cons (pv 0) pa_nil)) (pa_cons (pv 0) pa_nil))) (fun n Q q => ⟨_, rfl, _, rfl, _, rfl, (by show 2 ≤ sizeLine; decide), fun p _ => q p⟩)))), ?_⟩
    exact ⟨_, rfl, a, ns, rfl, ha, hT, q⟩
end
end K02
set_option Elab.async false
set_option linter.all false
set_option maxRecDepth 100000
set_option maxHeartbeats 4000000
namespace RowM
/-! ### cells of a kind among the pieces of a row -/
theorem steps_row {f : Form} (h1 : 1 ≤ f.left.length) (h2 : 1 ≤ f.right.length) (p : Nat → Prop) : Steps (fun c => p (sign f c)) f.start (f.start + (f.told.length : Int)) f.left.length f.right.length := by
  have hl := (sign_LT (f := f)).per h1
  have hr := (sign_RT (f := f)).per
  refine ⟨fun c hc h => ?_, fun c hc h => ?_, fun c hc h => ?_, fun c hc h => ?_⟩
  · have := h f.left.length h1 (Nat.le_refl _)
    rw [← hl (c + (f.left.length : Int)) hc, show c + (f.left.length : Int) - (f.left.length : Int) = c by omega] at this
    exact this
  · have := h f.left.length h1 (Nat.le_refl _)
    rw [hl c hc] at this
    exact this
  · have := h f.right.length h2 (Nat.le_refl _)
    rw [← hr (c - (f.right.length : Int)) (by omega), show c - (f.right.length : Int) + (f.right.length : Int) = c by omega] at this
    exact this
  · have := h f.right.length h2 (Nat.le_refl _)
    rw [hr c hc] at this
    exact this
/-- two periods -/
theorem steps_two {f f' : Form} (h1 : 1 ≤ f.left.length) (h2 : 1 ≤ f.right.length) (h1' : 1 ≤ f'.left.length) (h2' : 1 ≤ f'.right.length) {b e : Int} (b1 : b ≤ f.start) (b2 : b ≤ f'.start) (e1 : f.start + (f.told.length : Int) ≤ e) (e2 : f'.start + (f'.told.length : Int) ≤ e) :
    Steps (fun c => sign f c ≠ sign f' c) b e (f.left.length + f'.left.length) (f.right.length + f'.right.length) := by
  have hl := (sign_LT (f := f)).per h1
  have hr := (sign_RT (f := f)).per
  have hl' := (sign_LT (f := f')).per h1'
  have hr' := (sign_RT (f := f')).per
  obtain ⟨q, hq⟩ : ∃ q, q = f.left.length := ⟨_, rfl⟩
  obtain ⟨q', hq'⟩ : ∃ q, q = f'.left.length := ⟨_, rfl⟩
  obtain ⟨p, hp⟩ : ∃ q, q = f.right.length := ⟨_, rfl⟩
  obtain ⟨p', hp'⟩ : ∃ q, q = f'.right.length := ⟨_, rfl⟩
  rw [← hq] at hl h1 ⊢
  rw [← hq'] at hl' h1' ⊢
  rw [← hp] at hr h2 ⊢
  rw [← hp'] at hr' h2' ⊢
  generalize sign f = g at hl hr ⊢
  generalize sign f' = g' at hl' hr' ⊢
  have up : ∀ x : Int, x + (q : Int) < b → g (x + q) = g x := fun x hx => by
    have := hl (x + q) (by omega)
    rwa [show x + (q : Int) - (q : Int) = x by omega, eq_comm] at this
  have up' : ∀ x : Int, x + (q' : Int) < b → g' (x + q') = g' x := fun x hx => by
    have := hl' (x + q') (by omega)
    rwa [show x + (q' : Int) - (q' : Int) = x by omega, eq_comm] at this
  have dn : ∀ x : Int, e + (p : Int) ≤ x → g (x - p) = g x := fun x hx => by
    have := hr (x - p) (by omega)
    rwa [show x - (p : Int) + (p : Int) = x by omega, eq_comm] at this
  have dn' : ∀ x : Int, e + (p' : Int) ≤ x → g' (x - p') = g' x := fun x hx => by
    have := hr' (x - p') (by omega)
    rwa [show x - (p' : Int) + (p' : Int) = x by omega, eq_comm] at this
  refine ⟨fun c hc h => ?_, fun c hc h => ?_, fun c hc h => ?_, fun c hc h => ?_⟩
  · have a1 := Decidable.not_not.mp (h q h1 (by omega))
    have a2 := Decidable.not_not.mp (h q' h1' (by omega))
    have a3 := Decidable.not_not.mp (h (q + q') (by omega) (by omega))
    have c1 := up c (by omega)
    have c2 := up' (c + q) (by omega)
    have c3 := up (c + q') (by omega)
    have c4 := up' c (by omega)
    rw [show c + ((q + q' : Nat) : Int) = c + q + q' by omega] at a3
    rw [show c + (q' : Int) + (q : Int) = c + q + q' by omega] at c3
    refine fun z => z ?_
    rw [← c1, a1, ← c2, ← a3, c3, a2, c4]
  · have a1 := Decidable.not_not.mp (h q h1 (by omega))
    have a2 := Decidable.not_not.mp (h q' h1' (by omega))
    have a3 := Decidable.not_not.mp (h (q + q') (by omega) (by omega))
    have c1 := hl c (by omega)
    have c2 := hl' (c - q) (by omega)
    have c3 := hl (c - q') (by omega)
    have c4 := hl' c (by omega)
    rw [show c - ((q + q' : Nat) : Int) = c - q - q' by omega] at a3
    rw [show c - (q' : Int) - (q : Int) = c - q - q' by omega] at c3
    refine fun z => z ?_
    rw [← c1, a1, ← c2, ← a3, c3, a2, c4]
  · have a1 := Decidable.not_not.mp (h p h2 (by omega))
    have a2 := Decidable.not_not.mp (h p' h2' (by omega))
    have a3 := Decidable.not_not.mp (h (p + p') (by omega) (by omega))
    have c1 := dn c (by omega)
    have c2 := dn' (c - p) (by omega)
    have c3 := dn (c - p') (by omega)
    have c4 := dn' c (by omega)
    rw [show c - ((p + p' : Nat) : Int) = c - p - p' by omega] at a3
    rw [show c - (p' : Int) - (p : Int) = c - p - p' by omega] at c3
    refine fun z => z ?_
    rw [← c1, a1, ← c2, ← a3, c3, a2, c4]
  · have a1 := Decidable.not_not.mp (h p h2 (by omega))
    have a2 := Decidable.not_not.mp (h p' h2' (by omega))
    have a3 := Decidable.not_not.mp (h (p + p') (by omega) (by omega))
    have c1 := hr c (by omega)
    have c2 := hr' (c + p) (by omega)
    have c3 := hr (c + p') (by omega)
    have c4 := hr' c (by omega)
    rw [show c + ((p + p' : Nat) : Int) = c + p + p' by omega] at a3
    rw [show c + (p' : Int) + (p : Int) = c + p + p' by omega] at c3
    refine fun z => z ?_
    rw [← c1, a1, ← c2, ← a3, c3, a2, c4]
end RowM
set_option Elab.async false
set_option linter.all false
set_option maxRecDepth 100000
set_option maxHeartbeats 4000000
namespace K02
open PySem PySem.Spec PyProof.Rows L2 RowM LamX
/-- its own [] -/
def RowIx (P : Program) (w : World) (K : PySem.W.Frag) (mg : Str → Option Value) (base : Heap) (C : Addr) (sp : Sp) : Prop := ∃ g, PySem.W.findIn K (.ref C) "__getitem__" = some (some (.ref g)) ∧ PySem.W.fnIn K g = true ∧ PySem.W.isFn K (.ref g) = true ∧ FnR P w K mg base CX0 2 g sp
/-- the class Row with its own [] -/
structure RowI (P : Program) (w : World) (K : PySem.W.Frag) (mg : Str → Option Value) (base : Heap) (C : Addr) : Prop where
  a : RowA K C
  ix : RowIx P w K mg base C (spIx K C)
theorem RowI.cl {P : Program} {w : World} {K : PySem.W.Frag} {mg : Str → Option Value} {base : Heap} {C : Addr} (o : RowI P w K mg base C) : Cls K C := o.a.cl
theorem RowI.n1 {P : Program} {w : World} {K : PySem.W.Frag} {mg : Str → Option Value} {base : Heap} {C : Addr} (o : RowI P w K mg base C) : NoAttr K C "left" := o.a.n1
theorem RowI.n2 {P : Program} {w : World} {K : PySem.W.Frag} {mg : Str → Option Value} {base : Heap} {C : Addr} (o : RowI P w K mg base C) : NoAttr K C "told" := o.a.n2
theorem RowI.n3 {P : Program} {w : World} {K : PySem.W.Frag} {mg : Str → Option Value} {base : Heap} {C : Addr} (o : RowI P w K mg base C) : NoAttr K C "right" := o.a.n3
theorem RowI.n4 {P : Program} {w : World} {K : PySem.W.Frag} {mg : Str → Option Value} {base : Heap} {C : Addr} (o : RowI P w K mg base C) : NoAttr K C "start" := o.a.n4
/-- row[c] -/
theorem pe_ixRow {X : Cx} {C : Addr} {sp : Sp} {a b : Expr} {ta tb : TE} {pos : Pos} (o : RowIx X.prog X.w X.K X.mg X.base C sp) (hr : Room 3 X.A) (ha : PE X a ta) (hb : PE X b tb) (ho : ∀ o i, subscripted b true o i = runValue (.builtin "lifetime.subscript" ⟨[o, i], []⟩) := by intros; rfl) :
    PE X (.Subscript a b pos) (tOp (rIxO C sp E0) ta tb) := by
  obtain ⟨g, h1, h2, h3, F⟩ := o
  exact pe_ixO h1 h2 h3 F hr pass0 ha hb ho
theorem ixRow_ok {K : PySem.W.Frag} {C : Addr} {H : Hp} {v : V} {c : Int} {f : Form} {Q : VK} (hv : RowV K C H v f) (ho : Ok f) (q : ∀ H', Same H H' → Q (.int ((sign f c : Nat) : Int)) H') : rIxO C (spIx K C) E0 v (.int c) H Q := by
  obtain ⟨a, dx, l, t, r, rfl, ha, h4⟩ := hv.split
  exact ⟨a, dx, _, rfl, ha, _, c, f, rfl, hv, ho, q⟩
/-- the cells of a list that pass -/
theorem filt_range (xs : List Int) (p : Int → Bool) : ((List.range xs.length).filter fun i => p (xs.getD i 0)).map (fun i => V.int (xs.getD i 0)) = (xs.filter p).map V.int := by
  have e : xs = (List.range xs.length).map fun i => xs.getD i 0 := by
    refine List.ext_getElem (by simp) fun i h1 h2 => ?_
    simp [h1]
  conv => rhs; rw [e, List.filter_map, List.map_map]
  rfl
/-- the nearest cell of a kind, None if there are none -/
def NearR (bad : Int → Prop) (v : V) : Prop := (v = .non ∧ ∀ c, ¬ bad c) ∨ ∃ m, v = .int m ∧ IsN bad m
theorem NearR.cong {bad bad' : Int → Prop} (h : ∀ c, bad c ↔ bad' c) {v : V} (z : NearR bad v) : NearR bad' v := by
  have e : bad = bad' := funext fun c => propext (h c)
  rwa [e] at z
section
variable {P : Program} {w : World} {K : PySem.W.Frag} {mg : Str → Option Value} {base : Heap}
/-! ### strange -/
def spStg (K : PySem.W.Frag) (C : Addr) (T : List (Addr × Str)) : Sp := fun vs H Q _ => ∃ (v : V) (n : Nat) (f : Form), vs = [v, .int (n : Int)] ∧ RowV K C H v f ∧ Ok f ∧ Big f 1000 200000 (2 ^ 40) ∧ Tabs T H ∧ ∀ v' H', ExtN H H' → Tabs T H' → NearR (fun c => n ≤ sign f c) v' → Q v' H'
theorem sc_stg : FnScope ["self", "signs", "cell"] ["self", "signs"] (defScope (methOf (top 25) 7)) := ⟨rfl, rfl, rfl, by decide +kernel, rfl, by decide +kernel, by decide +kernel⟩
theorem pcs_mem {f : Form} {c : Int} : c ∈ (pcsOf f).flatMap pcL ↔ (c ∈ pcL ⟨none, some f.start, f.left.length⟩ ∨ c ∈ pcL ⟨some f.start, some (f.start + (f.told.length : Int)), f.told.length⟩ ∨ c ∈ pcL ⟨some (f.start + (f.told.length : Int)), none, f.right.length⟩) := by
  unfold pcsOf
  simp [List.mem_append]
theorem mem_below {b m : Int} {w : Nat} : m ∈ pcL ⟨none, some b, w⟩ ↔ min 0 b - (w : Int) ≤ m ∧ m < b ∧ m < min 0 b + (w : Int) := by
  unfold pcL
  rw [mem_rgI]
  simp only [pcLo, pcHi, pcNear, pcLow, pcHigh, Option.getD]
  omega
theorem mem_above {e m : Int} {w : Nat} : m ∈ pcL ⟨some e, none, w⟩ ↔ e ≤ m ∧ max 0 e - (w : Int) ≤ m ∧ m < max 0 e + (w : Int) := by
  unfold pcL
  rw [mem_rgI]
  simp only [pcLo, pcHi, pcNear, pcLow, pcHigh, Option.getD]
  omega
theorem mem_mid {b e m : Int} {w : Nat} (h : e - b = (w : Int)) : m ∈ pcL ⟨some b, some e, w⟩ ↔ b ≤ m ∧ m < e := by
  unfold pcL
  rw [mem_rgI]
  simp only [pcLo, pcHi, pcNear, pcLow, pcHigh, Option.getD]
  omega
theorem len_mid {b e : Int} {w : Nat} (h : e - b = (w : Int)) : (pcL ⟨some b, some e, w⟩).length ≤ w := by
  unfold pcL
  rw [rgI_len]
  simp only [pcLo, pcHi, pcNear, pcLow, pcHigh, Option.getD]
  omega
/-- every kind that steps has its nearest cell among three pieces -/
theorem near_three {bad : Int → Prop} {b e : Int} {w1 w2 w0 : Nat} (S : Steps bad b e w1 w2) (h1 : 1 ≤ w1) (h2 : 1 ≤ w2) (h0 : e - b = (w0 : Int)) {m : Int} (hm : IsN bad m) : m ∈ pcL ⟨none, some b, w1⟩ ∨ m ∈ pcL ⟨some b, some e, w0⟩ ∨ m ∈ pcL ⟨some e, none, w2⟩ := by
  by_cases c1 : m < b
  · have := near_below S h1 hm c1
    exact .inl (mem_below.mpr ⟨this.1, c1, this.2⟩)
  by_cases c2 : e ≤ m
  · have := near_above S h2 hm c2
    exact .inr (.inr (mem_above.mpr ⟨c2, this.1, this.2⟩))
  · exact .inr (.inl ((mem_mid h0).mpr ⟨by omega, by omega⟩))
theorem near_res {bad : Int → Prop} {l : List Int} {p : Int → Bool} (hp : ∀ c, p c = true ↔ bad c) (hl : ∀ m, IsN bad m → m ∈ l) {Q : VK} {H2 : Hp} (q : ∀ v', NearR bad v' → Q v' H2) : (l.filter p = [] → Q .non H2) ∧ ∀ m ∈ l.filter p, (∀ n ∈ l.filter p, Near m n) → Q (.int m) H2 := by
  have z := near_list (bad := bad) (l := l.filter p) (fun c hc => (hp c).mp (List.mem_filter.mp hc).2) (fun m hm => List.mem_filter.mpr ⟨hl m hm, (hp m).mpr hm.1⟩)
  exact ⟨fun e => q _ (.inl ⟨rfl, z.1 e⟩), fun m h1 h2 => q _ (.inr ⟨m, rfl, z.2 m h1 h2⟩)⟩
theorem ok_stg {f : Addr} {fd : FuncData} {C : Addr} {T : List (Addr × Str)} (F : FnM K "strange" "Row.strange" (methOf (top 25) 7) f fd) (o_R : RowI P w K mg base C) (c_nearest : Cal P w K mg base CX0 "nearest" 4 ["cells"] (spNear K T)) (c_telling_cells : Cal P w K mg base CX0 "telling_cells" 2 ["pieces"] (spTel K)) (c_pieces_of : Cal P w K mg base CX0 "pieces_of" 1 ["row"] (spPcs K C)) : FnOk P w K mg base CX0 5 f fd ["self", "signs"] (spStg K C T) := by
  have sc := sc_stg
  refine F.ok sc (fun vs H Q E h => ?_) (fun cdv A outer s H vs Q E hr h => ?_)
  · obtain ⟨v, n, g, rfl, _⟩ := h
    rfl
  · obtain ⟨v, n, g, rfl, hv, ho, hb, hT, q⟩ := h
    have hr_nearest : Room 4 _ := hr
    have hr_ix : Room 3 _ := hr.mono (by decide)
    have hr_telling_cells : Room 2 _ := hr.mono (by decide)
    have hr_pieces_of : Room 1 _ := hr.mono (by decide)
    have bl := hb.l
    have bt := hb.t
    have br := hb.r
    have bs := hb.s
    have l1 := ho.l1
    have r1 := ho.r1
    refine ⟨_, PSs.nox (pss_one (ps_ret (pe_cal c_nearest hr_nearest rfl (pa_cons (pe_lc (own := [("cell", 2)]) (g := gName 2) rfl sc.nd (pi_list (pe_cal c_telling_cells hr_telling_cells rfl (pa_cons (pe_cal c_pieces_of hr_pieces_of rfl (pa_cons (pv 0) pa_nil)) pa_nil))) (blkOk_by (N := ["self", "signs", "cell"]) (sc := defScope (methOf (top 25) 7)) (by decide +kernel)) (fun _ _ _ _ _ => (pg_name (i := 2) sc.nd rfl (Or.inl rfl))) (fun _ _ _ _ _ => (pts_one (pt_cmpR op_ge (pe_ixRow o_R.ix hr_ix (pv 0) (pv 2)) (pv 1) (nomark _)))) (fun _ _ _ _ _ => (pv 2))) pa_nil)))), ?_⟩
    refine ⟨_, rfl, v, g, rfl, hv, fun pl H1 s1 hpl => ?_⟩
    have hmid : g.start + (g.told.length : Int) - g.start = (g.told.length : Int) := by omega
    have len : ((pcsOf g).flatMap pcL).length ≤ 1000000 := by
      have a1 := pcL_len (x := ⟨none, some g.start, g.left.length⟩)
      have a2 := len_mid hmid
      have a3 := pcL_len (x := ⟨some (g.start + (g.told.length : Int)), none, g.right.length⟩)
      unfold pcsOf
      simp only [List.flatMap_cons, List.flatMap_nil, List.length_append, List.length_nil]
      simp only at a1 a3
      omega
    refine ⟨pl, _, rfl, hpl, len, fun x hx => ?_, fun cl H2 s2 ecl hcl => ?_⟩
    · have hx : x = ⟨none, some g.start, g.left.length⟩ ∨ x = ⟨some g.start, some (g.start + (g.told.length : Int)), g.told.length⟩ ∨ x = ⟨some (g.start + (g.told.length : Int)), none, g.right.length⟩ := by
        simpa [pcsOf] using hx
      rcases hx with rfl | rfl | rfl
      · exact ⟨.inr (fun z => nomatch z), (by show (0 : Int).natAbs ≤ _; decide), by show g.start.natAbs ≤ _; omega, by show g.left.length ≤ _; omega⟩
      · exact ⟨.inl (fun z => nomatch z), by show g.start.natAbs ≤ _; omega, by show (g.start + (g.told.length : Int)).natAbs ≤ _; omega, by show g.told.length ≤ _; omega⟩
      · exact ⟨.inl (fun z => nomatch z), by show (g.start + (g.told.length : Int)).natAbs ≤ _; omega, (by show (0 : Int).natAbs ≤ _; decide), by show g.right.length ≤ _; omega⟩
    generalize hL : (pcsOf g).flatMap pcL = L at len hcl
    refine ⟨cl, rfl, ⟨_, hcl⟩, fun D hD => ?_⟩
    refine lc_flt (walk_list (K := K) (a := cl) (xs := L.map V.int)) (fun i => .int (L.getD i 0)) (fun i => decide (n ≤ sign g (L.getD i 0))) (by rw [List.length_map]; exact len) hD (fun H' kp => same_L (keep_same hD kp) hcl) ?_ ?_
    · rintro i x H' H'' Kc Z hi kp ⟨rfl, hx⟩ k1 k2
      rw [List.length_map] at hi
      have hx2 : x = .int (L.getD i 0) := by
        rw [List.getElem?_map, List.getElem?_eq_getElem hi] at hx
        rw [List.getD_eq_getElem?_getD, List.getElem?_eq_getElem hi]
        exact (Option.some.inj hx).symm
      subst hx2
      have sm := (s1.trans s2).trans (keep_same hD kp)
      refine ⟨rfl, ?_⟩
      refine ⟨_, rfl, _, rfl, ixRow_ok (hv.same sm) ho fun H3 s3 => ?_⟩
      refine ⟨_, rfl, _, _, rfl, rfl, ?_⟩
      by_cases c : n ≤ sign g (L.getD i 0)
      · exact ⟨true, congrArg V.bl (decide_eq_true (by omega)), iteT ⟨_, rfl, k1 (decide_eq_true c) _ s3⟩⟩
      · exact ⟨false, congrArg V.bl (decide_eq_false (by omega)), iteF (k2 (decide_eq_false c) _ s3)⟩
    · intro H' kp hm
      have sm := (s1.trans s2).trans (keep_same hD kp)
      rw [List.length_map, filt_range L (fun c => decide (n ≤ sign g c))] at hm
      refine ⟨D, _, rfl, SqL.of hm, hT.ext fun b o e => sm _ _ e, fun H2 e2 T2 => ?_⟩
      refine near_res (bad := fun c => n ≤ sign g c) (fun c => decide_eq_true_iff) (fun m hm => ?_) fun v' hv' => q v' H2 ((ExtN.of fun b o e => sm _ _ e).trans e2) T2 hv'
      rw [← hL, pcs_mem]
      exact near_three (steps_row l1 r1 fun x => n ≤ x) l1 r1 hmid hm
end
end K02
set_option Elab.async false
set_option linter.all false
set_option maxRecDepth 100000
set_option maxHeartbeats 4000000
namespace K02
open PySem PySem.Spec PyProof.Rows L2 RowM LamX
section
variable {P : Program} {w : World} {K : PySem.W.Frag} {mg : Str → Option Value} {base : Heap}
/-! ### apart -/
def spApa (K : PySem.W.Frag) (C : Addr) (T : List (Addr × Str)) : Sp := fun vs H Q _ => ∃ (v u : V) (f f' : Form), vs = [v, u] ∧ RowV K C H v f ∧ RowV K C H u f' ∧ Ok f ∧ Ok f' ∧ Big f 1000 100000 200000 ∧ Big f' 1000 100000 200000 ∧ Tabs T H ∧ ∀ v' H', ExtN H H' → Tabs T H' → NearR (fun c => sign f c ≠ sign f' c) v' → Q v' H'
theorem sc_apa : FnScope ["self", "other", "first", "end", "below", "above", "cells", "cell"] ["self", "other"] (defScope (methOf (top 25) 8)) := ⟨rfl, rfl, rfl, by decide +kernel, rfl, by decide +kernel, by decide +kernel⟩
theorem ok_apa {f : Addr} {fd : FuncData} {C : Addr} {T : List (Addr × Str)} (F : FnM K "apart" "Row.apart" (methOf (top 25) 8) f fd) (o_R : RowI P w K mg base C) (m_len : mg "len" = none) (m_min : mg "min" = none) (m_max : mg "max" = none) (c_nearest : Cal P w K mg base CX0 "nearest" 4 ["cells"] (spNear K T)) (c_telling_cells : Cal P w K mg base CX0 "telling_cells" 2 ["pieces"] (spTel K)) : FnOk P w K mg base CX0 5 f fd ["self", "other"] (spApa K C T) := by
  have sc := sc_apa
  refine F.ok sc (fun vs H Q E h => ?_) (fun cdv A outer s H vs Q E hr h => ?_)
  · obtain ⟨v, u, g, g', rfl, _⟩ := h
    rfl
  · obtain ⟨v, u, g, g', rfl, hv, hu, ho, ho', hb, hb', hT, q⟩ := h
    obtain ⟨a, dx, l, t, r, rfl, ha, h4⟩ := hv.split
    obtain ⟨a', dx', l', t', r', rfl, ha', h4'⟩ := hu.split
    have hr_nearest : Room 4 _ := hr
    have hr_ix : Room 3 _ := hr.mono (by decide)
    have hr_telling_cells : Room 2 _ := hr.mono (by decide)
    have bl := hb.l
    have bt := hb.t
    have br := hb.r
    have bs := hb.s
    have l1 := ho.l1
    have r1 := ho.r1
    have bl' := hb'.l
    have bt' := hb'.t
    have br' := hb'.r
    have bs' := hb'.s
    have l1' := ho'.l1
    have r1' := ho'.r1
    refine ⟨_, PSs.nox (pss_cons (ps_set (i := 2) sc.nd rfl (Or.inl rfl) (pe_callB (call_min2 rfl) (by rfl) m_min (by decide +kernel) (pa_cons (pe_fld (pv 0) rfl) (pa_cons (pe_fld (pv 1) rfl) pa_nil))))
      (pss_cons (ps_set (i := 3) sc.nd rfl (Or.inl rfl) (pe_callB (call_max2 rfl) (by rfl) m_max (by decide +kernel) (pa_cons (pe_op op_add (pe_fld (pv 0) rfl) (pe_callB call_len_seq (by rfl) m_len (by decide +kernel) (pa_cons (pe_fld (pv 0) rfl) pa_nil))) (pa_cons (pe_op op_add (pe_fld (pv 1) rfl) (pe_callB call_len_seq (by rfl) m_len (by decide +kernel) (pa_cons (pe_fld (pv 1) rfl) pa_nil))) pa_nil))))
      (pss_cons (ps_set (i := 4) sc.nd rfl (Or.inl rfl) (pe_tup (pa_cons pe_non (pa_cons (pv 2) (pa_cons (pe_op op_add (pe_callB call_len_seq (by rfl) m_len (by decide +kernel) (pa_cons (pe_fld (pv 0) rfl) pa_nil)) (pe_callB call_len_seq (by rfl) m_len (by decide +kernel) (pa_cons (pe_fld (pv 1) rfl) pa_nil))) pa_nil)))))
      (pss_cons (ps_set (i := 5) sc.nd rfl (Or.inl rfl) (pe_tup (pa_cons (pv 3) (pa_cons pe_non (pa_cons (pe_op op_add (pe_callB call_len_seq (by rfl) m_len (by decide +kernel) (pa_cons (pe_fld (pv 0) rfl) pa_nil)) (pe_callB call_len_seq (by rfl) m_len (by decide +kernel) (pa_cons (pe_fld (pv 1) rfl) pa_nil))) pa_nil)))))
      (pss_cons (ps_set (i := 6) sc.nd rfl (Or.inl rfl) (pe_cal c_telling_cells hr_telling_cells rfl (pa_cons (pe_lst (pa_cons (pv 4) (pa_cons (pe_tup (pa_cons (pv 2) (pa_cons (pv 3) (pa_cons (pe_op op_sub (pv 3) (pv 2)) pa_nil)))) (pa_cons (pv 5) pa_nil)))) pa_nil)))
      (pss_one (ps_ret (pe_cal c_nearest hr_nearest rfl (pa_cons (pe_lc (own := [("cell", 7)]) (g := gName 7) rfl sc.nd (pi_list (pv 6)) (blkOk_by (N := ["self", "other", "first", "end", "below", "above", "cells", "cell"]) (sc := defScope (methOf (top 25) 8)) (by decide +kernel)) (fun _ _ _ _ _ => (pg_name (i := 7) sc.nd rfl (Or.inl rfl))) (fun _ _ _ _ _ => (pts_one (pt_cmpR op_ne (pe_ixRow o_R.ix hr_ix (pv 0) (pv 7)) (pe_ixRow o_R.ix hr_ix (pv 1) (pv 7)) (nomark _)))) (fun _ _ _ _ _ => (pv 7))) pa_nil))))))))), ?_⟩
    refine ⟨_, rfl, a, C, dx, _, _, rfl, ha, o_R.cl, o_R.n4, rfl, _, rfl, a', C, dx', _, _, rfl, ha', o_R.cl, o_R.n4, rfl, _, _, rfl, ?_⟩
    refine ⟨_, rfl, a, C, dx, _, _, rfl, ha, o_R.cl, o_R.n4, rfl, _, rfl, a, C, dx, _, _, rfl, ha, o_R.cl, o_R.n2, rfl, t, _, rfl, .inr h4.told, _, _, rfl, rfl, ?_⟩
    refine ⟨_, rfl, a', C, dx', _, _, rfl, ha', o_R.cl, o_R.n4, rfl, _, rfl, a', C, dx', _, _, rfl, ha', o_R.cl, o_R.n2, rfl, t', _, rfl, .inr h4'.told, _, _, rfl, rfl, _, _, rfl, ?_⟩
    simp only [len_nv]
    have eb : (if g'.start < g.start then g'.start else g.start) = min g.start g'.start := by
      split <;> omega
    have ee : (if g'.start + (g'.told.length : Int) > g.start + (g.told.length : Int) then g'.start + (g'.told.length : Int) else g.start + (g.told.length : Int)) = max (g.start + (g.told.length : Int)) (g'.start + (g'.told.length : Int)) := by
      split <;> omega
    rw [eb, ee]
    obtain ⟨b0, hb0⟩ : ∃ b0, b0 = min g.start g'.start := ⟨_, rfl⟩
    obtain ⟨e0, he0⟩ : ∃ e0, e0 = max (g.start + (g.told.length : Int)) (g'.start + (g'.told.length : Int)) := ⟨_, rfl⟩
    rw [← hb0, ← he0]
    have g1 : b0 ≤ g.start := by omega
    have g2 : b0 ≤ g'.start := by omega
    have g3 : g.start + (g.told.length : Int) ≤ e0 := by omega
    have g4 : g'.start + (g'.told.length : Int) ≤ e0 := by omega
    have g5 : b0.natAbs ≤ 200000 := by omega
    have g6 : e0.natAbs ≤ 300000 := by omega
    clear hb0 he0 eb ee
    obtain ⟨w0, hw0⟩ : ∃ w0 : Nat, e0 - b0 = (w0 : Int) := ⟨(e0 - b0).toNat, by omega⟩
    have hw0' : w0 ≤ 500000 := by omega
    refine ⟨_, rfl, _, rfl, a, C, dx, _, _, rfl, ha, o_R.cl, o_R.n1, rfl, l, _, rfl, .inr h4.left, _, rfl, a', C, dx', _, _, rfl, ha', o_R.cl, o_R.n1, rfl, l', _, rfl, .inr h4'.left, _, _, rfl, rfl, (by show 3 ≤ sizeLine; decide), fun p1 hp1 => ?_⟩
    simp only [len_nv, ← Int.natCast_add]
    let x1 : Pc := ⟨none, some b0, g.left.length + g'.left.length⟩
    obtain ⟨H1, e1⟩ : ∃ H1, H1 = upd H p1 (.tup [.non, .int b0, .int ((g.left.length + g'.left.length : Nat) : Int)]) := ⟨_, rfl⟩
    have s1 : Same H H1 := e1 ▸ Same.new hp1
    have t1 : SqT K H1 p1 (pcV x1) := e1 ▸ SqT.of upd_same
    rw [← e1]
    have ha1 := s1 _ _ ha
    have ha1' := s1 _ _ ha'
    refine ⟨_, rfl, _, rfl, a, C, dx, _, _, rfl, ha1, o_R.cl, o_R.n3, rfl, r, _, rfl, .inr (same_T s1 h4.right), _, rfl, a', C, dx', _, _, rfl, ha1', o_R.cl, o_R.n3, rfl, r', _, rfl, .inr (same_T s1 h4'.right), _, _, rfl, rfl, (by show 3 ≤ sizeLine; decide), fun p2 hp2 => ?_⟩
    simp only [len_nv, ← Int.natCast_add]
    let x3 : Pc := ⟨some e0, none, g.right.length + g'.right.length⟩
    obtain ⟨H2, e2⟩ : ∃ H2, H2 = upd H1 p2 (.tup [.int e0, .non, .int ((g.right.length + g'.right.length : Nat) : Int)]) := ⟨_, rfl⟩
    have s2 : Same H1 H2 := e2 ▸ Same.new hp2
    have t2 : SqT K H2 p2 (pcV x3) := e2 ▸ SqT.of upd_same
    rw [← e2]
    refine ⟨_, rfl, _, rfl, _, rfl, _, rfl, _, rfl, _, _, rfl, rfl, (by show 3 ≤ sizeLine; decide), fun p3 hp3 => ?_⟩
    simp only [hw0]
    let x2 : Pc := ⟨some b0, some e0, w0⟩
    obtain ⟨H3, e3⟩ : ∃ H3, H3 = upd H2 p3 (.tup [.int b0, .int e0, .int (w0 : Int)]) := ⟨_, rfl⟩
    have s3 : Same H2 H3 := e3 ▸ Same.new hp3
    have t3 : SqT K H3 p3 (pcV x2) := e3 ▸ SqT.of upd_same
    rw [← e3]
    refine ⟨_, rfl, (by show 3 ≤ sizeLine; decide), fun pl hpl => ?_⟩
    have s4 : Same H3 (upd H3 pl (.lst [.ref p1, .ref p3, .ref p2])) := Same.new hpl
    have hpcs : PcsV K (upd H3 pl (.lst [.ref p1, .ref p3, .ref p2])) pl [x1, x2, x3] := pcs3 (SqL.of upd_same) (same_T ((s2.trans s3).trans s4) t1) (same_T s4 t3) (same_T (s3.trans s4) t2)
    have len : ([x1, x2, x3].flatMap pcL).length ≤ 1000000 := by
      have a1 := pcL_len (x := x1)
      have a2 : (pcL x2).length ≤ w0 := len_mid hw0
      have a3 := pcL_len (x := x3)
      have b1 : x1.p ≤ 2000 := by show g.left.length + g'.left.length ≤ _; omega
      have b3 : x3.p ≤ 2000 := by show g.right.length + g'.right.length ≤ _; omega
      simp only [List.flatMap_cons, List.flatMap_nil, List.length_append, List.length_nil]
      omega
    refine ⟨pl, [x1, x2, x3], rfl, hpcs, len, fun x hx => ?_, fun cl H5 s5 ecl hcl => ?_⟩
    · have hx : x = x1 ∨ x = x2 ∨ x = x3 := by simpa using hx
      rcases hx with rfl | rfl | rfl
      · exact ⟨.inr (fun z => nomatch z), (by show (0 : Int).natAbs ≤ _; decide), by show b0.natAbs ≤ _; omega, by show g.left.length + g'.left.length ≤ _; omega⟩
      · exact ⟨.inl (fun z => nomatch z), by show b0.natAbs ≤ _; omega, by show e0.natAbs ≤ _; omega, by show w0 ≤ _; omega⟩
      · exact ⟨.inl (fun z => nomatch z), by show e0.natAbs ≤ _; omega, (by show (0 : Int).natAbs ≤ _; decide), by show g.right.length + g'.right.length ≤ _; omega⟩
    have mem3 : ∀ {m : Int}, m ∈ [x1, x2, x3].flatMap pcL ↔ (m ∈ pcL x1 ∨ m ∈ pcL x2 ∨ m ∈ pcL x3) := by simp [List.mem_append]
    generalize hL : [x1, x2, x3].flatMap pcL = L at len hcl mem3
    have s05 : Same H H5 := (((s1.trans s2).trans s3).trans s4).trans s5
    refine ⟨_, rfl, cl, rfl, ⟨_, hcl⟩, fun D hD => ?_⟩
    refine lc_flt (walk_list (K := K) (a := cl) (xs := L.map V.int)) (fun i => .int (L.getD i 0)) (fun i => !decide (sign g (L.getD i 0) = sign g' (L.getD i 0))) (by rw [List.length_map]; exact len) hD (fun H' kp => same_L (keep_same hD kp) hcl) ?_ ?_
    · rintro i x H' H'' Kc Z hi kp ⟨rfl, hx⟩ k1 k2
      rw [List.length_map] at hi
      have hx2 : x = .int (L.getD i 0) := by
        rw [List.getElem?_map, List.getElem?_eq_getElem hi] at hx
        rw [List.getD_eq_getElem?_getD, List.getElem?_eq_getElem hi]
        exact (Option.some.inj hx).symm
      subst hx2
      have sm := s05.trans (keep_same hD kp)
      refine ⟨rfl, ?_⟩
      refine ⟨_, rfl, _, rfl, ixRow_ok (hv.same sm) ho fun H6 s6 => ?_⟩
      refine ⟨_, rfl, _, rfl, ixRow_ok (hu.same (sm.trans s6)) ho' fun H7 s7 => ?_⟩
      refine ⟨rfl, _, rfl, ?_⟩
      have s67 := s6.trans s7
      by_cases c : sign g (L.getD i 0) = sign g' (L.getD i 0)
      · rw [show (!decide (V.int ((sign g (L.getD i 0) : Nat) : Int) = V.int ((sign g' (L.getD i 0) : Nat) : Int))) = false by rw [c, decide_eq_true rfl]; rfl]
        exact iteF (k2 (by rw [decide_eq_true c]; rfl) _ s67)
      · rw [show (!decide (V.int ((sign g (L.getD i 0) : Nat) : Int) = V.int ((sign g' (L.getD i 0) : Nat) : Int))) = true by rw [decide_eq_false fun z => c (by injection z with z; omega)]; rfl]
        exact iteT ⟨_, rfl, k1 (by rw [decide_eq_false c]; rfl) _ s67⟩
    · intro H' kp hm
      have sm := s05.trans (keep_same hD kp)
      rw [List.length_map, filt_range L (fun c => !decide (sign g c = sign g' c))] at hm
      refine ⟨D, _, rfl, SqL.of hm, hT.ext fun b o e => sm _ _ e, fun H2 e2 T2 => ?_⟩
      refine near_res (bad := fun c => sign g c ≠ sign g' c) (fun c => by simp) (fun m hm => ?_) fun v' hv' => q v' H2 ((ExtN.of fun b o e => sm _ _ e).trans e2) T2 hv'
      rw [mem3]
      exact near_three (steps_two l1 r1 l1' r1' g1 g2 g3 g4) (by omega) (by omega) hw0 hm
end
end K02
set_option Elab.async false
set_option linter.all false
set_option maxRecDepth 100000
set_option maxHeartbeats 4000000
namespace HN
open PySem PySem.Spec PyProof.Rows L2
section
variable {prog : Program} {w : World} {A : Around} {E : Value → Shared → Prop} {s : Shared} {K : PySem.W.Frag} {x C f : Addr} {ox : Obj} {od : Option Obj} {b : Value}
def NeB (Q : Value → Shared → Prop) (v : Value) (s' : Shared) : Prop := ∃ c, v = .bool c ∧ Q (.bool (!c)) s'
/-- object.__ne__ where the class has its own __eq__ -/
theorem entry_ne {Q : Fin → Shared → Prop} (X : K.In s.heap) (I : PySem.W.InstAt s.heap x ox C od) (hs : PySem.W.findIn K (.ref C) "__eq__" = some (some (.ref f))) (hf : PySem.W.isFn K (.ref f) = true) (hu : A.units < cLine)
    (h : wpAny (model prog w) A (call (.ref f) [.ref x, b]) (NeB fun v s' => Q (.done (.ret v)) s') E s) : wpAny (model prog w) A (Builtin.«object.__ne__» ⟨[.ref x, b], []⟩) Q E s := by
  unfold Builtin.«object.__ne__»
  have key : wpAny (model prog w) A (callSpecialIfBound? (.ref x) "__eq__" [b]) (fun r s' => ∃ c, r = some (.bool c) ∧ Q (.done (.ret (.bool (!c)))) s') E s := PySem.W.ifBound_K X I hs hf (wpAny_mono h (fun v s' z => by
    obtain ⟨c, rfl, q⟩ := z
    exact ⟨c, rfl, q⟩) fun _ _ e => e)
  repeat (first | with_reducible refine wpAny_cRoomFor hu ?_ | (with_reducible refine wpAny_bind (wpAny_mono key ?_ fun _ _ e => e)) | (with_reducible refine wpAny_mono key ?_ fun _ _ e => e) | wp_step)
  intro r s' z
  obtain ⟨c, rfl, q⟩ := z
  dsimp only
  repeat (first | exact q | with_reducible refine wpAny_truthy_bool ?_ | wp_step)
theorem call_objNe {Q : Value → Shared → Prop} (X : K.In s.heap) (I : PySem.W.InstAt s.heap x ox C od) (hm : PySem.W.mroIn K C (.type "object") = some true) (hs : PySem.W.findIn K (.ref C) "__eq__" = some (some (.ref f))) (hf : PySem.W.isFn K (.ref f) = true) (hu : A.in1.units < cLine)
    (h : wpAny (model prog w) A.in1 (call (.ref f) [.ref x, b]) (NeB Q) E s) : wpAny (model prog w) A (call (.builtin "object.__ne__") [.ref x, b]) Q E s :=
  wpAny_call (codeAny_call_builtin F.cmp_object.ne.plain F.cmpEntry_ne (PySem.W.check_slot F.cmpKind_ne F.cmpSplit_ne (I.type.andThen (PySem.W.looks_mroIn X hm)) (F.cmpArgs_ne _ _) (entry_ne X I hs hf hu h)))
theorem ifBound_objNe {M : Model} {args : List Value} {Q : Option Value → Shared → Prop} (X : K.In s.heap) (I : PySem.W.InstAt s.heap x ox C od) (hs : PySem.W.findIn K (.ref C) "__ne__" = some (some (.builtin "object.__ne__")))
    (h : wpAny M A (call (.builtin "object.__ne__") (.ref x :: args)) (fun v => Q (some v)) E s) : wpAny M A (callSpecialIfBound? (.ref x) "__ne__" args) Q E s := by
  simp only [callSpecialIfBound?, bindSpecialIfBound?]
  refine wpAny_holding (wpAny_bind (wpAny_bind (wpAny_bind (I.type.here ((PySem.W.looks_findIn X hs).here ?_)))))
  refine wpAny_bind (wpAny_askSetting (wpAny_ite ?_))
  have fin : wpAny M A (call (.builtin "object.__ne__") ([.ref x] ++ args) >>= fun v => pure (some v)) Q E s := wpAny_bind (wpAny_mono h (fun v s' h' => wpAny_pure h') fun _ _ h' => h')
  split
  · exact wpAny_bind (wpAny_of_eq (F.cmp_object.ne.bind _) (wpAny_pure (by exact fin)))
  · exact wpAny_tryCatch (wpAny_bind (wpAny_of_eq (F.cmp_object.ne.bind _) (wpAny_pure (by exact fin))))
end
end HN
namespace L2
open PySem PySem.Spec PyProof.Rows
theorem run_fnRS {X : Cx} {A : Around} {pins : List (Addr × Obj)} {σ : St} {H : Hp} {s : Shared} {CX : CXT} {k : Nat} {f : Addr} {sp : Sp} {E : XK} {Q : VK} {us : List Value} {vs : List V} (F : FnR X.prog X.w X.K X.mg X.base CX k f sp) (sb : Sub X k A) (hx : Passes CX X E) (I : Inv X pins σ H s) (r : Vals vs us) (h : sp vs H Q E) :
    codeAny (model X.prog X.w) A (.call (.ref f) ⟨us, []⟩) (fun r s' => match r with | .ok (.ret v) => EP X pins σ Q v s' | .ok _ => False | .error e => X.xe e s') s := by
  have e0 : Env0 X.prog X.w X.K X.mg X.base A X.stack s H := by
    have e := I.env0
    exact ⟨by rw [sb.fr]; exact e.frames, e.mod, e.bs, e.bsz, e.funs, e.frf, e.hok, e.bare⟩
  refine codeAny_mono (F A X.stack s H us vs Q E sb.room e0 r h) fun r s' hq => ?_
  cases r with
  | error e => exact hx pins σ H s e s' I hq
  | ok fl =>
    cases fl with
    | ret u => exact I.after hq
    | next => exact False.elim hq
    | brk => exact False.elim hq
    | cont => exact False.elim hq
section
variable {X : Cx} {C g : Addr} {n : Nat} {sp : Sp} {CX : CXT} {E : XK}
def rNeO (C : Addr) (sp : Sp) (E : XK) : R2 := fun x y H Q => ∃ a b dx dy fs gs, x = .ref a ∧ y = .ref b ∧ H a = some (.ins C dx fs) ∧ H b = some (.ins C dy gs) ∧ sp [x, y] H (fun v H2 => ∃ c, v = .bl c ∧ Q (.bl (!c)) H2) E
/-- x != y, both of the class at C, by object.__ne__ over its own __eq__ -/
theorem op_neO (hs : PySem.W.findIn X.K (.ref C) "__eq__" = some (some (.ref g))) (hn : PySem.W.findIn X.K (.ref C) "__ne__" = some (some (.builtin "object.__ne__"))) (hm : PySem.W.mroIn X.K C (.type "object") = some true) (hf : PySem.W.isFn X.K (.ref g) = true) (F : FnR X.prog X.w X.K X.mg X.base CX n g sp) (hr : Room (n + 1) X.A) (hx : Passes CX X E) :
    OpR X (compareOp .NotEq) (rNeO C sp E) := by
  intro pins s σ H x y v u Q I rx ry h
  obtain ⟨a, b, dx, dy, fs, gs, rfl, rfl, ha, hb, q⟩ := h
  cases (show v = Value.ref a from rx)
  cases (show u = Value.ref b from ry)
  obtain ⟨mA, J, _⟩ := ins_get I.hok ha
  obtain ⟨mB, J2, _⟩ := ins_get I.hok hb
  obtain ⟨od, J, _⟩ := J.look
  obtain ⟨od2, J2, _⟩ := J2.look
  have sb : Sub X n X.A.in1 := Sub.in1 ⟨hr, rfl⟩
  have one : wpAny (model X.prog X.w) X.A (tryCompare (.ref a) "__ne__" (.ref b)) (fun r s' => ∃ v, r = some v ∧ EP X pins σ Q v s') X.xe s := by
    unfold tryCompare
    refine wpAny_bind (HN.ifBound_objNe I.kIn J hn (HN.call_objNe I.kIn J hm hs hf sb.room.units0 ?_))
    refine wpAny_call (codeAny_mono (run_fnRS (us := [.ref a, .ref b]) (vs := [.ref a, .ref b]) F sb hx I (.cons rfl (.cons rfl .nil)) q) fun r s' z => ?_)
    cases r with
    | error e => exact z
    | ok fl =>
      cases fl with
      | ret u =>
        obtain ⟨z2, H2, I2, rz, c, ez, qz⟩ := z
        subst ez
        obtain rfl : u = Value.bool c := rz
        exact ⟨c, rfl, wpAny_pure ⟨_, rfl, .bl (!c), H2, I2, rfl, qz⟩⟩
      | next => exact False.elim z
      | brk => exact False.elim z
      | cont => exact False.elim z
  show wpAny _ _ (richCompare .NotEq _ _) _ _ _
  simp only [richCompare, cmpInfo_NotEq, oneThing_ref]
  refine wpAny_holding (wpAny_bind (wpAny_cRoomFor hr.units0 ?_))
  refine wpAny_bind (J.type.here (wpAny_bind (J2.type.here ?_)))
  rw [if_neg (by simp)]
  refine wpAny_bind (wpAny_pure ?_)
  simp only [Bool.false_eq_true, if_false, Bool.not_false, if_true]
  refine wpAny_bind (m := tryCompare (.ref a) _ (.ref b)) (wpAny_mono one (fun r s' z => ?_) fun _ _ e => e)
  obtain ⟨v, rfl, hq⟩ := z
  exact wpAny_pure hq
end
end L2
set_option Elab.async false
set_option linter.all false
set_option maxRecDepth 100000
set_option maxHeartbeats 4000000
namespace K02
open PySem PySem.Spec PyProof.Rows L2 RowM LamX
/-- what is known of the class Row itself -/
structure RowF (K : PySem.W.Frag) (C : Addr) : Prop where
  t : RowT K C
  sf : PySem.W.selfFirst K C = true
  ne : PySem.W.findIn K (.ref C) "__ne__" = some (some (.builtin "object.__ne__"))
  r1 : PySem.W.findIn K (.ref C) "__rrshift__" = some none
  r2 : PySem.W.findIn K (.ref C) "__rlshift__" = some none
  i1 : ∃ o, PySem.W.findIn K (.type "int") "__rshift__" = some o
  i2 : ∃ o, PySem.W.findIn K (.type "int") "__rrshift__" = some o
  i3 : ∃ o, PySem.W.findIn K (.type "int") "__lshift__" = some o
  i4 : ∃ o, PySem.W.findIn K (.type "int") "__rlshift__" = some o
  si : PySem.W.subIn K (.type "int") (.ref C) = some false
  sb : PySem.W.subIn K (.type "bool") (.ref C) = some false
  ss : PySem.W.subIn K (.type "str") (.ref C) = some false
  sn : PySem.W.subIn K (.type "NoneType") (.ref C) = some false
  st : PySem.W.subIn K (.type "tuple") (.ref C) = some false
  sl : PySem.W.subIn K (.type "list") (.ref C) = some false
  ct : PySem.W.subIn K (.ref C) (.type "tuple") = some false
  cl : PySem.W.subIn K (.ref C) (.type "list") = some false
  kt : PySem.W.kitOne K (.type "tuple") (.ref C) = some false
  ks : PySem.W.kitOne K (.type "str") (.ref C) = some false
/-- the class Row and its own operators -/
structure RowO (P : Program) (w : World) (K : PySem.W.Frag) (mg : Str → Option Value) (base : Heap) (C CW CI T : Addr) (TT : List (Addr × Str)) : Prop where
  c : RowC P w K mg base C CW CI T
  f : RowF K C
  ix : RowIx P w K mg base C (spIx K C)
  shr : ∃ g, PySem.W.findIn K (.ref C) "__rshift__" = some (some (.ref g)) ∧ PySem.W.isFn K (.ref g) = true ∧ FnR P w K mg base CX0 8 g (spMv K C 1)
  shl : ∃ g, PySem.W.findIn K (.ref C) "__lshift__" = some (some (.ref g)) ∧ PySem.W.isFn K (.ref g) = true ∧ FnR P w K mg base CX0 8 g (spMv K C (-1))
  eq : ∃ g, PySem.W.findIn K (.ref C) "__eq__" = some (some (.ref g)) ∧ PySem.W.isFn K (.ref g) = true ∧ FnR P w K mg base CX0 1 g (spEq K C) ∧ FnNI P w K mg base 1 g (spEqN K C)
  wrd : MethO P w K mg base C "word" CX0 3 ["self", "first", "end"] (spWrd K C)
  chg : MethO P w K mg base C "changed" (L2.CX P w) 8 ["self", "cell", "word"] (spChg K C CW)
  stg : MethO P w K mg base C "strange" CX0 5 ["self", "signs"] (spStg K C TT)
  apa : MethO P w K mg base C "apart" CX0 5 ["self", "other"] (spApa K C TT)
  rp : ∃ G, PySem.W.findIn K (.ref C) "__repr__" = some (some (.ref G)) ∧ PySem.W.isFn K (.ref G) = true ∧ FnG P w K mg base CX0 1 G (spRep K C)
theorem RowO.cl {P : Program} {w : World} {K : PySem.W.Frag} {mg : Str → Option Value} {base : Heap} {C CW CI T : Addr} {TT : List (Addr × Str)} (o : RowO P w K mg base C CW CI T TT) : Cls K C := o.c.cl
section
variable {X : Cx} {C CW CI T : Addr} {TT : List (Addr × Str)}
theorem OpR.or {X : Cx} {f : Value → Value → Sem Value} {r r' : R2} (o : OpR X f r) (o' : OpR X f r') : OpR X f (fun x y H Q => r x y H Q ∨ r' x y H Q) := fun pins s σ H x y v u Q I rx ry q => q.elim (o pins s σ H x y v u Q I rx ry) (o' pins s σ H x y v u Q I rx ry)
theorem OpR.imp {X : Cx} {f : Value → Value → Sem Value} {r r' : R2} (o : OpR X f r) (h : ∀ x y H Q, r' x y H Q → r x y H Q) : OpR X f r' := fun pins s σ H x y v u Q I rx ry q => o pins s σ H x y v u Q I rx ry (h _ _ _ _ q)
/-- row >> d, row << d -/
def rMv (K : PySem.W.Frag) (C : Addr) (sg : Int) : R2 := fun x y H Q => ∃ (d : Int) (f : Form) (n m z : Nat), y = .int d ∧ RowV K C H x f ∧ Ok f ∧ Big f n m z ∧ n ≤ 1000 ∧ m ≤ 200000 ∧ z + d.natAbs ≤ 2 ^ 40 ∧ ∀ v' H' f', Same H H' → RowV K C H' v' f' → Least (fun c => sign f (c - sg * d)) f' → Big f' n m (z + d.natAbs + m + 2 * n) → Q v' H'
theorem rMv_sp {K : PySem.W.Frag} {C : Addr} {sg : Int} {x y : V} {H : Hp} {Q : VK} {E : XK} (h : rMv K C sg x y H Q) : ∃ a dx fs i, x = .ref a ∧ y = .int i ∧ H a = some (.ins C dx fs) ∧ spMv K C sg [x, y] H Q E := by
  obtain ⟨d, f, n, m, z, rfl, hv, ho, hb, hn, hm, hz, q⟩ := h
  obtain ⟨a, dx, l, t, r, rfl, ha, h4⟩ := hv.split
  exact ⟨a, dx, _, d, rfl, rfl, ha, _, d, f, n, m, z, rfl, hv, ho, hb, hn, hm, hz, q⟩
theorem op_shrR (o : RowO X.prog X.w X.K X.mg X.base C CW CI T TT) (hr : Room 8 X.A) : OpR X (binaryOp .RShift) (rMv X.K C 1) := by
  obtain ⟨g, h1, h2, F⟩ := o.shr
  obtain ⟨_, i1⟩ := o.f.i1
  obtain ⟨_, i2⟩ := o.f.i2
  exact OpR.imp (op_binI (op := .RShift) (E := E0) o.f.sf h1 h2 o.f.r1 (.inl rfl) i1 i2 o.f.si F hr pass0) fun x y H Q h => rMv_sp h
theorem op_shlR (o : RowO X.prog X.w X.K X.mg X.base C CW CI T TT) (hr : Room 8 X.A) : OpR X (binaryOp .LShift) (rMv X.K C (-1)) := by
  obtain ⟨g, h1, h2, F⟩ := o.shl
  obtain ⟨_, i3⟩ := o.f.i3
  obtain ⟨_, i4⟩ := o.f.i4
  exact OpR.imp (op_binI (op := .LShift) (E := E0) o.f.sf h1 h2 o.f.r2 (.inl rfl) i3 i4 o.f.si F hr pass0) fun x y H Q h => rMv_sp h
/-- row == row -/
def rRR (K : PySem.W.Frag) (C : Addr) (b : Bool) : R2 := fun x y H Q => ∃ f f' : Form, RowV K C H x f ∧ RowV K C H y f' ∧ ∀ H', Same H H' → Q (.bl (decide (f = f') == b)) H'
/-- row == a tuple, row == a text -/
def rRN (K : PySem.W.Frag) (C : Addr) : R2 := fun x y H Q => ∃ f : Form, RowV K C H x f ∧ ((∃ t xs, y = .ref t ∧ SqT K H t xs) ∨ ∃ t, y = .str t) ∧ Q (.bl false) H
def rEqRow (K : PySem.W.Frag) (C : Addr) : R2 := fun x y H Q => rRR K C true x y H Q ∨ rRN K C x y H Q
theorem op_eqRow (o : RowO X.prog X.w X.K X.mg X.base C CW CI T TT) (hr : Room 8 X.A) : OpR X (compareOp .Eq) (rEqRow X.K C) := by
  obtain ⟨g, h1, h2, F, N⟩ := o.eq
  have hr1 : Room 1 X.A := hr.mono (by decide)
  have A := op_eqO (E := E0) (fun _ _ => rfl) h1 h2 F hr1 pass0
  have B := op_eqNI h1 h2 N hr1 o.f.si o.f.sb o.f.ss o.f.sn
  have D := op_eqNIs h1 h2 N hr1 o.f.st o.f.sl o.f.ct o.f.cl
  refine OpR.imp (A.or (B.or D)) fun x y H Q h => ?_
  rcases h with ⟨f, f', hx, hy, q⟩ | ⟨f, hx, hy, q⟩
  · obtain ⟨a, dx, l, t, r, rfl, ha, h4⟩ := id hx
    obtain ⟨b, dy, l', t', r', rfl, hb, h4'⟩ := id hy
    refine .inl ⟨a, b, dx, dy, _, _, rfl, rfl, ha, hb, _, _, f, f', rfl, hx, hy, fun H' s => ?_⟩
    have := q H' s
    rwa [show ∀ b : Bool, (b == true) = b by decide] at this
  · obtain ⟨a, dx, l, t, r, rfl, ha, h4⟩ := id hx
    rcases hy with ⟨t, xs, rfl, ht⟩ | ⟨t, rfl⟩
    · refine .inr (.inr ⟨a, dx, _, t, xs, rfl, rfl, ha, .inl ht, _, _, .type "tuple", rfl, tyT ht, o.f.kt, Same.refl _, q⟩)
    · refine .inr (.inl ⟨a, dx, _, rfl, ha, .inr (.inr (.inl ⟨t, rfl⟩)), _, _, .type "str", rfl, .base (.str t), o.f.ks, ha, q⟩)
theorem op_neRow (o : RowO X.prog X.w X.K X.mg X.base C CW CI T TT) (hr : Room 8 X.A) : OpR X (compareOp .NotEq) (rRR X.K C false) := by
  obtain ⟨g, h1, h2, F, N⟩ := o.eq
  refine OpR.imp (op_neO (E := E0) h1 o.f.ne o.f.t.hm h2 F (hr.mono (by decide)) pass0) fun x y H Q h => ?_
  obtain ⟨f, f', hx, hy, q⟩ := h
  obtain ⟨a, dx, l, t, r, rfl, ha, h4⟩ := id hx
  obtain ⟨b, dy, l', t', r', rfl, hb, h4'⟩ := id hy
  refine ⟨a, b, dx, dy, _, _, rfl, rfl, ha, hb, _, _, f, f', rfl, hx, hy, fun H' s => ⟨_, rfl, ?_⟩⟩
  have := q H' s
  rwa [show ∀ b : Bool, (b == false) = !b by decide] at this
end
end K02
set_option Elab.async false
set_option linter.all false
set_option maxRecDepth 100000
set_option maxHeartbeats 4000000
/-! what the head's run looks at of the class Row, told by one Bool -/
namespace K02
open PySem PySem.Spec PyProof.Rows L2
theorem eqO_is {a b : Option (Option Value)} (h : He.eqO a b = true) : a = b := of_decide_eq_true h
def rowB1 (K : PySem.W.Frag) (C : Addr) : Bool := He.eqO (PySem.W.findIn K (.ref C) "__class__") (some (some (.builtin "object.__class__"))) && (He.eqO (PySem.W.specialIn K (.builtin "object.__class__") "__get__") (some (some (.builtin "getset_descriptor.__get__"))) && (decide (PySem.W.takesIn K (.builtin "object.__class__") = some true) &&
  (decide (PySem.W.mroIn K C (.type "object") = some true) && (PySem.W.selfFirst K C && (He.eqO (PySem.W.findIn K (.ref C) "__ne__") (some (some (.builtin "object.__ne__"))) && (He.eqO (PySem.W.findIn K (.ref C) "__rrshift__") (some none) && He.eqO (PySem.W.findIn K (.ref C) "__rlshift__") (some none)))))))
def rowB2 (K : PySem.W.Frag) : Bool := (PySem.W.findIn K (.type "int") "__rshift__").isSome && ((PySem.W.findIn K (.type "int") "__rrshift__").isSome && ((PySem.W.findIn K (.type "int") "__lshift__").isSome && (PySem.W.findIn K (.type "int") "__rlshift__").isSome))
def rowB3 (K : PySem.W.Frag) (C : Addr) : Bool := decide (PySem.W.subIn K (.type "int") (.ref C) = some false) && (decide (PySem.W.subIn K (.type "bool") (.ref C) = some false) && (decide (PySem.W.subIn K (.type "str") (.ref C) = some false) && (decide (PySem.W.subIn K (.type "NoneType") (.ref C) = some false) &&
  (decide (PySem.W.subIn K (.type "tuple") (.ref C) = some false) && (decide (PySem.W.subIn K (.type "list") (.ref C) = some false) && (decide (PySem.W.subIn K (.ref C) (.type "tuple") = some false) && (decide (PySem.W.subIn K (.ref C) (.type "list") = some false) &&
  (decide (PySem.W.kitOne K (.type "tuple") (.ref C) = some false) && (decide (PySem.W.kitOne K (.type "str") (.ref C) = some false) && PySem.W.fnIn K (He.ma K C "__getitem__"))))))))))
def rowB (K : PySem.W.Frag) (C : Addr) : Bool := rowB1 K C && (rowB2 K && rowB3 K C)
theorem some_of {α : Type} {o : Option α} (h : o.isSome = true) : ∃ x, o = some x := Option.isSome_iff_exists.mp h
theorem rowB_ok {K : PySem.W.Frag} {C : Addr} (h : rowB K C = true) : RowF K C ∧ PySem.W.fnIn K (He.ma K C "__getitem__") = true := by
  obtain ⟨x1, h⟩ := He.ba h
  obtain ⟨x2, x3⟩ := He.ba h
  obtain ⟨a1, x1⟩ := He.ba x1
  obtain ⟨a2, x1⟩ := He.ba x1
  obtain ⟨a3, x1⟩ := He.ba x1
  obtain ⟨a4, x1⟩ := He.ba x1
  obtain ⟨a5, x1⟩ := He.ba x1
  obtain ⟨a6, x1⟩ := He.ba x1
  obtain ⟨a7, a8⟩ := He.ba x1
  obtain ⟨b1, x2⟩ := He.ba x2
  obtain ⟨b2, x2⟩ := He.ba x2
  obtain ⟨b3, b4⟩ := He.ba x2
  obtain ⟨c1, x3⟩ := He.ba x3
  obtain ⟨c2, x3⟩ := He.ba x3
  obtain ⟨c3, x3⟩ := He.ba x3
  obtain ⟨c4, x3⟩ := He.ba x3
  obtain ⟨c5, x3⟩ := He.ba x3
  obtain ⟨c6, x3⟩ := He.ba x3
  obtain ⟨c7, x3⟩ := He.ba x3
  obtain ⟨c8, x3⟩ := He.ba x3
  obtain ⟨c9, x3⟩ := He.ba x3
  obtain ⟨c10, c11⟩ := He.ba x3
  exact ⟨⟨⟨eqO_is a1, eqO_is a2, of_decide_eq_true a3, of_decide_eq_true a4, by unfold PySem.W.kitOne; exact if_pos (beq_self_eq_true _)⟩, a5, eqO_is a6, eqO_is a7, eqO_is a8, some_of b1, some_of b2, some_of b3, some_of b4, of_decide_eq_true c1, of_decide_eq_true c2, of_decide_eq_true c3, of_decide_eq_true c4, of_decide_eq_true c5, of_decide_eq_true c6, of_decide_eq_true c7, of_decide_eq_true c8, of_decide_eq_true c9, of_decide_eq_true c10⟩, c11⟩
end K02
set_option Elab.async false
set_option linter.all false
set_option maxRecDepth 100000
set_option maxHeartbeats 4000000
namespace K02
open PySem PySem.Spec PyProof.Rows L2
abbrev veT : List Value := [.type "ValueError", .type "Exception", .type "BaseException", .type "object"]
def clsB (K : PySem.W.Frag) (x : Str) (xs : List Str) : Bool := oxB K (He.ga K x) veT "ValueError.__new__" && (((("code" : Str) :: xs).all fun y => He.eqO (PySem.W.findIn K (.ref (He.ga K x)) y) (some none)) &&
  (He.eqO (PySem.W.findIn K (.ref (He.ga K x)) "__init__") (some (some (.ref (He.ma K (He.ga K x) "__init__")))) && decide (PySem.W.typeIn K (.ref (He.ma K (He.ga K x) "__init__")) = some (.type "function"))))
theorem clsB_ok {K : PySem.W.Frag} {x : Str} {xs : List Str} (h : clsB K x xs = true) : OxB K (He.ga K x) veT "ValueError.__new__" ∧ (∀ y ∈ ("code" : Str) :: xs, PySem.W.findIn K (.ref (He.ga K x)) y = some none) ∧ PySem.W.findIn K (.ref (He.ga K x)) "__init__" = some (some (.ref (He.ma K (He.ga K x) "__init__"))) ∧ PySem.W.typeIn K (.ref (He.ma K (He.ga K x) "__init__")) = some (.type "function") := by
  obtain ⟨h1, h2⟩ := He.ba h
  obtain ⟨h3, h4⟩ := He.ba h2
  obtain ⟨h5, h6⟩ := He.ba h4
  exact ⟨oxB_ok h1, fun y hy => eqO_is (List.all_eq_true.mp h3 y hy), eqO_is h5, of_decide_eq_true h6⟩
def nilB (K : PySem.W.Frag) (T : Addr) : Bool := match K.lookup T with
  | some ⟨.type c, _, .seq its _, _⟩ => decide (c = "tuple") && decide (its = #[])
  | _ => false
theorem nilB_ok {K : PySem.W.Frag} {T : Addr} (h : nilB K T = true) (H : Hp) : SqT K H T [] := by
  unfold nilB at h
  cases q : K.lookup T with
  | none =>
    rw [q] at h
    cases h
  | some o =>
    obtain ⟨oc, od, dt, osl⟩ := o
    rw [q] at h
    cases oc with
    | type c =>
      cases dt with
      | seq its n =>
        obtain ⟨h1, h2⟩ := He.ba h
        have e1 := of_decide_eq_true h1
        have e2 := of_decide_eq_true h2
        exact .inr ⟨_, its, n, q, congrArg Value.type e1, rfl, by rw [e2]; decide, by rw [e2]; exact .nil⟩
      | _ => cases h
    | _ => cases dt <;> cases h
abbrev tD (K : PySem.W.Frag) : Addr := He.dflAt ("Row", some "__init__") 0 K
structure ExH (K : PySem.W.Frag) : Prop where
  cInvalidNumber : clsB K "InvalidNumber" ["value"] = true
  cInvalidWord : clsB K "InvalidWord" ["value"] = true
  row : RowF K (He.ga K "Row") ∧ PySem.W.fnIn K (He.ma K (He.ga K "Row") "__getitem__") = true
  nil : ∀ H, SqT K H (tD K) []
  k0 : PySem.W.kitOne K (.ref (He.ga K "InvalidWord")) (.ref (He.ga K "InvalidNumber")) = some false
  tabs : (He.cT K ("nearest", none)).2 ≠ (He.cT K ("_law_refused", none)).2
def exK (K : PySem.W.Frag) : Bool := clsB K "InvalidNumber" ["value"] && (clsB K "InvalidWord" ["value"] && ((rowB K (He.ga K "Row") && (nilB K (tD K) && (decide (PySem.W.kitOne K (.ref (He.ga K "InvalidWord")) (.ref (He.ga K "InvalidNumber")) = some false) && (decide ((He.cT K ("nearest", none)).2 ≠ (He.cT K ("_law_refused", none)).2)))))))
theorem exK_ok {K : PySem.W.Frag} (h : exK K = true) : ExH K := by
  obtain ⟨eInvalidNumber, h⟩ := He.ba h
  obtain ⟨eInvalidWord, h⟩ := He.ba h
  obtain ⟨a1, h⟩ := He.ba h
  obtain ⟨a2, h⟩ := He.ba h
  obtain ⟨b0, h⟩ := He.ba h
  exact ⟨eInvalidNumber, eInvalidWord, rowB_ok a1, nilB_ok a2, of_decide_eq_true b0, of_decide_eq_true h⟩
abbrev iD (x q : Str) (i : Nat) : He.DefD := ⟨(x, some "__init__"), "__init__", q, defArgs (methOf (top i) 0), defBody (methOf (top i) 0), defScope (methOf (top i) 0), [], []⟩
abbrev mD (x m q : Str) (s : Stmt) (d : List He.Dv) (k : List (Str × He.Dv)) : He.DefD := ⟨(x, some m), m, q, defArgs s, defBody s, defScope s, d, k⟩
end K02
set_option Elab.async false
set_option linter.all false
set_option maxRecDepth 100000
set_option maxHeartbeats 0
namespace K02
open PySem PySem.W PySem.Calls PyProof.Rows
abbrev R : OpenRow := OpenLaw.row PySem.Challenge.rw_borderflow_k02_whole_rows_in_least_form
abbrev qv : Program := view R.prog [61]
def namesA : List PySem.Str := [("BorderError" : PySem.Str), ("InvalidNumber" : PySem.Str), ("InvalidWord" : PySem.Str), ("InvalidText" : PySem.Str), ("DIGITS" : PySem.Str), ("MOST_DIGITS" : PySem.Str), ("numbers_text" : PySem.Str), ("lines_text" : PySem.Str), ("finished_lines" : PySem.Str), ("read_number" : PySem.Str), ("read_numbers" : PySem.Str), ("read_head" : PySem.Str), ("is_whole" : PySem.Str), ("ALL_SIGNS" : PySem.Str), ("is_number" : PySem.Str), ("is_word" : PySem.Str), ("is_ring" : PySem.Str), ("FARTHEST" : PySem.Str), ("LONGEST_READ" : PySem.Str), ("LINES" : PySem.Str), ("Row" : PySem.Str), ("read_line" : PySem.Str), ("made_row" : PySem.Str), ("sign_in" : PySem.Str), ("stretch_of" : PySem.Str), ("least_form" : PySem.Str), ("least_period" : PySem.Str), ("repeats_from" : PySem.Str), ("repeats_below" : PySem.Str), ("pieces_of" : PySem.Str), ("telling_cells" : PySem.Str), ("near_cells" : PySem.Str), ("nearest" : PySem.Str), ("_law_bag" : PySem.Str), ("_law_draw" : PySem.Str), ("_law_of" : PySem.Str), ("_law_like" : PySem.Str), ("_law_fault" : PySem.Str), ("_law_ask" : PySem.Str), ("_law_sign" : PySem.Str)]
def namesB : List PySem.Str := [("_law_cells" : PySem.Str), ("_law_period" : PySem.Str), ("_law_least" : PySem.Str), ("_law_row_so" : PySem.Str), ("_law_strange" : PySem.Str), ("_law_word" : PySem.Str), ("_law_model" : PySem.Str), ("_law_other" : PySem.Str), ("_law_made" : PySem.Str), ("_law_put" : PySem.Str), ("_law_apart" : PySem.Str), ("_law_same" : PySem.Str), ("_law_asked" : PySem.Str), ("_law_repr" : PySem.Str), ("_law_refused" : PySem.Str)]
def names : List PySem.Str := namesA ++ namesB
abbrev lD (x : PySem.Str) (i : Nat) : He.DefD := ⟨(x, none), x, x, L2.defArgs (top i), L2.defBody (top i), L2.defScope (top i), [], []⟩
def fnA : List He.DefD := [lD "is_whole" 15, lD "is_number" 18, lD "is_word" 19, lD "is_ring" 20, lD "made_row" 27, lD "sign_in" 28, lD "stretch_of" 29, lD "least_form" 30, lD "least_period" 31, lD "repeats_from" 32, lD "repeats_below" 33, lD "pieces_of" 34, lD "telling_cells" 35, lD "near_cells" 36, lD "nearest" 37, lD "_law_bag" 39, lD "_law_draw" 40, lD "_law_of" 41, lD "_law_like" 42, lD "_law_fault" 43, lD "_law_ask" 44, lD "_law_sign" 45, lD "_law_cells" 46, lD "_law_period" 47, lD "_law_least" 48]
def fnB : List He.DefD := [lD "_law_row_so" 49, lD "_law_strange" 50, lD "_law_word" 51, lD "_law_model" 52, lD "_law_other" 53, lD "_law_made" 54, lD "_law_put" 55, lD "_law_apart" 56, lD "_law_same" 57, lD "_law_asked" 58, lD "_law_repr" 59, lD "_law_refused" 60, lD "law" 61]
def fnC : List He.DefD := [iD "InvalidNumber" "InvalidNumber.__init__" 2, iD "InvalidWord" "InvalidWord.__init__" 3, mD "Row" "__init__" "Row.__init__" (methOf (top 25) 0) [.adr tD, .non] [("start", .int 0)], mD "Row" "__getitem__" "Row.__getitem__" (methOf (top 25) 1) [] [], mD "Row" "word" "Row.word" (methOf (top 25) 3) [] [], mD "Row" "__rshift__" "Row.__rshift__" (methOf (top 25) 4) [] [], mD "Row" "__lshift__" "Row.__lshift__" (methOf (top 25) 5) [] [], mD "Row" "changed" "Row.changed" (methOf (top 25) 6) [] [], mD "Row" "strange" "Row.strange" (methOf (top 25) 7) [] [], mD "Row" "apart" "Row.apart" (methOf (top 25) 8) [] [], mD "Row" "__eq__" "Row.__eq__" (methOf (top 25) 9) [] [], mD "Row" "__repr__" "Row.__repr__" (methOf (top 25) 12) [] []]
def fn : List He.DefD := fnA ++ (fnB ++ fnC)
def faA : List He.Fa := [.glo "Row", .glo "BorderError", .glo "InvalidNumber", .glo "InvalidWord", .glo "is_whole", .glo "is_number", .glo "is_word", .glo "is_ring", .glo "made_row", .glo "sign_in", .glo "stretch_of", .glo "least_form", .glo "least_period", .glo "repeats_from", .glo "repeats_below", .glo "pieces_of", .glo "telling_cells", .glo "near_cells", .glo "nearest", .glo "_law_bag", .glo "_law_draw", .glo "_law_of", .glo "_law_like", .glo "_law_fault", .glo "_law_ask", .glo "_law_sign", .glo "_law_cells", .glo "_law_period", .glo "_law_least", .glo "_law_row_so", .glo "_law_strange", .glo "_law_word", .glo "_law_model", .glo "_law_other", .glo "_law_made", .glo "_law_put", .glo "_law_apart", .glo "_law_same", .glo "_law_asked", .glo "_law_repr", .glo "_law_refused", .glo "law"]
def faB : List He.Fa := [.int "ALL_SIGNS" 64, .int "FARTHEST" 9999, .free "NotImplemented", .free "abs", .free "all", .free "bool", .free "int", .free "isinstance", .free "len", .free "list", .free "max", .free "min", .free "range", .free "repr", .free "str", .free "tuple", .free "zip", .cls "Row", .mkr "Row", .noat "Row" "left", .noat "Row" "told", .noat "Row" "right", .noat "Row" "start", .meth "Row" "__getitem__", .meth "Row" "word", .meth "Row" "__rshift__", .meth "Row" "__lshift__", .meth "Row" "changed", .meth "Row" "strange", .meth "Row" "apart", .meth "Row" "__eq__", .meth "Row" "__repr__", .exm "InvalidNumber" "BorderError" true, .exm "InvalidWord" "BorderError" true]
def fa : List He.Fa := faA ++ faB
def tf : List He.Defn := [("nearest", none), ("_law_refused", none)]
abbrev hk : PySem.W.Hook := He.hookX 5 fa fn [] tf exK
def ob (s : PySem.W.SharedT) : He.AlX := He.obsX 5 fa fn [] tf exK (HandSHeadRun.getT s)
theorem ob_eq (s : PySem.W.SharedT) : ob s = hk.obs s.abs := He.obsX_eq (HandSHeadRun.getT_eq s)
theorem join3 {α β γ δ : Type} {m : Option α} {f : α → β} {g : α → γ} {h : α → δ} {a : β} {b : γ} {c : δ} (x : m.map f = some a) (y : m.map g = some b) (z : m.map h = some c) : m.map (fun x => (f x, g x, h x)) = some (a, b, c) := by
  cases m with
  | none => cases x
  | some v =>
    injection x with x
    injection y with y
    injection z with z
    rw [← x, ← y, ← z]
    rfl
theorem lookF (w : World) : (HandSHeadRun.wholeF (fun p => HandSHeadRun.stepQ (HandSHeadRun.denQ HandSHeadRun.tabQ) p (w.withFollow "special-get-raises" false)) HandSHeadRun.fenceQ 12000 R.prog).map (fun x => HandSHeadRun.looksF R.prog x.1.heap x.2.abs) = some (true) := by
  kernel_rfl
theorem seenF (w : World) : (HandSHeadRun.wholeF (fun p => HandSHeadRun.stepQ (HandSHeadRun.denQ HandSHeadRun.tabQ) p (w.withFollow "special-get-raises" false)) HandSHeadRun.fenceQ 12000 R.prog).map (fun x => HandSHeadRun.seenQ qv names (importedModules R.prog.main.body) (fun s => xlAt qv [] s && recOk R.toRowW.records s) x.2.abs) = some (openGood qv names) := by
  kernel_rfl
theorem obsF (w : World) : (HandSHeadRun.wholeF (fun p => HandSHeadRun.stepQ (HandSHeadRun.denQ HandSHeadRun.tabQ) p (w.withFollow "special-get-raises" false)) HandSHeadRun.fenceQ 12000 R.prog).map (fun x => ob x.2) = some (hk.val (w.withFollow "special-get-raises" false)) := by
  kernel_rfl
theorem runF (w : World) : HandSHeadRun.RunEqI R qv hk ob 12000 names (w.withFollow "special-get-raises" false) := by
  unfold HandSHeadRun.RunEqI
  exact join3 (lookF w) (seenF w) (obsF w)
theorem lookT (w : World) : (HandSHeadRun.wholeF (fun p => HandSHeadRun.stepQ (HandSHeadRun.denQ HandSHeadRun.tabQ) p (w.withFollow "special-get-raises" true)) HandSHeadRun.fenceQ 12000 R.prog).map (fun x => HandSHeadRun.looksF R.prog x.1.heap x.2.abs) = some (true) := by
  kernel_rfl
theorem seenT (w : World) : (HandSHeadRun.wholeF (fun p => HandSHeadRun.stepQ (HandSHeadRun.denQ HandSHeadRun.tabQ) p (w.withFollow "special-get-raises" true)) HandSHeadRun.fenceQ 12000 R.prog).map (fun x => HandSHeadRun.seenQ qv names (importedModules R.prog.main.body) (fun s => xlAt qv [] s && recOk R.toRowW.records s) x.2.abs) = some (openGood qv names) := by
  kernel_rfl
theorem obsT (w : World) : (HandSHeadRun.wholeF (fun p => HandSHeadRun.stepQ (HandSHeadRun.denQ HandSHeadRun.tabQ) p (w.withFollow "special-get-raises" true)) HandSHeadRun.fenceQ 12000 R.prog).map (fun x => ob x.2) = some (hk.val (w.withFollow "special-get-raises" true)) := by
  kernel_rfl
theorem runT (w : World) : HandSHeadRun.RunEqI R qv hk ob 12000 names (w.withFollow "special-get-raises" true) := by
  unfold HandSHeadRun.RunEqI
  exact join3 (lookT w) (seenT w) (obsT w)
theorem run (w : World) : HandSHeadRun.RunEqI R qv hk ob 12000 names w := byRow2 "special-get-raises" (P := fun w => HandSHeadRun.RunEqI R qv hk ob 12000 names w) runF runT w
end K02
set_option Elab.async false
set_option linter.all false
set_option maxRecDepth 100000
set_option maxHeartbeats 4000000
namespace K02
open PySem PySem.Spec PyProof.Rows L2 RowM
section
variable {P : Program} {w : World} {K : PySem.W.Frag} {mg : Str → Option Value} {base : Heap}
theorem sc_lsign : FnScope ["_law_model_here", "_law_at", "_law_lead", "_law_body", "_law_tail", "_law_base"] ["_law_model_here", "_law_at"] (defScope (top 45)) := ⟨rfl, rfl, rfl, by decide +kernel, rfl, by decide +kernel, by decide +kernel⟩
theorem ok_lsign {f : Addr} {fd : FuncData} (F : FnP K "_law_sign" (top 45) f fd) (m_len : mg "len" = none) (m_int : mg "int" = none) : FnOk P w K mg base CX0 1 f fd ["_law_model_here", "_law_at"] (spSign K) := by
  have sc := sc_lsign
  refine F.ok sc (fun vs H Q E h => ?_) (fun cdv A outer s H vs Q E hr h => ?_)
  · obtain ⟨v, c, g, rfl, _⟩ := h
    rfl
  · obtain ⟨v, c, g, rfl, ⟨p, l, t, r, rfl, hp, h4⟩, ho, q⟩ := h
    refine ⟨_, PSs.nox (pss_cons (ps_asg (pv 0) (pg_tup rfl (pgs_cons (pg_name (i := 2) sc.nd rfl (Or.inl rfl)) (pgs_cons (pg_name (i := 3) sc.nd rfl (Or.inl rfl)) (pgs_cons (pg_name (i := 4) sc.nd rfl (Or.inl rfl)) (pgs_cons (pg_name (i := 5) sc.nd rfl (Or.inl rfl)) pgs_nil))))))
      (pss_cons (ps_if (pt_cmpR op_lt (pv 1) (pv 5) (nomark _)) (pss_one (ps_ret (pe_ix (show IxR _ (rIxT K) from ix_tup) (pv 2) (pe_op op_mod (pe_callTy call_int1 (by rfl) m_int (by decide +kernel) (pa_cons (pe_op op_sub (pv 1) (pv 5)) pa_nil)) (pe_callB call_len_seq (by rfl) m_len (by decide +kernel) (pa_cons (pv 2) pa_nil))) (fun _ _ => rfl)))) pss_nil)
      (pss_cons (ps_if (pt_cmpR op_lt (pv 1) (pe_op op_add (pv 5) (pe_callB call_len_seq (by rfl) m_len (by decide +kernel) (pa_cons (pv 3) pa_nil))) (nomark _)) (pss_one (ps_ret (pe_ix (show IxR _ (rIxT K) from ix_tup) (pv 3) (pe_op op_sub (pv 1) (pv 5)) (fun _ _ => rfl)))) pss_nil)
      (pss_one (ps_ret (pe_ix (show IxR _ (rIxT K) from ix_tup) (pv 4) (pe_op op_mod (pe_callTy call_int1 (by rfl) m_int (by decide +kernel) (pa_cons (pe_op op_sub (pe_op op_sub (pv 1) (pv 5)) (pe_callB call_len_seq (by rfl) m_len (by decide +kernel) (pa_cons (pv 3) pa_nil))) pa_nil)) (pe_callB call_len_seq (by rfl) m_len (by decide +kernel) (pa_cons (pv 4) pa_nil))) (fun _ _ => rfl))))))), ?_⟩
    refine ⟨_, rfl, p, _, rfl, hp, rfl, _, _, rfl, _, _, rfl, _, _, rfl, _, _, rfl, rfl, ?_⟩
    refine ⟨_, rfl, _, rfl, _, _, rfl, rfl, _, rfl, ?_⟩
    unfold sign at q
    by_cases c1 : c < g.start
    · rw [if_pos c1] at q
      refine iteT_of (decide_eq_true c1) ?_
      obtain ⟨j, e1, e2, e3⟩ := mod_at (c := c - g.start) ho.l1
      rw [e3] at q
      refine ⟨_, rfl, _, rfl, _, rfl, _, _, rfl, rfl, .inl ⟨_, rfl, _, rfl, l, _, rfl, .inr h4.left, _, _, rfl, rfl, (by rw [len_nv]; have := ho.l1; omega), ?_⟩⟩
      refine ⟨l, _, _, _, rfl, rfl, h4.left, ?_, q⟩
      rw [len_nv, e1]
      exact nv_at _ e2
    rw [if_neg c1] at q
    refine iteF_of (decide_eq_false c1) ?_
    refine ⟨_, rfl, _, rfl, _, rfl, t, _, rfl, .inr h4.told, _, _, rfl, rfl, _, _, rfl, rfl, _, rfl, ?_⟩
    rw [len_nv]
    by_cases c2 : c - g.start < (g.told.length : Int)
    · rw [if_pos c2] at q
      refine iteT_of (decide_eq_true (by omega)) ?_
      obtain ⟨j, hj⟩ : ∃ j : Nat, c - g.start = (j : Int) := ⟨(c - g.start).toNat, by omega⟩
      rw [hj] at q
      refine ⟨_, rfl, _, rfl, _, rfl, _, _, rfl, rfl, t, _, _, _, rfl, rfl, h4.told, ?_, q⟩
      rw [hj]
      exact nv_at _ (by omega)
    · rw [if_neg c2] at q
      refine iteF_of (decide_eq_false (by omega)) ?_
      obtain ⟨j, e1, e2, e3⟩ := mod_at (c := c - g.start - (g.told.length : Int)) ho.r1
      rw [e3] at q
      refine ⟨_, rfl, _, rfl, _, rfl, _, _, rfl, rfl, _, rfl, t, _, rfl, .inr h4.told, _, _, rfl, rfl, .inl ⟨_, rfl, _, rfl, r, _, rfl, .inr h4.right, _, _, rfl, rfl, (by show (0 : Int) < ((nv g.right).length : Int); rw [len_nv]; have := ho.r1; omega), ?_⟩⟩
      refine ⟨r, _, _, _, rfl, rfl, h4.right, ?_, q⟩
      rw [len_nv, len_nv, e1]
      exact nv_at _ e2
theorem sc_lcells : FnScope ["_law_model_here", "_law_first", "_law_end", "_law_at"] ["_law_model_here", "_law_first", "_law_end"] (defScope (top 46)) := ⟨rfl, rfl, rfl, by decide +kernel, rfl, by decide +kernel, by decide +kernel⟩
theorem ok_lcells {f : Addr} {fd : FuncData} (F : FnP K "_law_cells" (top 46) f fd) (m_range : mg "range" = none) (m_tuple : mg "tuple" = none) (c__law_sign : Cal P w K mg base CX0 "_law_sign" 1 ["_law_model_here", "_law_at"] (spSign K)) : FnOk P w K mg base CX0 2 f fd ["_law_model_here", "_law_first", "_law_end"] (spStr K) := by
  have sc := sc_lcells
  refine F.ok sc (fun vs H Q E h => ?_) (fun cdv A outer s H vs Q E hr h => ?_)
  · obtain ⟨v, a, b, g, rfl, _⟩ := h
    rfl
  · obtain ⟨v, a, b, g, rfl, hv, ho, ha, hb, hn, q⟩ := h
    have hr__law_sign : Room 1 _ := hr
    refine ⟨_, PSs.nox (pss_one (ps_ret (pe_callTy call_tuple_of (by rfl) m_tuple (by decide +kernel) (pa_cons (pe_lc (own := [("_law_at", 3)]) (g := gName 3) rfl sc.nd (pi_range2 rfl m_range (pa_cons (pv 1) (pa_cons (pv 2) pa_nil))) (blkOk_by (N := ["_law_model_here", "_law_first", "_law_end", "_law_at"]) (sc := defScope (top 46)) (by decide +kernel)) (fun _ _ _ _ _ => (pg_name (i := 3) sc.nd rfl (Or.inl rfl))) (fun _ _ _ _ _ => pts_nil) (fun _ _ _ _ _ => (pe_cal c__law_sign hr__law_sign rfl (pa_cons (pv 0) (pa_cons (pv 3) pa_nil))))) pa_nil)))), ?_⟩
    refine ⟨_, rfl, _, rfl, _, _, rfl, ⟨by omega, by omega, by omega, by omega⟩, fun D1 hD => ?_⟩
    refine lc_all (walk_range (lo := a) (n := (b - a).toNat)) (fun i => .int ((sign g (a + (i : Int)) : Nat) : Int)) (by omega) hD (fun _ _ => trivial) ?_ ?_
    · rintro i x H' H'' Kc Z hi kp ⟨rfl, rfl⟩ kk
      have sm := keep_same hD kp
      refine ⟨rfl, yes_of (iteT ?_)⟩
      exact ⟨_, rfl, _, rfl, _, _, g, rfl, hv.same sm, ho, kk _ (Same.refl _)⟩
    · rintro H' kp hm
      have e : (List.range (b - a).toNat).map (fun i : Nat => V.int ((sign g (a + (i : Int)) : Nat) : Int)) = nv (cells (sign g) a (b - a).toNat) := by
        simp [nv, cells, Function.comp_def]
      rw [e] at hm
      refine ⟨D1, _, rfl, .inl ⟨SqL.of hm, fun p hp => ?_⟩⟩
      exact q p _ ((keep_same hD kp).trans (Same.new hp)) (SqT.of upd_same)
end
end K02
set_option Elab.async false
set_option linter.all false
set_option maxRecDepth 100000
set_option maxHeartbeats 4000000
namespace K02
open PySem PySem.Spec PyProof.Rows L2 RowM
def Turned (g : Int → Nat) (a : Int) (n : Nat) (way : Int) (k : Nat) : Prop := cells g (a + way * (k : Int)) n = cells g a n
section
variable {P : Program} {w : World} {K : PySem.W.Frag} {mg : Str → Option Value} {base : Heap}
def spLPer (K : PySem.W.Frag) : Sp := fun vs H Q _ => ∃ (v : V) (a : Int) (n : Nat) (way : Int) (f : Form), vs = [v, .int a, .int (n : Int), .int way] ∧ FmV K H v f ∧ Ok f ∧ 1 ≤ n ∧ n ≤ 1000 ∧ a.natAbs ≤ 2 ^ 41 ∧ (way = 1 ∨ way = -1) ∧ ∀ k H', Same H H' → First n (Turned (sign f) a n way) k → Q (.int (k : Int)) H'
theorem sc_lper : FnScope ["_law_model_here", "_law_first", "_law_size", "_law_way", "_law_word_here", "_law_k"] ["_law_model_here", "_law_first", "_law_size", "_law_way"] (defScope (top 47)) := ⟨rfl, rfl, rfl, by decide +kernel, rfl, by decide +kernel, by decide +kernel⟩
theorem ok_lper {f : Addr} {fd : FuncData} (F : FnP K "_law_period" (top 47) f fd) (m_range : mg "range" = none) (c__law_cells : Cal P w K mg base CX0 "_law_cells" 2 ["_law_model_here", "_law_first", "_law_end"] (spStr K)) : FnOk P w K mg base CX0 3 f fd ["_law_model_here", "_law_first", "_law_size", "_law_way"] (spLPer K) := by
  have sc := sc_lper
  refine F.ok sc (fun vs H Q E h => ?_) (fun cdv A outer s H vs Q E hr h => ?_)
  · obtain ⟨v, a, n, way, g, rfl, _⟩ := h
    rfl
  · obtain ⟨v, a, n, way, g, rfl, hv, ho, n1, n2, ha, hw, q⟩ := h
    have hr__law_cells : Room 2 _ := hr
    refine ⟨_, PSs.nox (pss_cons (ps_set (i := 4) sc.nd rfl (Or.inl rfl) (pe_cal c__law_cells hr__law_cells rfl (pa_cons (pv 0) (pa_cons (pv 1) (pa_cons (pe_op op_add (pv 1) (pv 2)) pa_nil)))))
      (pss_cons (ps_for PassesOwn.never rfl (pi_range2 rfl m_range (pa_cons pe_int (pa_cons (pv 2) pa_nil))) (pg_name (i := 5) sc.nd rfl (Or.inl rfl)) (pss_one (ps_if (pt_cmpR (show OpR _ _ (rEqD K) from op_eqD hr.units) (pe_cal c__law_cells hr__law_cells rfl (pa_cons (pv 0) (pa_cons (pe_op op_add (pv 1) (pe_op op_mul (pv 3) (pv 5))) (pa_cons (pe_op op_add (pe_op op_add (pv 1) (pe_op op_mul (pv 3) (pv 5))) (pv 2)) pa_nil)))) (pv 4) (nomark _)) (pss_one (ps_ret (pv 5))) pss_nil)))
      (pss_one (ps_ret (pv 2))))), ?_⟩
    refine ⟨_, rfl, _, rfl, _, rfl, _, rfl, _, _, rfl, rfl, v, a, a + (n : Int), g, rfl, hv, ho, by omega, by omega, by omega, fun p H1 s1 hp => ?_⟩
    rw [show (a + (n : Int) - a).toNat = n by omega] at hp
    refine ⟨_, rfl, _, _, rfl, ⟨by omega, by omega, by omega, by omega⟩, ?_⟩
    refine for_range (lo := 1) (n := ((n : Int) - 1).toNat) (fun i σ H' => ∃ x, σ = [some v, some (.int a), some (.int (n : Int)), some (.int way), some (.ref p), x] ∧ Same H1 H' ∧ ∀ d, 1 ≤ d → d < 1 + i → ¬ Turned (sign g) a n way d) ⟨none, rfl, Same.refl H1, fun d h1 h2 => by omega⟩ ?_ ?_
    · rintro i σ H' hi ⟨x, rfl, sm, no⟩
      have m1 : ((1 : Int) + (i : Int)).natAbs ≤ 1000 := by omega
      have m2 : (way * (1 + (i : Int))).natAbs ≤ 1000 := by
        rw [Int.natAbs_mul]
        rcases hw with rfl | rfl
        · simpa using m1
        · simpa using m1
      obtain ⟨z, hz⟩ : ∃ z, z = way * (1 + (i : Int)) := ⟨_, rfl⟩
      have cm : CMul way (1 + (i : Int)) := .inr ⟨by omega, by omega⟩
      refine ⟨_, rfl, _, rfl, _, rfl, _, rfl, _, _, rfl, rfl, cm, _, _, rfl, rfl, ?_⟩
      refine ⟨_, rfl, _, rfl, _, rfl, _, _, rfl, rfl, cm, _, _, rfl, rfl, _, rfl, _, _, rfl, rfl, ?_⟩
      simp only [← hz]
      rw [← hz] at m2
      refine ⟨v, a + z, a + z + (n : Int), g, rfl, hv.same (s1.trans sm), ho, by omega, by omega, by omega, fun p2 H2 s2 hp2 => ?_⟩
      rw [show (a + z + (n : Int) - (a + z)).toNat = n by omega] at hp2
      refine ⟨_, rfl, eq_nv hp2 (same_T (sm.trans s2) hp) ⟨_, rfl, ?_⟩⟩
      have te : Turned (sign g) a n way (1 + i) ↔ cells (sign g) (a + z) n = cells (sign g) a n := by
        unfold Turned
        rw [show way * ((1 + i : Nat) : Int) = z by rw [hz]; congr 1]
      by_cases c : cells (sign g) (a + z) n = cells (sign g) a n
      · refine iteT_of (decide_eq_true c) ⟨_, rfl, ?_⟩
        have := q (1 + i) H2 ((s1.trans sm).trans s2) ⟨by omega, by omega, .inr (te.mpr c), fun k' k1 k2 k3 => Nat.not_lt.mp fun z => no k' k1 z k3⟩
        rwa [show (((1 + i : Nat)) : Int) = 1 + (i : Int) by omega] at this
      · refine iteF_of (decide_eq_false c) ⟨_, rfl, sm.trans s2, fun d d1 d2 => ?_⟩
        by_cases e : d = 1 + i
        · rw [e]
          exact fun z => c (te.mp z)
        · exact no d d1 (by omega)
    · rintro σ H' ⟨x, rfl, sm, no⟩
      exact ⟨_, rfl, q n H' (s1.trans sm) ⟨n1, Nat.le_refl _, .inl rfl, fun k' k1 k2 k3 => absurd k3 (no k' k1 (by omega))⟩⟩
end
end K02
set_option Elab.async false
set_option linter.all false
set_option maxRecDepth 100000
set_option maxHeartbeats 4000000
/-! lists of ints compared; the first and the last that pass -/
namespace L2
open PySem PySem.Spec PyProof.Rows
def dLi (ns : List Int) : PyData := .list (ns.map PyData.int)
theorem dp_li {K : PySem.W.Frag} {H : Hp} {a : Addr} {ns : List Int} (h : SqL K H a (ns.map V.int)) : Dp K H (.ref a) (dLi ns) := .lst h (dp_ints _)
theorem shaped_li (ns : List Int) : SeqAt.shaped (dLi ns) = true := by
  unfold SeqAt.shaped dLi PyData.canLay0 PyData.depth
  rw [canLay_ints, depth_ints]
  rfl
theorem eqv_li (xs ys : List Int) : PyData.eqv (dLi xs) (dLi ys) = decide (xs = ys) := by
  unfold dLi
  rw [show PyData.eqv (.list (xs.map PyData.int)) (.list (ys.map PyData.int)) = PyData.eqvAll _ _ by unfold PyData.eqv; rfl, eqvAll_ints]
theorem eq_li {K : PySem.W.Frag} {H : Hp} {a b : Addr} {xs ys : List Int} {Q : VK} (ha : SqL K H a (xs.map V.int)) (hb : SqL K H b (ys.map V.int)) (q : Q (.bl (decide (xs = ys))) H) : rEqD K (.ref a) (.ref b) H Q :=
  ⟨_, _, dp_li ha, dp_li hb, shaped_li _, shaped_li _, by rw [eqv_li]; exact q⟩
theorem ne_li {K : PySem.W.Frag} {H : Hp} {a b : Addr} {xs ys : List Int} {Q : VK} (ha : SqL K H a (xs.map V.int)) (hb : SqL K H b (ys.map V.int)) (q : Q (.bl (!decide (xs = ys))) H) : rNeD K (.ref a) (.ref b) H Q :=
  ⟨_, _, dp_li ha, dp_li hb, shaped_li _, shaped_li _, by rw [eqv_li]; exact q⟩
theorem filt_none {n : Nat} {p : Nat → Bool} (h : (List.range n).filter p = []) : ∀ i, i < n → p i = false := fun i hi => by
  have := List.filter_eq_nil_iff.mp h i (List.mem_range.mpr hi)
  simpa using this
theorem filt_last {p : Nat → Bool} : ∀ {n : Nat}, (List.range n).filter p ≠ [] → ∃ o, o < n ∧ p o = true ∧ (∀ i, o < i → i < n → p i = false) ∧ ((List.range n).filter p).getLast? = some o
  | 0, h => absurd rfl h
  | n + 1, h => by
    rw [List.range_succ, List.filter_append] at h ⊢
    by_cases c : p n = true
    · refine ⟨n, Nat.lt_succ_self n, c, fun i h1 h2 => absurd h2 (by omega), ?_⟩
      rw [show List.filter p [n] = [n] by simp [c], List.getLast?_append]
      simp
    · have c : p n = false := by simpa using c
      have e : List.filter p [n] = [] := by simp [c]
      rw [e, List.append_nil] at h ⊢
      obtain ⟨o, h1, h2, h3, h4⟩ := filt_last h
      refine ⟨o, by omega, h2, fun i i1 i2 => ?_, h4⟩
      by_cases z : i = n
      · rw [z]; exact c
      · exact h3 i i1 (by omega)
theorem filt_first {p : Nat → Bool} : ∀ {n : Nat}, (List.range n).filter p ≠ [] → ∃ o r, o < n ∧ p o = true ∧ (∀ i, i < o → p i = false) ∧ (List.range n).filter p = o :: r
  | 0, h => absurd rfl h
  | n + 1, h => by
    rw [List.range_succ, List.filter_append] at h ⊢
    by_cases c : (List.range n).filter p = []
    · rw [c, List.nil_append] at h ⊢
      have pn : p n = true := by
        cases z : p n with
        | true => rfl
        | false => exact absurd (by simp [z]) h
      exact ⟨n, [], Nat.lt_succ_self n, pn, fun i hi => filt_none c i hi, by simp [pn]⟩
    · obtain ⟨o, r, h1, h2, h3, h4⟩ := filt_first c
      exact ⟨o, r ++ List.filter p [n], by omega, h2, h3, by rw [h4]; rfl⟩
end L2
namespace K02
open PySem PySem.Spec PyProof.Rows L2 RowM
theorem turned_L {g : Int → Nat} {a : Int} {n k : Nat} (h : First n (Turned g a n (-1)) k) : First n (RotL g a n) k := by
  have e : ∀ k, Turned g a n (-1) k ↔ RotL g a n k := fun k => by
    unfold Turned RotL
    rw [show a + -1 * (k : Int) = a - (k : Int) by omega]
    constructor
    · intro h i hi
      have := congrArg (fun l => l.getD i 0) h
      simp only [cells_at' _ _ hi] at this
      exact this
    · intro h
      exact ext_getD (by rw [cells_len', cells_len']) fun i hi => by
        rw [cells_len'] at hi
        rw [cells_at' _ _ hi, cells_at' _ _ hi]
        exact h i hi
  rw [show Turned g a n (-1) = RotL g a n from funext fun k => propext (e k)] at h
  exact h
theorem turned_R {g : Int → Nat} {a : Int} {n k : Nat} (h : First n (Turned g a n 1) k) : First n (RotR g a n) k := by
  have e : ∀ k, Turned g a n 1 k ↔ RotR g a n k := fun k => by
    unfold Turned RotR
    rw [show a + 1 * (k : Int) = a + (k : Int) by omega]
    constructor
    · intro h i hi
      have := congrArg (fun l => l.getD i 0) h
      simp only [cells_at' _ _ hi] at this
      exact this
    · intro h
      exact ext_getD (by rw [cells_len', cells_len']) fun i hi => by
        rw [cells_len'] at hi
        rw [cells_at' _ _ hi, cells_at' _ _ hi]
        exact h i hi
  rw [show Turned g a n 1 = RotR g a n from funext fun k => propext (e k)] at h
  exact h
section
variable {P : Program} {w : World} {K : PySem.W.Frag} {mg : Str → Option Value} {base : Heap}
def spLLeast (K : PySem.W.Frag) : Sp := fun vs H Q _ => ∃ (v : V) (f : Form) (n m z : Nat), vs = [v] ∧ FmV K H v f ∧ Ok f ∧ Big f n m z ∧ n ≤ 1000 ∧ m ≤ 200000 ∧ z ≤ 2 ^ 40 ∧ ∀ v' H' f', Same H H' → FmV K H' v' f' → Least (sign f) f' → Big f' n m (z + m + 2 * n) → Q v' H'
theorem sc_lleast : FnScope ["_law_model_here", "_law_lead", "_law_body", "_law_tail", "_law_base", "_law_end", "_law_q", "_law_p", "_law_odd", "_law_late", "_law_turn", "_law_first", "_law_at"] ["_law_model_here"] (defScope (top 48)) := ⟨rfl, rfl, rfl, by decide +kernel, rfl, by decide +kernel, by decide +kernel⟩
theorem ok_lleast {f : Addr} {fd : FuncData} (F : FnP K "_law_least" (top 48) f fd) (m_len : mg "len" = none) (m_min : mg "min" = none) (m_range : mg "range" = none) (c__law_sign : Cal P w K mg base CX0 "_law_sign" 1 ["_law_model_here", "_law_at"] (spSign K)) (c__law_cells : Cal P w K mg base CX0 "_law_cells" 2 ["_law_model_here", "_law_first", "_law_end"] (spStr K)) (c__law_period : Cal P w K mg base CX0 "_law_period" 3 ["_law_model_here", "_law_first", "_law_size", "_law_way"] (spLPer K)) : FnOk P w K mg base CX0 4 f fd ["_law_model_here"] (spLLeast K) := by
  have sc := sc_lleast
  refine F.ok sc (fun vs H Q E h => ?_) (fun cdv A outer s H vs Q E hr h => ?_)
  · obtain ⟨v, g, n, m, z, rfl, _⟩ := h
    rfl
  · obtain ⟨v, g, n, m, z, rfl, hv, ho, hb, hn, hm, hz, q⟩ := h
    obtain ⟨p0, l, t, r, rfl, hp, h4⟩ := id hv
    have hr__law_sign : Room 1 _ := hr.mono (by decide)
    have hr__law_cells : Room 2 _ := hr.mono (by decide)
    have hr__law_period : Room 3 _ := hr
    have bl := hb.l
    have bt := hb.t
    have br := hb.r
    have bs := hb.s
    have l1 := ho.l1
    have r1 := ho.r1
    refine ⟨_, PSs.nox (pss_cons (ps_asg (pv 0) (pg_tup rfl (pgs_cons (pg_name (i := 1) sc.nd rfl (Or.inl rfl)) (pgs_cons (pg_name (i := 2) sc.nd rfl (Or.inl rfl)) (pgs_cons (pg_name (i := 3) sc.nd rfl (Or.inl rfl)) (pgs_cons (pg_name (i := 4) sc.nd rfl (Or.inl rfl)) pgs_nil))))))
      (pss_cons (ps_set (i := 5) sc.nd rfl (Or.inl rfl) (pe_op op_add (pv 4) (pe_callB call_len_seq (by rfl) m_len (by decide +kernel) (pa_cons (pv 2) pa_nil))))
      (pss_cons (ps_asg (pe_tup (pa_cons (pe_cal c__law_period hr__law_period rfl (pa_cons (pv 0) (pa_cons (pe_op op_sub (pv 4) (pe_callB call_len_seq (by rfl) m_len (by decide +kernel) (pa_cons (pv 1) pa_nil))) (pa_cons (pe_callB call_len_seq (by rfl) m_len (by decide +kernel) (pa_cons (pv 1) pa_nil)) (pa_cons (pe_op op_sub pe_int pe_int) pa_nil))))) (pa_cons (pe_cal c__law_period hr__law_period rfl (pa_cons (pv 0) (pa_cons (pv 5) (pa_cons (pe_callB call_len_seq (by rfl) m_len (by decide +kernel) (pa_cons (pv 3) pa_nil)) (pa_cons pe_int pa_nil))))) pa_nil))) (pg_tup rfl (pgs_cons (pg_name (i := 6) sc.nd rfl (Or.inr rfl)) (pgs_cons (pg_name (i := 7) sc.nd rfl (Or.inr rfl)) pgs_nil))))
      (pss_cons (ps_setLc (i := 8) (own := [("_law_at", 12)]) (g := gName 12) rfl sc.nd rfl rfl (sw_true rfl rfl rfl (by decide +kernel)) (pi_range2 rfl m_range (pa_cons (pe_op op_sub (pe_op op_sub (pv 4) (pv 7)) (pe_callB call_len_seq (by rfl) m_len (by decide +kernel) (pa_cons (pv 1) pa_nil))) (pa_cons (pv 5) pa_nil))) (blkOk_by (N := ["_law_model_here", "_law_lead", "_law_body", "_law_tail", "_law_base", "_law_end", "_law_q", "_law_p", "_law_odd", "_law_late", "_law_turn", "_law_first", "_law_at"]) (sc := defScope (top 48)) (by decide +kernel)) (fun _ _ _ _ _ => (pg_name (i := 12) sc.nd rfl (Or.inl rfl))) (fun _ _ _ _ _ => (pts_one (pt_cmpR op_ne (pe_cal c__law_sign hr__law_sign rfl (pa_cons (pv 0) (pa_cons (pv 12) pa_nil))) (pe_cal c__law_sign hr__law_sign rfl (pa_cons (pv 0) (pa_cons (pe_op op_add (pv 12) (pv 7)) pa_nil))) (nomark _)))) (fun _ _ _ _ _ => (pv 12)))
      (pss_cons (ps_if (pt_cmpR (show OpR _ _ (rEqD K) from op_eqD hr.units) (pv 8) (pe_lst pa_nil) (nomark _)) (pss_one (ps_ret (pe_tup (pa_cons (pe_cal c__law_cells hr__law_cells rfl (pa_cons (pv 0) (pa_cons (pe_op op_sub pe_int (pv 7)) (pa_cons pe_int pa_nil)))) (pa_cons (pe_tup pa_nil) (pa_cons (pe_cal c__law_cells hr__law_cells rfl (pa_cons (pv 0) (pa_cons pe_int (pa_cons (pv 7) pa_nil)))) (pa_cons pe_int pa_nil))))))) pss_nil)
      (pss_cons (ps_setLc (i := 9) (own := [("_law_at", 12)]) (g := gName 12) rfl sc.nd rfl rfl (sw_true rfl rfl rfl (by decide +kernel)) (pi_range2 rfl m_range (pa_cons (pv 4) (pa_cons (pe_op op_add (pe_op op_add (pv 5) (pv 6)) (pe_callB call_len_seq (by rfl) m_len (by decide +kernel) (pa_cons (pv 3) pa_nil))) pa_nil))) (blkOk_by (N := ["_law_model_here", "_law_lead", "_law_body", "_law_tail", "_law_base", "_law_end", "_law_q", "_law_p", "_law_odd", "_law_late", "_law_turn", "_law_first", "_law_at"]) (sc := defScope (top 48)) (by decide +kernel)) (fun _ _ _ _ _ => (pg_name (i := 12) sc.nd rfl (Or.inl rfl))) (fun _ _ _ _ _ => (pts_one (pt_cmpR op_ne (pe_cal c__law_sign hr__law_sign rfl (pa_cons (pv 0) (pa_cons (pv 12) pa_nil))) (pe_cal c__law_sign hr__law_sign rfl (pa_cons (pv 0) (pa_cons (pe_op op_sub (pv 12) (pv 6)) pa_nil))) (nomark _)))) (fun _ _ _ _ _ => (pv 12)))
      (pss_cons (ps_set (i := 10) sc.nd rfl (Or.inl rfl) (pe_op op_add (pe_ix ix_list (pv 8) (pe_op op_sub (pe_callB call_len_seq (by rfl) m_len (by decide +kernel) (pa_cons (pv 8) pa_nil)) pe_int) (fun _ _ => rfl)) pe_int))
      (pss_cons (ps_set (i := 11) sc.nd rfl (Or.inl rfl) (pe_callB (call_min2 rfl) (by rfl) m_min (by decide +kernel) (pa_cons (pv 10) (pa_cons (pe_ix ix_list (pv 9) pe_int (fun _ _ => rfl)) pa_nil))))
      (pss_one (ps_ret (pe_tup (pa_cons (pe_cal c__law_cells hr__law_cells rfl (pa_cons (pv 0) (pa_cons (pe_op op_sub (pv 11) (pv 6)) (pa_cons (pv 11) pa_nil)))) (pa_cons (pe_cal c__law_cells hr__law_cells rfl (pa_cons (pv 0) (pa_cons (pv 11) (pa_cons (pv 10) pa_nil)))) (pa_cons (pe_cal c__law_cells hr__law_cells rfl (pa_cons (pv 0) (pa_cons (pv 10) (pa_cons (pe_op op_add (pv 10) (pv 7)) pa_nil)))) (pa_cons (pv 11) pa_nil))))))))))))))), ?_⟩
    refine ⟨_, rfl, p0, _, rfl, hp, rfl, _, _, rfl, _, _, rfl, _, _, rfl, _, _, rfl, rfl, ?_⟩
    refine ⟨_, rfl, _, rfl, t, _, rfl, .inr h4.told, _, _, rfl, rfl, ?_⟩
    rw [len_nv]
    refine ⟨_, rfl, _, rfl, _, rfl, l, _, rfl, .inr h4.left, _, _, rfl, rfl, _, rfl, l, _, rfl, .inr h4.left, _, _, rfl, rfl, ?_⟩
    simp only [len_nv]
    refine ⟨_, _, g.left.length, -1, g, rfl, hv, ho, l1, by omega, by omega, .inr rfl, fun q1 H1 s1 f1 => ?_⟩
    refine ⟨_, rfl, _, rfl, _, rfl, r, _, rfl, .inr (same_T s1 h4.right), ?_⟩
    rw [len_nv]
    refine ⟨_, _, g.right.length, 1, g, rfl, hv.same s1, ho, r1, by omega, by omega, .inl rfl, fun p1 H2 s2 f2 => ?_⟩
    have s02 := s1.trans s2
    have mq1 := f1.1
    have mq2 := f1.2.1
    have mp1 := f2.1
    have mp2 := f2.2.1
    have hl := (sign_LT (f := g)).per l1
    have hr' := (sign_RT (f := g)).per
    have fL : MinL (sign g) q1 := first_L hl l1 (turned_L f1)
    have fR : MinR (sign g) p1 := first_R hr' r1 (turned_R f2)
    have pL : PerL (sign g) q1 g.start := by
      obtain ⟨b, hb⟩ := fL.2.1
      exact hb.up hl l1
    have pR : PerR (sign g) p1 (g.start + (g.told.length : Int)) := by
      obtain ⟨b, hb⟩ := fR.2.1
      exact hb.down hr' r1
    refine ⟨(by show 2 ≤ sizeLine; decide), fun pp hpp => ?_⟩
    have s3 : Same H2 (upd H2 pp (.tup [.int (q1 : Int), .int (p1 : Int)])) := Same.new hpp
    have h3 : SqT K (upd H2 pp (.tup [.int (q1 : Int), .int (p1 : Int)])) pp [.int (q1 : Int), .int (p1 : Int)] := SqT.of upd_same
    refine ⟨pp, _, rfl, h3, rfl, _, _, rfl, _, _, rfl, rfl, ?_⟩
    generalize upd H2 pp (.tup [.int (q1 : Int), .int (p1 : Int)]) = H3 at s3
    have s03 := s02.trans s3
    refine ⟨_, rfl, _, rfl, _, _, rfl, rfl, _, rfl, l, _, rfl, .inr (same_T s03 h4.left), _, _, rfl, rfl, _, rfl, _, _, rfl, ⟨?_, ?_, ?_, ?_⟩, fun D1 hD => ?_⟩
    iterate 4 (first | omega | (rw [len_nv]; omega))
    rw [len_nv]
    obtain ⟨lo, hlo⟩ : ∃ lo, lo = g.start - (p1 : Int) - (g.left.length : Int) := ⟨_, rfl⟩
    obtain ⟨te, hte⟩ : ∃ te, te = g.start + (g.told.length : Int) := ⟨_, rfl⟩
    rw [← hlo, ← hte]
    rw [← hte] at pR hr'
    let P1 : Nat → Bool := fun i => !decide (sign g (lo + (i : Int)) = sign g (lo + (i : Int) + (p1 : Int)))
    refine lc_flt (walk_range (lo := lo) (n := (te - lo).toNat)) (fun i => .int (lo + (i : Int))) P1 (by omega) hD (fun _ _ => trivial) ?_ ?_
    · rintro i x H' H'' Kc Z hi kp ⟨rfl, rfl⟩ k1 k2
      have sm := s03.trans (keep_same hD kp)
      refine ⟨rfl, ?_⟩
      refine ⟨_, rfl, _, rfl, _, _, g, rfl, hv.same sm, ho, ?_⟩
      refine ⟨_, rfl, _, rfl, _, rfl, _, _, rfl, rfl, _, _, g, rfl, hv.same sm, ho, rfl, _, rfl, ?_⟩
      by_cases c : sign g (lo + (i : Int)) = sign g (lo + (i : Int) + (p1 : Int))
      · exact iteF_of (by rw [dec_nat]; simp [c]) (k2 (by simp [P1, c]) _ (Same.refl _))
      · exact iteT_of (by rw [dec_nat]; simp [c]) ⟨_, rfl, k1 (by simp [P1, c]) _ (Same.refl _)⟩
    intro H4 kp4 hD4
    have s04 := s03.trans (keep_same hD kp4)
    have hv4 := hv.same s04
    obtain ⟨os, hos⟩ : ∃ os, os = (List.range (te - lo).toNat).filter P1 := ⟨_, rfl⟩
    rw [← hos, show os.map (fun i : Nat => V.int (lo + (i : Int))) = (os.map fun i : Nat => lo + (i : Int)).map V.int by rw [List.map_map]; rfl] at hD4
    refine ⟨_, rfl, Nat.zero_le _, fun L1 hL1 => ?_⟩
    have s5 : Same H4 (upd H4 L1 (.lst [])) := Same.new hL1
    have h5 : SqL K (upd H4 L1 (.lst [])) L1 ([].map V.int) := SqL.of upd_same
    have hD5 : upd H4 L1 (.lst []) D1 = some (.lst ((os.map fun i : Nat => lo + (i : Int)).map V.int)) := s5 _ _ hD4
    generalize upd H4 L1 (.lst []) = H5 at s5 h5 hD5
    have s05 := s04.trans s5
    refine eq_li (SqL.of hD5) h5 ⟨_, rfl, ?_⟩
    -- from where on it repeats
    have run : ∀ c0, lo ≤ c0 → c0 ≤ te → (∀ c, c0 ≤ c → c < te → sign g (c + (p1 : Int)) = sign g c) → PerR (sign g) p1 c0 := fun c0 a1 a2 h x hx => by
      by_cases c : x < te
      · exact h x hx c
      · exact pR x (by omega)
    have out1 : ∀ c, lo ≤ c → c < te → P1 (c - lo).toNat = false → sign g (c + (p1 : Int)) = sign g c := fun c a1 a2 h => by
      have e : lo + ((c - lo).toNat : Int) = c := by omega
      simp only [P1, e] at h
      exact (by simpa using h : sign g c = sign g (c + (p1 : Int))).symm
    by_cases co : os = []
    · refine iteT_of (by rw [co]; rfl) ?_
      have per : PerR (sign g) p1 lo := run lo (Int.le_refl _) (by omega) fun c a1 a2 => out1 c a1 a2 (filt_none (hos.symm.trans co) _ (by omega))
      have lst := least_all fR fL hl l1 per (by omega)
      refine ⟨_, rfl, _, rfl, _, _, rfl, rfl, _, _, _, g, rfl, hv.same s05, ho, by omega, by omega, by omega, fun a1 H6 s6 ha1 => ?_⟩
      refine ⟨Nat.zero_le _, fun a2 ha2 => ?_⟩
      have s7 : Same H6 (upd H6 a2 (.tup [])) := Same.new ha2
      have ha2' : SqT K (upd H6 a2 (.tup [])) a2 (nv []) := SqT.of upd_same
      generalize upd H6 a2 (.tup []) = H7 at s7 ha2'
      refine ⟨_, rfl, _, rfl, _, _, _, g, rfl, hv.same (s05.trans (s6.trans s7)), ho, by omega, by omega, by omega, fun a3 H8 s8 ha3 => ?_⟩
      refine ⟨(by show 4 ≤ sizeLine; decide), fun p4 hp4 => ?_⟩
      rw [show (0 - (0 - (p1 : Int))).toNat = p1 by omega, show (0 : Int) - (p1 : Int) = -(p1 : Int) by omega] at ha1
      rw [show ((p1 : Int) - 0).toNat = p1 by omega] at ha3
      have s9 : Same H8 (upd H8 p4 (.tup [.ref a1, .ref a2, .ref a3, .int 0])) := Same.new hp4
      refine q _ _ ⟨cells (sign g) (-(p1 : Int)) p1, [], cells (sign g) 0 p1, 0⟩ (s05.trans (s6.trans (s7.trans (s8.trans s9)))) ⟨p4, a1, a2, a3, rfl, SqT.of upd_same, same_T s9 (same_T s8 (same_T s7 ha1)), same_T s9 (same_T s8 ha2'), same_T s9 ha3⟩ lst ⟨?_, Nat.zero_le _, ?_, Nat.zero_le _⟩
      · show (cells _ _ _).length ≤ n
        rw [cells_len]
        omega
      · show (cells _ _ _).length ≤ n
        rw [cells_len]
        omega
    · refine iteF_of (decide_eq_false fun z => co (List.map_eq_nil_iff.mp z)) ?_
      have co' : (List.range (te - lo).toNat).filter P1 ≠ [] := fun z => co (hos.trans z)
      obtain ⟨o, o1, o2, o3, o4⟩ := filt_last co'
      rw [← hos] at o4
      have hE : EndAt (sign g) p1 (lo + (o : Int) + 1) := by
        refine ⟨run _ (by omega) (by omega) fun c a1 a2 => out1 c (by omega) a2 (o3 _ (by omega) (by omega)), ?_⟩
        rw [show lo + (o : Int) + 1 - 1 = lo + (o : Int) by omega]
        have : sign g (lo + (o : Int)) ≠ sign g (lo + (o : Int) + (p1 : Int)) := by simpa [P1] using o2
        exact this.symm
      refine ⟨_, rfl, _, rfl, _, rfl, _, _, rfl, rfl, _, rfl, r, _, rfl, .inr (same_T s05 h4.right), _, _, rfl, rfl, _, _, rfl, ⟨?_, ?_, ?_, ?_⟩, fun D2 hD2 => ?_⟩
      iterate 4 (first | omega | (rw [len_nv]; omega))
      rw [len_nv]
      obtain ⟨hi, hhi⟩ : ∃ hi, hi = te + (q1 : Int) + (g.right.length : Int) := ⟨_, rfl⟩
      rw [← hhi]
      let P2 : Nat → Bool := fun i => !decide (sign g (g.start + (i : Int)) = sign g (g.start + (i : Int) - (q1 : Int)))
      refine lc_flt (walk_range (lo := g.start) (n := (hi - g.start).toNat)) (fun i => .int (g.start + (i : Int))) P2 (by omega) hD2 (fun _ _ => trivial) ?_ ?_
      · rintro i x H' H'' Kc Z hi kp ⟨rfl, rfl⟩ k1 k2
        have sm := s05.trans (keep_same hD2 kp)
        refine ⟨rfl, ?_⟩
        refine ⟨_, rfl, _, rfl, _, _, g, rfl, hv.same sm, ho, ?_⟩
        refine ⟨_, rfl, _, rfl, _, rfl, _, _, rfl, rfl, _, _, g, rfl, hv.same sm, ho, rfl, _, rfl, ?_⟩
        by_cases c : sign g (g.start + (i : Int)) = sign g (g.start + (i : Int) - (q1 : Int))
        · exact iteF_of (by rw [dec_nat]; simp [c]) (k2 (by simp [P2, c]) _ (Same.refl _))
        · exact iteT_of (by rw [dec_nat]; simp [c]) ⟨_, rfl, k1 (by simp [P2, c]) _ (Same.refl _)⟩
      intro H6 kp6 hD6
      have s6 := keep_same hD2 kp6
      have s06 := s05.trans s6
      have hv6 := hv.same s06
      obtain ⟨ls, hls⟩ : ∃ ls, ls = (List.range (hi - g.start).toNat).filter P2 := ⟨_, rfl⟩
      have out2 : ∀ c, g.start ≤ c → c < hi → P2 (c - g.start).toNat = false → sign g (c - (q1 : Int)) = sign g c := fun c a1 a2 h => by
        have e : g.start + ((c - g.start).toNat : Int) = c := by omega
        simp only [P2, e] at h
        exact (by simpa using h : sign g c = sign g (c - (q1 : Int))).symm
      have cl : (List.range (hi - g.start).toNat).filter P2 ≠ [] := fun z => by
        have per : PerL (sign g) q1 hi := fun x hx => by
          by_cases c : x < g.start
          · exact pL x c
          · exact out2 x (by omega) hx (filt_none z _ (by omega))
        exact hE.2 (not_all hr' r1 pR per mq1 (by omega) _)
      obtain ⟨b, br', b1, b2, b3, b4⟩ := filt_first cl
      rw [← hls] at b4
      have hB : BelAt (sign g) q1 (g.start + (b : Int)) := by
        refine ⟨fun x hx => ?_, ?_⟩
        · by_cases c : x < g.start
          · exact pL x c
          · exact out2 x (by omega) (by omega) (b3 _ (by omega))
        · have : sign g (g.start + (b : Int)) ≠ sign g (g.start + (b : Int) - (q1 : Int)) := by simpa [P2] using b2
          exact this.symm
      rw [← hls, show ls.map (fun i : Nat => V.int (g.start + (i : Int))) = (ls.map fun i : Nat => g.start + (i : Int)).map V.int by rw [List.map_map]; rfl, b4] at hD6
      have hD16 : H6 D1 = some (.lst ((os.map fun i : Nat => lo + (i : Int)).map V.int)) := s6 _ _ hD5
      have hat : atI ((os.map fun i : Nat => lo + (i : Int)).map V.int) ((((os.map fun i : Nat => lo + (i : Int)).map V.int).length : Int) - 1) = some (.int (lo + (o : Int))) := by
        have ol : 1 ≤ os.length := List.length_pos_iff.mpr co
        rw [List.length_map, List.length_map, show ((os.length : Nat) : Int) - 1 = ((os.length - 1 : Nat) : Int) by omega]
        refine atI_nat ?_
        rw [List.getLast?_eq_getElem?] at o4
        rw [List.getElem?_map, List.getElem?_map, o4]
        rfl
      refine ⟨_, rfl, _, rfl, D1, _, rfl, .inl (SqL.of hD16), _, _, rfl, rfl, D1, _, _, _, rfl, rfl, SqL.of hD16, hat, _, _, rfl, rfl, ?_⟩
      have hat2 : atI (((b :: br').map fun i : Nat => g.start + (i : Int)).map V.int) 0 = some (.int (g.start + (b : Int))) := atI_nat (j := 0) rfl
      refine ⟨_, rfl, _, rfl, D2, _, _, _, rfl, rfl, SqL.of hD6, hat2, _, _, rfl, ?_⟩
      rw [min_if]
      have lst := least_some fR fL hE hB
      obtain ⟨e, he⟩ : ∃ e, e = lo + (o : Int) + 1 := ⟨_, rfl⟩
      obtain ⟨b, hb⟩ : ∃ b', b' = g.start + (b : Int) := ⟨_, rfl⟩
      rw [← he, ← hb] at lst ⊢
      have e1 : lo < e := by omega
      have e2 : e ≤ te := by omega
      have b1 : g.start ≤ b := by omega
      have b2 : b < hi := by omega
      refine ⟨_, rfl, _, rfl, _, rfl, _, _, rfl, rfl, _, rfl, _, _, _, g, rfl, hv6, ho, by omega, by omega, by omega, fun a1 H7 s7 ha1 => ?_⟩
      refine ⟨_, rfl, _, rfl, _, rfl, _, _, _, g, rfl, hv6.same s7, ho, by omega, by omega, by omega, fun a2 H8 s8 ha2 => ?_⟩
      refine ⟨_, rfl, _, rfl, _, rfl, _, rfl, _, _, rfl, rfl, _, _, _, g, rfl, (hv6.same s7).same s8, ho, by omega, by omega, by omega, fun a3 H9 s9 ha3 => ?_⟩
      refine ⟨_, rfl, (by show 4 ≤ sizeLine; decide), fun p4 hp4 => ?_⟩
      rw [show (min e b - (min e b - (q1 : Int))).toNat = q1 by omega] at ha1
      try simp only [← he] at ha1 ha2 ha3
      try simp only [← hb] at ha1 ha2 ha3
      rw [show (e + (p1 : Int) - e).toNat = p1 by omega] at ha3
      have s10 : Same H9 (upd H9 p4 (.tup [.ref a1, .ref a2, .ref a3, .int (min e b)])) := Same.new hp4
      refine q _ _ ⟨cells (sign g) (min e b - q1) q1, cells (sign g) (min e b) (e - min e b).toNat, cells (sign g) e p1, min e b⟩ (s06.trans (s7.trans (s8.trans (s9.trans s10)))) ⟨p4, a1, a2, a3, rfl, SqT.of upd_same, same_T s10 (same_T s9 (same_T s8 ha1)), same_T s10 (same_T s9 ha2), same_T s10 ha3⟩ lst ⟨?_, ?_, ?_, ?_⟩
      · show (cells _ _ _).length ≤ n
        rw [cells_len]
        omega
      · show (cells _ _ _).length ≤ m
        rw [cells_len]
        omega
      · show (cells _ _ _).length ≤ n
        rw [cells_len]
        omega
      · show (min e b).natAbs ≤ _
        omega
end
end K02
set_option Elab.async false
set_option linter.all false
set_option maxRecDepth 100000
set_option maxHeartbeats 4000000
namespace K02
open PySem PySem.Spec PyProof.Rows L2 RowM
section
variable {P : Program} {w : World} {K : PySem.W.Frag} {mg : Str → Option Value} {base : Heap}
inductive AlkAll (K : PySem.W.Frag) (H : Hp) (n : Nat) : List V → List V → Prop
  | nil : AlkAll K H n [] []
  | cons {x y : V} {xs ys : List V} (h : Alk K NoA H n x y) (t : AlkAll K H n xs ys) : AlkAll K H n (x :: xs) (y :: ys)
theorem AlkAll.len {K : PySem.W.Frag} {H : Hp} {n : Nat} {xs ys : List V} (h : AlkAll K H n xs ys) : xs.length = ys.length := by
  induction h with
  | nil => rfl
  | cons h t ih => rw [List.length_cons, List.length_cons, ih]
theorem AlkAll.at_ {K : PySem.W.Frag} {H : Hp} {n : Nat} {xs ys : List V} (h : AlkAll K H n xs ys) : ∀ (i : Nat) (u v : V), xs[i]? = some u → ys[i]? = some v → Alk K NoA H n u v := by
  induction h with
  | nil => intro i u v h; simp at h
  | cons h t ih =>
    intro i u v h1 h2
    match i with
    | 0 =>
      cases h1
      cases h2
      exact h
    | i + 1 => exact ih i u v h1 h2
theorem alk_lst {K : PySem.W.Frag} {H : Hp} {p q : Addr} {xs ys : List V} {n : Nat} (hp : H p = some (.lst xs)) (hq : H q = some (.lst ys)) (l : xs.length ≤ 1000) (h : AlkAll K H n xs ys) : Alk K NoA H (n + 1) (.ref p) (.ref q) :=
  .inr ⟨p, q, _, _, rfl, rfl, fun z => z, fun z => z, .inl ⟨hp, hq⟩, h.len, l, h.at_⟩
theorem alk_nv {K : PySem.W.Frag} {H : Hp} {p q : Addr} {xs : List Nat} {n : Nat} (hp : SqT K H p (nv xs)) (hq : SqT K H q (nv xs)) (l : xs.length ≤ 1000) : Alk K NoA H (n + 1) (.ref p) (.ref q) :=
  .inr ⟨p, q, _, _, rfl, rfl, fun z => z, fun z => z, .inr ⟨hp, hq⟩, rfl, by rw [len_nv]; exact l, fun i u v h1 h2 => by
    rw [h1] at h2
    cases h2
    obtain ⟨x, hx, rfl⟩ := List.mem_map.mp (List.mem_of_getElem? h1)
    exact Alk.sc (.int _)⟩
/-! ### a row has the least form of a model -/
def spSo (K : PySem.W.Frag) (C : Addr) : Sp := fun vs H Q _ => ∃ (v m : V) (f g : Form), vs = [v, m] ∧ RowV K C H v f ∧ FmV K H m g ∧ Ok g ∧ Big g 1000 1000 (2 ^ 40) ∧ Least (sign g) f ∧ ∀ H', Same H H' → Q (.bl true) H'
theorem sc_so : FnScope ["_law_row", "_law_model_here"] ["_law_row", "_law_model_here"] (defScope (top 49)) := ⟨rfl, rfl, rfl, by decide +kernel, rfl, by decide +kernel, by decide +kernel⟩
theorem ok_so {f : Addr} {fd : FuncData} {C : Addr} (F : FnP K "_law_row_so" (top 49) f fd) (o_R : RowA K C) (m_list : mg "list" = none) (c__law_least : Cal P w K mg base CX0 "_law_least" 4 ["_law_model_here"] (spLLeast K)) (c__law_like : Cal P w K mg base CX0 "_law_like" 6 ["_law_found", "_law_due"] (spLike K NoA 5)) : FnOk P w K mg base CX0 7 f fd ["_law_row", "_law_model_here"] (spSo K C) := by
  have sc := sc_so
  refine F.ok sc (fun vs H Q E h => ?_) (fun cdv A outer s H vs Q E hr h => ?_)
  · obtain ⟨v, m, f, g, rfl, _⟩ := h
    rfl
  · obtain ⟨v, m, f, g, rfl, hv, hm, ho, hb, lf, q⟩ := h
    obtain ⟨a, dx, l, t, r, rfl, ha, h4⟩ := hv.split
    have hr__law_like : Room 6 _ := hr
    have hr__law_least : Room 4 _ := hr.mono (by decide)
    refine ⟨_, PSs.nox (pss_one (ps_ret (pe_cal c__law_like hr__law_like rfl (pa_cons (pe_lst (pa_cons (pe_fld (pv 0) rfl) (pa_cons (pe_fld (pv 0) rfl) (pa_cons (pe_fld (pv 0) rfl) (pa_cons (pe_fld (pv 0) rfl) pa_nil))))) (pa_cons (pe_callTy call_list_of (by rfl) m_list (by decide +kernel) (pa_cons (pe_cal c__law_least hr__law_least rfl (pa_cons (pv 1) pa_nil)) pa_nil)) pa_nil))))), ?_⟩
    refine ⟨_, rfl, a, C, dx, _, _, rfl, ha, o_R.cl, o_R.n1, rfl, _, rfl, a, C, dx, _, _, rfl, ha, o_R.cl, o_R.n2, rfl, _, rfl, a, C, dx, _, _, rfl, ha, o_R.cl, o_R.n3, rfl, _, rfl, a, C, dx, _, _, rfl, ha, o_R.cl, o_R.n4, rfl, (by show 4 ≤ sizeLine; decide), fun L1 hL1 => ?_⟩
    have s1 : Same H (upd H L1 (.lst [.ref l, .ref t, .ref r, .int f.start])) := Same.new hL1
    have k1 : upd H L1 (.lst [.ref l, .ref t, .ref r, .int f.start]) L1 = some (.lst [.ref l, .ref t, .ref r, .int f.start]) := upd_same
    show tCons _ _ _ (upd H L1 (.lst [.ref l, .ref t, .ref r, .int f.start])) _
    generalize upd H L1 (.lst [.ref l, .ref t, .ref r, .int f.start]) = H1 at s1 k1
    refine ⟨_, rfl, _, g, _, _, _, rfl, hm.same s1, ho, hb, Nat.le_refl _, by decide, Nat.le_refl _, fun v' H2 f' s2 hv2 lf2 big => ?_⟩
    have e := lf.uniq lf2
    subst e
    obtain ⟨p, l', t', r', rfl, hp, h4'⟩ := hv2
    refine ⟨p, _, rfl, .inr hp, fun L2 hL2 => ?_⟩
    have s3 : Same H2 (upd H2 L2 (.lst [.ref l', .ref t', .ref r', .int f.start])) := Same.new hL2
    have h4a := h4.same (s1.trans (s2.trans s3))
    have h4b := h4'.same s3
    have bl := big.l
    have bt := big.t
    have br := big.r
    refine ⟨_, _, rfl, alk_lst (n := 4) (s3 _ _ (s2 _ _ k1)) upd_same (by show 4 ≤ 1000; decide) (.cons (alk_nv h4a.left h4b.left bl) (.cons (alk_nv h4a.told h4b.told bt) (.cons (alk_nv h4a.right h4b.right br) (.cons (Alk.sc (.int _)) .nil)))), fun H' s4 => q H' (s1.trans (s2.trans (s3.trans s4)))⟩
end
end K02
set_option Elab.async false
set_option linter.all false
set_option maxRecDepth 100000
set_option maxHeartbeats 4000000
namespace K02
open PySem PySem.Spec PyProof.Rows L2
section
variable {P : Program} {w : World} {K : PySem.W.Frag} {mg : Str → Option Value} {base : Heap}
def spDraw : Sp := fun vs H Q _ => ∃ (g : Bg) (m : Int), vs = [.ref g.b, .int m] ∧ Bag g H ∧ 1 ≤ m ∧ m < 1073741824 ∧ ∀ d H', Drew g H H' → 0 ≤ d → d < m → Q (.int d) H'
theorem sc_draw : FnScope ["_law_bag_here", "_law_many", "_law_item", "_law_digit"] ["_law_bag_here", "_law_many"] (defScope (top 40)) := ⟨rfl, rfl, rfl, by decide +kernel, rfl, by decide +kernel, by decide +kernel⟩
abbrev bagL (l : Addr) (i u sd c : Int) : List V := [.ref l, .int i, .int u, .int sd, .int c]
theorem at0 {l : Addr} {i u sd c : Int} : atI (bagL l i u sd c) 0 = some (.ref l) := rfl
theorem ok_draw {f : Addr} {fd : FuncData} (F : FnP K "_law_draw" (top 40) f fd) (m_int : mg "int" = none) (m_len : mg "len" = none) : FnOk P w K mg base CX0 1 f fd ["_law_bag_here", "_law_many"] spDraw := by
  have sc := sc_draw
  refine F.ok sc (fun vs H Q E h => ?_) (fun cdv A outer s H vs Q E hr h => ?_)
  · obtain ⟨b, m, rfl, _⟩ := h
    rfl
  · obtain ⟨⟨b, l, ns⟩, m, rfl, ⟨i, u, sd, c, hb, hl, nlb, h63, hi, hu, hs0, hs1⟩, hm1, hm2, k⟩ := h
    dsimp only at hb hl nlb h63 hi k
    -- what the states have in common
    have bag : ∀ (i' : Nat) (u' sd' c' : Int), i' ≤ ns.length → 0 ≤ u' → 0 ≤ sd' → sd' < 2147483629 → Drew ⟨b, l, ns⟩ H (upd H b (.lst (bagL l i' u' sd' c'))) := fun i' u' sd' c' h1 h2 h3 h4 =>
      ⟨fun a o n e => by rw [upd_ne n]; exact e, i', u', sd', c', upd_same, by show upd H b _ l = _; rw [upd_ne nlb]; exact hl, nlb, h63, h1, h2, h3, h4⟩
    refine ⟨_, PSs.nox (pss_cons (ps_asg (pe_op op_add (pe_ix ix_list (pv 0) pe_int (fun _ _ => rfl)) pe_int) (pg_sub (pv 0) pe_int set_list (fun _ => rfl)))
      (Evl.pss_cut (ps_if (PW.pt (pw_and (pt_cmpR op_eq (pe_ix ix_list (pv 0) pe_int (fun _ _ => rfl)) pe_int (nomark _)) (pw_and1 (pt_cmpR op_lt (pe_ix ix_list (pv 0) pe_int (fun _ _ => rfl)) (pe_callB call_len_seq (by rfl) m_len (by decide +kernel) (pa_cons (pe_ix ix_list (pv 0) pe_int (fun _ _ => rfl)) pa_nil)) (nomark _))))) (pss_cons (ps_set (i := 2) sc.nd rfl (Or.inl rfl) (pe_ix ix_list (pe_ix ix_list (pv 0) pe_int (fun _ _ => rfl)) (pe_ix ix_list (pv 0) pe_int (fun _ _ => rfl)) (fun _ _ => rfl)))
      (pss_cons (ps_asg (pe_op op_add (pe_ix ix_list (pv 0) pe_int (fun _ _ => rfl)) pe_int) (pg_sub (pv 0) pe_int set_list (fun _ => rfl)))
      (pss_one (ps_if (pt_cmpR op_ge (pv 2) (pe_op op_pow pe_int pe_int) (nomark _)) (pss_one (ps_asg (pv 2) (pg_sub (pv 0) pe_int set_list (fun _ => rfl)))) (pss_one (ps_asg (pe_op op_mod (pe_callTy call_int1 (by rfl) m_int (by decide +kernel) (pa_cons (pe_op op_add (pe_op op_add (pe_op op_mul (pe_ix ix_list (pv 0) pe_int (fun _ _ => rfl)) pe_int) (pe_op op_mul (pe_op op_mod (pe_callTy call_int1 (by rfl) m_int (by decide +kernel) (pa_cons (pv 2) pa_nil)) pe_int) pe_int)) pe_int) pa_nil)) pe_int) (pg_sub (pv 0) pe_int set_list (fun _ => rfl)))))))) pss_nil)
      (pss_cons (ps_if (pt_cmpR op_gt (pe_ix ix_list (pv 0) pe_int (fun _ _ => rfl)) pe_int (nomark _)) (pss_cons (ps_set (i := 3) sc.nd rfl (Or.inl rfl) (pe_op op_mod (pe_callTy call_int1 (by rfl) m_int (by decide +kernel) (pa_cons (pe_ix ix_list (pv 0) pe_int (fun _ _ => rfl)) pa_nil)) (pv 1)))
      (pss_cons (ps_asg (pe_op op_fdiv (pe_ix ix_list (pv 0) pe_int (fun _ _ => rfl)) (pv 1)) (pg_sub (pv 0) pe_int set_list (fun _ => rfl)))
      (pss_one (ps_ret (pv 3))))) pss_nil)
      (pss_cons (ps_asg (pe_op op_mod (pe_callTy call_int1 (by rfl) m_int (by decide +kernel) (pa_cons (pe_op op_add (pe_op op_add (pe_op op_pow (pe_ix ix_list (pv 0) pe_int (fun _ _ => rfl)) pe_int) (pe_op op_mul (pe_ix ix_list (pv 0) pe_int (fun _ _ => rfl)) pe_int)) pe_int) pa_nil)) pe_int) (pg_sub (pv 0) pe_int set_list (fun _ => rfl)))
      (pss_one (ps_ret (pe_op op_mod (pe_callTy call_int1 (by rfl) m_int (by decide +kernel) (pa_cons (pe_op op_add (pe_op op_fdiv (pe_ix ix_list (pv 0) pe_int (fun _ _ => rfl)) pe_int) (pe_op op_mul (pe_op op_mod (pe_callTy call_int1 (by rfl) m_int (by decide +kernel) (pa_cons (pe_ix ix_list (pv 0) pe_int (fun _ _ => rfl)) pa_nil)) pe_int) pe_int)) pa_nil)) (pv 1)))))))), ?_⟩
    refine ⟨_, rfl, b, bagL l i u sd c, 4, _, rfl, rfl, SqL.of hb, rfl, _, _, rfl, rfl, _, rfl, b, _, 4, 4, rfl, rfl, hb, rfl, ?_⟩
    show Evl.tCut _ _ _ _ (upd H b (.lst (bagL l i u sd (c + 1))))
    refine ⟨fun σ' H' => ∃ (i' : Nat) (u' sd' : Int) (v : Option V), σ' = [some (.ref b), some (.int m), v, none] ∧ H' = upd H b (.lst (bagL l i' u' sd' (c + 1))) ∧ i' ≤ ns.length ∧ 0 ≤ u' ∧ 0 ≤ sd' ∧ sd' < 2147483629, ?_, ?_⟩
    · have hl1 : ∀ o, upd H b o l = some (.lst (ns.map V.int)) := fun o => by rw [upd_ne nlb]; exact hl
      refine ⟨_, rfl, b, _, 2, _, rfl, rfl, SqL.of upd_same, rfl, rfl, _, rfl, ite2 (fun e0 => ?_) (fun e0 => ?_)⟩
      · refine ⟨_, rfl, b, _, 1, _, rfl, rfl, SqL.of upd_same, rfl, _, rfl, b, _, 0, _, rfl, rfl, SqL.of upd_same, rfl, l, _, rfl, .inl (SqL.of (hl1 _)), _, _, rfl, rfl, _, rfl, ite2 (fun e1 => ?_) (fun e1 => ?_)⟩
        · have hlt : i < ns.length := by
            have q := of_decide_eq_true e1
            rw [List.length_map] at q
            exact Int.ofNat_lt.mp q
          have hat : atI (ns.map V.int) (i : Int) = some (.int ns[i]) := atI_nat (by rw [List.getElem?_map, List.getElem?_eq_getElem hlt]; rfl)
          refine ⟨_, rfl, b, _, 0, _, rfl, rfl, SqL.of upd_same, rfl, _, rfl, b, _, 1, _, rfl, rfl, SqL.of upd_same, rfl, l, _, _, _, rfl, rfl, SqL.of (hl1 _), hat, ?_⟩
          refine ⟨_, rfl, b, _, 1, _, rfl, rfl, SqL.of upd_same, rfl, _, _, rfl, rfl, _, rfl, b, _, 1, 1, rfl, rfl, upd_same, rfl, ?_⟩
          refine ⟨_, rfl, _, _, rfl, rfl, ⟨by decide, by decide, by decide⟩, _, _, rfl, rfl, _, rfl, ite2 (fun e2 => ?_) (fun e2 => ?_)⟩
          · refine ⟨_, rfl, _, rfl, b, _, 2, 2, rfl, rfl, upd_same, rfl, ?_⟩
            refine ⟨i + 1, ns[i], sd, _, rfl, ?_, hlt, ?_, hs0, hs1⟩
            · rw [upd_upd, upd_upd]
              rfl
            · have q := of_decide_eq_true e2
              exact Int.le_trans (by decide) q
          · refine ⟨_, rfl, b, _, 3, _, rfl, rfl, SqL.of upd_same, rfl, _, _, rfl, rfl, .inr ⟨by decide, by decide⟩, _, rfl, .inl ⟨_, rfl, _, _, rfl, rfl, (by show (0 : Int) < 2147483549; decide), _, _, rfl, rfl, .inr ⟨by decide, by decide⟩, _, _, rfl, rfl, _, _, rfl, rfl, .inl ⟨_, rfl, _, _, rfl, rfl, (by show (0 : Int) < 2147483629; decide), _, rfl, b, _, 3, 3, rfl, rfl, upd_same, rfl, ?_⟩⟩⟩
            refine ⟨i + 1, u, (sd * 40692 + ns[i] % 2147483549 * 30011 + 71) % 2147483629, _, rfl, ?_, hlt, hu, Int.emod_nonneg _ (by decide), Int.emod_lt_of_pos _ (by decide)⟩
            rw [upd_upd, upd_upd]
            rfl
        · exact ⟨i, u, sd, _, rfl, rfl, hi, hu, hs0, hs1⟩
      · exact iteF ⟨i, u, sd, _, rfl, rfl, hi, hu, hs0, hs1⟩
    · rintro σ' H' ⟨i', u', sd', v, rfl, rfl, g1, g2, g3, g4⟩
      have hmod : ∀ z : Int, 0 ≤ z % m ∧ z % m < m := fun z => ⟨Int.emod_nonneg _ (by omega), Int.emod_lt_of_pos _ (by omega)⟩
      refine ⟨_, rfl, b, _, 2, _, rfl, rfl, SqL.of upd_same, rfl, _, _, rfl, rfl, _, rfl, ite2 (fun e0 => ?_) (fun e0 => ?_)⟩
      · refine ⟨_, rfl, b, _, 2, _, rfl, rfl, SqL.of upd_same, rfl, .inl ⟨_, rfl, _, rfl, _, _, rfl, rfl, (by show 0 < m; omega), ?_⟩⟩
        refine ⟨_, rfl, b, _, 2, _, rfl, rfl, SqL.of upd_same, rfl, _, rfl, _, _, rfl, rfl, ⟨(by show 0 < m; omega), (by show m < 1073741824; omega)⟩, _, rfl, b, _, 2, 2, rfl, rfl, upd_same, rfl, ?_⟩
        refine ⟨_, rfl, ?_⟩
        rw [upd_upd]
        exact k _ _ (bag i' (u' / m) sd' (c + 1) g1 (Int.ediv_nonneg g2 (by omega)) g3 g4) (hmod _).1 (hmod _).2
      · refine ⟨_, rfl, b, _, 3, _, rfl, rfl, SqL.of upd_same, rfl, _, _, rfl, rfl, ⟨by decide, by decide, by show sd'.natAbs < 2 ^ 64; omega⟩, _, rfl, b, _, 4, _, rfl, rfl, SqL.of upd_same, rfl, _, _, rfl, rfl, .inr ⟨by decide, by decide⟩, _, _, rfl, rfl, _, _, rfl, rfl, .inl ⟨_, rfl, _, _, rfl, rfl, (by show (0 : Int) < 2147483629; decide), _, rfl, b, _, 3, 3, rfl, rfl, upd_same, rfl, ?_⟩⟩
        refine ⟨_, rfl, b, _, 3, _, rfl, rfl, SqL.of upd_same, rfl, _, _, rfl, rfl, ⟨(by show (0 : Int) < 89; decide), (by show (89 : Int) < 1073741824; decide)⟩, _, rfl, b, _, 3, _, rfl, rfl, SqL.of upd_same, rfl, .inl ⟨_, rfl, _, _, rfl, rfl, (by show (0 : Int) < 7907; decide), _, _, rfl, rfl, .inr ⟨by decide, by decide⟩, _, _, rfl, rfl, .inl ⟨_, rfl, _, rfl, _, _, rfl, rfl, (by show 0 < m; omega), ?_⟩⟩⟩
        rw [upd_upd]
        exact k _ _ (bag i' u' _ (c + 1) g1 g2 (Int.emod_nonneg _ (by decide)) (Int.emod_lt_of_pos _ (by decide))) (hmod _).1 (hmod _).2
end
end K02
set_option Elab.async false
set_option linter.all false
set_option maxRecDepth 100000
set_option maxHeartbeats 4000000
namespace K02
open PySem PySem.Spec PyProof.Rows L2
section
variable {P : Program} {w : World} {K : PySem.W.Frag} {mg : Str → Option Value} {base : Heap}
def spOf : Sp := fun vs H Q _ => ∃ (g : Bg) (t : Addr) (xs : List V), vs = [.ref g.b, .ref t] ∧ Bag g H ∧ H t = some (.lst xs) ∧ t ≠ g.b ∧ 1 ≤ xs.length ∧ xs.length < 1000 ∧ ∀ v H', v ∈ xs → Drew g H H' → Q v H'
theorem sc_of : FnScope ["_law_bag_here", "_law_things"] ["_law_bag_here", "_law_things"] (defScope (top 41)) := ⟨rfl, rfl, rfl, by decide +kernel, rfl, by decide +kernel, by decide +kernel⟩
theorem ok_of {f : Addr} {fd : FuncData} (F : FnP K "_law_of" (top 41) f fd) (m_len : mg "len" = none) (c__law_draw : Cal P w K mg base CX0 "_law_draw" 1 ["_law_bag_here", "_law_many"] spDraw) : FnOk P w K mg base CX0 2 f fd ["_law_bag_here", "_law_things"] spOf := by
  have sc := sc_of
  refine F.ok sc (fun vs H Q E h => ?_) (fun cdv A outer s H vs Q E hr__law_draw h => ?_)
  · obtain ⟨g, t, xs, rfl, _⟩ := h
    rfl
  · obtain ⟨g, t, xs, rfl, hB, ht, ntb, h1, h2, k⟩ := h
    refine ⟨_, PSs.nox (pss_one (ps_ret (pe_ix ix_list (pv 1) (pe_cal c__law_draw hr__law_draw rfl (pa_cons (pv 0) (pa_cons (pe_callB call_len_seq (by rfl) m_len (by decide +kernel) (pa_cons (pv 1) pa_nil)) pa_nil))) (fun _ _ => rfl)))), ?_⟩
    refine ⟨_, rfl, _, rfl, _, rfl, t, _, rfl, .inl (SqL.of ht), g, _, rfl, hB, (by omega), (by omega), fun d H' hD h0 hd => ?_⟩
    obtain ⟨j, rfl⟩ : ∃ j : Nat, d = (j : Int) := ⟨d.toNat, by omega⟩
    have hlt : j < xs.length := by omega
    have hat : atI xs (j : Int) = some xs[j] := atI_nat (List.getElem?_eq_getElem hlt)
    exact ⟨t, xs, _, _, rfl, rfl, SqL.of (hD.1 _ _ ntb ht), hat, k _ _ (List.getElem_mem hlt) hD⟩
end
end K02
set_option Elab.async false
set_option linter.all false
set_option maxRecDepth 100000
set_option maxHeartbeats 4000000
namespace K02
open PySem PySem.Spec PyProof.Rows L2 RowM LamX
section
variable {K : PySem.W.Frag} {H H' : Hp} {g : Bg} {a : Addr} {xs : List V} {v : V} {f : Form}
theorem sqT_drew (B : Bag g H) (d : Drew g H H') (h : SqT K H a xs) : SqT K H' a xs := by
  obtain ⟨i, u, sd, c, hb, _⟩ := B
  rcases h with (h | ⟨o, h⟩) | h
  · exact .inl (.inl (d.1 _ _ (fun z => by rw [z, hb] at h; cases h) h))
  · exact .inl (.inr ⟨o, d.1 _ _ (fun z => by rw [z, hb] at h; cases h) h⟩)
  · exact .inr h
theorem FmV.drew (B : Bag g H) (d : Drew g H H') (h : FmV K H v f) : FmV K H' v f := by
  obtain ⟨p, l, t, r, e, hp, h4⟩ := h
  exact ⟨p, l, t, r, e, sqT_drew B d hp, sqT_drew B d h4.left, sqT_drew B d h4.told, sqT_drew B d h4.right⟩
theorem RowV.drew {C : Addr} (B : Bag g H) (d : Drew g H H') (h : RowV K C H v f) : RowV K C H' v f := by
  obtain ⟨a, dx, l, t, r, e, ha, h4⟩ := h
  refine ⟨a, dx, l, t, r, e, d.1 _ _ (fun z => ?_) ha, sqT_drew B d h4.left, sqT_drew B d h4.told, sqT_drew B d h4.right⟩
  obtain ⟨i, u, sd, c, hb, _⟩ := B
  rw [z, hb] at ha
  cases ha
theorem tabs_same {T : List (Addr × Str)} {H1 : Hp} (t : Tabs T H) (s : Same H H1) : Tabs T H1 := t.ext fun b o e => s b o e
theorem tabs_drew {T : List (Addr × Str)} {H1 : Hp} (t : Tabs T H) (B : Bag g H) (d : Drew g H H1) : Tabs T H1 := fun p hp => by
  obtain ⟨i, u, sd, c, hb, _⟩ := B
  obtain ⟨ps, h1, h2, h3⟩ := t p hp
  refine ⟨ps, d.1 _ _ (fun z => by rw [z, hb] at h1; cases h1) h1, h2, fun pos cv hc => ?_⟩
  obtain ⟨c0, e1, e2⟩ := h3 pos cv hc
  refine ⟨c0, e1, d.1 _ _ (fun z => ?_) e2⟩
  rw [z, hb] at e2
  unfold CodeO at e2
  cases e2
end
section
variable {P : Program} {w : World} {K : PySem.W.Frag} {mg : Str → Option Value} {base : Heap}
/-! ### whether two models are one row -/
def dFm (f : Form) : PyData := .tuple [dN f.left, dN f.told, dN f.right, .int f.start]
theorem dp_fm {H : Hp} {p l t r : Addr} {f : Form} (hp : SqT K H p [.ref l, .ref t, .ref r, .int f.start]) (h : Fm4 K H l t r f) : Dp K H (.ref p) (dFm f) := .tup hp (.cons (dp_nv h.left) (.cons (dp_nv h.told) (.cons (dp_nv h.right) (.cons (.int _) .nil))))
theorem shaped_fm (f : Form) : SeqAt.shaped (dFm f) = true := by
  unfold SeqAt.shaped dFm PyData.canLay0 PyData.depth
  unfold PyData.canLayAll0 PyData.depthAll
  unfold PyData.canLayAll0 PyData.depthAll
  unfold PyData.canLayAll0 PyData.depthAll
  unfold PyData.canLayAll0 PyData.depthAll
  unfold PyData.canLayAll0 PyData.depthAll
  rw [canLay_nv, canLay_nv, canLay_nv, depth_nv, depth_nv, depth_nv]
  rfl
theorem eqv_fm (f g : Form) : PyData.eqv (dFm f) (dFm g) = decide (f = g) := by
  unfold dFm
  rw [show PyData.eqv (.tuple [dN f.left, dN f.told, dN f.right, .int f.start]) (.tuple [dN g.left, dN g.told, dN g.right, .int g.start]) = PyData.eqvAll _ _ by unfold PyData.eqv; rfl]
  unfold PyData.eqvAll
  unfold PyData.eqvAll
  unfold PyData.eqvAll
  unfold PyData.eqvAll
  unfold PyData.eqvAll
  rw [eqv_nv, eqv_nv, eqv_nv]
  rw [show PyData.eqv (.int f.start) (.int g.start) = decide (f.start = g.start) by unfold PyData.eqv; rfl]
  rw [Bool.and_true, ← Bool.decide_and, ← Bool.decide_and, ← Bool.decide_and]
  refine decide_eq_decide.mpr ?_
  obtain ⟨a, b, c, d⟩ := f
  obtain ⟨a', b', c', d'⟩ := g
  constructor
  · rintro ⟨h1, h2, h3, h4⟩
    dsimp only at h1 h2 h3 h4
    rw [h1, h2, h3, h4]
  · intro h
    injection h with h1 h2 h3 h4
    exact ⟨h1, h2, h3, h4⟩
def spLSame (K : PySem.W.Frag) : Sp := fun vs H Q _ => ∃ (x y : V) (f g : Form), vs = [x, y] ∧ FmV K H x f ∧ FmV K H y g ∧ Ok f ∧ Ok g ∧ Big f 1000 1000 (2 ^ 40) ∧ Big g 1000 1000 (2 ^ 40) ∧ ∀ H' b, Same H H' → (b = true ↔ ∀ c, sign f c = sign g c) → Q (.bl b) H'
theorem sc_lsame : FnScope ["_law_one", "_law_two"] ["_law_one", "_law_two"] (defScope (top 57)) := ⟨rfl, rfl, rfl, by decide +kernel, rfl, by decide +kernel, by decide +kernel⟩
theorem ok_lsame {f : Addr} {fd : FuncData} (F : FnP K "_law_same" (top 57) f fd) (c__law_least : Cal P w K mg base CX0 "_law_least" 4 ["_law_model_here"] (spLLeast K)) : FnOk P w K mg base CX0 5 f fd ["_law_one", "_law_two"] (spLSame K) := by
  have sc := sc_lsame
  refine F.ok sc (fun vs H Q E h => ?_) (fun cdv A outer s H vs Q E hr h => ?_)
  · obtain ⟨x, y, f, g, rfl, _⟩ := h
    rfl
  · obtain ⟨x, y, f, g, rfl, hx, hy, o1, o2, b1, b2, q⟩ := h
    have hr__law_least : Room 4 _ := hr
    refine ⟨_, PSs.nox (pss_one (ps_ret (pe_cmpR (show OpR _ _ (rEqD K) from op_eqD hr.units) (pe_cal c__law_least hr__law_least rfl (pa_cons (pv 0) pa_nil)) (pe_cal c__law_least hr__law_least rfl (pa_cons (pv 1) pa_nil)) (nomark _)))), ?_⟩
    refine ⟨_, rfl, x, f, _, _, _, rfl, hx, o1, b1, Nat.le_refl _, by decide, Nat.le_refl _, fun v' H1 f' s1 hv1 lf1 big1 => ?_⟩
    refine ⟨_, rfl, y, g, _, _, _, rfl, hy.same s1, o2, b2, Nat.le_refl _, by decide, Nat.le_refl _, fun v2 H2 g' s2 hv2 lf2 big2 => ?_⟩
    obtain ⟨p, l, t, r, rfl, hp, h4⟩ := hv1.same s2
    obtain ⟨p', l', t', r', rfl, hp', h4'⟩ := hv2
    refine ⟨_, _, dp_fm hp h4, dp_fm hp' h4', shaped_fm _, shaped_fm _, ?_⟩
    rw [eqv_fm]
    exact q H2 _ (s1.trans s2) (by rw [decide_eq_true_iff]; exact lf1.eq_iff lf2)
end
end K02
set_option Elab.async false
set_option linter.all false
set_option maxRecDepth 100000
set_option maxHeartbeats 4000000
namespace K02
open PySem PySem.Spec PyProof.Rows L2 RowM LamX
section
variable {P : Program} {w : World} {K : PySem.W.Frag} {mg : Str → Option Value} {base : Heap}
/-! ### a word put -/
def spPut (K : PySem.W.Frag) : Sp := fun vs H Q _ => ∃ (v : V) (c : Int) (u : Addr) (xs : List Nat) (f : Form) (n z : Nat), vs = [v, .int c, .ref u] ∧ FmV K H v f ∧ Ok f ∧ Big f n 12 z ∧ n ≤ 1000 ∧ z ≤ 2 ^ 30 ∧ SqT K H u (nv xs) ∧ xs.length ≤ 20 ∧ (c - f.start).natAbs ≤ 20 ∧
  ∀ v' H' f', Same H H' → FmV K H' v' f' → Ok f' → (∀ x, sign f' x = putG (sign f) c xs x) → Big f' n 60 (z + 100) → Q v' H'
theorem sc_put : FnScope ["_law_model_here", "_law_at", "_law_word_here", "_law_lead", "_law_body", "_law_tail", "_law_base", "_law_first", "_law_end", "_law_cells_here"] ["_law_model_here", "_law_at", "_law_word_here"] (defScope (top 55)) := ⟨rfl, rfl, rfl, by decide +kernel, rfl, by decide +kernel, by decide +kernel⟩
theorem ok_put {f : Addr} {fd : FuncData} (F : FnP K "_law_put" (top 55) f fd) (m_len : mg "len" = none) (m_min : mg "min" = none) (m_max : mg "max" = none) (c__law_cells : Cal P w K mg base CX0 "_law_cells" 2 ["_law_model_here", "_law_first", "_law_end"] (spStr K)) : FnOk P w K mg base CX0 3 f fd ["_law_model_here", "_law_at", "_law_word_here"] (spPut K) := by
  have sc := sc_put
  refine F.ok sc (fun vs H Q E h => ?_) (fun cdv A outer s H vs Q E hr h => ?_)
  · obtain ⟨v, c, u, xs, f, n, z, rfl, _⟩ := h
    rfl
  · obtain ⟨v, c, u, xs, g, n, z, rfl, hv, ho, hb, hn, hz, hu, hxs, hc, q⟩ := h
    obtain ⟨p0, l, t, r, rfl, hp, h4⟩ := id hv
    have hr__law_cells : Room 2 _ := hr
    have bl := hb.l
    have bt := hb.t
    have br := hb.r
    have bs := hb.s
    refine ⟨_, PSs.nox (pss_cons (ps_asg (pv 0) (pg_tup rfl (pgs_cons (pg_name (i := 3) sc.nd rfl (Or.inl rfl)) (pgs_cons (pg_name (i := 4) sc.nd rfl (Or.inl rfl)) (pgs_cons (pg_name (i := 5) sc.nd rfl (Or.inl rfl)) (pgs_cons (pg_name (i := 6) sc.nd rfl (Or.inl rfl)) pgs_nil))))))
      (pss_cons (ps_if (pt_cmpR (show OpR _ _ (rEqD K) from op_eqD hr.units) (pv 2) (pe_tup pa_nil) (nomark _)) (pss_one (ps_ret (pv 0))) pss_nil)
      (pss_cons (ps_par (i := 7) (j := 8) rfl sc.nd rfl rfl (by decide) rfl rfl (pa_cons (pe_callB (call_min2 rfl) (by rfl) m_min (by decide +kernel) (pa_cons (pv 6) (pa_cons (pv 1) pa_nil))) (pa_cons (pe_callB (call_max2 rfl) (by rfl) m_max (by decide +kernel) (pa_cons (pe_op op_add (pv 6) (pe_callB call_len_seq (by rfl) m_len (by decide +kernel) (pa_cons (pv 4) pa_nil))) (pa_cons (pe_op op_add (pv 1) (pe_callB call_len_seq (by rfl) m_len (by decide +kernel) (pa_cons (pv 2) pa_nil))) pa_nil))) pa_nil)) (by rfl))
      (pss_cons (ps_set (i := 9) sc.nd rfl (Or.inl rfl) (pe_op (show OpR _ (binaryOp .Add) (rCatA K) from op_catA) (pe_op (show OpR _ (binaryOp .Add) (rCatA K) from op_catA) (pe_cal c__law_cells hr__law_cells rfl (pa_cons (pv 0) (pa_cons (pv 7) (pa_cons (pv 1) pa_nil)))) (pv 2)) (pe_cal c__law_cells hr__law_cells rfl (pa_cons (pv 0) (pa_cons (pe_op op_add (pv 1) (pe_callB call_len_seq (by rfl) m_len (by decide +kernel) (pa_cons (pv 2) pa_nil))) (pa_cons (pv 8) pa_nil))))))
      (pss_one (ps_ret (pe_tup (pa_cons (pe_cal c__law_cells hr__law_cells rfl (pa_cons (pv 0) (pa_cons (pe_op op_sub (pv 7) (pe_callB call_len_seq (by rfl) m_len (by decide +kernel) (pa_cons (pv 3) pa_nil))) (pa_cons (pv 7) pa_nil)))) (pa_cons (pv 9) (pa_cons (pe_cal c__law_cells hr__law_cells rfl (pa_cons (pv 0) (pa_cons (pv 8) (pa_cons (pe_op op_add (pv 8) (pe_callB call_len_seq (by rfl) m_len (by decide +kernel) (pa_cons (pv 5) pa_nil))) pa_nil)))) (pa_cons (pv 7) pa_nil))))))))))), ?_⟩
    refine ⟨_, rfl, p0, _, rfl, hp, rfl, _, _, rfl, _, _, rfl, _, _, rfl, _, _, rfl, rfl, ?_⟩
    refine ⟨_, rfl, Nat.zero_le _, fun e hE => ?_⟩
    have s1 : Same H (upd H e (.tup [])) := Same.new hE
    have hE1 : SqT K (upd H e (.tup [])) e (nv []) := SqT.of upd_same
    generalize upd H e (.tup []) = H1 at s1 hE1
    refine eq_nv (same_T s1 hu) hE1 ⟨_, rfl, ?_⟩
    by_cases cx : xs = []
    · subst cx
      refine iteT_of (decide_eq_true rfl) ⟨_, rfl, q _ H1 g s1 (hv.same s1) ho (fun x => by rw [putG_nil]) ⟨bl, by omega, br, by omega⟩⟩
    refine iteF_of (decide_eq_false cx) ?_
    have h41 := h4.same s1
    have hv1 := hv.same s1
    refine ⟨_, rfl, _, rfl, _, _, rfl, _, rfl, _, rfl, t, _, rfl, .inr h41.told, _, _, rfl, rfl, _, rfl, _, rfl, u, _, rfl, .inr (same_T s1 hu), _, _, rfl, rfl, _, _, rfl, _, _, rfl, ?_⟩
    rw [len_nv, len_nv]
    have eb : (if c < g.start then c else g.start) = min g.start c := by
      split <;> omega
    have ee : (if c + (xs.length : Int) > g.start + (g.told.length : Int) then c + (xs.length : Int) else g.start + (g.told.length : Int)) = max (g.start + (g.told.length : Int)) (c + (xs.length : Int)) := by
      split <;> omega
    rw [eb, ee]
    obtain ⟨b0, hb0⟩ : ∃ b0, b0 = min g.start c := ⟨_, rfl⟩
    obtain ⟨e0, he0⟩ : ∃ e0, e0 = max (g.start + (g.told.length : Int)) (c + (xs.length : Int)) := ⟨_, rfl⟩
    rw [← hb0, ← he0]
    have g1 : b0 ≤ g.start := by omega
    have g2 : b0 ≤ c := by omega
    have g3 : g.start + (g.told.length : Int) ≤ e0 := by omega
    have g4 : c + (xs.length : Int) ≤ e0 := by omega
    have g5 : b0.natAbs ≤ z + 100 := by omega
    have g6 : e0 - b0 ≤ 60 := by omega
    have g7 : e0.natAbs ≤ z + 600 := by omega
    clear hb0 he0 eb ee
    refine ⟨_, rfl, _, rfl, _, rfl, _, b0, c, g, rfl, hv1, ho, by omega, by omega, by omega, fun p1 H2 s2 hp1 => ?_⟩
    have s02 := s1.trans s2
    refine ⟨_, rfl, catT hp1 (same_T s02 hu) (by rw [len_nv, len_nv, cells_len, sizeLine_eq]; omega) fun p2 H3 s3 hp2 => ?_⟩
    have s03 := s02.trans s3
    refine ⟨_, rfl, _, rfl, _, rfl, u, _, rfl, .inr (same_T s03 hu), _, _, rfl, rfl, _, rfl, ?_⟩
    rw [len_nv]
    refine ⟨_, c + (xs.length : Int), e0, g, rfl, hv.same s03, ho, by omega, by omega, by omega, fun p3 H4 s4 hp3 => ?_⟩
    have s04 := s03.trans s4
    refine catT (same_T s4 hp2) hp3 (by rw [List.length_append, len_nv, len_nv, len_nv, cells_len, cells_len, sizeLine_eq]; omega) fun p4 H5 s5 hp4 => ?_
    have s05 := s04.trans s5
    have h45 := h4.same s05
    refine ⟨_, rfl, _, rfl, _, rfl, l, _, rfl, .inr h45.left, _, _, rfl, rfl, _, rfl, ?_⟩
    rw [len_nv]
    refine ⟨_, b0 - (g.left.length : Int), b0, g, rfl, hv.same s05, ho, by omega, by omega, by omega, fun p5 H6 s6 hp5 => ?_⟩
    have s06 := s05.trans s6
    have h46 := h4.same s06
    refine ⟨_, rfl, _, rfl, _, rfl, _, rfl, _, rfl, r, _, rfl, .inr h46.right, _, _, rfl, rfl, ?_⟩
    rw [len_nv]
    refine ⟨_, e0, e0 + (g.right.length : Int), g, rfl, hv.same s06, ho, by omega, by omega, by omega, fun p6 H7 s7 hp6 => ?_⟩
    have s07 := s06.trans s7
    rw [show (b0 - (b0 - (g.left.length : Int))).toNat = g.left.length by omega] at hp5
    rw [show (e0 + (g.right.length : Int) - e0).toNat = g.right.length by omega] at hp6
    rw [← List.map_append, ← List.map_append] at hp4
    let F : Form := ⟨cells (sign g) (b0 - (g.left.length : Int)) g.left.length, cells (sign g) b0 (c - b0).toNat ++ xs ++ cells (sign g) (c + (xs.length : Int)) (e0 - (c + (xs.length : Int))).toNat, cells (sign g) e0 g.right.length, b0⟩
    have eF : ∀ x, sign F x = putG (sign g) c xs x := fun x => sign_put ho.l1 ho.r1 ((sign_LT (f := g)).per ho.l1) (sign_RT (f := g)).per g1 g2 g3 g4 (by omega) x
    refine ⟨_, rfl, (by show 4 ≤ sizeLine; decide), fun p7 hp7 => ?_⟩
    have s8 : Same H7 (upd H7 p7 (.tup [.ref p5, .ref p4, .ref p6, .int b0])) := Same.new hp7
    refine q _ _ F (s07.trans s8) ⟨p7, p5, p4, p6, rfl, SqT.of upd_same, same_T s8 (same_T s7 hp5), same_T s8 (same_T (s6.trans s7) hp4), same_T s8 hp6⟩ ⟨?_, ?_⟩ eF ⟨?_, ?_, ?_, g5⟩
    · show 1 ≤ (cells _ _ _).length
      rw [cells_len]
      exact ho.l1
    · show 1 ≤ (cells _ _ _).length
      rw [cells_len]
      exact ho.r1
    · show (cells _ _ _).length ≤ n
      rw [cells_len]
      exact bl
    · show (cells _ _ _ ++ xs ++ cells _ _ _).length ≤ 60
      rw [List.length_append, List.length_append, cells_len, cells_len]
      omega
    · show (cells _ _ _).length ≤ n
      rw [cells_len]
      exact br
/-! ### a drawn word -/
def spLWord (K : PySem.W.Frag) : Sp := fun vs H Q _ => ∃ (g : Bg) (k n : Nat), vs = [.ref g.b, .int (k : Int), .int (n : Int)] ∧ Bag g H ∧ k ≤ 1000 ∧ 1 ≤ n ∧ n ≤ 1000 ∧ ∀ p H' xs, Drew g H H' → SqT K H' p (nv xs) → xs.length = k → (∀ x ∈ xs, x < n) → Q (.ref p) H'
theorem sc_lword : FnScope ["_law_bag_here", "_law_size", "_law_n", "_law_k"] ["_law_bag_here", "_law_size", "_law_n"] (defScope (top 51)) := ⟨rfl, rfl, rfl, by decide +kernel, rfl, by decide +kernel, by decide +kernel⟩
theorem ok_lword {f : Addr} {fd : FuncData} (F : FnP K "_law_word" (top 51) f fd) (m_range : mg "range" = none) (m_tuple : mg "tuple" = none) (c__law_draw : Cal P w K mg base CX0 "_law_draw" 1 ["_law_bag_here", "_law_many"] spDraw) : FnOk P w K mg base CX0 2 f fd ["_law_bag_here", "_law_size", "_law_n"] (spLWord K) := by
  have sc := sc_lword
  refine F.ok sc (fun vs H Q E h => ?_) (fun cdv A outer s H vs Q E hr h => ?_)
  · obtain ⟨g, k, n, rfl, _⟩ := h
    rfl
  · obtain ⟨g, k, n, rfl, hB, hk, h1, h2, q⟩ := h
    have hr__law_draw : Room 1 _ := hr
    refine ⟨_, PSs.nox (pss_one (ps_ret (pe_callTy call_tuple_of (by rfl) m_tuple (by decide +kernel) (pa_cons (pe_lc (own := [("_law_k", 3)]) (g := gName 3) rfl sc.nd (pi_range1 rfl m_range (pa_cons (pv 1) pa_nil)) (blkOk_by (N := ["_law_bag_here", "_law_size", "_law_n", "_law_k"]) (sc := defScope (top 51)) (by decide +kernel)) (fun _ _ _ _ _ => (pg_name (i := 3) sc.nd rfl (Or.inl rfl))) (fun _ _ _ _ _ => pts_nil) (fun _ _ _ _ _ => (pe_cal c__law_draw hr__law_draw rfl (pa_cons (pv 0) (pa_cons (pv 2) pa_nil))))) pa_nil)))), ?_⟩
    refine ⟨_, rfl, _, rfl, by omega, by omega, fun D hD => ?_⟩
    refine lc_it (walk_range (lo := 0) (n := k)) (fun i H' => (∀ a o, a ≠ D → a ≠ g.b → H a = some o → H' a = some o) ∧ Bag g H' ∧ ∃ xs : List Nat, xs.length = i ∧ (∀ x ∈ xs, x < n) ∧ H' D = some (.lst (nv xs))) ⟨fun a o na _ e => by rw [upd_ne na]; exact e, hB.upd (hB.ne hD) (hB.nl hD), [], rfl, by simp, upd_same⟩ (fun _ _ _ _ => trivial) ?_ ?_
    · rintro i x H' H'' hi ⟨k1, hB1, xs, h3, h4, h5⟩ ⟨rfl, rfl⟩
      have nDb : D ≠ g.b := hB.ne hD
      refine ⟨rfl, yes_of (iteT ?_)⟩
      refine ⟨_, rfl, _, rfl, g, _, rfl, hB1, by omega, by omega, fun d H2 dr d0 d1 => ?_⟩
      obtain ⟨e, he⟩ : ∃ e : Nat, d = (e : Int) := ⟨d.toNat, by omega⟩
      subst he
      refine ⟨_, dr.1 _ _ nDb h5, by rw [len_nv, h3, sizeLine_eq]; omega, fun a o na nb z => by rw [upd_ne na]; exact dr.1 _ _ nb (k1 a o na nb z), ?_, xs ++ [e], by simp [h3], fun x hx => ?_, by rw [upd_same]; simp [nv]⟩
      · exact dr.2.upd nDb (hB.nl hD)
      · rcases List.mem_append.mp hx with z | z
        · exact h4 x z
        · rw [List.mem_singleton.mp z]
          omega
    · rintro H' ⟨k1, hB1, xs, h3, h4, h5⟩
      refine ⟨D, _, rfl, .inl ⟨SqL.of h5, fun p hp => ?_⟩⟩
      refine q p _ xs ⟨fun a o n e => ?_, hB1.same (Same.new hp)⟩ (SqT.of upd_same) h3 h4
      exact Same.new hp _ _ (k1 a o (ne_of_none e hD) n e)
end
end K02
set_option Elab.async false
set_option linter.all false
set_option maxRecDepth 100000
set_option maxHeartbeats 4000000
namespace K02
open PySem PySem.Spec PyProof.Rows L2 RowM LamX
theorem sg_getD {xs : List Nat} (h : Sg xs) {i : Nat} (hi : i < xs.length) : xs.getD i 0 < 64 := by
  rw [List.getD_eq_getElem?_getD, List.getElem?_eq_getElem hi]
  exact h _ (List.getElem_mem hi)
theorem sg_of {xs : List Nat} (h : ∀ i, i < xs.length → xs.getD i 0 < 64) : Sg xs := fun x hx => by
  obtain ⟨i, hi⟩ := List.mem_iff_getElem?.mp hx
  obtain ⟨il, _⟩ := List.getElem?_eq_some_iff.mp hi
  have := h i il
  rw [List.getD_eq_getElem?_getD, hi] at this
  exact this
theorem sign_sg {f : Form} (h : Sgs f) (ho : Ok f) (c : Int) : sign f c < 64 := by
  unfold sign
  have l1 := ho.l1
  have r1 := ho.r1
  by_cases c1 : c < f.start
  · rw [if_pos c1]
    obtain ⟨j, e1, e2, e3⟩ := mod_at (c := c - f.start) l1
    rw [e3]
    exact sg_getD h.l e2
  rw [if_neg c1]
  by_cases c2 : c - f.start < (f.told.length : Int)
  · rw [if_pos c2]
    exact sg_getD h.t (by omega)
  · rw [if_neg c2]
    obtain ⟨j, e1, e2, e3⟩ := mod_at (c := c - f.start - (f.told.length : Int)) r1
    rw [e3]
    exact sg_getD h.r e2
theorem sgs_of {f : Form} (h : ∀ c, sign f c < 64) : Sgs f := by
  refine ⟨sg_of fun i hi => ?_, sg_of fun i hi => ?_, sg_of fun i hi => ?_⟩
  · rw [← sign_LT (f := f) 0 i hi]
    exact h _
  · rw [← sign_told hi]
    exact h _
  · have := sign_RT (f := f) i
    rw [Nat.mod_eq_of_lt hi] at this
    rw [← this]
    exact h _
theorem least_sgs {g f : Form} (h : Least (sign g) f) (hs : Sgs g) (ho : Ok g) : Sgs f := sgs_of fun c => by
  rw [h.sign c]
  exact sign_sg hs ho c
section
variable {P : Program} {w : World} {K : PySem.W.Frag} {mg : Str → Option Value} {base : Heap}
/-! ### the text of a model's row -/
def spLRep (K : PySem.W.Frag) : Sp := fun vs H Q _ => ∃ (v : V) (g : Form), vs = [v] ∧ FmV K H v g ∧ Ok g ∧ Sgs g ∧ Big g 1000 1000 (2 ^ 40) ∧ ∀ f' H', Same H H' → Least (sign g) f' → Q (.str (rowT f')) H'
theorem sc_lrep : FnScope ["_law_model_here", "_law_lead", "_law_body", "_law_tail", "_law_base"] ["_law_model_here"] (defScope (top 59)) := ⟨rfl, rfl, rfl, by decide +kernel, rfl, by decide +kernel, by decide +kernel⟩
theorem ok_lrep {f : Addr} {fd : FuncData} (F : FnP K "_law_repr" (top 59) f fd) (m_repr : mg "repr" = none) (m_str : mg "str" = none) (c__law_least : Cal P w K mg base CX0 "_law_least" 4 ["_law_model_here"] (spLLeast K)) : FnG P w K mg base CX0 5 f (spLRep K) := by
  have sc := sc_lrep
  refine fnG_of F sc (F.bindsN (ps := ["_law_model_here"]) fun _ _ _ _ _ _ us hl => match us, hl with | [_], _ => rfl) (fun vs H Q E h => ?_) (fun cdv A outer s H vs Q E hq0 hr h => ?_)
  · obtain ⟨v, g, rfl, _⟩ := h
    rfl
  · obtain ⟨v, g, rfl, hv, ho, hs, hb, q⟩ := h
    have hq : Quiet (cxOf CX0 P w K mg base ["_law_model_here", "_law_lead", "_law_body", "_law_tail", "_law_base"] "_law_repr" (defScope (top 59)) f cdv A outer s H E).nox.A := hq0
    have hr__law_least : Room 4 _ := hr
    refine ⟨_, PSs.nox (pss_cons (ps_asg (pe_cal c__law_least hr__law_least rfl (pa_cons (pv 0) pa_nil)) (pg_tup rfl (pgs_cons (pg_name (i := 1) sc.nd rfl (Or.inl rfl)) (pgs_cons (pg_name (i := 2) sc.nd rfl (Or.inl rfl)) (pgs_cons (pg_name (i := 3) sc.nd rfl (Or.inl rfl)) (pgs_cons (pg_name (i := 4) sc.nd rfl (Or.inl rfl)) pgs_nil))))))
      (pss_one (ps_ret (pe_op op_add_str (pe_op op_add_str (pe_op op_add_str (pe_op op_add_str (pe_op op_add_str (pe_op op_add_str (pe_op op_add_str (pe_op op_add_str pe_str (pe_callB (call_reprI hq hr) (by rfl) m_repr (by decide +kernel) (pa_cons (pv 1) pa_nil))) pe_str) (pe_callB (call_reprI hq hr) (by rfl) m_repr (by decide +kernel) (pa_cons (pv 2) pa_nil))) pe_str) (pe_callB (call_reprI hq hr) (by rfl) m_repr (by decide +kernel) (pa_cons (pv 3) pa_nil))) pe_str) (pe_callTy call_str_int (by rfl) m_str (by decide +kernel) (pa_cons (pv 4) pa_nil))) pe_str)))), ?_⟩
    refine ⟨_, rfl, v, g, _, _, _, rfl, hv, ho, hb, Nat.le_refl _, by decide, Nat.le_refl _, fun v' H1 f' s1 hv1 lf big => ?_⟩
    have hs' := least_sgs lf hs ho
    obtain ⟨p, l, t, r, rfl, hp, h4⟩ := hv1
    refine ⟨p, _, rfl, hp, rfl, _, _, rfl, _, _, rfl, _, _, rfl, _, _, rfl, rfl, ?_⟩
    have bl := big.l
    have bt := big.t
    have br := big.r
    have bs := big.s
    have tz : f'.start.natAbs < 2 ^ 60 := by omega
    have l1 := ints_len hs'.l
    have l2 := ints_len hs'.t
    have l3 := ints_len hs'.r
    have l4 := int_text_len_1921 (log_small tz)
    have c1 : (("Row(" : Str)).length = 4 := by decide +kernel
    have c2 : ((", " : Str)).length = 2 := by decide +kernel
    have c3 : ((", start=" : Str)).length = 8 := by decide +kernel
    have c4 : ((")" : Str)).length = 1 := by decide +kernel
    have hlL := h4.left
    have hlT := h4.told
    have hlR := h4.right
    rw [nv_ints] at hlL hlT hlR
    have sz : ∀ n : Nat, n ≤ 100000 → n ≤ sizeLine := fun n h => by rw [sizeLine_eq]; omega
    refine ⟨_, rfl, l, _, rfl, hlL, log_nv hs'.l, sz _ (by omega), _, _, rfl, rfl, sz _ (by omega), ?_⟩
    refine ⟨_, _, rfl, rfl, sz _ (by rw [app_len]; omega), ?_⟩
    refine ⟨_, rfl, t, _, rfl, hlT, log_nv hs'.t, sz _ (by omega), _, _, rfl, rfl, sz _ (by rw [app_len, app_len]; omega), ?_⟩
    refine ⟨_, _, rfl, rfl, sz _ (by rw [app_len, app_len, app_len]; omega), ?_⟩
    refine ⟨_, rfl, r, _, rfl, hlR, log_nv hs'.r, sz _ (by omega), _, _, rfl, rfl, sz _ (by rw [app_len, app_len, app_len, app_len]; omega), ?_⟩
    refine ⟨_, _, rfl, rfl, sz _ (by rw [app_len, app_len, app_len, app_len, app_len]; omega), ?_⟩
    refine ⟨_, rfl, _, rfl, log_small tz, _, _, rfl, rfl, sz _ (by rw [app_len, app_len, app_len, app_len, app_len, app_len]; omega), ?_⟩
    refine ⟨_, _, rfl, rfl, sz _ (by rw [app_len, app_len, app_len, app_len, app_len, app_len, app_len]; omega), ?_⟩
    exact q f' H1 s1 lf
end
end K02
set_option Elab.async false
set_option linter.all false
set_option maxRecDepth 100000
set_option maxHeartbeats 4000000
/-! the pairs (abs(c), c) of the cells that pass -/
namespace L2
open PySem PySem.Spec PyProof.Rows
def prZ (c : Int) : Int × Int := (aZ c, c)
def dPr (ps : List (Int × Int)) : PyData := .list (ps.map fun p => .tuple [.int p.1, .int p.2])
theorem dp_prs {K : PySem.W.Frag} {H : Hp} {ps : List (Int × Int)} : ∀ {vs : List V}, PrAll K H vs ps → DpAll K H vs (ps.map fun p => .tuple [.int p.1, .int p.2]) := by
  induction ps with
  | nil =>
    intro vs h
    cases vs with
    | nil => exact .nil
    | cons v vs => exact absurd h.1 (by simp)
  | cons p ps ih =>
    intro vs h
    cases vs with
    | nil => exact absurd h.1 (by simp)
    | cons v vs =>
      obtain ⟨t, rfl, ht⟩ := h.2 0 v p rfl rfl
      exact .cons (.tup ht (.cons (.int _) (.cons (.int _) .nil))) (ih ⟨by have := h.1; simpa using this, fun i v p h1 h2 => h.2 (i + 1) v p h1 h2⟩)
theorem dp_pr {K : PySem.W.Frag} {H : Hp} {a : Addr} {vs : List V} {ps : List (Int × Int)} (h : SqL K H a vs) (hp : PrAll K H vs ps) : Dp K H (.ref a) (dPr ps) := .lst h (dp_prs hp)
theorem canLay_prs : ∀ ps : List (Int × Int), PyData.canLayAll0 (ps.map fun p => .tuple [.int p.1, .int p.2]) = true
  | [] => rfl
  | p :: ps => by
    rw [List.map_cons]
    unfold PyData.canLayAll0
    rw [canLay_prs ps]
    rfl
theorem depth_prs : ∀ ps : List (Int × Int), PyData.depthAll (ps.map fun p => .tuple [.int p.1, .int p.2]) ≤ 1
  | [] => by decide
  | p :: ps => by
    have := depth_prs ps
    rw [List.map_cons]
    unfold PyData.depthAll
    have e : PyData.depth (.tuple [.int p.1, .int p.2]) = 1 := rfl
    rw [e]
    omega
theorem shaped_pr (ps : List (Int × Int)) : SeqAt.shaped (dPr ps) = true := by
  have := depth_prs ps
  unfold SeqAt.shaped dPr PyData.canLay0 PyData.depth
  rw [canLay_prs, Bool.true_and]
  exact decide_eq_true (by omega)
theorem eqv_pr_nil (ps : List (Int × Int)) : PyData.eqv (dPr ps) (dLi []) = decide (ps = []) := by
  unfold dPr dLi
  cases ps with
  | nil => rfl
  | cons p ps => rfl
theorem ne_pr_nil {K : PySem.W.Frag} {H : Hp} {a b : Addr} {vs : List V} {ps : List (Int × Int)} {Q : VK} (ha : SqL K H a vs) (hp : PrAll K H vs ps) (hb : SqL K H b []) (q : Q (.bl (!decide (ps = []))) H) : rNeD K (.ref a) (.ref b) H Q :=
  ⟨_, _, dp_pr ha hp, dp_li (ns := []) hb, shaped_pr _, shaped_li _, by rw [eqv_pr_nil]; exact q⟩
theorem PrAll.keep {K : PySem.W.Frag} {H H' : Hp} {vs : List V} {ps : List (Int × Int)} (h : PrAll K H vs ps) (s : ∀ (a : Addr) (xs : List V), SqT K H a xs → SqT K H' a xs) : PrAll K H' vs ps := ⟨h.1, fun i v p h1 h2 => by
  obtain ⟨t, e, ht⟩ := h.2 i v p h1 h2
  exact ⟨t, e, s _ _ ht⟩⟩
theorem PrAll.snoc {K : PySem.W.Frag} {H : Hp} {vs : List V} {ps : List (Int × Int)} {t : Addr} {p : Int × Int} (h : PrAll K H vs ps) (ht : SqT K H t [.int p.1, .int p.2]) : PrAll K H (vs ++ [.ref t]) (ps ++ [p]) := ⟨by simp [h.1], fun i v q h1 h2 => by
  by_cases c : i < vs.length
  · rw [List.getElem?_append_left c] at h1
    rw [List.getElem?_append_left (by rw [← h.1]; exact c)] at h2
    exact h.2 i v q h1 h2
  · rw [List.getElem?_append_right (by omega)] at h1
    rw [List.getElem?_append_right (by rw [← h.1]; omega), ← h.1] at h2
    match e : i - vs.length, h1, h2 with
    | 0, h1, h2 =>
      cases h1
      cases h2
      exact ⟨t, rfl, ht⟩
    | k + 1, h1, h2 => simp at h1⟩
theorem sqT_upd' {K : PySem.W.Frag} {H : Hp} {D : Addr} {o : HO} {ys : List V} {a : Addr} {xs : List V} (hD : H D = some (.lst ys)) (h : SqT K H a xs) : SqT K (upd H D o) a xs := by
  rcases h with (h | ⟨u, h⟩) | h
  · exact .inl (.inl (by rw [upd_ne (fun z => by rw [z, hD] at h; cases h)]; exact h))
  · exact .inl (.inr ⟨u, by rw [upd_ne (fun z => by rw [z, hD] at h; cases h)]; exact h⟩)
  · exact .inr h
/-- a comprehension of (abs(c), c) over a list's cells that pass -/
theorem lc_prs {K : PySem.W.Frag} {l : Addr} {xs : List Int} {g : TG} {tt : TT} {te : TE} {vs : List Nat} {σ : St} {H1 : Hp} {D : Addr} {Qd : Hp → Prop} (p : Int → Bool) (hn : xs.length ≤ 1000000) (hD : H1 D = none) (hl : SqL K H1 l (xs.map V.int))
    (hs : ∀ (c : Int) (H' : Hp) (Kc : VK) (Z : Hp → Prop), c ∈ xs → Same H1 H' → (p c = true → ∀ H2 t, Same H' H2 → SqT K H2 t [.int (aZ c), .int c] → Kc (.ref t) H2) → (p c = false → ∀ H2, Same H' H2 → Z H2) → g (.int c) (wipe σ vs) H' fun σ2 H3 => wipe σ2 vs = wipe σ vs ∧ tt σ2 H3 fun b H4 => if b = true then te σ2 H4 Kc else Z H4)
    (hd : ∀ H' ws, Same H1 H' → H' D = some (.lst ws) → PrAll K H' ws ((xs.filter p).map prZ) → Qd H') :
    ∃ Wt : Nat → Nat → Hp → Prop, (∃ m, Wt 0 m (upd H1 D (.lst []))) ∧ ∀ i m H, Wt i m H →
      ((Itl K l).stop i H ∧ Qd H) ∨ ((Itl K l).go i H ∧ ∃ Nx : Hp → Prop, (∀ H', Nx H' → ∃ m', m' < m ∧ Wt (i + 1) m' H') ∧ ∀ x H', (Itl K l).yld i H x H' → g x (wipe σ vs) H' fun σ2 H2 => wipe σ2 vs = wipe σ vs ∧ tt σ2 H2 fun b H3 =>
        if b = true then te σ2 H3 fun y H4 => ∃ acc, H4 D = some (.lst acc) ∧ acc.length < sizeLine ∧ Nx (upd H4 D (.lst (acc ++ [y]))) else Nx H3) := by
  refine lc_it (walk_list (K := K) (a := l) (xs := xs.map V.int)) (fun i H' => (∀ a o, a ≠ D → H1 a = some o → H' a = some o) ∧ ∃ ws, H' D = some (.lst ws) ∧ PrAll K H' ws (((xs.take i).filter p).map prZ)) ⟨fun a o na e => by rw [upd_ne na]; exact e, [], upd_same, rfl, fun i v p h => by simp at h⟩ (fun i H' _ h => sqL_at hl fun o e => h.1 _ _ (ne_of_none e hD) e) ?_ fun H' h => ?_
  · rintro i x H' H'' hi ⟨kp, ws, h1, h2⟩ ⟨rfl, hx⟩
    rw [List.length_map] at hi
    have e0 : xs[i]? = some xs[i] := List.getElem?_eq_getElem hi
    rw [List.getElem?_map, e0] at hx
    have hx := (Option.some.inj hx).symm
    subst hx
    have tk : xs.take (i + 1) = xs.take i ++ [xs[i]] := by rw [List.take_succ, e0]; rfl
    have wl : ws.length ≤ 1000000 := by
      have a1 := h2.1
      rw [List.length_map] at a1
      have a2 := List.length_filter_le p (xs.take i)
      have a3 := List.length_take_le i xs
      rw [List.length_take] at a2
      omega
    refine hs xs[i] _ _ _ (List.getElem_mem hi) (keep_same hD kp) (fun pc H2 t s ht => ⟨ws, s _ _ h1, by rw [sizeLine_eq]; omega, fun a o na e => by rw [upd_ne na]; exact s _ _ (kp a o na e), ws ++ [.ref t], upd_same, ?_⟩) fun pc H2 s => ⟨fun a o na e => s _ _ (kp a o na e), ws, s _ _ h1, ?_⟩
    · rw [tk, List.filter_append, List.map_append, show List.filter p [xs[i]] = [xs[i]] by simp [pc]]
      exact ((h2.keep fun a xs h => sqT_at h fun o e => s _ _ e).keep fun a xs h => sqT_upd' (s _ _ h1) h).snoc (p := prZ xs[i]) (sqT_upd' (s _ _ h1) ht)
    · rw [tk, List.filter_append, show List.filter p [xs[i]] = [] by simp [pc], List.append_nil]
      exact h2.keep fun a xs h => sqT_at h fun o e => s _ _ e
  · obtain ⟨kp, ws, h1, h2⟩ := h
    rw [List.length_map, List.take_length] at h2
    exact hd H' ws (keep_same hD kp) h1 h2
end L2
set_option Elab.async false
set_option linter.all false
set_option maxRecDepth 100000
set_option maxHeartbeats 4000000
namespace K02
open PySem PySem.Spec PyProof.Rows L2 RowM LamX
theorem near_pr {m n : Int} (h : lePr (prZ m) (prZ n)) : Near m n := h
section
variable {P : Program} {w : World} {K : PySem.W.Frag} {mg : Str → Option Value} {base : Heap}
/-- the end of it: the nearest cell, or None -/
theorem near_end {H : Hp} {D : Addr} {ws : List V} {l : List Int} {Q : VK} {Z : Bool → Hp → Prop} (hD : H D = some (.lst ws)) (hp : PrAll K H ws (l.map prZ)) (q0 : l = [] → ∀ H2, Same H H2 → Q .non H2) (q1 : ∀ m ∈ l, (∀ n ∈ l, Near m n) → ∀ H2, Same H H2 → Q (.int m) H2) (e : Addr) (he : H e = none)
    (z1 : ∀ H2, rMinPr K [.ref D] H2 (fun x H3 => rIxT K x (.int 1) H3 Q) → Z true H2) (z0 : ∀ H2, Q .non H2 → Z false H2) : rNeD K (.ref D) (.ref e) (upd H e (.lst [])) fun v H2 => ∃ b, v = .bl b ∧ Z b H2 := by
  have s1 : Same H (upd H e (.lst [])) := Same.new he
  have hp1 := hp.keep (H' := upd H e (.lst [])) fun a xs h => sqT_at h fun o z => s1 _ _ z
  refine ne_pr_nil (SqL.of (s1 _ _ hD)) hp1 (SqL.of upd_same) ⟨_, rfl, ?_⟩
  by_cases c : l = []
  · rw [c, show (!decide (([] : List Int).map prZ = [])) = false by decide]
    exact z0 _ (q0 c _ s1)
  · rw [show (!decide (l.map prZ = [])) = true by simp [c]]
    refine z1 _ ⟨D, ws, _, rfl, SqL.of (s1 _ _ hD), hp1, fun z => c (List.map_eq_nil_iff.mp z), fun i v p h1 h2 hall => ?_⟩
    obtain ⟨t, rfl, ht⟩ := hp1.2 i v p h1 h2
    rw [List.getElem?_map] at h2
    obtain ⟨m, hm, e2⟩ : ∃ m, l[i]? = some m ∧ prZ m = p := by
      cases z : l[i]? with
      | none => rw [z] at h2; cases h2
      | some m => rw [z] at h2; exact ⟨m, rfl, Option.some.inj h2⟩
    subst e2
    refine ⟨t, _, 1, .int m, rfl, rfl, ht, rfl, q1 m (List.mem_of_getElem? hm) (fun n hn => near_pr (hall _ (List.mem_map.mpr ⟨n, hn, rfl⟩))) _ s1⟩
/-! ### the nearest strange cell -/
def spLStg (K : PySem.W.Frag) : Sp := fun vs H Q _ => ∃ (v : V) (n : Nat) (f : Form), vs = [v, .int (n : Int)] ∧ FmV K H v f ∧ Ok f ∧ Big f 1000 1000 (2 ^ 30) ∧ ∀ r H', Same H H' → NearR (fun c => n ≤ sign f c) r → Q r H'
theorem sc_lstg : FnScope ["_law_model_here", "_law_n", "_law_lead", "_law_body", "_law_tail", "_law_base", "_law_wide", "_law_some", "_law_bad", "_law_at"] ["_law_model_here", "_law_n"] (defScope (top 50)) := ⟨rfl, rfl, rfl, by decide +kernel, rfl, by decide +kernel, by decide +kernel⟩
theorem ok_lstg {f : Addr} {fd : FuncData} (F : FnP K "_law_strange" (top 50) f fd) (m_len : mg "len" = none) (m_min : mg "min" = none) (m_abs : mg "abs" = none) (m_list : mg "list" = none) (m_range : mg "range" = none) (c__law_sign : Cal P w K mg base CX0 "_law_sign" 1 ["_law_model_here", "_law_at"] (spSign K)) : FnOk P w K mg base CX0 2 f fd ["_law_model_here", "_law_n"] (spLStg K) := by
  have sc := sc_lstg
  refine F.ok sc (fun vs H Q E h => ?_) (fun cdv A outer s H vs Q E hr h => ?_)
  · obtain ⟨v, n, g, rfl, _⟩ := h
    rfl
  · obtain ⟨v, n, g, rfl, hv, ho, hb, q⟩ := h
    obtain ⟨p0, l, t, r, rfl, hp, h4⟩ := id hv
    have hr__law_sign : Room 1 _ := hr
    have bl := hb.l
    have bt := hb.t
    have br := hb.r
    have bs := hb.s
    have l1 := ho.l1
    have r1 := ho.r1
    refine ⟨_, PSs.nox (pss_cons (ps_asg (pv 0) (pg_tup rfl (pgs_cons (pg_name (i := 2) sc.nd rfl (Or.inl rfl)) (pgs_cons (pg_name (i := 3) sc.nd rfl (Or.inl rfl)) (pgs_cons (pg_name (i := 4) sc.nd rfl (Or.inl rfl)) (pgs_cons (pg_name (i := 5) sc.nd rfl (Or.inl rfl)) pgs_nil))))))
      (pss_cons (ps_set (i := 6) sc.nd rfl (Or.inl rfl) (pe_op op_add (pe_callB call_len_seq (by rfl) m_len (by decide +kernel) (pa_cons (pv 2) pa_nil)) (pe_callB call_len_seq (by rfl) m_len (by decide +kernel) (pa_cons (pv 4) pa_nil))))
      (pss_cons (ps_set (i := 7) sc.nd rfl (Or.inl rfl) (pe_op op_cat (pe_listRg rfl rfl m_list (prg_2 rfl m_range (pe_op op_sub pe_int (pv 6)) (pe_op op_add (pv 6) pe_int))) (pe_listRg rfl rfl m_list (prg_2 rfl m_range (pe_op op_sub (pv 5) (pv 6)) (pe_op op_add (pe_op op_add (pv 5) (pe_callB call_len_seq (by rfl) m_len (by decide +kernel) (pa_cons (pv 3) pa_nil))) (pv 6))))))
      (pss_cons (ps_setLc (i := 8) (own := [("_law_at", 9)]) (g := gName 9) rfl sc.nd rfl rfl (sw_true rfl rfl rfl (by decide +kernel)) (pi_list (pv 7)) (blkOk_by (N := ["_law_model_here", "_law_n", "_law_lead", "_law_body", "_law_tail", "_law_base", "_law_wide", "_law_some", "_law_bad", "_law_at"]) (sc := defScope (top 50)) (by decide +kernel)) (fun _ _ _ _ _ => (pg_name (i := 9) sc.nd rfl (Or.inl rfl))) (fun _ _ _ _ _ => (pts_one (pt_cmpR op_ge (pe_cal c__law_sign hr__law_sign rfl (pa_cons (pv 0) (pa_cons (pv 9) pa_nil))) (pv 1) (nomark _)))) (fun _ _ _ _ _ => (pe_tup (pa_cons (pe_callB call_abs (by rfl) m_abs (by decide +kernel) (pa_cons (pv 9) pa_nil)) (pa_cons (pv 9) pa_nil)))))
      (pss_one (ps_ret (pe_ifExp (pt_cmpR (show OpR _ _ (rNeD K) from op_neD hr.units) (pv 8) (pe_lst pa_nil) (nomark _)) (pe_ix (show IxR _ (rIxT K) from ix_tup) (pe_callB (cr_minPr rfl hr.units) (by rfl) m_min (by decide +kernel) (pa_cons (pv 8) pa_nil)) pe_int (fun _ _ => rfl)) pe_non))))))), ?_⟩
    refine ⟨_, rfl, p0, _, rfl, hp, rfl, _, _, rfl, _, _, rfl, _, _, rfl, _, _, rfl, rfl, ?_⟩
    refine ⟨_, rfl, l, _, rfl, .inr h4.left, _, rfl, r, _, rfl, .inr h4.right, _, _, rfl, rfl, ?_⟩
    simp only [len_nv, ← Int.natCast_add]
    obtain ⟨wd, hwd⟩ : ∃ wd, wd = g.left.length + g.right.length := ⟨_, rfl⟩
    rw [← hwd]
    refine ⟨_, rfl, _, _, rfl, rfl, _, rfl, _, _, rfl, rfl, _, _, rfl, rfl, ⟨by omega, by omega, by omega, by omega, by omega⟩, fun A1 hA1 => ?_⟩
    have s1 : Same H (upd H A1 (.lst (rgV (0 - (wd : Int)) ((wd : Int) + 1)))) := Same.new hA1
    have k1 : upd H A1 (.lst (rgV (0 - (wd : Int)) ((wd : Int) + 1))) A1 = some (.lst ((rgI (0 - (wd : Int)) ((wd : Int) + 1)).map V.int)) := by rw [upd_same, rgV_rgI]
    generalize upd H A1 (.lst (rgV (0 - (wd : Int)) ((wd : Int) + 1))) = H1 at s1 k1
    refine ⟨_, rfl, _, rfl, _, _, rfl, rfl, _, rfl, _, rfl, t, _, rfl, .inr (same_T s1 h4.told), _, _, rfl, rfl, _, rfl, _, _, rfl, rfl, _, _, rfl, rfl, ?_⟩
    rw [len_nv]
    refine ⟨⟨by omega, by omega, by omega, by omega, by omega⟩, fun A2 hA2 => ?_⟩
    obtain ⟨lo, hlo⟩ : ∃ lo, lo = g.start - (wd : Int) := ⟨_, rfl⟩
    obtain ⟨hi, hhi⟩ : ∃ hi, hi = g.start + (g.told.length : Int) + (wd : Int) := ⟨_, rfl⟩
    rw [← hlo, ← hhi]
    have s2 : Same H1 (upd H1 A2 (.lst (rgV lo hi))) := Same.new hA2
    have k2 : upd H1 A2 (.lst (rgV lo hi)) A2 = some (.lst ((rgI lo hi).map V.int)) := by rw [upd_same, rgV_rgI]
    generalize upd H1 A2 (.lst (rgV lo hi)) = H2 at s2 k2
    refine ⟨A1, A2, _, _, rfl, rfl, s2 _ _ k1, k2, ?_, fun A3 hA3 => ?_⟩
    · rw [List.length_map, List.length_map, rgI_len, rgI_len, sizeLine_eq]
      omega
    have s3 : Same H2 (upd H2 A3 (.lst ((rgI (0 - (wd : Int)) ((wd : Int) + 1)).map V.int ++ (rgI lo hi).map V.int))) := Same.new hA3
    have k3 : upd H2 A3 (.lst ((rgI (0 - (wd : Int)) ((wd : Int) + 1)).map V.int ++ (rgI lo hi).map V.int)) A3 = some (.lst ((rgI (0 - (wd : Int)) ((wd : Int) + 1) ++ rgI lo hi).map V.int)) := by rw [upd_same, List.map_append]
    generalize upd H2 A3 (.lst ((rgI (0 - (wd : Int)) ((wd : Int) + 1)).map V.int ++ (rgI lo hi).map V.int)) = H3 at s3 k3
    obtain ⟨L, hL⟩ : ∃ L, L = rgI (0 - (wd : Int)) ((wd : Int) + 1) ++ rgI lo hi := ⟨_, rfl⟩
    rw [← hL] at k3
    have s03 := (s1.trans s2).trans s3
    have len : L.length ≤ 1000000 := by
      rw [hL, List.length_append, rgI_len, rgI_len]
      omega
    have mem : ∀ c, c ∈ L ↔ ((0 - (wd : Int) ≤ c ∧ c < (wd : Int) + 1) ∨ (lo ≤ c ∧ c < hi)) := fun c => by
      rw [hL, List.mem_append, mem_rgI, mem_rgI]
    refine ⟨_, rfl, A3, rfl, ⟨_, SqL.of k3⟩, fun D hD => ?_⟩
    refine lc_prs (xs := L) (fun c => decide (n ≤ sign g c)) len hD (SqL.of k3) ?_ ?_
    · intro c H' Kc Z hc sm k1 k2
      have sm' := s03.trans sm
      refine ⟨rfl, ?_⟩
      refine ⟨_, rfl, _, rfl, _, _, g, rfl, hv.same sm', ho, ?_⟩
      refine ⟨_, rfl, _, _, rfl, rfl, ?_⟩
      by_cases z : n ≤ sign g c
      · exact ⟨true, congrArg V.bl (decide_eq_true (by omega)), iteT ⟨_, rfl, _, rfl, _, rfl, (by show 2 ≤ sizeLine; decide), fun t ht => k1 (decide_eq_true z) _ t (Same.new ht) (SqT.of upd_same)⟩⟩
      · exact ⟨false, congrArg V.bl (decide_eq_false (by omega)), iteF (k2 (decide_eq_false z) _ (Same.refl _))⟩
    · intro H4 ws s4 hD4 hpr
      have s04 := s03.trans s4
      have z := near_res (bad := fun c => n ≤ sign g c) (l := L) (p := fun c => decide (n ≤ sign g c)) (Q := fun v _ => ∀ H', Same H4 H' → Q v H') (H2 := H4) (fun c => decide_eq_true_iff) (fun m hm => ?_) fun v' hv' H' s' => q v' H' (s04.trans s') hv'
      · refine ⟨_, rfl, Nat.zero_le _, fun e he => ?_⟩
        exact near_end (Q := Q) hD4 hpr (fun c => z.1 c) (fun m m1 m2 => z.2 m m1 m2) e he (fun H2 h => iteT ⟨_, rfl, h⟩) (fun H2 h => iteF h)
      · rw [mem]
        have S := steps_row l1 r1 (fun x => n ≤ x)
        by_cases c1 : m < g.start
        · have := near_below S l1 hm c1
          omega
        by_cases c2 : g.start + (g.told.length : Int) ≤ m
        · have := near_above S r1 hm c2
          omega
        · omega
end
end K02
set_option Elab.async false
set_option linter.all false
set_option maxRecDepth 100000
set_option maxHeartbeats 4000000
namespace RowM
/-- around m it repeats -/
def Loc (g : Int → Nat) (m : Int) (q : Nat) : Prop := ∀ x : Int, m - 30 ≤ x → x + (q : Int) ≤ m + 30 → g x = g (x + q)
theorem Loc.step {g h : Int → Nat} {m : Int} {q p : Nat} (hg : Loc g m q) (hh : Loc h m p) (q1 : q ≤ 15) (p1 : p ≤ 15) (a1 : g (m - q) = h (m - q)) (a2 : g (m - p) = h (m - p)) (a3 : g (m - q - p) = h (m - q - p)) : g m = h m := by
  have c1 := hg (m - q) (by omega) (by omega)
  have c2 := hh (m - q - p) (by omega) (by omega)
  have c3 := hg (m - p - q) (by omega) (by omega)
  have c4 := hh (m - p) (by omega) (by omega)
  rw [show m - (q : Int) + (q : Int) = m by omega] at c1
  rw [show m - (q : Int) - (p : Int) + (p : Int) = m - q by omega] at c2
  rw [show m - (p : Int) - (q : Int) + (q : Int) = m - p by omega, show m - (p : Int) - (q : Int) = m - q - p by omega] at c3
  rw [show m - (p : Int) + (p : Int) = m by omega] at c4
  rw [← c1, a1, ← c2, ← a3, c3, a2, c4]
theorem Loc.step' {g h : Int → Nat} {m : Int} {q p : Nat} (hg : Loc g m q) (hh : Loc h m p) (q1 : q ≤ 15) (p1 : p ≤ 15) (a1 : g (m + q) = h (m + q)) (a2 : g (m + p) = h (m + p)) (a3 : g (m + q + p) = h (m + q + p)) : g m = h m := by
  have c1 := hg m (by omega) (by omega)
  have c2 := hh (m + q) (by omega) (by omega)
  have c3 := hg (m + p) (by omega) (by omega)
  have c4 := hh m (by omega) (by omega)
  rw [show m + (p : Int) + (q : Int) = m + q + p by omega] at c3
  rw [c1, a1, c2, ← a3, ← c3, a2, ← c4]
/-- far from where it turns a row repeats -/
theorem loc_row {f : Form} {m : Int} (l1 : 1 ≤ f.left.length) (l2 : f.left.length ≤ 15) (r1 : 1 ≤ f.right.length) (r2 : f.right.length ≤ 15) (t : f.told.length ≤ 60) (h1 : m < f.start - 30 ∨ f.start + 30 < m) (h2 : m < f.start + (f.told.length : Int) - 30 ∨ f.start + (f.told.length : Int) + 30 < m) : ∃ q : Nat, 1 ≤ q ∧ q ≤ 15 ∧ Loc (sign f) m q := by
  have hl := (sign_LT (f := f)).per l1
  have hr := (sign_RT (f := f)).per
  by_cases c : m < f.start - 30
  · refine ⟨_, l1, l2, fun x x1 x2 => ?_⟩
    have := hl (x + (f.left.length : Int)) (by omega)
    rwa [show x + (f.left.length : Int) - (f.left.length : Int) = x by omega] at this
  · refine ⟨_, r1, r2, fun x x1 x2 => ?_⟩
    exact (hr x (by omega)).symm
/-- the nearest cell in which two rows differ lies near 0 or where one of them turns -/
theorem near_turns {f g : Form} (l1 : 1 ≤ f.left.length) (l2 : f.left.length ≤ 15) (r1 : 1 ≤ f.right.length) (r2 : f.right.length ≤ 15) (t : f.told.length ≤ 60) (l1' : 1 ≤ g.left.length) (l2' : g.left.length ≤ 15) (r1' : 1 ≤ g.right.length) (r2' : g.right.length ≤ 15) (t' : g.told.length ≤ 60) {m : Int} (hm : IsN (fun c => sign f c ≠ sign g c) m) :
    ∃ x ∈ [0, f.start, f.start + (f.told.length : Int), g.start, g.start + (g.told.length : Int)], x - 30 ≤ m ∧ m < x + 31 := by
  refine Classical.byContradiction fun no => ?_
  have far : ∀ x ∈ [0, f.start, f.start + (f.told.length : Int), g.start, g.start + (g.told.length : Int)], m < x - 30 ∨ x + 30 < m := fun x hx => by
    have : ¬ (x - 30 ≤ m ∧ m < x + 31) := fun z => no ⟨x, hx, z⟩
    omega
  have f0 := far 0 (by simp)
  obtain ⟨q, q1, q2, hq⟩ := loc_row l1 l2 r1 r2 t (far _ (by simp)) (far _ (by simp))
  obtain ⟨p, p1, p2, hp⟩ := loc_row l1' l2' r1' r2' t' (far _ (by simp)) (far _ (by simp))
  have nb : ∀ c, ¬ Near m c → sign f c = sign g c := fun c hc => Classical.byContradiction fun z => hc (hm.2 c z)
  rcases Int.lt_or_gt_of_ne (show m ≠ 0 by omega) with c | c
  · exact hm.1 (hq.step' hp q2 p2 (nb _ (by unfold Near aZ; omega)) (nb _ (by unfold Near aZ; omega)) (nb _ (by unfold Near aZ; omega)))
  · exact hm.1 (hq.step hp q2 p2 (nb _ (by unfold Near aZ; omega)) (nb _ (by unfold Near aZ; omega)) (nb _ (by unfold Near aZ; omega)))
end RowM
set_option Elab.async false
set_option linter.all false
set_option maxRecDepth 100000
set_option maxHeartbeats 4000000
namespace K02
open PySem PySem.Spec PyProof.Rows L2 RowM LamX
section
variable {P : Program} {w : World} {K : PySem.W.Frag} {mg : Str → Option Value} {base : Heap}
/-! ### the nearest cell in which two models differ -/
structure Sm (f : Form) : Prop where
  l : f.left.length ≤ 15
  t : f.told.length ≤ 60
  r : f.right.length ≤ 15
  s : f.start.natAbs ≤ 2 ^ 30
def spLApa (K : PySem.W.Frag) : Sp := fun vs H Q _ => ∃ (x y : V) (f g : Form), vs = [x, y] ∧ FmV K H x f ∧ FmV K H y g ∧ Ok f ∧ Ok g ∧ Sm f ∧ Sm g ∧ ∀ r H', Same H H' → NearR (fun c => sign f c ≠ sign g c) r → Q r H'
theorem sc_lapa : FnScope ["_law_one", "_law_two", "_law_some", "_law_turn", "_law_bad", "_law_at"] ["_law_one", "_law_two"] (defScope (top 56)) := ⟨rfl, rfl, rfl, by decide +kernel, rfl, by decide +kernel, by decide +kernel⟩
def turnL (T : List Int) : List Int := T.flatMap fun t => rgI (t - 30) (t + 31)
theorem turnL_len : ∀ T : List Int, (turnL T).length = 61 * T.length
  | [] => rfl
  | t :: T => by
    have := turnL_len T
    unfold turnL at this ⊢
    rw [List.flatMap_cons, List.length_append, this, rgI_len, List.length_cons]
    omega
theorem ok_lapa {f : Addr} {fd : FuncData} (F : FnP K "_law_apart" (top 56) f fd) (m_len : mg "len" = none) (m_min : mg "min" = none) (m_abs : mg "abs" = none) (m_list : mg "list" = none) (m_range : mg "range" = none) (c__law_sign : Cal P w K mg base CX0 "_law_sign" 1 ["_law_model_here", "_law_at"] (spSign K)) : FnOk P w K mg base CX0 2 f fd ["_law_one", "_law_two"] (spLApa K) := by
  have sc := sc_lapa
  refine F.ok sc (fun vs H Q E h => ?_) (fun cdv A outer s H vs Q E hr h => ?_)
  · obtain ⟨x, y, f, g, rfl, _⟩ := h
    rfl
  · obtain ⟨x, y, f, g, rfl, hx, hy, o1, o2, b1, b2, q⟩ := h
    obtain ⟨p, l, t, r, rfl, hp, h4⟩ := id hx
    obtain ⟨p', l', t', r', rfl, hp', h4'⟩ := id hy
    have hr__law_sign : Room 1 _ := hr
    have bs := b1.s
    have bs' := b2.s
    have bt := b1.t
    have bt' := b2.t
    refine ⟨_, PSs.nox (pss_cons (ps_set (i := 2) sc.nd rfl (Or.inl rfl) (pe_lst pa_nil))
      (pss_cons (ps_for PassesOwn.never rfl (pi_list (pe_lst (pa_cons pe_int (pa_cons (pe_ix (show IxR _ (rIxT K) from ix_tup) (pv 0) pe_int (fun _ _ => rfl)) (pa_cons (pe_op op_add (pe_ix (show IxR _ (rIxT K) from ix_tup) (pv 0) pe_int (fun _ _ => rfl)) (pe_callB call_len_seq (by rfl) m_len (by decide +kernel) (pa_cons (pe_ix (show IxR _ (rIxT K) from ix_tup) (pv 0) pe_int (fun _ _ => rfl)) pa_nil))) (pa_cons (pe_ix (show IxR _ (rIxT K) from ix_tup) (pv 1) pe_int (fun _ _ => rfl)) (pa_cons (pe_op op_add (pe_ix (show IxR _ (rIxT K) from ix_tup) (pv 1) pe_int (fun _ _ => rfl)) (pe_callB call_len_seq (by rfl) m_len (by decide +kernel) (pa_cons (pe_ix (show IxR _ (rIxT K) from ix_tup) (pv 1) pe_int (fun _ _ => rfl)) pa_nil))) pa_nil))))))) (pg_name (i := 3) sc.nd rfl (Or.inl rfl)) (pss_one (ps_set (i := 2) sc.nd rfl (Or.inl rfl) (pe_op op_cat (pv 2) (pe_listRg rfl rfl m_list (prg_2 rfl m_range (pe_op op_sub (pv 3) pe_int) (pe_op op_add (pv 3) pe_int)))))))
      (pss_cons (ps_setLc (i := 4) (own := [("_law_at", 5)]) (g := gName 5) rfl sc.nd rfl rfl (sw_true rfl rfl rfl (by decide +kernel)) (pi_list (pv 2)) (blkOk_by (N := ["_law_one", "_law_two", "_law_some", "_law_turn", "_law_bad", "_law_at"]) (sc := defScope (top 56)) (by decide +kernel)) (fun _ _ _ _ _ => (pg_name (i := 5) sc.nd rfl (Or.inl rfl))) (fun _ _ _ _ _ => (pts_one (pt_cmpR op_ne (pe_cal c__law_sign hr__law_sign rfl (pa_cons (pv 0) (pa_cons (pv 5) pa_nil))) (pe_cal c__law_sign hr__law_sign rfl (pa_cons (pv 1) (pa_cons (pv 5) pa_nil))) (nomark _)))) (fun _ _ _ _ _ => (pe_tup (pa_cons (pe_callB call_abs (by rfl) m_abs (by decide +kernel) (pa_cons (pv 5) pa_nil)) (pa_cons (pv 5) pa_nil)))))
      (pss_one (ps_ret (pe_ifExp (pt_cmpR (show OpR _ _ (rNeD K) from op_neD hr.units) (pv 4) (pe_lst pa_nil) (nomark _)) (pe_ix (show IxR _ (rIxT K) from ix_tup) (pe_callB (cr_minPr rfl hr.units) (by rfl) m_min (by decide +kernel) (pa_cons (pv 4) pa_nil)) pe_int (fun _ _ => rfl)) pe_non)))))), ?_⟩
    refine ⟨Nat.zero_le _, fun L0 hL0 => ?_⟩
    have s1 : Same H (upd H L0 (.lst [])) := Same.new hL0
    have k1 : upd H L0 (.lst []) L0 = some (.lst ((turnL []).map V.int)) := upd_same
    generalize upd H L0 (.lst []) = H1 at s1 k1
    have hp1 := same_T s1 hp
    have hp1' := same_T s1 hp'
    refine ⟨_, rfl, p, _, _, _, rfl, rfl, hp1, rfl, _, rfl, p, _, _, _, rfl, rfl, hp1, rfl, _, rfl, p, _, _, _, rfl, rfl, hp1, rfl, t, _, rfl, .inr (same_T s1 h4.told), _, _, rfl, rfl, ?_⟩
    refine ⟨_, rfl, p', _, _, _, rfl, rfl, hp1', rfl, _, rfl, p', _, _, _, rfl, rfl, hp1', rfl, _, rfl, p', _, _, _, rfl, rfl, hp1', rfl, t', _, rfl, .inr (same_T s1 h4'.told), _, _, rfl, rfl, ?_⟩
    simp only [len_nv]
    refine ⟨(by show 5 ≤ sizeLine; decide), fun A1 hA1 => ?_⟩
    obtain ⟨T, hT⟩ : ∃ T, T = [0, f.start, f.start + (f.told.length : Int), g.start, g.start + (g.told.length : Int)] := ⟨_, rfl⟩
    have tl : T.length = 5 := by rw [hT]; rfl
    have tb : ∀ x ∈ T, x.natAbs ≤ 2 ^ 31 := fun x hx => by
      rw [hT] at hx
      simp only [List.mem_cons, List.not_mem_nil, or_false] at hx
      rcases hx with rfl | rfl | rfl | rfl | rfl <;> omega
    obtain ⟨H2, eH⟩ : ∃ H2, H2 = upd H1 A1 (.lst [.int 0, .int f.start, .int (f.start + (f.told.length : Int)), .int g.start, .int (g.start + (g.told.length : Int))]) := ⟨_, rfl⟩
    have e2 : H2 A1 = some (.lst (T.map V.int)) := by rw [eH, upd_same, hT]; rfl
    have s2 : Same H1 H2 := eH ▸ Same.new hA1
    rw [← eH]
    have s02 := s1.trans s2
    refine ⟨A1, rfl, ⟨_, SqL.of e2⟩, for_list (K := K) (a := A1) (D := { nx := _, rt := Q, bk := fun _ _ => False, ct := fun _ _ => False }) (xs := T.map V.int) (fun i σ H' => ∃ (A : Addr) (x3 : Option V), σ = [some (.ref p), some (.ref p'), some (.ref A), x3, none, none] ∧ Same H2 H' ∧ H' A = some (.lst ((turnL (T.take i)).map V.int))) ⟨L0, none, rfl, Same.refl _, s2 _ _ k1⟩ (fun i σ H' _ ⟨_, _, _, e, _⟩ => SqL.of (e _ _ e2)) ?_ ?_⟩
    · rintro i y σ H' hi ⟨A, x3, rfl, sm, hA⟩
      obtain ⟨u, hu, rfl⟩ : ∃ u, T[i]? = some u ∧ y = V.int u := by
        rw [List.getElem?_map] at hi
        cases e : T[i]? with
        | none =>
          rw [e] at hi
          cases hi
        | some u =>
          rw [e] at hi
          exact ⟨u, rfl, (Option.some.inj hi).symm⟩
      have ub := tb u (List.mem_of_getElem? hu)
      have il : i < T.length := (List.getElem?_eq_some_iff.mp hu).1
      refine ⟨_, rfl, _, rfl, _, _, rfl, rfl, _, rfl, _, _, rfl, rfl, _, _, rfl, rfl, ⟨by omega, by omega, by omega, by omega, by omega⟩, fun A2 hA2 => ?_⟩
      have s3 : Same H' (upd H' A2 (.lst (rgV (u - 30) (u + 31)))) := Same.new hA2
      have k3 : upd H' A2 (.lst (rgV (u - 30) (u + 31))) A2 = some (.lst ((rgI (u - 30) (u + 31)).map V.int)) := by rw [upd_same, rgV_rgI]
      generalize upd H' A2 (.lst (rgV (u - 30) (u + 31))) = H3 at s3 k3
      refine ⟨A, A2, _, _, rfl, rfl, s3 _ _ hA, k3, ?_, fun A3 hA3 => ⟨A3, _, rfl, sm.trans (s3.trans (Same.new hA3)), ?_⟩⟩
      · rw [List.length_map, List.length_map, turnL_len, rgI_len, List.length_take, sizeLine_eq]
        omega
      · rw [upd_same, List.take_succ, hu]
        unfold turnL
        simp
    · rintro σ H3 ⟨A, x3, rfl, sm, hA⟩
      rw [List.length_map, List.take_length] at hA
      have s03 := s02.trans sm
      refine ⟨_, rfl, A, rfl, ⟨_, SqL.of hA⟩, fun D hD => ?_⟩
      refine lc_prs (xs := turnL T) (fun c => !decide (sign f c = sign g c)) (by rw [turnL_len]; omega) hD (SqL.of hA) ?_ ?_
      · intro c H' Kc Z hc sm2 k1 k2
        have sm' := s03.trans sm2
        refine ⟨rfl, ?_⟩
        refine ⟨_, rfl, _, rfl, _, _, f, rfl, hx.same sm', o1, ?_⟩
        refine ⟨_, rfl, _, rfl, _, _, g, rfl, hy.same sm', o2, rfl, _, rfl, ?_⟩
        by_cases z : sign f c = sign g c
        · exact iteF_of (by rw [dec_nat]; simp [z]) (k2 (by simp [z]) _ (Same.refl _))
        · exact iteT_of (by rw [dec_nat]; simp [z]) ⟨_, rfl, _, rfl, _, rfl, (by show 2 ≤ sizeLine; decide), fun t ht => k1 (by simp [z]) _ t (Same.new ht) (SqT.of upd_same)⟩
      · intro H4 ws s4 hD4 hpr
        have s04 := s03.trans s4
        have z := near_res (bad := fun c => sign f c ≠ sign g c) (l := turnL T) (p := fun c => !decide (sign f c = sign g c)) (Q := fun v _ => ∀ H', Same H4 H' → Q v H') (H2 := H4) (fun c => by simp) (fun m hm => ?_) fun v' hv' H' s' => q v' H' (s04.trans s') hv'
        · refine ⟨_, rfl, Nat.zero_le _, fun e he => ?_⟩
          exact near_end (Q := Q) hD4 hpr (fun c => z.1 c) (fun m m1 m2 => z.2 m m1 m2) e he (fun H2 h => iteT ⟨_, rfl, h⟩) (fun H2 h => iteF h)
        · obtain ⟨x, x1, x2, x3⟩ := near_turns o1.l1 b1.l o1.r1 b1.r b1.t o2.l1 b2.l o2.r1 b2.r b2.t hm
          rw [← hT] at x1
          exact List.mem_flatMap.mpr ⟨x, x1, mem_rgI.mpr ⟨x2, x3⟩⟩
end
end K02
set_option Elab.async false
set_option linter.all false
set_option maxRecDepth 100000
set_option maxHeartbeats 4000000
namespace K02
open PySem PySem.Spec PyProof.Rows L2 RowM LamX
/-- a drawn model -/
structure Md (f : Form) : Prop where
  ok : Ok f
  sg : Sgs f
  l : f.left.length ≤ 4
  t : f.told.length ≤ 12
  r : f.right.length ≤ 4
  s : f.start.natAbs ≤ 9999
section
variable {P : Program} {w : World} {K : PySem.W.Frag} {mg : Str → Option Value} {base : Heap}
def spModel (K : PySem.W.Frag) : Sp := fun vs H Q _ => ∃ g : Bg, vs = [.ref g.b] ∧ Bag g H ∧ ∀ v' H' f, Drew g H H' → FmV K H' v' f → Md f → Q v' H'
theorem sc_model : FnScope ["_law_bag_here", "_law_n", "_law_bases", "_law_base", "_law_lead", "_law_tail", "_law_body"] ["_law_bag_here"] (defScope (top 52)) := ⟨rfl, rfl, rfl, by decide +kernel, rfl, by decide +kernel, by decide +kernel⟩
theorem ok_model {f : Addr} {fd : FuncData} (F : FnP K "_law_model" (top 52) f fd) (m_len : mg "len" = none) (c__law_draw : Cal P w K mg base CX0 "_law_draw" 1 ["_law_bag_here", "_law_many"] spDraw) (c__law_of : Cal P w K mg base CX0 "_law_of" 2 ["_law_bag_here", "_law_things"] spOf) (c__law_word : Cal P w K mg base CX0 "_law_word" 2 ["_law_bag_here", "_law_size", "_law_n"] (spLWord K)) : FnOk P w K mg base CX0 3 f fd ["_law_bag_here"] (spModel K) := by
  have sc := sc_model
  refine F.ok sc (fun vs H Q E h => ?_) (fun cdv A outer s H vs Q E hr h => ?_)
  · obtain ⟨g, rfl, _⟩ := h
    rfl
  · obtain ⟨g, rfl, hB, q⟩ := h
    have hr__law_draw : Room 1 _ := hr.mono (by decide)
    have hr__law_of : Room 2 _ := hr
    have hr__law_word : Room 2 _ := hr
    refine ⟨_, PSs.nox (pss_cons (ps_set (i := 1) sc.nd rfl (Or.inl rfl) (pe_cal c__law_of hr__law_of rfl (pa_cons (pv 0) (pa_cons (pe_lst (pa_cons pe_int (pa_cons pe_int (pa_cons pe_int (pa_cons pe_int pa_nil))))) pa_nil))))
      (pss_cons (ps_set (i := 2) sc.nd rfl (Or.inl rfl) (pe_lst (pa_cons pe_int (pa_cons (pe_op op_sub (pe_cal c__law_draw hr__law_draw rfl (pa_cons (pv 0) (pa_cons pe_int pa_nil))) pe_int) (pa_cons (pe_op op_sub (pe_cal c__law_draw hr__law_draw rfl (pa_cons (pv 0) (pa_cons pe_int pa_nil))) pe_int) (pa_cons pe_int (pa_cons (pe_op op_sub pe_int pe_int) (pa_cons (pe_op op_sub (pe_cal c__law_draw hr__law_draw rfl (pa_cons (pv 0) (pa_cons pe_int pa_nil))) pe_int) pa_nil))))))))
      (pss_cons (ps_set (i := 3) sc.nd rfl (Or.inl rfl) (pe_cal c__law_of hr__law_of rfl (pa_cons (pv 0) (pa_cons (pv 2) pa_nil))))
      (pss_cons (ps_set (i := 4) sc.nd rfl (Or.inl rfl) (pe_cal c__law_word hr__law_word rfl (pa_cons (pv 0) (pa_cons (pe_op op_add pe_int (pe_cal c__law_draw hr__law_draw rfl (pa_cons (pv 0) (pa_cons pe_int pa_nil)))) (pa_cons (pv 1) pa_nil)))))
      (pss_cons (ps_set (i := 5) sc.nd rfl (Or.inl rfl) (pe_cal c__law_of hr__law_of rfl (pa_cons (pv 0) (pa_cons (pe_lst (pa_cons (pv 4) (pa_cons (pe_cal c__law_word hr__law_word rfl (pa_cons (pv 0) (pa_cons (pe_op op_add pe_int (pe_cal c__law_draw hr__law_draw rfl (pa_cons (pv 0) (pa_cons pe_int pa_nil)))) (pa_cons (pv 1) pa_nil)))) pa_nil))) pa_nil))))
      (pss_cons (ps_set (i := 6) sc.nd rfl (Or.inl rfl) (pe_cal c__law_of hr__law_of rfl (pa_cons (pv 0) (pa_cons (pe_lst (pa_cons (pe_tup pa_nil) (pa_cons (pe_cal c__law_word hr__law_word rfl (pa_cons (pv 0) (pa_cons (pe_cal c__law_draw hr__law_draw rfl (pa_cons (pv 0) (pa_cons pe_int pa_nil))) (pa_cons (pv 1) pa_nil)))) (pa_cons (pe_cal c__law_word hr__law_word rfl (pa_cons (pv 0) (pa_cons (pe_cal c__law_draw hr__law_draw rfl (pa_cons (pv 0) (pa_cons pe_int pa_nil))) (pa_cons (pv 1) pa_nil)))) pa_nil)))) pa_nil))))
      (pss_cons (ps_if (pt_cmpR op_eq (pe_cal c__law_draw hr__law_draw rfl (pa_cons (pv 0) (pa_cons pe_int pa_nil))) pe_int (nomark _)) (pss_one (ps_set (i := 6) sc.nd rfl (Or.inl rfl) (pe_op (show OpR _ (binaryOp .Add) (rCatA K) from op_catA) (pe_op (show OpR _ (binaryOp .Mult) (rRepK K) from op_repK) (pv 5) (pe_cal c__law_draw hr__law_draw rfl (pa_cons (pv 0) (pa_cons pe_int pa_nil)))) (pe_slice sl_tupA (pv 5) po_none (po_some (pe_cal c__law_draw hr__law_draw rfl (pa_cons (pv 0) (pa_cons (pe_callB call_len_seq (by rfl) m_len (by decide +kernel) (pa_cons (pv 5) pa_nil)) pa_nil)))))))) pss_nil)
      (pss_one (ps_ret (pe_tup (pa_cons (pv 4) (pa_cons (pv 6) (pa_cons (pv 5) (pa_cons (pv 3) pa_nil)))))))))))))), ?_⟩
    -- n
    refine ⟨_, rfl, (by show 4 ≤ sizeLine; decide), fun L1 hL1 => ?_⟩
    have s1 : Same H (upd H L1 (.lst [.int 2, .int 2, .int 3, .int 64])) := Same.new hL1
    refine ⟨g, L1, _, rfl, hB.same s1, upd_same, hB.ne hL1, (by decide), (by decide), fun v H1 hv dr1 => ?_⟩
    obtain ⟨n, rfl, n1, n2⟩ : ∃ n : Nat, v = .int (n : Int) ∧ 1 ≤ n ∧ n ≤ 64 := by
      simp only [List.mem_cons, List.not_mem_nil, or_false] at hv
      rcases hv with rfl | rfl | rfl | rfl
      · exact ⟨2, rfl, by decide, by decide⟩
      · exact ⟨2, rfl, by decide, by decide⟩
      · exact ⟨3, rfl, by decide, by decide⟩
      · exact ⟨64, rfl, by decide, by decide⟩
    have d1 : Drew g H H1 := (Drew.same hB s1).trans dr1
    clear hv s1 dr1 hL1
    have hB1 := d1.2
    -- bases
    refine ⟨_, rfl, g, _, rfl, hB1, by decide, by decide, fun a1 H2 dr2 a10 a11 => ?_⟩
    refine ⟨_, _, rfl, rfl, _, rfl, g, _, rfl, dr2.2, by decide, by decide, fun a2 H3 dr3 a20 a21 => ?_⟩
    refine ⟨_, _, rfl, rfl, _, _, rfl, rfl, _, rfl, g, _, rfl, dr3.2, by decide, by decide, fun a3 H4 dr4 a30 a31 => ?_⟩
    refine ⟨_, _, rfl, rfl, (by show 6 ≤ sizeLine; decide), fun L2 hL2 => ?_⟩
    have d4 : Drew g H H4 := ((d1.trans dr2).trans dr3).trans dr4
    clear d1 dr2 dr3 dr4 hB1
    have s5 : Same H4 (upd H4 L2 (.lst [.int 0, .int (a1 - 6), .int (a2 - 60), .int 9999, .int (0 - 9999), .int (a3 - 9999)])) := Same.new hL2
    refine ⟨_, rfl, _, rfl, g, L2, _, rfl, d4.2.same s5, upd_same, d4.2.ne hL2, (by show 1 ≤ 6; decide), (by show 6 < 1000; decide), fun v H5 hv dr5 => ?_⟩
    obtain ⟨z, rfl, hz⟩ : ∃ z : Int, v = .int z ∧ z.natAbs ≤ 9999 := by
      simp only [List.mem_cons, List.not_mem_nil, or_false] at hv
      rcases hv with rfl | rfl | rfl | rfl | rfl | rfl
      · exact ⟨_, rfl, by omega⟩
      · exact ⟨_, rfl, by omega⟩
      · exact ⟨_, rfl, by omega⟩
      · exact ⟨_, rfl, by omega⟩
      · exact ⟨_, rfl, by omega⟩
      · exact ⟨_, rfl, by omega⟩
    have d5 : Drew g H H5 := (d4.trans (Drew.same d4.2 s5)).trans dr5
    clear hv s5 dr5 hL2 d4
    -- lead
    refine ⟨_, rfl, _, rfl, g, _, rfl, d5.2, by decide, by decide, fun b1 H6 dr6 b10 b11 => ?_⟩
    obtain ⟨k1, rfl⟩ : ∃ k : Nat, b1 = (k : Int) := ⟨b1.toNat, by omega⟩
    refine ⟨_, _, rfl, rfl, _, rfl, g, 1 + k1, n, by rw [Int.natCast_add]; rfl, dr6.2, by omega, n1, by omega, fun pl H7 xl dr7 hl ll sl => ?_⟩
    have d7 := (d5.trans dr6).trans dr7
    clear d5 dr6 dr7
    -- tail
    refine ⟨_, rfl, _, rfl, _, rfl, _, rfl, g, _, rfl, d7.2, by decide, by decide, fun b2 H8 dr8 b20 b21 => ?_⟩
    obtain ⟨k2, rfl⟩ : ∃ k : Nat, b2 = (k : Int) := ⟨b2.toNat, by omega⟩
    refine ⟨_, _, rfl, rfl, _, rfl, g, 1 + k2, n, by rw [Int.natCast_add]; rfl, dr8.2, by omega, n1, by omega, fun pt H9 xt dr9 ht lt st => ?_⟩
    have hl9 := sqT_drew d7.2 (dr8.trans dr9) hl
    have d9 := (d7.trans dr8).trans dr9
    clear d7 dr8 dr9 hl
    refine ⟨(by show 2 ≤ sizeLine; decide), fun L3 hL3 => ?_⟩
    have s10 : Same H9 (upd H9 L3 (.lst [.ref pl, .ref pt])) := Same.new hL3
    refine ⟨g, L3, _, rfl, d9.2.same s10, upd_same, d9.2.ne hL3, (by show 1 ≤ 2; decide), (by show 2 < 1000; decide), fun v H10 hv dr10 => ?_⟩
    have dd : Drew g H9 H10 := (Drew.same d9.2 s10).trans dr10
    have hl10 := sqT_drew d9.2 dd hl9
    have ht10 := sqT_drew d9.2 dd ht
    have d10 := d9.trans dd
    have sgn : ∀ xs : List Nat, (∀ x ∈ xs, x < n) → Sg xs := fun xs h x hx => by
      have := h x hx
      omega
    obtain ⟨pr, xr, rfl, hr10, lr1, lr2, sr⟩ : ∃ pr xr, v = .ref pr ∧ SqT K H10 pr (nv xr) ∧ 1 ≤ xr.length ∧ xr.length ≤ 4 ∧ Sg xr := by
      simp only [List.mem_cons, List.not_mem_nil, or_false] at hv
      rcases hv with rfl | rfl
      · exact ⟨_, xl, rfl, hl10, by omega, by omega, sgn _ sl⟩
      · exact ⟨_, xt, rfl, ht10, by omega, by omega, sgn _ st⟩
    clear hv s10 dr10 hL3 d9 dd hl9 ht ht10 lt st
    -- body
    refine ⟨_, rfl, Nat.zero_le _, fun p0 hp0 => ?_⟩
    have s11 : Same H10 (upd H10 p0 (.tup [])) := Same.new hp0
    have h0 : SqT K (upd H10 p0 (.tup [])) p0 (nv []) := SqT.of upd_same
    have d11 := d10.trans (Drew.same d10.2 s11)
    have hl11 := same_T s11 hl10
    have hr11 := same_T s11 hr10
    clear d10 hl10 hr10
    generalize upd H10 p0 (.tup []) = H11 at s11 h0 d11 hl11 hr11
    refine ⟨_, rfl, _, rfl, g, _, rfl, d11.2, by decide, by decide, fun c1 H12 dr12 c10 c11 => ?_⟩
    obtain ⟨k3, rfl⟩ : ∃ k : Nat, c1 = (k : Int) := ⟨c1.toNat, by omega⟩
    refine ⟨_, rfl, g, k3, n, rfl, dr12.2, by omega, n1, by omega, fun p1 H13 x1 dr13 h1 e1 g1 => ?_⟩
    have d13 := (d11.trans dr12).trans dr13
    refine ⟨_, rfl, _, rfl, g, _, rfl, dr13.2, by decide, by decide, fun c2 H14 dr14 c20 c21 => ?_⟩
    obtain ⟨k4, rfl⟩ : ∃ k : Nat, c2 = (k : Int) := ⟨c2.toNat, by omega⟩
    refine ⟨_, rfl, g, k4, n, rfl, dr14.2, by omega, n1, by omega, fun p2 H15 x2 dr15 h2 e2 g2 => ?_⟩
    have dd1 : Drew g H11 H15 := ((dr12.trans dr13).trans dr14).trans dr15
    have h0' := sqT_drew d11.2 dd1 h0
    have h1' := sqT_drew d13.2 (dr14.trans dr15) h1
    have hl15 := sqT_drew d11.2 dd1 hl11
    have hr15 := sqT_drew d11.2 dd1 hr11
    have d15 := d11.trans dd1
    clear d11 dr12 dr13 dr14 dr15 d13 hl11 hr11 h0 h1 s11
    refine ⟨(by show 3 ≤ sizeLine; decide), fun L4 hL4 => ?_⟩
    have s16 : Same H15 (upd H15 L4 (.lst [.ref p0, .ref p1, .ref p2])) := Same.new hL4
    refine ⟨g, L4, _, rfl, d15.2.same s16, upd_same, d15.2.ne hL4, (by show 1 ≤ 3; decide), (by show 3 < 1000; decide), fun v H16 hv dr16 => ?_⟩
    have dd : Drew g H15 H16 := (Drew.same d15.2 s16).trans dr16
    have h0a := sqT_drew d15.2 dd h0'
    have h1a := sqT_drew d15.2 dd h1'
    have h2a := sqT_drew d15.2 dd h2
    have hl16 := sqT_drew d15.2 dd hl15
    have hr16 := sqT_drew d15.2 dd hr15
    have d16 := d15.trans dd
    obtain ⟨pb, xb, rfl, hb16, lb, sb⟩ : ∃ pb xb, v = .ref pb ∧ SqT K H16 pb (nv xb) ∧ xb.length ≤ 12 ∧ Sg xb := by
      simp only [List.mem_cons, List.not_mem_nil, or_false] at hv
      rcases hv with rfl | rfl | rfl
      · exact ⟨_, [], rfl, h0a, by decide, fun x hx => by cases hx⟩
      · exact ⟨_, x1, rfl, h1a, by omega, sgn _ g1⟩
      · exact ⟨_, x2, rfl, h2a, by omega, sgn _ g2⟩
    clear hv s16 dr16 hL4 d15 dd h0' h1' h2 hl15 hr15 h0a h1a h2a
    have fin : ∀ H17 pb xb, Drew g H H17 → SqT K H17 pl (nv xl) → SqT K H17 pr (nv xr) → SqT K H17 pb (nv xb) → xb.length ≤ 12 → Sg xb → tRet (tTup (tCons (tVar 4) (tCons (tVar 6) (tCons (tVar 5) (tCons (tVar 3) tNil))))) { nx := fun _ H' => Q .non H', rt := Q } [some (.ref g.b), some (.int (n : Int)), some (.ref L2), some (.int z), some (.ref pl), some (.ref pr), some (.ref pb)] H17 := fun H17 pb xb d17 a1 a2 a3 a4 a5 => by
      refine ⟨_, rfl, _, rfl, _, rfl, _, rfl, (by show 4 ≤ sizeLine; decide), fun p hp => ?_⟩
      have s18 : Same H17 (upd H17 p (.tup [.ref pl, .ref pb, .ref pr, .int z])) := Same.new hp
      exact q _ _ ⟨xl, xb, xr, z⟩ (d17.trans (Drew.same d17.2 s18)) ⟨p, pl, pb, pr, rfl, SqT.of upd_same, same_T s18 a1, same_T s18 a3, same_T s18 a2⟩ ⟨⟨by show 1 ≤ xl.length; omega, lr1⟩, ⟨sgn _ sl, a5, sr⟩, by show xl.length ≤ 4; omega, a4, lr2, hz⟩
    refine ⟨_, rfl, g, _, rfl, d16.2, by decide, by decide, fun e H17 dr17 e0 e1 => ?_⟩
    have d17 := d16.trans dr17
    have hl17 := sqT_drew d16.2 dr17 hl16
    have hr17 := sqT_drew d16.2 dr17 hr16
    have hb17 := sqT_drew d16.2 dr17 hb16
    refine ⟨rfl, _, rfl, ?_⟩
    by_cases ce : e = 0
    case neg => exact iteF_of (by rw [dec_int]; exact decide_eq_false ce) (fin H17 pb xb d17 hl17 hr17 hb17 lb sb)
    refine iteT_of (by rw [dec_int]; exact decide_eq_true ce) ?_
    refine ⟨_, rfl, _, rfl, g, _, rfl, d17.2, by decide, by decide, fun c1 H18 dr18 c10 c11 => ?_⟩
    obtain ⟨k5, rfl⟩ : ∃ k : Nat, c1 = (k : Int) := ⟨c1.toNat, by omega⟩
    have hr18 := sqT_drew d17.2 dr18 hr17
    refine ⟨pr, k5, _, rfl, rfl, hr18, by omega, by rw [len_nv]; omega, fun p3 H19 s19 hp3 => ?_⟩
    rw [nv_flat] at hp3
    have d19 := (d17.trans dr18).trans (Drew.same dr18.2 s19)
    have hr19 := same_T s19 hr18
    refine ⟨_, rfl, _, rfl, _, rfl, pr, _, rfl, .inr hr19, g, _, rfl, d19.2, by rw [len_nv]; omega, by rw [len_nv]; omega, fun c2 H20 dr20 c20 c21 => ?_⟩
    rw [len_nv] at c21
    obtain ⟨k6, rfl⟩ : ∃ k : Nat, c2 = (k : Int) := ⟨c2.toNat, by omega⟩
    refine ⟨_, rfl, slT (sqT_drew d19.2 dr20 hr19) fun p4 H21 s21 hp4 => ?_⟩
    rw [cut_head (by rw [len_nv]; omega), nv_take] at hp4
    have d21 := (d19.trans dr20).trans (Drew.same dr20.2 s21)
    have fl : (List.replicate k5 xr).flatten.length ≤ 8 := by
      rw [flat_len]
      have : k5 * xr.length ≤ 2 * 4 := Nat.mul_le_mul (by omega) lr2
      omega
    have hp3' := same_T s21 (sqT_drew d19.2 dr20 hp3)
    refine catT hp3' hp4 (by rw [len_nv, len_nv, List.length_take, sizeLine_eq]; omega) fun p5 H22 s22 hp5 => ?_
    rw [← List.map_append] at hp5
    have d22 := d21.trans (Drew.same d21.2 s22)
    have all : ∀ a xs, SqT K H17 a xs → SqT K H22 a xs := fun a xs h => same_T s22 (same_T s21 (sqT_drew d19.2 dr20 (same_T s19 (sqT_drew d17.2 dr18 h))))
    refine fin H22 p5 _ d22 (all _ _ hl17) (all _ _ hr17) hp5 ?_ fun x hx => ?_
    · rw [List.length_append, List.length_take]
      omega
    · rcases List.mem_append.mp hx with z | z
      · obtain ⟨l, hl, hx⟩ := List.mem_flatten.mp z
        rw [List.eq_of_mem_replicate hl] at hx
        exact sr x hx
      · exact sr x (List.mem_of_mem_take z)
end
end K02
set_option Elab.async false
set_option linter.all false
set_option maxRecDepth 100000
set_option maxHeartbeats 4000000
namespace K02
open PySem PySem.Spec PyProof.Rows L2 RowM LamX
/-- a model as it is given to Row -/
structure Mo (f : Form) : Prop where
  ok : Ok f
  sg : Sgs f
  l : f.left.length ≤ 12
  t : f.told.length ≤ 24
  r : f.right.length ≤ 12
  s : f.start.natAbs ≤ 9999
theorem Md.mo {f : Form} (h : Md f) : Mo f := ⟨h.ok, h.sg, Nat.le_trans h.l (by decide), Nat.le_trans h.t (by decide), Nat.le_trans h.r (by decide), h.s⟩
theorem Mo.big {f : Form} (h : Mo f) : Big f 12 24 9999 := ⟨h.l, h.t, h.r, h.s⟩
section
variable {P : Program} {w : World} {K : PySem.W.Frag} {mg : Str → Option Value} {base : Heap}
/-! ### the same row in another way -/
def spOther (K : PySem.W.Frag) : Sp := fun vs H Q _ => ∃ (g : Bg) (v : V) (f : Form), vs = [.ref g.b, v] ∧ Bag g H ∧ FmV K H v f ∧ Md f ∧ ∀ v' H' f', Drew g H H' → FmV K H' v' f' → Mo f' → (∀ c, sign f' c = sign f c) → Q v' H'
theorem sc_other : FnScope ["_law_bag_here", "_law_model_here", "_law_lead", "_law_body", "_law_tail", "_law_base", "_law_first", "_law_end", "_law_a", "_law_b"] ["_law_bag_here", "_law_model_here"] (defScope (top 53)) := ⟨rfl, rfl, rfl, by decide +kernel, rfl, by decide +kernel, by decide +kernel⟩
theorem ok_other {f : Addr} {fd : FuncData} (F : FnP K "_law_other" (top 53) f fd) (m_len : mg "len" = none) (m_max : mg "max" = none) (c__law_draw : Cal P w K mg base CX0 "_law_draw" 1 ["_law_bag_here", "_law_many"] spDraw) (c__law_cells : Cal P w K mg base CX0 "_law_cells" 2 ["_law_model_here", "_law_first", "_law_end"] (spStr K)) : FnOk P w K mg base CX0 3 f fd ["_law_bag_here", "_law_model_here"] (spOther K) := by
  have sc := sc_other
  refine F.ok sc (fun vs H Q E h => ?_) (fun cdv A outer s H vs Q E hr h => ?_)
  · obtain ⟨g, v, f, rfl, _⟩ := h
    rfl
  · obtain ⟨g, v, fm, rfl, hB, hv, hm, q⟩ := h
    obtain ⟨p0, l, t, r, rfl, hp, h4⟩ := id hv
    have hr__law_draw : Room 1 _ := hr.mono (by decide)
    have hr__law_cells : Room 2 _ := hr
    have l1 := hm.ok.l1
    have r1 := hm.ok.r1
    have bl := hm.l
    have bt := hm.t
    have br := hm.r
    have bs := hm.s
    refine ⟨_, PSs.nox (pss_cons (ps_asg (pv 1) (pg_tup rfl (pgs_cons (pg_name (i := 2) sc.nd rfl (Or.inl rfl)) (pgs_cons (pg_name (i := 3) sc.nd rfl (Or.inl rfl)) (pgs_cons (pg_name (i := 4) sc.nd rfl (Or.inl rfl)) (pgs_cons (pg_name (i := 5) sc.nd rfl (Or.inl rfl)) pgs_nil))))))
      (pss_cons (ps_set (i := 6) sc.nd rfl (Or.inl rfl) (pe_callB (call_max2 rfl) (by rfl) m_max (by decide +kernel) (pa_cons (pe_op op_sub pe_int pe_int) (pa_cons (pe_op op_sub (pv 5) (pe_cal c__law_draw hr__law_draw rfl (pa_cons (pv 0) (pa_cons pe_int pa_nil)))) pa_nil))))
      (pss_cons (ps_set (i := 7) sc.nd rfl (Or.inl rfl) (pe_op op_add (pe_op op_add (pv 5) (pe_callB call_len_seq (by rfl) m_len (by decide +kernel) (pa_cons (pv 3) pa_nil))) (pe_cal c__law_draw hr__law_draw rfl (pa_cons (pv 0) (pa_cons pe_int pa_nil)))))
      (pss_cons (ps_par (i := 8) (j := 9) rfl sc.nd rfl rfl (by decide) rfl rfl (pa_cons (pe_op op_mul (pe_callB call_len_seq (by rfl) m_len (by decide +kernel) (pa_cons (pv 2) pa_nil)) (pe_op op_add pe_int (pe_cal c__law_draw hr__law_draw rfl (pa_cons (pv 0) (pa_cons pe_int pa_nil))))) (pa_cons (pe_op op_mul (pe_callB call_len_seq (by rfl) m_len (by decide +kernel) (pa_cons (pv 4) pa_nil)) (pe_op op_add pe_int (pe_cal c__law_draw hr__law_draw rfl (pa_cons (pv 0) (pa_cons pe_int pa_nil))))) pa_nil)) (by rfl))
      (pss_one (ps_ret (pe_tup (pa_cons (pe_cal c__law_cells hr__law_cells rfl (pa_cons (pv 1) (pa_cons (pe_op op_sub (pv 6) (pv 8)) (pa_cons (pv 6) pa_nil)))) (pa_cons (pe_cal c__law_cells hr__law_cells rfl (pa_cons (pv 1) (pa_cons (pv 6) (pa_cons (pv 7) pa_nil)))) (pa_cons (pe_cal c__law_cells hr__law_cells rfl (pa_cons (pv 1) (pa_cons (pv 7) (pa_cons (pe_op op_add (pv 7) (pv 9)) pa_nil)))) (pa_cons (pv 6) pa_nil))))))))))), ?_⟩
    refine ⟨_, rfl, p0, _, rfl, hp, rfl, _, _, rfl, _, _, rfl, _, _, rfl, _, _, rfl, rfl, ?_⟩
    -- first
    refine ⟨_, _, rfl, rfl, _, rfl, _, rfl, g, _, rfl, hB, by decide, by decide, fun c1 H1 dr1 c10 c11 => ?_⟩
    refine ⟨_, _, rfl, rfl, _, _, rfl, ?_⟩
    have ee : (if fm.start - c1 > 0 - 9999 then fm.start - c1 else 0 - 9999) = max (-9999) (fm.start - c1) := by
      split <;> omega
    rw [ee]
    obtain ⟨b0, hb0⟩ : ∃ b0, b0 = max (-9999) (fm.start - c1) := ⟨_, rfl⟩
    rw [← hb0]
    have g1 : b0 ≤ fm.start := by omega
    have g2 : fm.start - b0 ≤ 6 := by omega
    have g3 : b0.natAbs ≤ 9999 := by omega
    clear hb0 ee
    have hv1 := hv.drew hB dr1
    have h41 : SqT K H1 t (nv fm.told) := sqT_drew hB dr1 h4.told
    have hl1 : SqT K H1 l (nv fm.left) := sqT_drew hB dr1 h4.left
    have hr1 : SqT K H1 r (nv fm.right) := sqT_drew hB dr1 h4.right
    -- end
    refine ⟨_, rfl, _, rfl, t, _, rfl, .inr h41, _, _, rfl, rfl, _, rfl, g, _, rfl, dr1.2, by decide, by decide, fun c2 H2 dr2 c20 c21 => ?_⟩
    refine ⟨_, _, rfl, rfl, ?_⟩
    rw [len_nv]
    obtain ⟨e0, he0⟩ : ∃ e0, e0 = fm.start + (fm.told.length : Int) + c2 := ⟨_, rfl⟩
    dsimp only
    rw [← he0]
    have g4 : fm.start + (fm.told.length : Int) ≤ e0 := by omega
    have g5 : e0 - b0 ≤ 24 := by omega
    clear he0
    have d2 := dr1.trans dr2
    -- how often
    refine ⟨_, rfl, l, _, rfl, .inr (sqT_drew dr1.2 dr2 hl1), _, rfl, g, _, rfl, dr2.2, by decide, by decide, fun c3 H3 dr3 c30 c31 => ?_⟩
    obtain ⟨k3, rfl⟩ : ∃ k : Nat, c3 = (k : Int) := ⟨c3.toNat, by omega⟩
    have hv3 := (hv1.drew dr1.2 dr2).drew dr2.2 dr3
    have hr3 := sqT_drew dr2.2 dr3 (sqT_drew dr1.2 dr2 hr1)
    refine ⟨_, _, rfl, rfl, _, _, rfl, rfl, .inr ⟨by omega, by omega⟩, ?_⟩
    refine ⟨_, rfl, r, _, rfl, .inr hr3, _, rfl, g, _, rfl, dr3.2, by decide, by decide, fun c4 H4 dr4 c40 c41 => ?_⟩
    obtain ⟨k4, rfl⟩ : ∃ k : Nat, c4 = (k : Int) := ⟨c4.toNat, by omega⟩
    have hv4 := hv3.drew dr3.2 dr4
    refine ⟨_, _, rfl, rfl, _, _, rfl, rfl, .inr ⟨by omega, by omega⟩, _, _, rfl, ?_⟩
    dsimp only
    rw [len_nv, len_nv]
    have m1 : (1 + k3) * fm.left.length ≤ 12 := by
      have : (1 + k3) * fm.left.length ≤ 3 * 4 := Nat.mul_le_mul (by omega) bl
      omega
    have m2 : (1 + k4) * fm.right.length ≤ 12 := by
      have : (1 + k4) * fm.right.length ≤ 3 * 4 := Nat.mul_le_mul (by omega) br
      omega
    have m3 : 1 ≤ (1 + k3) * fm.left.length := Nat.mul_pos (by omega) l1
    have m4 : 1 ≤ (1 + k4) * fm.right.length := Nat.mul_pos (by omega) r1
    have pl := (sign_LT (f := fm)).per l1 |>.mul (1 + k3)
    have pr := (sign_RT (f := fm)).per.mul (1 + k4)
    rw [show (fm.left.length : Int) * (1 + (k3 : Int)) = (((1 + k3) * fm.left.length : Nat) : Int) by rw [Int.natCast_mul, Int.mul_comm]; rfl, show (fm.right.length : Int) * (1 + (k4 : Int)) = (((1 + k4) * fm.right.length : Nat) : Int) by rw [Int.natCast_mul, Int.mul_comm]; rfl]
    obtain ⟨na, hna⟩ : ∃ n, n = (1 + k3) * fm.left.length := ⟨_, rfl⟩
    obtain ⟨nb, hnb⟩ : ∃ n, n = (1 + k4) * fm.right.length := ⟨_, rfl⟩
    rw [← hna] at m1 m3 pl ⊢
    rw [← hnb] at m2 m4 pr ⊢
    have d4 := (d2.trans dr3).trans dr4
    clear dr1 dr2 dr3 dr4
    refine ⟨_, rfl, _, rfl, _, rfl, _, _, rfl, rfl, _, rfl, _, b0 - (na : Int), b0, fm, rfl, hv4, hm.ok, by omega, by omega, by omega, fun p1 H5 s5 h1 => ?_⟩
    refine ⟨_, rfl, _, rfl, _, rfl, _, b0, e0, fm, rfl, hv4.same s5, hm.ok, by omega, by omega, by omega, fun p2 H6 s6 h2 => ?_⟩
    refine ⟨_, rfl, _, rfl, _, rfl, _, rfl, _, _, rfl, rfl, _, e0, e0 + (nb : Int), fm, rfl, (hv4.same s5).same s6, hm.ok, by omega, by omega, by omega, fun p3 H7 s7 h3 => ?_⟩
    refine ⟨_, rfl, (by show 4 ≤ sizeLine; decide), fun p4 hp4 => ?_⟩
    rw [show (b0 - (b0 - (na : Int))).toNat = na by omega] at h1
    rw [show (e0 + (nb : Int) - e0).toNat = nb by omega] at h3
    have s8 : Same H7 (upd H7 p4 (.tup [.ref p1, .ref p2, .ref p3, .int b0])) := Same.new hp4
    let f' : Form := ⟨cells (sign fm) (b0 - (na : Int)) na, cells (sign fm) b0 (e0 - b0).toNat, cells (sign fm) e0 nb, b0⟩
    have eF : ∀ c, sign f' c = sign fm c := sign_of_cells m3 m4 (fun x hx => pl x (by omega)) (fun x hx => pr x (by omega)) (by omega)
    have sg : ∀ a n, Sg (cells (sign fm) a n) := fun a n => sg_of fun i hi => by
      rw [cells_len] at hi
      rw [cells_at _ _ hi]
      exact sign_sg hm.sg hm.ok _
    refine q _ _ f' (d4.trans (Drew.same d4.2 (s5.trans (s6.trans (s7.trans s8))))) ⟨p4, p1, p2, p3, rfl, SqT.of upd_same, same_T s8 (same_T s7 (same_T s6 h1)), same_T s8 (same_T s7 h2), same_T s8 h3⟩ ⟨⟨?_, ?_⟩, ⟨sg _ _, sg _ _, sg _ _⟩, ?_, ?_, ?_, g3⟩ eF
    all_goals (first | show 1 ≤ (cells _ _ _).length | show (cells _ _ _).length ≤ _); rw [cells_len]; omega
end
end K02
set_option Elab.async false
set_option linter.all false
set_option maxRecDepth 100000
set_option maxHeartbeats 4000000
namespace K02
open PySem PySem.Spec PyProof.Rows L2 RowM LamX
section
variable {P : Program} {w : World} {K : PySem.W.Frag} {mg : Str → Option Value} {base : Heap}
def spLMade (K : PySem.W.Frag) (C : Addr) : Sp := fun vs H Q _ => ∃ (g : Bg) (v : V) (f : Form), vs = [.ref g.b, v] ∧ Bag g H ∧ FmV K H v f ∧ Mo f ∧ ∀ v' H' f', Drew g H H' → RowV K C H' v' f' → Least (sign f) f' → Big f' 12 24 11000 → Q v' H'
theorem sc_lmade : FnScope ["_law_bag_here", "_law_model_here", "_law_lead", "_law_body", "_law_tail", "_law_base", "_law_way"] ["_law_bag_here", "_law_model_here"] (defScope (top 54)) := ⟨rfl, rfl, rfl, by decide +kernel, rfl, by decide +kernel, by decide +kernel⟩
theorem ok_lmade {f : Addr} {fd : FuncData} {C CW CI T : Addr} (F : FnP K "_law_made" (top 54) f fd) (o_R : RowC P w K mg base C CW CI T) (c__law_draw : Cal P w K mg base CX0 "_law_draw" 1 ["_law_bag_here", "_law_many"] spDraw) : FnOk P w K mg base CX0 7 f fd ["_law_bag_here", "_law_model_here"] (spLMade K C) := by
  have sc := sc_lmade
  refine F.ok sc (fun vs H Q E h => ?_) (fun cdv A outer s H vs Q E hr h => ?_)
  · obtain ⟨g, v, f, rfl, _⟩ := h
    rfl
  · obtain ⟨g, v, fm, rfl, hB, hv, hm, q⟩ := h
    obtain ⟨p0, l, t, r, rfl, hp, h4⟩ := id hv
    have hr__law_draw : Room 1 _ := hr.mono (by decide)
    have hr_row : Room 6 _ := hr
    have px := passN (P := P) (w := w) (X := (cxOf CX0 P w K mg base ["_law_bag_here", "_law_model_here", "_law_lead", "_law_body", "_law_tail", "_law_base", "_law_way"] "_law_made" (defScope (top 54)) f cdv A outer s H E).nox) rfl rfl
    refine ⟨_, PSs.nox (pss_cons (ps_asg (pv 1) (pg_tup rfl (pgs_cons (pg_name (i := 2) sc.nd rfl (Or.inl rfl)) (pgs_cons (pg_name (i := 3) sc.nd rfl (Or.inl rfl)) (pgs_cons (pg_name (i := 4) sc.nd rfl (Or.inl rfl)) (pgs_cons (pg_name (i := 5) sc.nd rfl (Or.inl rfl)) pgs_nil))))))
      (pss_cons (ps_set (i := 6) sc.nd rfl (Or.inl rfl) (pe_cal c__law_draw hr__law_draw rfl (pa_cons (pv 0) (pa_cons pe_int pa_nil))))
      (pss_cons (ps_if (pt_cmpR op_eq (pv 6) pe_int (nomark _)) (pss_one (ps_ret (pe_rowK0 o_R hr_row rfl px (pk_cons (pv 4) (pk_cons (pv 2) (pk_cons (pv 5) (pk_cons (pv 3) pk_nil))))))) pss_nil)
      (pss_cons (ps_if (PW.pt (pw_or (pt_cmpR op_eq (pv 6) pe_int (nomark _)) (pw_or1 (pt_cmpR op_ne (pv 5) pe_int (nomark _))))) (pss_one (ps_ret (pe_rowK3 o_R hr_row rfl px (pa_cons (pv 2) (pa_cons (pv 3) (pa_cons (pe_ifExp (pt_cmpR (show OpR _ _ (rEqD K) from op_eqD hr.units) (pv 2) (pv 4) (nomark _)) pe_non (pv 4)) pa_nil))) (pk_cons (pv 5) pk_nil)))) pss_nil)
      (pss_cons (ps_if (pt_cmpR (show OpR _ _ (rEqD K) from op_eqD hr.units) (pv 2) (pv 4) (nomark _)) (pss_one (ps_ret (pe_ifExp (pt_cmpR (show OpR _ _ (rEqD K) from op_eqD hr.units) (pv 3) (pe_tup pa_nil) (nomark _)) (pe_row1 o_R hr_row rfl px (pa_cons (pv 2) pa_nil)) (pe_row2 o_R hr_row rfl px (pa_cons (pv 2) (pa_cons (pv 3) pa_nil)))))) pss_nil)
      (pss_one (ps_ret (pe_row3 o_R hr_row rfl px (pa_cons (pv 2) (pa_cons (pv 3) (pa_cons (pv 4) pa_nil))))))))))), ?_⟩
    refine ⟨_, rfl, p0, _, rfl, hp, rfl, _, _, rfl, _, _, rfl, _, _, rfl, _, _, rfl, rfl, ?_⟩
    refine ⟨_, rfl, g, _, rfl, hB, by decide, by decide, fun c1 H1 dr1 c10 c11 => ?_⟩
    have hl : SqT K H1 l (nv fm.left) := sqT_drew hB dr1 h4.left
    have ht : SqT K H1 t (nv fm.told) := sqT_drew hB dr1 h4.told
    have hr1 : SqT K H1 r (nv fm.right) := sqT_drew hB dr1 h4.right
    have row : ∀ (H2 : Hp) (t' r' : Addr) (xr : V), Same H1 H2 → SqT K H2 t' (nv fm.told) → SqT K H2 r' (nv fm.right) → (xr = .ref r' ∨ (xr = .non ∧ r' = l)) → rRow K C CW CI E0 (.ref l) (.ref t') xr (.int fm.start) H2 Q := fun H2 t' r' xr s2 ht' hr' hx =>
      .inl ⟨l, t', r', fm, 12, 24, 9999, rfl, rfl, hx, rfl, ⟨same_T s2 hl, ht', hr'⟩, hm.ok, hm.sg, hm.s, hm.big, by decide, by decide, by decide, fun v H' f' _ s3 hv' lf big => q v H' f' (dr1.trans (Drew.same dr1.2 (s2.trans s3))) hv' lf ⟨big.l, big.t, big.r, Nat.le_trans big.s (by decide)⟩⟩
    refine ⟨_, rfl, rfl, _, rfl, ?_⟩
    by_cases w0 : c1 = 0
    · refine iteT_of (by rw [dec_int]; exact decide_eq_true w0) ?_
      exact ⟨_, rfl, _, rfl, _, rfl, _, rfl, _, _, _, _, rfl, row H1 t r _ (Same.refl _) ht hr1 (.inl rfl)⟩
    refine iteF_of (by rw [dec_int]; exact decide_eq_false w0) ?_
    have two : (fun (σ : L2.St) (H : Hp) (Q : VK) => tCons (tVar 2) (tCons (tVar 3) (tCons (tIf (tTest (tOp (rEqD K) (tVar 2) (tVar 4))) (tC .non) (tVar 4)) tNil)) σ H fun vs H1 => tCons (tVar 5) tNil σ H1 fun zs H2 => ∃ xl xt xr xs, vs = [xl, xt, xr] ∧ zs = [xs] ∧ rRow K C CW CI E0 xl xt xr xs H2 Q) [some (.ref g.b), some (.ref p0), some (.ref l), some (.ref t), some (.ref r), some (.int fm.start), some (.int c1)] H1 Q := by
      refine ⟨_, rfl, _, rfl, _, rfl, _, rfl, eq_nv hl hr1 ⟨_, rfl, ?_⟩⟩
      by_cases e : fm.left = fm.right
      · exact iteT_of (decide_eq_true e) ⟨_, rfl, _, _, _, _, rfl, rfl, row H1 t l _ (Same.refl _) ht (e ▸ hl) (.inr ⟨rfl, rfl⟩)⟩
      · exact iteF_of (decide_eq_false e) ⟨_, rfl, _, rfl, _, _, _, _, rfl, rfl, row H1 t r _ (Same.refl _) ht hr1 (.inl rfl)⟩
    refine ⟨_, rfl, rfl, _, rfl, ?_⟩
    by_cases w1 : c1 = 1
    · exact iteT_of (by rw [dec_int]; exact decide_eq_true w1) (iteT_of rfl two)
    refine iteF_of (by rw [dec_int]; exact decide_eq_false w1) ?_
    refine ⟨_, rfl, rfl, _, rfl, ?_⟩
    by_cases w2 : fm.start = 0
    case neg => exact iteT_of (by rw [dec_int, decide_eq_false w2]; rfl) two
    refine iteF_of (by rw [dec_int, decide_eq_true w2]; rfl) ?_
    rw [w2] at row
    refine ⟨_, rfl, _, rfl, eq_nv hl hr1 ⟨_, rfl, ?_⟩⟩
    by_cases e : fm.left = fm.right
    case neg => exact iteF_of (decide_eq_false e) ⟨_, rfl, _, rfl, _, rfl, _, _, _, rfl, row H1 t r _ (Same.refl _) ht hr1 (.inl rfl)⟩
    refine iteT_of (decide_eq_true e) ?_
    refine ⟨_, rfl, Nat.zero_le _, fun ee he => ?_⟩
    have s2 : Same H1 (upd H1 ee (.tup [])) := Same.new he
    have h0 : SqT K (upd H1 ee (.tup [])) ee (nv []) := SqT.of upd_same
    generalize upd H1 ee (.tup []) = H2 at s2 h0
    refine eq_nv (same_T s2 ht) h0 ⟨_, rfl, ?_⟩
    by_cases e2 : fm.told = []
    · exact iteT_of (decide_eq_true e2) ⟨_, rfl, _, rfl, row H2 T l _ s2 (by rw [e2]; exact o_R.nil _) (e ▸ same_T s2 hl) (.inr ⟨rfl, rfl⟩)⟩
    · exact iteF_of (decide_eq_false e2) ⟨_, rfl, _, rfl, _, _, rfl, row H2 t l _ s2 (same_T s2 ht) (e ▸ same_T s2 hl) (.inr ⟨rfl, rfl⟩)⟩
end
end K02
set_option Elab.async false
set_option linter.all false
set_option maxRecDepth 100000
set_option maxHeartbeats 4000000
namespace K02
open PySem PySem.Spec PyProof.Rows L2 RowM LamX
/-- what stood but the bag and the tables stands; the bag is a bag; the tables are -/
structure Dx (g : Bg) (T : List (Addr × Str)) (H H' : Hp) : Prop where
  k : ∀ a o, a ≠ g.b → (∀ ps, o ≠ .tbl ps) → H a = some o → H' a = some o
  b : Bag g H'
  t : Tabs T H'
section
variable {K : PySem.W.Frag} {H H' H2 : Hp} {g : Bg} {TT : List (Addr × Str)} {a : Addr} {xs : List V} {v : V} {f : Form}
theorem Dx.trans (x : Dx g TT H H') (y : Dx g TT H' H2) : Dx g TT H H2 := ⟨fun a o n nt e => y.k a o n nt (x.k a o n nt e), y.b, y.t⟩
theorem Dx.refl (B : Bag g H) (t : Tabs TT H) : Dx g TT H H := ⟨fun _ _ _ _ e => e, B, t⟩
theorem Dx.drew (B : Bag g H) (t : Tabs TT H) (d : Drew g H H') : Dx g TT H H' := ⟨fun a o n _ e => d.1 a o n e, d.2, tabs_drew t B d⟩
theorem Dx.same (B : Bag g H) (t : Tabs TT H) (s : Same H H') : Dx g TT H H' := ⟨fun a o _ _ e => s a o e, B.same s, tabs_same t s⟩
theorem Dx.ext (B : Bag g H) (e : ExtN H H') (t : Tabs TT H') : Dx g TT H H' := ⟨fun a o _ nt z => e a o z nt, by
  obtain ⟨i, u, sd, c, h1, h2, r⟩ := B
  exact ⟨i, u, sd, c, e _ _ h1 (fun ps z => nomatch z), e _ _ h2 (fun ps z => nomatch z), r⟩, t⟩
theorem Dx.at_ (B : Bag g H) (d : Dx g TT H H') {o : HO} (h : H a = some o) (n1 : ∀ ps, o ≠ .tbl ps) (n2 : ∀ ys, o ≠ .lst ys) : H' a = some o := d.k a o (fun z => by
  obtain ⟨i, u, sd, c, hb, _⟩ := B
  rw [z, hb] at h
  exact n2 _ (Option.some.inj h).symm) n1 h
theorem Dx.sqT (B : Bag g H) (d : Dx g TT H H') (h : SqT K H a xs) : SqT K H' a xs := by
  rcases h with (h | ⟨o, h⟩) | h
  · exact .inl (.inl (d.at_ B h (fun ps z => nomatch z) (fun ps z => nomatch z)))
  · exact .inl (.inr ⟨o, d.at_ B h (fun ps z => nomatch z) (fun ps z => nomatch z)⟩)
  · exact .inr h
theorem FmV.dx (B : Bag g H) (d : Dx g TT H H') (h : FmV K H v f) : FmV K H' v f := by
  obtain ⟨p, l, t, r, e, hp, h4⟩ := h
  exact ⟨p, l, t, r, e, d.sqT B hp, d.sqT B h4.left, d.sqT B h4.told, d.sqT B h4.right⟩
theorem RowV.dx {C : Addr} (B : Bag g H) (d : Dx g TT H H') (h : RowV K C H v f) : RowV K C H' v f := by
  obtain ⟨a, dx, l, t, r, e, ha, h4⟩ := h
  exact ⟨a, dx, l, t, r, e, d.at_ B ha (fun ps z => nomatch z) (fun ps z => nomatch z), d.sqT B h4.left, d.sqT B h4.told, d.sqT B h4.right⟩
theorem NearR.uniq {bad : Int → Prop} {v v' : V} (h : NearR bad v) (h' : NearR bad v') : v = v' ∧ Sc v := by
  rcases h with ⟨rfl, n⟩ | ⟨m, rfl, hm⟩
  · rcases h' with ⟨rfl, _⟩ | ⟨m, rfl, hm⟩
    · exact ⟨rfl, .non⟩
    · exact absurd hm.1 (n m)
  · rcases h' with ⟨rfl, n⟩ | ⟨m', rfl, hm'⟩
    · exact absurd hm.1 (n m)
    · rw [hm.uniq hm']
      exact ⟨rfl, .int _⟩
theorem clip {a : Int} : (if (if a < 9999 then a else 9999) > 0 - 9999 then (if a < 9999 then a else 9999) else 0 - 9999) = max (-9999) (min 9999 a) := by
  split <;> split at * <;> omega
end
section
variable {P : Program} {w : World} {K : PySem.W.Frag} {mg : Str → Option Value} {base : Heap}
/-! ### what is asked of a row -/
def spAsked (K : PySem.W.Frag) (C : Addr) (TT : List (Addr × Str)) : Sp := fun vs H Q _ => ∃ (g : Bg) (v mv : V) (f m : Form), vs = [.ref g.b, v, mv] ∧ Bag g H ∧ Tabs TT H ∧ RowV K C H v f ∧ FmV K H mv m ∧ Md m ∧ Least (sign m) f ∧ Big f 12 24 11000 ∧ ∀ H', Dx g TT H H' → Q (.bl true) H'
theorem sc_asked : FnScope ["_law_bag_here", "_law_row", "_law_model_here", "_law_base", "_law_spots", "_law_at", "_law_end", "_law_d", "_law_word_here", "_law_fresh", "_law_changed", "_law_n", "_law_spot"] ["_law_bag_here", "_law_row", "_law_model_here"] (defScope (top 58)) := ⟨rfl, rfl, rfl, by decide +kernel, rfl, by decide +kernel, by decide +kernel⟩
theorem ok_asked {f : Addr} {fd : FuncData} {C CW CI T : Addr} {TT : List (Addr × Str)} (F : FnP K "_law_asked" (top 58) f fd) (o_R : RowO P w K mg base C CW CI T TT) (m_len : mg "len" = none) (m_min : mg "min" = none) (m_max : mg "max" = none)
    (c__law_draw : Cal P w K mg base CX0 "_law_draw" 1 ["_law_bag_here", "_law_many"] spDraw) (c__law_of : Cal P w K mg base CX0 "_law_of" 2 ["_law_bag_here", "_law_things"] spOf) (c__law_word : Cal P w K mg base CX0 "_law_word" 2 ["_law_bag_here", "_law_size", "_law_n"] (spLWord K)) (c__law_like : Cal P w K mg base CX0 "_law_like" 6 ["_law_found", "_law_due"] (spLike K NoA 5))
    (c__law_sign : Cal P w K mg base CX0 "_law_sign" 1 ["_law_model_here", "_law_at"] (spSign K)) (c__law_cells : Cal P w K mg base CX0 "_law_cells" 2 ["_law_model_here", "_law_first", "_law_end"] (spStr K)) (c__law_row_so : Cal P w K mg base CX0 "_law_row_so" 7 ["_law_row", "_law_model_here"] (spSo K C)) (c__law_put : Cal P w K mg base CX0 "_law_put" 3 ["_law_model_here", "_law_at", "_law_word_here"] (spPut K)) (c__law_same : Cal P w K mg base CX0 "_law_same" 5 ["_law_one", "_law_two"] (spLSame K))
    (c__law_strange : Cal P w K mg base CX0 "_law_strange" 2 ["_law_model_here", "_law_n"] (spLStg K)) (c__law_apart : Cal P w K mg base CX0 "_law_apart" 2 ["_law_one", "_law_two"] (spLApa K)) : FnOk P w K mg base CX0 9 f fd ["_law_bag_here", "_law_row", "_law_model_here"] (spAsked K C TT) := by
  have sc := sc_asked
  refine F.ok sc (fun vs H Q E h => ?_) (fun cdv A outer s H vs Q E hr h => ?_)
  · obtain ⟨g, v, mv, f, m, rfl, _⟩ := h
    rfl
  · obtain ⟨g, v, mv, fr, m, rfl, hB, hT, hv, hm, md, lf, big, q⟩ := h
    have hr_op : Room 8 _ := hr
    have hr_changed : Room 8 _ := hr
    have hr__law_row_so : Room 7 _ := hr.mono (by decide)
    have hr__law_like : Room 6 _ := hr.mono (by decide)
    have hr__law_same : Room 5 _ := hr.mono (by decide)
    have hr_strange : Room 5 _ := hr.mono (by decide)
    have hr_apart : Room 5 _ := hr.mono (by decide)
    have hr_ix : Room 3 _ := hr.mono (by decide)
    have hr_word : Room 3 _ := hr.mono (by decide)
    have hr__law_put : Room 3 _ := hr.mono (by decide)
    have hr__law_of : Room 2 _ := hr.mono (by decide)
    have hr__law_word : Room 2 _ := hr.mono (by decide)
    have hr__law_cells : Room 2 _ := hr.mono (by decide)
    have hr__law_strange : Room 2 _ := hr.mono (by decide)
    have hr__law_apart : Room 2 _ := hr.mono (by decide)
    have hr__law_draw : Room 1 _ := hr.mono (by decide)
    have hr__law_sign : Room 1 _ := hr.mono (by decide)
    have px := passN (P := P) (w := w) (X := (cxOf CX0 P w K mg base ["_law_bag_here", "_law_row", "_law_model_here", "_law_base", "_law_spots", "_law_at", "_law_end", "_law_d", "_law_word_here", "_law_fresh", "_law_changed", "_law_n", "_law_spot"] "_law_asked" (defScope (top 58)) f cdv A outer s H E).nox) rfl rfl
    obtain ⟨f_wrd, fd_wrd, M_word, F_word, b_word⟩ := o_R.wrd
    obtain ⟨f_chg, fd_chg, M_changed, F_changed, b_changed⟩ := o_R.chg
    obtain ⟨f_stg, fd_stg, M_strange, F_strange, b_strange⟩ := o_R.stg
    obtain ⟨f_apa, fd_apa, M_apart, F_apart, b_apart⟩ := o_R.apa
    have rn : ∀ {l t r : Addr} {s : Int} {x : Str}, (x = "word" ∨ x = "changed" ∨ x = "strange" ∨ x = "apart") → (rowF l t r s).lookup x = none := fun hx => by
      rcases hx with rfl | rfl | rfl | rfl <;> exact row_no (by decide) (by decide) (by decide) (by decide)
    have okf := Least.ok lf
    have es : ∀ c, sign fr c = sign m c := fun c => lf.sign c
    have bs := md.s
    obtain ⟨p0, l, t, r, rfl, hp, h4⟩ := id hm
    obtain ⟨va, dx, l2, t2, r2, rfl, hva, h42⟩ := id hv
    refine ⟨_, PSs.nox (pss_cons (ps_set (i := 3) sc.nd rfl (Or.inl rfl) (pe_ix (show IxR _ (rIxT K) from ix_tup) (pv 2) pe_int (fun _ _ => rfl)))
      (pss_cons (ps_set (i := 4) sc.nd rfl (Or.inl rfl) (pe_lst (pa_cons (pe_op op_sub (pe_cal c__law_draw hr__law_draw rfl (pa_cons (pv 0) (pa_cons pe_int pa_nil))) pe_int) (pa_cons (pe_op op_sub (pe_op op_add (pv 3) (pe_cal c__law_draw hr__law_draw rfl (pa_cons (pv 0) (pa_cons pe_int pa_nil)))) pe_int) (pa_cons (pe_op op_sub (pe_cal c__law_draw hr__law_draw rfl (pa_cons (pv 0) (pa_cons pe_int pa_nil))) pe_int) (pa_cons pe_int (pa_cons (pe_op op_sub pe_int pe_int) pa_nil)))))))
      (Evl.pss_cut (ps_for PassesOwn.never rfl (pi_list (pe_lc (own := [("_law_spot", 12)]) (g := gName 12) rfl sc.nd (pi_list (pv 4)) (blkOk_by (N := ["_law_bag_here", "_law_row", "_law_model_here", "_law_base", "_law_spots", "_law_at", "_law_end", "_law_d", "_law_word_here", "_law_fresh", "_law_changed", "_law_n", "_law_spot"]) (sc := defScope (top 58)) (by decide +kernel)) (fun _ _ _ _ _ => (pg_name (i := 12) sc.nd rfl (Or.inl rfl))) (fun _ _ _ _ _ => pts_nil) (fun _ _ _ _ _ => (pe_callB (call_max2 rfl) (by rfl) m_max (by decide +kernel) (pa_cons (pe_op op_sub pe_int pe_int) (pa_cons (pe_callB (call_min2 rfl) (by rfl) m_min (by decide +kernel) (pa_cons pe_int (pa_cons (pv 12) pa_nil))) pa_nil)))))) (pg_name (i := 5) sc.nd rfl (Or.inl rfl)) (pss_cons (ps_if (pt_not (pt_val (pe_cal c__law_like hr__law_like rfl (pa_cons (pe_ixRow o_R.ix hr_ix (pv 1) (pv 5)) (pa_cons (pe_cal c__law_sign hr__law_sign rfl (pa_cons (pv 2) (pa_cons (pv 5) pa_nil))) pa_nil))))) (pss_one (ps_ret pe_bl)) pss_nil)
      (pss_cons (ps_set (i := 6) sc.nd rfl (Or.inl rfl) (pe_callB (call_max2 rfl) (by rfl) m_max (by decide +kernel) (pa_cons (pe_op op_sub pe_int pe_int) (pa_cons (pe_callB (call_min2 rfl) (by rfl) m_min (by decide +kernel) (pa_cons pe_int (pa_cons (pe_op op_sub (pe_op op_add (pv 5) (pe_cal c__law_draw hr__law_draw rfl (pa_cons (pv 0) (pa_cons pe_int pa_nil)))) pe_int) pa_nil))) pa_nil))))
      (pss_one (ps_if (pt_not (pt_val (pe_cal c__law_like hr__law_like rfl (pa_cons (pe_meth (pv 1) o_R.cl M_word F_word hr_word b_word .nil pass0 (pa_cons (pv 5) (pa_cons (pv 6) pa_nil))) (pa_cons (pe_cal c__law_cells hr__law_cells rfl (pa_cons (pv 2) (pa_cons (pv 5) (pa_cons (pv 6) pa_nil)))) pa_nil))))) (pss_one (ps_ret pe_bl)) pss_nil)))))
      (pss_cons (ps_set (i := 7) sc.nd rfl (Or.inl rfl) (pe_cal c__law_of hr__law_of rfl (pa_cons (pv 0) (pa_cons (pe_lst (pa_cons pe_int (pa_cons pe_int (pa_cons (pe_op op_sub (pe_cal c__law_draw hr__law_draw rfl (pa_cons (pv 0) (pa_cons pe_int pa_nil))) pe_int) (pa_cons (pe_op op_sub (pe_cal c__law_draw hr__law_draw rfl (pa_cons (pv 0) (pa_cons pe_int pa_nil))) pe_int) (pa_cons (pe_op op_sub (pe_cal c__law_draw hr__law_draw rfl (pa_cons (pv 0) (pa_cons pe_int pa_nil))) pe_int) (pa_cons pe_int (pa_cons (pe_op op_sub pe_int pe_int) pa_nil)))))))) pa_nil))))
      (pss_cons (ps_if (PW.pt (pw_or (pt_not (pt_val (pe_cal c__law_row_so hr__law_row_so rfl (pa_cons (pe_op (op_shrR o_R hr_op) (pv 1) (pv 7)) (pa_cons (pe_op (show OpR _ (binaryOp .Add) (rCatA K) from op_catA) (pe_slice sl_tupA (pv 2) po_none (po_some pe_int)) (pe_tup (pa_cons (pe_op op_add (pv 3) (pv 7)) pa_nil))) pa_nil))))) (pw_or1 (pt_not (pt_val (pe_cal c__law_row_so hr__law_row_so rfl (pa_cons (pe_op (op_shlR o_R hr_op) (pv 1) (pv 7)) (pa_cons (pe_op (show OpR _ (binaryOp .Add) (rCatA K) from op_catA) (pe_slice sl_tupA (pv 2) po_none (po_some pe_int)) (pe_tup (pa_cons (pe_op op_sub (pv 3) (pv 7)) pa_nil))) pa_nil)))))))) (pss_one (ps_ret pe_bl)) pss_nil)
      (Evl.pss_cut (ps_if (PW.pt (pw_or (pt_cmpR (op_neRow o_R hr_op) (pe_op (op_shlR o_R hr_op) (pe_op (op_shrR o_R hr_op) (pv 1) (pv 7)) (pv 7)) (pv 1) (nomark _)) (pw_or1 (pt_not (pt_val (pe_cal c__law_like hr__law_like rfl (pa_cons (pe_cmpR (op_eqRow o_R hr_op) (pe_op (op_shrR o_R hr_op) (pe_op (op_shlR o_R hr_op) (pv 1) (pv 7)) (pv 7)) (pv 1) (nomark _)) (pa_cons pe_bl pa_nil)))))))) (pss_one (ps_ret pe_bl)) pss_nil)
      (pss_cons (ps_set (i := 5) sc.nd rfl (Or.inl rfl) (pe_callB (call_max2 rfl) (by rfl) m_max (by decide +kernel) (pa_cons (pe_op op_sub pe_int pe_int) (pa_cons (pe_callB (call_min2 rfl) (by rfl) m_min (by decide +kernel) (pa_cons pe_int (pa_cons (pe_op op_sub (pe_op op_add (pv 3) (pe_cal c__law_draw hr__law_draw rfl (pa_cons (pv 0) (pa_cons pe_int pa_nil)))) pe_int) pa_nil))) pa_nil))))
      (pss_cons (ps_set (i := 8) sc.nd rfl (Or.inl rfl) (pe_cal c__law_of hr__law_of rfl (pa_cons (pv 0) (pa_cons (pe_lst (pa_cons (pe_tup pa_nil) (pa_cons (pe_cal c__law_word hr__law_word rfl (pa_cons (pv 0) (pa_cons (pe_op op_add pe_int (pe_cal c__law_draw hr__law_draw rfl (pa_cons (pv 0) (pa_cons pe_int pa_nil)))) (pa_cons pe_int pa_nil)))) (pa_cons (pe_cal c__law_word hr__law_word rfl (pa_cons (pv 0) (pa_cons pe_int (pa_cons pe_int pa_nil)))) (pa_cons (pe_cal c__law_cells hr__law_cells rfl (pa_cons (pv 2) (pa_cons (pv 5) (pa_cons (pe_op op_add (pv 5) pe_int) pa_nil)))) pa_nil))))) pa_nil))))
      (pss_cons (ps_set (i := 9) sc.nd rfl (Or.inl rfl) (pe_cal c__law_put hr__law_put rfl (pa_cons (pv 2) (pa_cons (pv 5) (pa_cons (pv 8) pa_nil)))))
      (pss_cons (ps_set (i := 10) sc.nd rfl (Or.inl rfl) (pe_meth (pv 1) o_R.cl M_changed F_changed hr_changed b_changed .nil px (pa_cons (pv 5) (pa_cons (pv 8) pa_nil))))
      (Evl.pss_cut (ps_if (PW.pt (pw_or (pt_not (pt_val (pe_cal c__law_row_so hr__law_row_so rfl (pa_cons (pv 10) (pa_cons (pv 9) pa_nil))))) (pw_or1 (pt_not (pt_val (pe_cal c__law_like hr__law_like rfl (pa_cons (pe_cmpR (op_eqRow o_R hr_op) (pv 10) (pv 1) (nomark _)) (pa_cons (pe_cal c__law_same hr__law_same rfl (pa_cons (pv 9) (pa_cons (pv 2) pa_nil))) pa_nil)))))))) (pss_one (ps_ret pe_bl)) pss_nil)
      (pss_cons (ps_set (i := 11) sc.nd rfl (Or.inl rfl) (pe_cal c__law_of hr__law_of rfl (pa_cons (pv 0) (pa_cons (pe_lst (pa_cons pe_int (pa_cons pe_int (pa_cons pe_int (pa_cons (pe_op op_add pe_int (pe_cal c__law_draw hr__law_draw rfl (pa_cons (pv 0) (pa_cons pe_int pa_nil)))) pa_nil))))) pa_nil))))
      (pss_cons (ps_if (pt_not (pt_val (pe_cal c__law_like hr__law_like rfl (pa_cons (pe_lst (pa_cons (pe_meth (pv 1) o_R.cl M_strange F_strange hr_strange b_strange .nil pass0 (pa_cons (pv 11) pa_nil)) (pa_cons (pe_meth (pv 1) o_R.cl M_strange F_strange hr_strange b_strange .nil pass0 (pa_cons pe_int pa_nil)) pa_nil))) (pa_cons (pe_lst (pa_cons (pe_cal c__law_strange hr__law_strange rfl (pa_cons (pv 2) (pa_cons (pv 11) pa_nil))) (pa_cons pe_non pa_nil))) pa_nil))))) (pss_one (ps_ret pe_bl)) pss_nil)
      (pss_one (ps_ret (pe_cal c__law_like hr__law_like rfl (pa_cons (pe_lst (pa_cons (pe_meth (pv 1) o_R.cl M_apart F_apart hr_apart b_apart .nil pass0 (pa_cons (pv 10) pa_nil)) (pa_cons (pe_meth (pv 10) o_R.cl M_apart F_apart hr_apart b_apart .nil pass0 (pa_cons (pv 1) pa_nil)) (pa_cons (pe_meth (pv 1) o_R.cl M_apart F_apart hr_apart b_apart .nil pass0 (pa_cons (pv 1) pa_nil)) pa_nil)))) (pa_cons (pe_op op_cat (pe_op op_rep (pe_lst (pa_cons (pe_cal c__law_apart hr__law_apart rfl (pa_cons (pv 2) (pa_cons (pv 9) pa_nil))) pa_nil)) pe_int) (pe_lst (pa_cons pe_non pa_nil))) pa_nil)))))))))))))))))), ?_⟩
    refine ⟨_, rfl, p0, _, 3, _, rfl, rfl, hp, rfl, ?_⟩
    -- the spots
    refine ⟨_, rfl, g, _, rfl, hB, by decide, by decide, fun a1 H1 dr1 a10 a11 => ?_⟩
    refine ⟨_, _, rfl, rfl, _, rfl, _, rfl, g, _, rfl, dr1.2, by decide, by decide, fun a2 H2 dr2 a20 a21 => ?_⟩
    refine ⟨_, _, rfl, rfl, _, _, rfl, rfl, _, rfl, g, _, rfl, dr2.2, by decide, by decide, fun a3 H3 dr3 a30 a31 => ?_⟩
    refine ⟨_, _, rfl, rfl, _, _, rfl, rfl, (by show 5 ≤ sizeLine; decide), fun L1 hL1 => ?_⟩
    have d3 := (dr1.trans dr2).trans dr3
    let spots : List Int := [a1 - 20, m.start + a2 - 15, a3 - 9999, 9999, 0 - 9999]
    have s4 : Same H3 (upd H3 L1 (.lst (spots.map V.int))) := Same.new hL1
    have k4 : upd H3 L1 (.lst (spots.map V.int)) L1 = some (.lst (spots.map V.int)) := upd_same
    show Evl.tCut _ _ _ _ (upd H3 L1 (.lst (spots.map V.int)))
    generalize upd H3 L1 (.lst (spots.map V.int)) = H4 at s4 k4
    have d4 : Dx g TT H H4 := Dx.drew hB hT (d3.trans (Drew.same d3.2 s4))
    have lb1 : L1 ≠ g.b := d3.2.ne hL1
    clear dr1 dr2 dr3 d3 s4 hL1
    refine ⟨fun σ' H' => ∃ x4 x5 x6, σ' = [some (.ref g.b), some (.ref va), some (.ref p0), some (.int m.start), x4, x5, x6, none, none, none, none, none, none] ∧ Dx g TT H H', ?_, ?_⟩
    · refine ⟨_, rfl, L1, rfl, ⟨_, SqL.of k4⟩, fun D hD => ?_⟩
      refine lc_all (walk_list (K := K) (a := L1) (xs := spots.map V.int)) (fun i => .int (max (-9999) (min 9999 (spots.getD i 0)))) (by rw [List.length_map]; show 5 ≤ _; decide) hD (fun H' kp => same_L (keep_same hD kp) (SqL.of k4)) ?_ ?_
      · rintro i x H' H'' Kc Z hi kp ⟨rfl, hx⟩ kk
        rw [List.length_map] at hi
        have hx2 : x = .int (spots.getD i 0) := by
          rw [List.getElem?_map, List.getElem?_eq_getElem hi] at hx
          rw [List.getD_eq_getElem?_getD, List.getElem?_eq_getElem hi]
          exact (Option.some.inj hx).symm
        subst hx2
        refine ⟨rfl, yes_of (iteT ?_)⟩
        refine ⟨_, _, rfl, rfl, _, rfl, _, _, rfl, _, _, rfl, ?_⟩
        rw [clip]
        exact kk _ (Same.refl _)
      · intro H5 kp hm5
        have s5 := keep_same hD kp
        have d5 : Dx g TT H H5 := d4.trans (Dx.same d4.b d4.t s5)
        have db : D ≠ g.b := d4.b.ne hD
        let at5 : List Int := spots.map fun c => max (-9999) (min 9999 c)
        have e5 : H5 D = some (.lst (at5.map V.int)) := by
          rw [hm5]
          rfl
        have atb : ∀ c ∈ at5, c.natAbs ≤ 9999 := fun c hc => by
          obtain ⟨x, _, rfl⟩ := List.mem_map.mp hc
          omega
        refine ⟨D, rfl, ⟨_, SqL.of e5⟩, for_list (K := K) (a := D) (D := { nx := _, rt := Q, bk := fun _ _ => False, ct := fun _ _ => False }) (xs := at5.map V.int) (fun i σ H' => ∃ x5 x6, σ = [some (.ref g.b), some (.ref va), some (.ref p0), some (.int m.start), some (.ref L1), x5, x6, none, none, none, none, none, none] ∧ Dx g TT H H' ∧ H' D = some (.lst (at5.map V.int))) ⟨none, none, rfl, d5, e5⟩ (fun i σ H' _ ⟨_, _, _, _, e⟩ => SqL.of e) ?_ ?_⟩
        · rintro i y σ H6 hi ⟨x5, x6, rfl, d6, e6⟩
          obtain ⟨c, hc, rfl⟩ : ∃ c, at5[i]? = some c ∧ y = V.int c := by
            rw [List.getElem?_map] at hi
            cases e : at5[i]? with
            | none =>
              rw [e] at hi
              cases hi
            | some u =>
              rw [e] at hi
              exact ⟨u, rfl, (Option.some.inj hi).symm⟩
          have cb := atb c (List.mem_of_getElem? hc)
          have hv6 := hv.dx hB d6
          have hm6 := hm.dx hB d6
          refine ⟨_, rfl, _, rfl, ixRow_ok hv6 okf fun H7 s7 => ?_⟩
          refine ⟨_, rfl, _, rfl, _, c, m, rfl, hm6.same s7, md.ok, ?_⟩
          rw [es]
          refine ⟨_, _, rfl, Alk.sc (.int _), fun H8 s8 => ⟨_, rfl, iteF ?_⟩⟩
          have s78 := s7.trans s8
          have d8 := d6.trans (Dx.same d6.b d6.t s78)
          have e8 := s78 _ _ e6
          refine ⟨_, _, rfl, rfl, _, rfl, _, rfl, g, _, rfl, d8.b, by decide, by decide, fun c1 H9 dr9 c10 c11 => ?_⟩
          have d9 := d8.trans (Dx.drew d8.b d8.t dr9)
          have e9 := dr9.1 _ _ db e8
          refine ⟨_, _, rfl, rfl, _, _, rfl, rfl, _, _, rfl, _, _, rfl, ?_⟩
          rw [clip]
          obtain ⟨en, hen⟩ : ∃ en, en = max (-9999) (min 9999 (c + c1 - 2)) := ⟨_, rfl⟩
          rw [← hen]
          have enb : en.natAbs ≤ 9999 := by omega
          have enc : en - c ≤ 20 := by omega
          clear hen
          have hv9 := hv.dx hB d9
          have hm9 := hm.dx hB d9
          refine ⟨_, rfl, va, dx, _, rfl, (d9.at_ hB hva (fun ps z => nomatch z) (fun ps z => nomatch z)), rn (.inl rfl), _, rfl, _, rfl, _, c, en, fr, rfl, hv9, okf, by omega, by omega, by omega, fun p1 H10 s10 hp1 => ?_⟩
          refine ⟨_, rfl, _, rfl, _, rfl, _, c, en, m, rfl, hm9.same s10, md.ok, by omega, by omega, by omega, fun p2 H11 s11 hp2 => ?_⟩
          rw [show sign fr = sign m from funext es] at hp1
          refine ⟨_, _, rfl, alk_nv (same_T s11 hp1) hp2 (by rw [cells_len]; omega), fun H12 s12 => ⟨_, rfl, iteF ?_⟩⟩
          have s912 := (s10.trans s11).trans s12
          exact ⟨_, _, rfl, d9.trans (Dx.same d9.b d9.t s912), s912 _ _ e9⟩
        · rintro σ H6 ⟨x5, x6, rfl, d6, e6⟩
          exact ⟨_, _, _, rfl, d6⟩
    · rintro σ' H5 ⟨x4, x5, x6, rfl, d5⟩
      -- d
      refine ⟨_, rfl, _, rfl, g, _, rfl, d5.b, by decide, by decide, fun b1 H6 dr6 b10 b11 => ?_⟩
      refine ⟨_, _, rfl, rfl, _, rfl, g, _, rfl, dr6.2, by decide, by decide, fun b2 H7 dr7 b20 b21 => ?_⟩
      refine ⟨_, _, rfl, rfl, _, rfl, g, _, rfl, dr7.2, by decide, by decide, fun b3 H8 dr8 b30 b31 => ?_⟩
      refine ⟨_, _, rfl, rfl, _, _, rfl, rfl, (by show 7 ≤ sizeLine; decide), fun L2 hL2 => ?_⟩
      have dd := (dr6.trans dr7).trans dr8
      have s9 : Same H8 (upd H8 L2 (.lst [.int 0, .int 1, .int (b1 - 6), .int (b2 - 6), .int (b3 - 9999), .int 9999, .int (0 - 9999)])) := Same.new hL2
      refine ⟨g, L2, _, rfl, dd.2.same s9, upd_same, dd.2.ne hL2, (by show 1 ≤ 7; decide), (by show 7 < 1000; decide), fun v H9 hvv dr9 => ?_⟩
      obtain ⟨d, rfl, hd⟩ : ∃ d : Int, v = .int d ∧ d.natAbs ≤ 9999 := by
        simp only [List.mem_cons, List.not_mem_nil, or_false] at hvv
        rcases hvv with rfl | rfl | rfl | rfl | rfl | rfl | rfl <;> exact ⟨_, rfl, by omega⟩
      have d9 : Dx g TT H H9 := d5.trans (Dx.drew d5.b d5.t ((dd.trans (Drew.same dd.2 s9)).trans dr9))
      clear hvv dr6 dr7 dr8 dd s9 hL2 dr9 d5
      have bg := big
      have bl := big.l
      have bt := big.t
      have br := big.r
      have bz := big.s
      have hb12 : fr.start.natAbs ≤ 11000 := bz
      -- one move and the model moved
      have mv1 : ∀ (sg : Int) (H0 : Hp) (Q' : VK), (sg = 1 ∨ sg = -1) → Dx g TT H H0 → (∀ v' H' f', Same H0 H' → RowV K C H' v' f' → Least (fun c => sign m (c - sg * d)) f' → Big f' 12 24 21100 → Q' v' H') → rMv K C sg (.ref va) (.int d) H0 Q' := fun sg H0 Q' hsg d0 qq =>
        ⟨d, fr, 12, 24, 11000, rfl, hv.dx hB d0, okf, big, by decide, by decide, by omega, fun v' H' f' s' hv' lf' big' => qq v' H' f' s' hv' (lf'.cong fun c => es _) ⟨big'.l, big'.t, big'.r, Nat.le_trans big'.s (by omega)⟩⟩
      have mv2 : ∀ (sg : Int) (H0 : Hp) (v1 : V) (f1 : Form) (Q' : VK), (sg = 1 ∨ sg = -1) → RowV K C H0 v1 f1 → Least (fun c => sign m (c - sg * d)) f1 → Big f1 12 24 21100 → (∀ v' H', Same H0 H' → RowV K C H' v' fr → Q' v' H') → rMv K C (-sg) v1 (.int d) H0 Q' := fun sg H0 v1 f1 Q' hsg hv1 lf1 big1 qq =>
        ⟨d, f1, 12, 24, 21100, rfl, hv1, Least.ok lf1, big1, by decide, by decide, by omega, fun v' H' f' s' hv' lf' big' => by
          have e : f' = fr := (lf'.cong (g' := sign m) fun c => by
            show sign f1 (c - -sg * d) = sign m c
            rw [lf1.sign]
            show sign m (c - -sg * d - sg * d) = sign m c
            congr 1
            rw [Int.neg_mul]
            omega).uniq lf
          rw [e] at hv'
          exact qq v' H' s' hv'⟩
      -- u
      refine ⟨_, rfl, _, rfl, mv1 1 H9 _ (.inl rfl) d9 fun vu Hau fu sau hvu lfu bgu => ?_⟩
      have dau := d9.trans (Dx.same d9.b d9.t sau)
      refine ⟨_, rfl, _, rfl, slT (dau.sqT hB hp) fun pau Hbu sbu hpau => ?_⟩
      have hau : SqT K Hbu pau [.ref l, .ref t, .ref r] := hpau
      have dbu := dau.trans (Dx.same dau.b dau.t sbu)
      refine ⟨_, rfl, _, rfl, _, _, rfl, rfl, (by show 1 ≤ sizeLine; decide), fun pbu hpbu => ?_⟩
      have scu : Same Hbu (upd Hbu pbu (.tup [.int (m.start + d)])) := Same.new hpbu
      have dcu := dbu.trans (Dx.same dbu.b dbu.t scu)
      refine catT (same_T scu hau) (SqT.of upd_same) (by show 4 ≤ sizeLine; decide) fun pcu Hdu sdu hpcu => ?_
      have ddu := dcu.trans (Dx.same dcu.b dcu.t sdu)
      have s3u := (sbu.trans scu).trans sdu
      have fmu : FmV K Hdu (.ref pcu) ⟨m.left, m.told, m.right, m.start + d⟩ := ⟨pcu, l, t, r, rfl, hpcu, ddu.sqT hB h4.left, ddu.sqT hB h4.told, ddu.sqT hB h4.right⟩
      refine ⟨_, _, fu, ⟨m.left, m.told, m.right, m.start + d⟩, rfl, hvu.same s3u, fmu, ⟨md.ok.l1, md.ok.r1⟩, ⟨Nat.le_trans md.l (by decide), Nat.le_trans md.t (by decide), Nat.le_trans md.r (by decide), by show (m.start + d).natAbs ≤ _; omega⟩, lfu.cong fun c => by rw [sign_move, Int.one_mul], fun Heu seu => ⟨_, rfl, iteF ?_⟩⟩
      have deu := ddu.trans (Dx.same ddu.b ddu.t seu)
      -- w
      refine ⟨_, rfl, _, rfl, mv1 (-1) Heu _ (.inr rfl) deu fun vw Haw fw saw hvw lfw bgw => ?_⟩
      have daw := deu.trans (Dx.same deu.b deu.t saw)
      refine ⟨_, rfl, _, rfl, slT (daw.sqT hB hp) fun paw Hbw sbw hpaw => ?_⟩
      have haw : SqT K Hbw paw [.ref l, .ref t, .ref r] := hpaw
      have dbw := daw.trans (Dx.same daw.b daw.t sbw)
      refine ⟨_, rfl, _, rfl, _, _, rfl, rfl, (by show 1 ≤ sizeLine; decide), fun pbw hpbw => ?_⟩
      have scw : Same Hbw (upd Hbw pbw (.tup [.int (m.start - d)])) := Same.new hpbw
      have dcw := dbw.trans (Dx.same dbw.b dbw.t scw)
      refine catT (same_T scw haw) (SqT.of upd_same) (by show 4 ≤ sizeLine; decide) fun pcw Hdw sdw hpcw => ?_
      have ddw := dcw.trans (Dx.same dcw.b dcw.t sdw)
      have s3w := (sbw.trans scw).trans sdw
      have fmw : FmV K Hdw (.ref pcw) ⟨m.left, m.told, m.right, m.start - d⟩ := ⟨pcw, l, t, r, rfl, hpcw, ddw.sqT hB h4.left, ddw.sqT hB h4.told, ddw.sqT hB h4.right⟩
      refine ⟨_, _, fw, ⟨m.left, m.told, m.right, m.start - d⟩, rfl, hvw.same s3w, fmw, ⟨md.ok.l1, md.ok.r1⟩, ⟨Nat.le_trans md.l (by decide), Nat.le_trans md.t (by decide), Nat.le_trans md.r (by decide), by show (m.start - d).natAbs ≤ _; omega⟩, lfw.cong fun c => by rw [show m.start - d = m.start + -d by omega, sign_move, show (-1 : Int) * d = -d by omega], fun Hew sew => ⟨_, rfl, iteF ?_⟩⟩
      have dew := ddw.trans (Dx.same ddw.b ddw.t sew)
      refine ⟨fun σ' H' => ∃ x4 x5 x6, σ' = [some (.ref g.b), some (.ref va), some (.ref p0), some (.int m.start), x4, x5, x6, some (.int d), none, none, none, none, none] ∧ Dx g TT H H', ?_, ?_⟩
      · refine ⟨_, rfl, _, rfl, mv1 1 Hew _ (.inl rfl) dew fun v1 Ha f1 sa hv1 lf1 bg1 => ?_⟩
        have da := dew.trans (Dx.same dew.b dew.t sa)
        refine ⟨_, rfl, mv2 1 Ha v1 f1 _ (.inl rfl) hv1 lf1 bg1 fun v2 Hb sb hv2 => ?_⟩
        have db := da.trans (Dx.same da.b da.t sb)
        refine ⟨_, rfl, fr, fr, hv2, hv.dx hB db, fun Hc scc => ⟨_, rfl, ?_⟩⟩
        have dc := db.trans (Dx.same db.b db.t scc)
        refine iteF_of (by rw [decide_eq_true rfl]; rfl) ?_
        refine ⟨_, rfl, _, rfl, mv1 (-1) Hc _ (.inr rfl) dc fun v3 Hd f3 sd hv3 lf3 bg3 => ?_⟩
        have dd := dc.trans (Dx.same dc.b dc.t sd)
        refine ⟨_, rfl, mv2 (-1) Hd v3 f3 _ (.inr rfl) hv3 lf3 bg3 fun v4 He se hv4 => ?_⟩
        have de := dd.trans (Dx.same dd.b dd.t se)
        refine ⟨_, rfl, .inl ⟨fr, fr, hv4, hv.dx hB de, fun Hf sf => ?_⟩⟩
        have df := de.trans (Dx.same de.b de.t sf)
        rw [decide_eq_true rfl]
        refine ⟨_, _, rfl, Alk.sc (.bl _), fun Hg sg => ⟨_, rfl, iteF ?_⟩⟩
        exact ⟨_, _, _, rfl, df.trans (Dx.same df.b df.t sg)⟩
      · rintro σ' H7 ⟨x4, x5, x6, rfl, d7⟩
        clear mv1 mv2
        -- at
        refine ⟨_, _, rfl, rfl, _, rfl, _, rfl, g, _, rfl, d7.b, by decide, by decide, fun c1 H8 dr8 c10 c11 => ?_⟩
        have d8 := d7.trans (Dx.drew d7.b d7.t dr8)
        refine ⟨_, _, rfl, rfl, _, _, rfl, rfl, _, _, rfl, _, _, rfl, ?_⟩
        rw [clip]
        obtain ⟨a, ha⟩ : ∃ a, a = max (-9999) (min 9999 (m.start + c1 - 12)) := ⟨_, rfl⟩
        rw [← ha]
        have ab : a.natAbs ≤ 9999 := by omega
        have ac : (a - m.start).natAbs ≤ 20 := by omega
        clear ha
        -- the word
        refine ⟨_, rfl, Nat.zero_le _, fun w0 hw0 => ?_⟩
        have s9 : Same H8 (upd H8 w0 (.tup [])) := Same.new hw0
        have e0 : SqT K (upd H8 w0 (.tup [])) w0 (nv []) := SqT.of upd_same
        have d9 := d8.trans (Dx.same d8.b d8.t s9)
        generalize upd H8 w0 (.tup []) = H9 at s9 e0 d9
        refine ⟨_, rfl, _, rfl, g, _, rfl, d9.b, by decide, by decide, fun c2 H10 dr10 c20 c21 => ?_⟩
        obtain ⟨k2, rfl⟩ : ∃ k : Nat, c2 = (k : Int) := ⟨c2.toNat, by omega⟩
        refine ⟨_, _, rfl, rfl, g, 1 + k2, 3, by rw [Int.natCast_add]; rfl, dr10.2, by omega, by decide, by decide, fun w1 H11 x1 dr11 e1 l1 g1 => ?_⟩
        refine ⟨_, rfl, g, 1, 64, rfl, dr11.2, by decide, by decide, by decide, fun w2 H12 x2 dr12 e2 l2 g2 => ?_⟩
        have d11 := d9.trans (Dx.drew d9.b d9.t (dr10.trans dr11))
        have d12 := d11.trans (Dx.drew d11.b d11.t dr12)
        have e0' := sqT_drew d9.b ((dr10.trans dr11).trans dr12) e0
        have e1' := sqT_drew dr11.2 dr12 e1
        refine ⟨_, rfl, _, rfl, _, rfl, _, _, rfl, rfl, _, a, a + 3, m, rfl, hm.dx hB d12, md.ok, by omega, by omega, by omega, fun w3 H13 s13 e3 => ?_⟩
        rw [show (a + 3 - a).toNat = 3 by omega] at e3
        have d13 := d12.trans (Dx.same d12.b d12.t s13)
        refine ⟨(by show 4 ≤ sizeLine; decide), fun L3 hL3 => ?_⟩
        have s14 : Same H13 (upd H13 L3 (.lst [.ref w0, .ref w1, .ref w2, .ref w3])) := Same.new hL3
        refine ⟨g, L3, _, rfl, d13.b.same s14, upd_same, d13.b.ne hL3, (by show 1 ≤ 4; decide), (by show 4 < 1000; decide), fun wv H14 hwv dr14 => ?_⟩
        have dr : Drew g H13 H14 := (Drew.same d13.b s14).trans dr14
        have d14 := d13.trans (Dx.drew d13.b d13.t dr)
        have sgl : ∀ (xs : List Nat) (n : Nat), n ≤ 64 → (∀ x ∈ xs, x < n) → Sg xs := fun xs n hn h x hx => Nat.lt_of_lt_of_le (h x hx) hn
        obtain ⟨u, xs, rfl, hu, xl, xg⟩ : ∃ u xs, wv = .ref u ∧ SqT K H14 u (nv xs) ∧ xs.length ≤ 20 ∧ Sg xs := by
          simp only [List.mem_cons, List.not_mem_nil, or_false] at hwv
          rcases hwv with rfl | rfl | rfl | rfl
          · exact ⟨_, [], rfl, sqT_drew d13.b dr (same_T s13 e0'), by decide, fun x hx => by cases hx⟩
          · exact ⟨_, x1, rfl, sqT_drew d13.b dr (same_T s13 e1'), by omega, sgl _ 3 (by decide) g1⟩
          · exact ⟨_, x2, rfl, sqT_drew d13.b dr (same_T s13 e2), by omega, sgl _ 64 (by decide) g2⟩
          · exact ⟨_, _, rfl, sqT_drew d13.b dr e3, by rw [cells_len]; decide, sg_of fun i hi => by
              rw [cells_len] at hi
              rw [cells_at _ _ hi]
              exact sign_sg md.sg md.ok _⟩
        clear hwv s9 e0 e0' e1 e1' e2 e3 s13 s14 dr dr10 dr11 dr12 dr14 d8 d9 d11 d12 d13 hL3 g1 g2 l1 l2 hw0
        -- fresh
        refine ⟨_, rfl, _, rfl, _, rfl, _, a, u, xs, m, 4, 9999, rfl, hm.dx hB d14, md.ok, ⟨md.l, md.t, md.r, md.s⟩, by decide, by decide, hu, xl, ac, fun fv H15 m' s15 hfv okm' em' bm' => ?_⟩
        have d15 := d14.trans (Dx.same d14.b d14.t s15)
        -- changed
        refine ⟨_, rfl, va, dx, _, rfl, d15.at_ hB hva (fun ps z => nomatch z) (fun ps z => nomatch z), rn (.inr (.inl rfl)), _, rfl, _, rfl, ?_⟩
        refine ⟨_, _, a, fr, 12, 24, 11000, rfl, hv.dx hB d15, okf, big, by decide, by decide, by decide, by omega, .inl ⟨u, xs, rfl, same_T s15 hu, xg, by omega, fun cv H16 f' s16 hcv lf0 bf' => ?_⟩⟩
        have lf' : Least (sign m') f' := lf0.cong fun c => by
          rw [em', show sign fr = sign m from funext es]
        clear lf0
        have d16 := d15.trans (Dx.same d15.b d15.t s16)
        have hfv16 := hfv.same s16
        refine ⟨fun σ' H' => ∃ x4 x5 x6 x8, σ' = [some (.ref g.b), some (.ref va), some (.ref p0), some (.int m.start), x4, x5, x6, some (.int d), x8, some fv, some cv, none, none] ∧ Dx g TT H H' ∧ FmV K H' fv m' ∧ RowV K C H' cv f', ?_, ?_⟩
        · refine ⟨_, rfl, _, rfl, cv, fv, f', m', rfl, hcv, hfv16, okm', ⟨Nat.le_trans bm'.l (by decide), Nat.le_trans bm'.t (by decide), Nat.le_trans bm'.r (by decide), Nat.le_trans bm'.s (by decide)⟩, lf', fun H17 s17 => ⟨_, rfl, iteF ?_⟩⟩
          have d17 := d16.trans (Dx.same d16.b d16.t s17)
          refine ⟨_, rfl, _, rfl, .inl ⟨f', fr, hcv.same s17, hv.dx hB d17, fun H18 s18 => ?_⟩⟩
          have d18 := d17.trans (Dx.same d17.b d17.t s18)
          refine ⟨_, rfl, _, rfl, fv, _, m', m, rfl, hfv16.same (s17.trans s18), hm.dx hB d18, okm', md.ok, ⟨Nat.le_trans bm'.l (by decide), Nat.le_trans bm'.t (by decide), Nat.le_trans bm'.r (by decide), Nat.le_trans bm'.s (by decide)⟩, ⟨Nat.le_trans md.l (by decide), Nat.le_trans md.t (by decide), Nat.le_trans md.r (by decide), by omega⟩, fun H19 b s19 hb => ?_⟩
          have eb : (decide (f' = fr) == true) = b := by
            rw [Bool.eq_iff_iff, hb, beq_iff_eq, decide_eq_true_iff]
            exact lf'.eq_iff lf
          rw [eb]
          refine ⟨_, _, rfl, Alk.sc (.bl _), fun H20 s20 => ⟨_, rfl, iteF ?_⟩⟩
          have s1620 := ((s17.trans s18).trans s19).trans s20
          exact ⟨_, _, _, _, rfl, d16.trans (Dx.same d16.b d16.t s1620), hfv16.same s1620, hcv.same s1620⟩
        · rintro σ' H20 ⟨x4, x5, x6, x8, rfl, d20, hfv20, hcv20⟩
          -- n
          refine ⟨_, rfl, _, rfl, g, _, rfl, d20.b, by decide, by decide, fun c3 H21 dr21 c30 c31 => ?_⟩
          refine ⟨_, _, rfl, rfl, (by show 4 ≤ sizeLine; decide), fun L4 hL4 => ?_⟩
          have s22 : Same H21 (upd H21 L4 (.lst [.int 1, .int 2, .int 3, .int (1 + c3)])) := Same.new hL4
          refine ⟨g, L4, _, rfl, dr21.2.same s22, upd_same, dr21.2.ne hL4, (by show 1 ≤ 4; decide), (by show 4 < 1000; decide), fun v H23 hvv dr23 => ?_⟩
          obtain ⟨n, rfl, n1⟩ : ∃ n : Nat, v = .int (n : Int) ∧ 1 ≤ n := by
            simp only [List.mem_cons, List.not_mem_nil, or_false] at hvv
            rcases hvv with rfl | rfl | rfl | rfl
            · exact ⟨1, rfl, by decide⟩
            · exact ⟨2, rfl, by decide⟩
            · exact ⟨3, rfl, by decide⟩
            · exact ⟨(1 + c3).toNat, congrArg V.int (by omega), by omega⟩
          have dd : Dx g TT H20 H23 := Dx.drew d20.b d20.t ((dr21.trans (Drew.same dr21.2 s22)).trans dr23)
          have d23 := d20.trans dd
          have hfv23 := hfv20.dx d20.b dd
          have hcv23 := hcv20.dx d20.b dd
          clear hvv s22 dr21 dr23 hL4 dd d20 hfv20 hcv20
          -- strange
          have va_at : ∀ {H'}, Dx g TT H H' → H' va = some (.ins C dx (rowF l2 t2 r2 fr.start)) := fun dH => dH.at_ hB hva (fun ps z => nomatch z) (fun ps z => nomatch z)
          have fbig : Big fr 1000 200000 (2 ^ 40) := ⟨Nat.le_trans big.l (by decide), Nat.le_trans big.t (by decide), Nat.le_trans big.r (by decide), Nat.le_trans big.s (by decide)⟩
          refine ⟨_, rfl, va, dx, _, rfl, va_at d23, rn (.inr (.inr (.inl rfl))), _, rfl, _, n, fr, rfl, hv.dx hB d23, okf, fbig, d23.t, fun q1 H24 e24 t24 z1 => ?_⟩
          have d24' : Dx g TT H23 H24 := Dx.ext d23.b e24 t24
          have d24 := d23.trans d24'
          refine ⟨_, rfl, va, dx, _, rfl, va_at d24, rn (.inr (.inr (.inl rfl))), _, 64, fr, rfl, hv.dx hB d24, okf, fbig, d24.t, fun q2 H25 e25 t25 z2 => ?_⟩
          have d25' : Dx g TT H24 H25 := Dx.ext d24.b e25 t25
          have d25 := d24.trans d25'
          have z2' : q2 = .non := (NearR.uniq z2 (.inl ⟨rfl, fun c hc => by
            have := sign_sg md.sg md.ok c
            rw [← es] at this
            exact absurd hc (by omega)⟩)).1
          subst z2'
          refine ⟨(by show 2 ≤ sizeLine; decide), fun L5 hL5 => ?_⟩
          have s26 : Same H25 (upd H25 L5 (.lst [q1, .non])) := Same.new hL5
          have k26 : upd H25 L5 (.lst [q1, .non]) L5 = some (.lst [q1, .non]) := upd_same
          have d26 := d25.trans (Dx.same d25.b d25.t s26)
          refine ⟨_, rfl, _, rfl, _, n, m, rfl, hm.dx hB d26, md.ok, ⟨Nat.le_trans md.l (by decide), Nat.le_trans md.t (by decide), Nat.le_trans md.r (by decide), by omega⟩, fun q3 H27 s27 z3 => ?_⟩
          have d27 := d26.trans (Dx.same d26.b d26.t s27)
          have eq3 := NearR.uniq (z1.cong fun c => by rw [es]) z3
          refine ⟨(by show 2 ≤ sizeLine; decide), fun L6 hL6 => ?_⟩
          have s28 : Same H27 (upd H27 L6 (.lst [q3, .non])) := Same.new hL6
          have d28 := d27.trans (Dx.same d27.b d27.t s28)
          refine ⟨_, _, rfl, alk_lst (n := 4) (s28 _ _ (s27 _ _ k26)) upd_same (by show 2 ≤ 1000; decide) (.cons (eq3.1 ▸ Alk.sc eq3.2) (.cons (Alk.sc .non) .nil)), fun H29 s29 => ⟨_, rfl, iteF ?_⟩⟩
          have d2329 : Dx g TT H23 H29 := (d24'.trans d25').trans (Dx.same d25.b d25.t (((s26.trans s27).trans s28).trans s29))
          have d29 := d23.trans d2329
          have hfv29 := hfv23.dx d23.b d2329
          have hcv29 := hcv23.dx d23.b d2329
          clear d24' d25' d2329 hfv23 hcv23 s26 k26 s27 s28 s29 z1 z2 z3 eq3 d24 d25 d26 d27 d28 hL5 hL6 e24 e25 t24 t25
          -- apart
          obtain ⟨ca, cdx, cl, ct, cr, rfl, hca, hc4⟩ := id hcv29
          have ca_at : ∀ {H'}, Dx g TT H29 H' → H' ca = some (.ins C cdx (rowF cl ct cr f'.start)) := fun dH => dH.at_ d29.b hca (fun ps z => nomatch z) (fun ps z => nomatch z)
          have b1 : Big fr 1000 100000 200000 := ⟨Nat.le_trans big.l (by decide), Nat.le_trans big.t (by decide), Nat.le_trans big.r (by decide), Nat.le_trans big.s (by decide)⟩
          have b2 : Big f' 1000 100000 200000 := ⟨Nat.le_trans bf'.l (by decide), Nat.le_trans bf'.t (by decide), Nat.le_trans bf'.r (by decide), bf'.s⟩
          refine ⟨_, rfl, va, dx, _, rfl, va_at d29, rn (.inr (.inr (.inr rfl))), _, rfl, _, _, fr, f', rfl, hv.dx hB d29, hcv29, okf, Least.ok lf', b1, b2, d29.t, fun q1 H30 e30 t30 z1 => ?_⟩
          have d30' : Dx g TT H29 H30 := Dx.ext d29.b e30 t30
          have d30 := d29.trans d30'
          refine ⟨_, rfl, ca, cdx, _, rfl, ca_at d30', rn (.inr (.inr (.inr rfl))), _, rfl, _, _, f', fr, rfl, hcv29.dx d29.b d30', hv.dx hB d30, Least.ok lf', okf, b2, b1, d30.t, fun q2 H31 e31 t31 z2 => ?_⟩
          have d31 := d30.trans (Dx.ext d30.b e31 t31)
          refine ⟨_, rfl, va, dx, _, rfl, va_at d31, rn (.inr (.inr (.inr rfl))), _, rfl, _, _, fr, fr, rfl, hv.dx hB d31, hv.dx hB d31, okf, okf, b1, b1, d31.t, fun q3 H32 e32 t32 z3 => ?_⟩
          have d32' : Dx g TT H30 H32 := (Dx.ext d30.b e31 t31).trans (Dx.ext d31.b e32 t32)
          have d32 := d30.trans d32'
          have z3' : q3 = .non := (NearR.uniq z3 (.inl ⟨rfl, fun c hc => hc rfl⟩)).1
          subst z3'
          refine ⟨(by show 3 ≤ sizeLine; decide), fun L7 hL7 => ?_⟩
          have s33 : Same H32 (upd H32 L7 (.lst [q1, q2, .non])) := Same.new hL7
          have k33 : upd H32 L7 (.lst [q1, q2, .non]) L7 = some (.lst [q1, q2, .non]) := upd_same
          have d33 := d32.trans (Dx.same d32.b d32.t s33)
          have hfv33 := (hfv29.dx d29.b (d30'.trans d32')).same s33
          have m4 := md.l
          have m5 := md.t
          have m6 := md.r
          refine ⟨_, rfl, _, rfl, _, fv, m, m', rfl, hm.dx hB d33, hfv33, md.ok, okm', ⟨by omega, by omega, by omega, by omega⟩, ⟨Nat.le_trans bm'.l (by decide), bm'.t, Nat.le_trans bm'.r (by decide), Nat.le_trans bm'.s (by decide)⟩, fun q4 H34 s34 z4 => ?_⟩
          have d34 := d33.trans (Dx.same d33.b d33.t s34)
          have e1 := NearR.uniq (z1.cong fun c => by rw [es, lf'.sign]) z4
          have e2 := NearR.uniq (z2.cong fun c => by rw [es, lf'.sign]; exact ne_comm) z4
          refine ⟨(by show 1 ≤ sizeLine; decide), fun L8 hL8 => ?_⟩
          have s35 : Same H34 (upd H34 L8 (.lst [q4])) := Same.new hL8
          refine ⟨L8, 2, _, rfl, rfl, upd_same, by decide, by decide, (by show 2 ≤ sizeLine; decide), fun L9 hL9 => ?_⟩
          have s36 : Same (upd H34 L8 (.lst [q4])) (upd (upd H34 L8 (.lst [q4])) L9 (.lst [q4, q4])) := Same.new hL9
          refine ⟨(by show 1 ≤ sizeLine; decide), fun L10 hL10 => ?_⟩
          have s37 : Same (upd (upd H34 L8 (.lst [q4])) L9 (.lst [q4, q4])) (upd (upd (upd H34 L8 (.lst [q4])) L9 (.lst [q4, q4])) L10 (.lst [.non])) := Same.new hL10
          refine ⟨L9, L10, [q4, q4], [.non], rfl, rfl, s37 _ _ upd_same, upd_same, (by show 3 ≤ sizeLine; decide), fun L11 hL11 => ?_⟩
          have s38 : Same (upd (upd (upd H34 L8 (.lst [q4])) L9 (.lst [q4, q4])) L10 (.lst [.non])) (upd (upd (upd (upd H34 L8 (.lst [q4])) L9 (.lst [q4, q4])) L10 (.lst [.non])) L11 (.lst [q4, q4, .non])) := Same.new hL11
          have s3438 := ((s35.trans s36).trans s37).trans s38
          refine ⟨_, _, rfl, alk_lst (n := 4) (s3438 _ _ (s34 _ _ k33)) upd_same (by show 3 ≤ 1000; decide) (.cons (e1.1 ▸ Alk.sc e1.2) (.cons (e2.1 ▸ Alk.sc e2.2) (.cons (Alk.sc .non) .nil))), fun H39 s39 => ?_⟩
          exact q H39 (d34.trans (Dx.same d34.b d34.t (s3438.trans s39)))
end
end K02
set_option Elab.async false
set_option linter.all false
set_option maxRecDepth 100000
set_option maxHeartbeats 4000000
namespace K02
open PySem PySem.Spec PyProof.Rows L2
section
variable {P : Program} {w : World} {K : PySem.W.Frag} {mg : Str → Option Value} {base : Heap}
def spBag (K : PySem.W.Frag) : Sp := fun vs H Q _ => ∃ (a : Addr) (ns : List Int), vs = [.ref a] ∧ SqL K H a (ns.map V.int) ∧ ns.length ≤ 63 ∧ ∀ g H', Same H H' → H g.b = none → Bag g H' → Q (.ref g.b) H'
theorem sc_bag : FnScope ["_law_script", "_law_seed", "_law_item"] ["_law_script"] (defScope (top 39)) := ⟨rfl, rfl, rfl, by decide +kernel, rfl, by decide +kernel, by decide +kernel⟩
theorem cut63 {ns : List Int} (h : ns.length ≤ 63) : cutV (ns.map V.int) none (some 63) = ns.map V.int := by
  unfold cutV
  have e0 : HT.sIx (ns.map V.int).length 0 none = 0 := HT.sIx_none _ _
  have e1 : HT.sIx (ns.map V.int).length (ns.map V.int).length (some 63) = min 63 (ns.map V.int).length := HT.sIx_nat _ _ 63
  rw [e0, e1, List.drop_zero, List.length_map, Nat.min_eq_right h, Nat.sub_zero]
  exact List.take_of_length_le (by rw [List.length_map]; exact Nat.le_refl _)
theorem ok_bag {f : Addr} {fd : FuncData} (F : FnP K "_law_bag" (top 39) f fd) (m_int : mg "int" = none) (m_list : mg "list" = none) : FnOk P w K mg base CX0 1 f fd ["_law_script"] (spBag K) := by
  have sc := sc_bag
  refine F.ok sc (fun vs H Q E h => ?_) (fun cdv A outer s H vs Q E hr h => ?_)
  · obtain ⟨a, ns, rfl, _⟩ := h
    rfl
  · obtain ⟨a, ns, rfl, hS, hl, k⟩ := h
    refine ⟨_, PSs.nox (pss_cons (ps_set (i := 1) sc.nd rfl (Or.inl rfl) pe_int)
      (pss_cons (ps_for PassesOwn.never rfl (pi_list (pe_slice sl_list (pv 0) po_none (po_some pe_int))) (pg_name (i := 2) sc.nd rfl (Or.inl rfl)) (pss_one (ps_set (i := 1) sc.nd rfl (Or.inl rfl) (pe_op op_mod (pe_callTy call_int1 (by rfl) m_int (by decide +kernel) (pa_cons (pe_op op_add (pe_op op_add (pe_op op_mul (pv 1) pe_int) (pe_op op_mod (pe_callTy call_int1 (by rfl) m_int (by decide +kernel) (pa_cons (pv 2) pa_nil)) pe_int)) pe_int) pa_nil)) pe_int))))
      (pss_one (ps_ret (pe_lst (pa_cons (pe_callTy call_list_of (by rfl) m_list (by decide +kernel) (pa_cons (pe_slice sl_list (pv 0) po_none (po_some pe_int)) pa_nil)) (pa_cons pe_int (pa_cons pe_int (pa_cons (pv 1) (pa_cons pe_int pa_nil)))))))))), ?_⟩
    refine ⟨_, rfl, 63, rfl, _, _, rfl, hS, fun p hp => ?_⟩
    have s1 : Same H (upd H p (.lst (cutV (ns.map V.int) none (some 63)))) := Same.new hp
    rw [cut63 hl] at s1 ⊢
    refine ⟨p, rfl, ⟨_, SqL.of upd_same⟩, for_list (K := K) (a := p) (xs := ns.map V.int) (fun i σ H' => ∃ (z : Int) (v : Option V), σ = [some (.ref a), some (.int z), v] ∧ H' = upd H p (.lst (ns.map V.int)) ∧ 0 ≤ z ∧ z < 2147483629) ⟨12046, none, rfl, rfl, by decide, by decide⟩ (fun i σ H' _ ⟨_, _, _, e, _⟩ => by rw [e]; exact SqL.of upd_same) ?_ ?_⟩
    · rintro i y σ H' hi ⟨z, v, rfl, rfl, h0, h1⟩
      obtain ⟨u, rfl⟩ : ∃ u, y = V.int u := by
        rw [List.getElem?_map] at hi
        cases e : ns[i]? with
        | none =>
          rw [e] at hi
          cases hi
        | some u =>
          rw [e] at hi
          exact ⟨u, (Option.some.inj hi).symm⟩
      refine ⟨_, rfl, _, _, rfl, rfl, .inr ⟨by decide, by decide⟩, _, rfl, .inl ⟨_, rfl, _, _, rfl, rfl, (by show (0 : Int) < 2147483587; decide), _, _, rfl, rfl, _, _, rfl, rfl, .inl ⟨_, rfl, _, _, rfl, rfl, (by show (0 : Int) < 2147483629; decide), ?_⟩⟩⟩
      exact ⟨_, _, rfl, rfl, Int.emod_nonneg _ (by decide), Int.emod_lt_of_pos _ (by decide)⟩
    · rintro σ H' ⟨z, v, rfl, rfl, h0, h1⟩
      refine ⟨_, rfl, 63, rfl, _, _, rfl, s1.seq hS, fun q hq => ?_⟩
      rw [cut63 hl]
      have s2 : Same H (upd (upd H p (.lst (ns.map V.int))) q (.lst (ns.map V.int))) := s1.trans (Same.new hq)
      refine ⟨q, _, rfl, .inl (SqL.of upd_same), fun l hL => ?_⟩
      refine ⟨_, rfl, (by show 5 ≤ sizeLine; decide), fun b hb => ?_⟩
      have s3 := s2.trans (Same.new (o := .lst (ns.map V.int)) hL)
      refine k ⟨b, l, ns⟩ _ (s3.trans (Same.new hb)) (s3.free hb) ⟨0, 0, z, 0, upd_same, ?_, ?_, hl, Nat.zero_le _, Int.le_refl _, h0, h1⟩
      · show upd _ b _ l = _
        rw [upd_ne (ne_of_none upd_same hb)]
        exact upd_same
      · exact ne_of_none upd_same hb
end
end K02
set_option Elab.async false
set_option linter.all false
set_option maxRecDepth 100000
set_option maxHeartbeats 4000000
namespace K02
open PySem PySem.Spec PyProof.Rows L2 RowM LamX
section
variable {K : PySem.W.Frag} {H H' : Hp} {D : Addr} {o : HO} {ys : List V} {v : V} {f : Form}
theorem FmV.upd (hD : H D = some (.lst ys)) (h : FmV K H v f) : FmV K (upd H D o) v f := by
  obtain ⟨p, l, t, r, e, hp, h4⟩ := h
  exact ⟨p, l, t, r, e, sqT_upd' hD hp, sqT_upd' hD h4.left, sqT_upd' hD h4.told, sqT_upd' hD h4.right⟩
theorem RowV.upd {C : Addr} (hD : H D = some (.lst ys)) (h : RowV K C H v f) : RowV K C (upd H D o) v f := by
  obtain ⟨a, dx, l, t, r, e, ha, h4⟩ := h
  refine ⟨a, dx, l, t, r, e, ?_, sqT_upd' hD h4.left, sqT_upd' hD h4.told, sqT_upd' hD h4.right⟩
  rw [upd_ne (fun z => by rw [z, hD] at ha; cases ha)]
  exact ha
theorem tabs_upd {T : List (Addr × Str)} (hD : H D = some (.lst ys)) (t : Tabs T H) : Tabs T (L2.upd H D o) := fun p hp => by
  obtain ⟨ps, h1, h2, h3⟩ := t p hp
  refine ⟨ps, by rw [upd_ne (fun z => by rw [z, hD] at h1; cases h1)]; exact h1, h2, fun pos cv hc => ?_⟩
  obtain ⟨c0, e1, e2⟩ := h3 pos cv hc
  refine ⟨c0, e1, ?_⟩
  rw [upd_ne (fun z => by rw [z, hD] at e2; unfold CodeO at e2; cases e2)]
  exact e2
end
/-- a pair of a row and its model -/
structure PairV (K : PySem.W.Frag) (C : Addr) (g : Bg) (L : Addr) (H : Hp) (p : V) (f m : Form) : Prop where
  ex : ∃ q rv mv, p = .ref q ∧ q ≠ g.b ∧ q ≠ L ∧ H q = some (.lst [rv, mv]) ∧ RowV K C H rv f ∧ FmV K H mv m
  md : Md m
  lf : Least (sign m) f
  big : Big f 12 24 11000
section
variable {P : Program} {w : World} {K : PySem.W.Frag} {mg : Str → Option Value} {base : Heap}
theorem if_sel {b : Bool} {i j : Nat} {σ : L2.St} {H : Hp} {Q : VK} {v : V} (h : σ[if b = true then i else j]? = some (some v)) (q : Q v H) : if b = true then tVar i σ H Q else tVar j σ H Q := by
  cases b with
  | true => exact ⟨v, h, q⟩
  | false => exact ⟨v, h, q⟩
theorem PairV.dx {C L : Addr} {g : Bg} {TT : List (Addr × Str)} {H H' : Hp} {p : V} {f m : Form} (B : Bag g H) (d : Dx g TT H H') (h : PairV K C g L H p f m) : PairV K C g L H' p f m := by
  obtain ⟨q, rv, mv, e, n1, n2, hq, hr, hm⟩ := h.ex
  exact ⟨⟨q, rv, mv, e, n1, n2, d.k _ _ n1 (fun ps z => nomatch z) hq, hr.dx B d, hm.dx B d⟩, h.md, h.lf, h.big⟩
theorem PairV.upd {C L : Addr} {g : Bg} {H : Hp} {p : V} {f m : Form} {o : HO} {ys : List V} (hL : H L = some (.lst ys)) (h : PairV K C g L H p f m) : PairV K C g L (upd H L o) p f m := by
  obtain ⟨q, rv, mv, e, n1, n2, hq, hr, hm⟩ := h.ex
  exact ⟨⟨q, rv, mv, e, n1, n2, by rw [upd_ne n2]; exact hq, hr.upd hL, hm.upd hL⟩, h.md, h.lf, h.big⟩
def spRefused (TT : List (Addr × Str)) : Sp := fun vs H Q _ => ∃ g : Bg, vs = [.ref g.b] ∧ Bag g H ∧ Tabs TT H ∧ ∀ H2, Q (.bl true) H2
def spLaw (K : PySem.W.Frag) (TT : List (Addr × Str)) : Sp := fun vs H Q _ => ∃ (a : Addr) (ns : List Int), vs = [.ref a] ∧ SqL K H a (ns.map V.int) ∧ ns.length ≤ 63 ∧ Tabs TT H ∧ ∀ H2, Q (.bl true) H2
theorem sc_law : FnScope ["_law_script", "_law_bag_here", "_law_pair", "_law_turn", "_law_model_here", "_law_least_here", "_law_rows", "_law_row", "_law_one", "_law_two"] ["_law_script"] (defScope (top 61)) := ⟨rfl, rfl, rfl, by decide +kernel, rfl, by decide +kernel, by decide +kernel⟩
theorem ok_law {f : Addr} {fd : FuncData} {C CW CI T : Addr} {TT : List (Addr × Str)} (F : FnP K "law" (top 61) f fd) (o_R : RowO P w K mg base C CW CI T TT) (m_range : mg "range" = none) (m_abs : mg "abs" = none) (m_repr : mg "repr" = none)
    (c__law_bag : Cal P w K mg base CX0 "_law_bag" 1 ["_law_script"] (spBag K)) (c__law_model : Cal P w K mg base CX0 "_law_model" 3 ["_law_bag_here"] (spModel K)) (c__law_least : Cal P w K mg base CX0 "_law_least" 4 ["_law_model_here"] (spLLeast K)) (c__law_made : Cal P w K mg base CX0 "_law_made" 7 ["_law_bag_here", "_law_model_here"] (spLMade K C)) (c__law_other : Cal P w K mg base CX0 "_law_other" 3 ["_law_bag_here", "_law_model_here"] (spOther K))
    (c__law_row_so : Cal P w K mg base CX0 "_law_row_so" 7 ["_law_row", "_law_model_here"] (spSo K C)) (c__law_like : Cal P w K mg base CX0 "_law_like" 6 ["_law_found", "_law_due"] (spLike K NoA 5)) (c__law_repr : CalG P w K mg base CX0 "_law_repr" 5 ["_law_model_here"] (spLRep K)) (c__law_of : Cal P w K mg base CX0 "_law_of" 2 ["_law_bag_here", "_law_things"] spOf) (c__law_asked : Cal P w K mg base CX0 "_law_asked" 9 ["_law_bag_here", "_law_row", "_law_model_here"] (spAsked K C TT))
    (c__law_same : Cal P w K mg base CX0 "_law_same" 5 ["_law_one", "_law_two"] (spLSame K)) (c__law_apart : Cal P w K mg base CX0 "_law_apart" 2 ["_law_one", "_law_two"] (spLApa K)) (c__law_refused : Cal P w K mg base CX0 "_law_refused" 12 ["_law_bag_here"] (spRefused TT)) : FnG P w K mg base CX0 13 f (spLaw K TT) := by
  have sc := sc_law
  refine fnG_of F sc (F.bindsN (ps := ["_law_script"]) fun _ _ _ _ _ _ us hl => match us, hl with | [_], _ => rfl) (fun vs H Q E h => ?_) (fun cdv A outer s H vs Q E hq0 hr h => ?_)
  · obtain ⟨a, ns, rfl, _⟩ := h
    rfl
  · obtain ⟨sa, ns, rfl, hS, hl, hT, q⟩ := h
    have hq : Quiet (cxOf CX0 P w K mg base ["_law_script", "_law_bag_here", "_law_pair", "_law_turn", "_law_model_here", "_law_least_here", "_law_rows", "_law_row", "_law_one", "_law_two"] "law" (defScope (top 61)) f cdv A outer s H E).nox.A := hq0
    have px : Passes CX0 (cxOf CX0 P w K mg base ["_law_script", "_law_bag_here", "_law_pair", "_law_turn", "_law_model_here", "_law_least_here", "_law_rows", "_law_row", "_law_one", "_law_two"] "law" (defScope (top 61)) f cdv A outer s H E).nox E0 := pass0
    have hr__law_refused : Room 12 _ := hr
    have hr__law_asked : Room 9 _ := hr.mono (by decide)
    have hr_op : Room 8 _ := hr.mono (by decide)
    have hr__law_row_so : Room 7 _ := hr.mono (by decide)
    have hr__law_made : Room 7 _ := hr.mono (by decide)
    have hr__law_like : Room 6 _ := hr.mono (by decide)
    have hr__law_same : Room 5 _ := hr.mono (by decide)
    have hr__law_repr : Room 5 _ := hr.mono (by decide)
    have hr_apart : Room 5 _ := hr.mono (by decide)
    have hr__law_least : Room 4 _ := hr.mono (by decide)
    have hr__law_model : Room 3 _ := hr.mono (by decide)
    have hr__law_other : Room 3 _ := hr.mono (by decide)
    have hr__law_of : Room 2 _ := hr.mono (by decide)
    have hr__law_apart : Room 2 _ := hr.mono (by decide)
    have hr_rp : Room 2 _ := hr.mono (by decide)
    have hr__law_bag : Room 1 _ := hr.mono (by decide)
    obtain ⟨f_apa, fd_apa, M_apart, F_apart, b_apart⟩ := o_R.apa
    obtain ⟨G, rp1, rp2, F_rp⟩ := o_R.rp
    refine ⟨_, PSs.nox (pss_cons (ps_set (i := 1) sc.nd rfl (Or.inl rfl) (pe_cal c__law_bag hr__law_bag rfl (pa_cons (pv 0) pa_nil)))
      (pss_cons (ps_set (i := 2) sc.nd rfl (Or.inl rfl) (pe_lst pa_nil))
      (pss_cons (ps_for PassesOwn.never rfl (pi_range1 rfl m_range (pa_cons pe_int pa_nil)) (pg_name (i := 3) sc.nd rfl (Or.inl rfl)) (pss_cons (ps_set (i := 4) sc.nd rfl (Or.inl rfl) (pe_cal c__law_model hr__law_model rfl (pa_cons (pv 1) pa_nil)))
      (pss_cons (ps_set (i := 5) sc.nd rfl (Or.inl rfl) (pe_cal c__law_least hr__law_least rfl (pa_cons (pv 4) pa_nil)))
      (pss_cons (ps_set (i := 6) sc.nd rfl (Or.inl rfl) (pe_lst (pa_cons (pe_cal c__law_made hr__law_made rfl (pa_cons (pv 1) (pa_cons (pv 4) pa_nil))) (pa_cons (pe_cal c__law_made hr__law_made rfl (pa_cons (pv 1) (pa_cons (pe_cal c__law_other hr__law_other rfl (pa_cons (pv 1) (pa_cons (pv 4) pa_nil))) pa_nil))) pa_nil))))
      (pss_cons (ps_expr (pe_bm PySem.F.plainAttrs_list PySem.F.slot_list_append PySem.F.type_list_append mt_append (pv 6) (pa_cons (pe_cal c__law_made hr__law_made rfl (pa_cons (pv 1) (pa_cons (pe_ifExp (pt_cmpR op_le (pe_callB call_abs (by rfl) m_abs (by decide +kernel) (pa_cons (pe_ix (show IxR _ (rIxT K) from ix_tup) (pv 5) pe_int (fun _ _ => rfl)) pa_nil)) pe_int (nomark _)) (pv 5) (pv 4)) pa_nil))) pa_nil)))
      (pss_cons (ps_for PassesOwn.never rfl (pi_list (pv 6)) (pg_name (i := 7) sc.nd rfl (Or.inl rfl)) (pss_cons (ps_if (PW.pt (pw_or (pt_not (pt_val (pe_cal c__law_row_so hr__law_row_so rfl (pa_cons (pv 7) (pa_cons (pv 4) pa_nil))))) (pw_or1 (pt_not (pt_val (pe_cal c__law_like hr__law_like rfl (pa_cons (pe_callB (call_reprG rp1 rp2 F_rp hq hr_rp px) (by rfl) m_repr (by decide +kernel) (pa_cons (pv 7) pa_nil)) (pa_cons (pe_calG c__law_repr hq hr__law_repr rfl px (pa_cons (pv 4) pa_nil)) pa_nil)))))))) (pss_one (ps_ret pe_bl)) pss_nil)
      (pss_one (ps_if (pt_not (pt_val (pe_cal c__law_like hr__law_like rfl (pa_cons (pe_lst (pa_cons (pe_cmpR (op_eqRow o_R hr_op) (pv 7) (pe_ix ix_list (pv 6) pe_int (fun _ _ => rfl)) (nomark _)) (pa_cons (pe_cmpR (op_eqRow o_R hr_op) (pe_ix ix_list (pv 6) pe_int (fun _ _ => rfl)) (pv 7) (nomark _)) (pa_cons (pe_cmpR (op_eqRow o_R hr_op) (pv 7) (pe_fld (pv 7) rfl) (nomark _)) (pa_cons (pe_cmpR (op_eqRow o_R hr_op) (pv 7) (pe_callB (call_reprG rp1 rp2 F_rp hq hr_rp px) (by rfl) m_repr (by decide +kernel) (pa_cons (pv 7) pa_nil)) (nomark _)) pa_nil))))) (pa_cons (pe_lst (pa_cons pe_bl (pa_cons pe_bl (pa_cons pe_bl (pa_cons pe_bl pa_nil))))) pa_nil))))) (pss_one (ps_ret pe_bl)) pss_nil))))
      (pss_cons (ps_set (i := 7) sc.nd rfl (Or.inl rfl) (pe_cal c__law_of hr__law_of rfl (pa_cons (pv 1) (pa_cons (pv 6) pa_nil))))
      (pss_cons (ps_if (PW.pt (pw_or (pt_not (pt_val (pe_cal c__law_asked hr__law_asked rfl (pa_cons (pv 1) (pa_cons (pv 7) (pa_cons (pv 4) pa_nil)))))) (pw_or1 (pt_not (pt_val (pe_cal c__law_row_so hr__law_row_so rfl (pa_cons (pv 7) (pa_cons (pv 4) pa_nil)))))))) (pss_one (ps_ret pe_bl)) pss_nil)
      (pss_one (ps_expr (pe_bm PySem.F.plainAttrs_list PySem.F.slot_list_append PySem.F.type_list_append mt_append (pv 2) (pa_cons (pe_lst (pa_cons (pv 7) (pa_cons (pv 4) pa_nil))) pa_nil))))))))))))
      (pss_cons (ps_par (i := 8) (j := 9) rfl sc.nd rfl rfl (by decide) rfl rfl (pa_cons (pe_ix ix_list (pv 2) pe_int (fun _ _ => rfl)) (pa_cons (pe_ix ix_list (pv 2) pe_int (fun _ _ => rfl)) pa_nil)) (by rfl))
      (pss_cons (ps_if (pt_not (pt_val (pe_cal c__law_like hr__law_like rfl (pa_cons (pe_lst (pa_cons (pe_cmpR (op_eqRow o_R hr_op) (pe_ix ix_list (pv 8) pe_int (fun _ _ => rfl)) (pe_ix ix_list (pv 9) pe_int (fun _ _ => rfl)) (nomark _)) (pa_cons (pe_meth (pe_ix ix_list (pv 8) pe_int (fun _ _ => rfl)) o_R.cl M_apart F_apart hr_apart b_apart .nil pass0 (pa_cons (pe_ix ix_list (pv 9) pe_int (fun _ _ => rfl)) pa_nil)) pa_nil))) (pa_cons (pe_lst (pa_cons (pe_cal c__law_same hr__law_same rfl (pa_cons (pe_ix ix_list (pv 8) pe_int (fun _ _ => rfl)) (pa_cons (pe_ix ix_list (pv 9) pe_int (fun _ _ => rfl)) pa_nil))) (pa_cons (pe_cal c__law_apart hr__law_apart rfl (pa_cons (pe_ix ix_list (pv 8) pe_int (fun _ _ => rfl)) (pa_cons (pe_ix ix_list (pv 9) pe_int (fun _ _ => rfl)) pa_nil))) pa_nil))) pa_nil))))) (pss_one (ps_ret pe_bl)) pss_nil)
      (pss_one (ps_ret (pe_and (pe_cal c__law_row_so hr__law_row_so rfl (pa_cons (pe_ix ix_list (pv 8) pe_int (fun _ _ => rfl)) (pa_cons (pe_ix ix_list (pv 8) pe_int (fun _ _ => rfl)) pa_nil))) (pe_one (pe_cal c__law_refused hr__law_refused rfl (pa_cons (pv 1) pa_nil))))))))))), ?_⟩
    refine ⟨_, rfl, sa, ns, rfl, hS, hl, fun g H1 s1 nb hB1 => ?_⟩
    have hT1 := tabs_same hT s1
    clear hS s1 nb hT
    refine ⟨Nat.zero_le _, fun L0 hL0 => ?_⟩
    have s2 : Same H1 (upd H1 L0 (.lst [])) := Same.new hL0
    have hB2 := hB1.same s2
    have hT2 := tabs_same hT1 s2
    have nL0 : L0 ≠ g.b := hB1.ne hL0
    have nL0' : L0 ≠ g.l := hB1.nl hL0
    have k2 : upd H1 L0 (.lst []) L0 = some (.lst []) := upd_same
    refine ⟨_, rfl, by decide, by decide, ?_⟩
    refine for_range (lo := 0) (n := 2) (D := { nx := _, rt := Q, bk := fun _ _ => False, ct := fun _ _ => False }) (fun i σ H' => ∃ x3 x4 x5 x6 x7 pairs, σ = [some (.ref sa), some (.ref g.b), some (.ref L0), x3, x4, x5, x6, x7, none, none] ∧ Bag g H' ∧ Tabs TT H' ∧ H' L0 = some (.lst pairs) ∧ pairs.length = i ∧ ∀ p ∈ pairs, ∃ f m, PairV K C g L0 H' p f m) ⟨none, none, none, none, none, [], rfl, hB2, hT2, k2, rfl, fun p hp => by cases hp⟩ ?_ ?_
    · clear hB1 hT1 hL0 s2 hB2 hT2 k2
      rintro i σ H3 hi ⟨x3, x4, x5, x6, x7, pairs, rfl, hB3, hT3, k3, lp, hps⟩
      -- the model, its least form
      refine ⟨_, rfl, g, rfl, hB3, fun mv H4 m dr4 hm4 md => ?_⟩
      have d4 := Dx.drew hB3 hT3 dr4
      have m4 := md.l
      have m5 := md.t
      have m6 := md.r
      have m7 := md.s
      have mb : Big m 4 12 9999 := ⟨m4, m5, m6, m7⟩
      refine ⟨_, rfl, mv, m, 4, 12, 9999, rfl, hm4, md.ok, mb, by decide, by decide, by decide, fun lv H5 fl s5 hl5 lf bf => ?_⟩
      have d5 := d4.trans (Dx.same d4.b d4.t s5)
      have hm5 := hm4.same s5
      -- the rows
      refine ⟨_, rfl, _, rfl, g, mv, m, rfl, d5.b, hm5, md.mo, fun r1 H6 f1 dr6 hr1 lf1 bf1 => ?_⟩
      have d6' := Dx.drew d5.b d5.t dr6
      have d6 := d5.trans d6'
      have e1 : f1 = fl := lf1.uniq lf
      subst e1
      refine ⟨_, rfl, _, rfl, _, rfl, g, mv, m, rfl, d6.b, hm5.dx d5.b d6', md, fun ov H7 om dr7 ho7 omo oes => ?_⟩
      refine ⟨g, ov, om, rfl, dr7.2, ho7, omo, fun r2 H8 f2 dr8 hr2 lf2 bf2 => ?_⟩
      have d8' := Dx.drew d6.b d6.t (dr7.trans dr8)
      have d8 := d6.trans d8'
      have e2 : f2 = f1 := (lf2.cong oes).uniq lf
      subst e2
      have hr1a := hr1.dx d6.b d8'
      have hm8 := (hm5.dx d5.b d6').dx d6.b d8'
      have hl8 := (hl5.dx d5.b d6').dx d6.b d8'
      refine ⟨(by show 2 ≤ sizeLine; decide), fun L6 hL6 => ?_⟩
      have s9 : Same H8 (upd H8 L6 (.lst [r1, r2])) := Same.new hL6
      have k9 : upd H8 L6 (.lst [r1, r2]) L6 = some (.lst [r1, r2]) := upd_same
      have n6 : L6 ≠ g.b := d8.b.ne hL6
      have n6' : L6 ≠ g.l := d8.b.nl hL6
      have k30 : H8 L0 = some (.lst pairs) := d8.k _ _ nL0 (fun ps z => nomatch z) k3
      have n60 : L6 ≠ L0 := fun z => by
        rw [z, k30] at hL6
        cases hL6
      have n6q : ∀ a o, a ≠ g.b → (∀ ps, o ≠ HO.tbl ps) → H3 a = some o → a ≠ L6 := fun a o na nt e z => by
        have := d8.k a o na nt e
        rw [z, hL6] at this
        cases this
      have d9 := d8.trans (Dx.same d8.b d8.t s9)
      have hr1b := hr1a.same s9
      have hr2b := hr2.same s9
      have hm9 := hm8.same s9
      have hl9 := hl8.same s9
      clear dr4 dr6 dr7 dr8 d6' d8' d4 d5 d6 d8 hL6 hr1 hr1a hr2 hm4 hm5 hm8 hl5 hl8 s5 ho7 omo oes lf2 lf1 bf2 bf1 
      generalize upd H8 L6 (.lst [r1, r2]) = H9 at s9 k9 d9 hr1b hr2b hm9 hl9
      obtain ⟨pl, ll, lt, lr, rfl, hpl, hl4⟩ := id hl9
      have k9' : H9 g.b ≠ none := by
        obtain ⟨o, h⟩ := d9.b.ref
        rw [h]
        exact fun z => by cases z
      refine ⟨_, rfl, .inl ⟨rfl, _, SqL.of k9⟩, _, rfl, _, rfl, pl, _, _, _, rfl, rfl, hpl, rfl, _, rfl, _, _, rfl, rfl, ?_⟩
      have selM : ∀ b : Bool, (b = true → f2.start.natAbs ≤ 9999) → ∃ (sv : V) (mo : Form), [some (V.ref sa), some (.ref g.b), some (.ref L0), some (.int (0 + (i : Int))), some mv, some (.ref pl), some (.ref L6), x7, none, none][if b = true then 5 else 4]? = some (some sv) ∧ FmV K H9 sv mo ∧ Mo mo ∧ ∀ c, sign mo c = sign m c := fun b hb => by
        cases b with
        | true => exact ⟨_, f2, rfl, hl9, ⟨Least.ok lf, least_sgs lf md.sg md.ok, Nat.le_trans bf.l (by decide), Nat.le_trans bf.t (by decide), Nat.le_trans bf.r (by decide), hb rfl⟩, fun c => lf.sign c⟩
        | false => exact ⟨_, m, rfl, hm9, md.mo, fun c => rfl⟩
      obtain ⟨sv, mo, hsel, hsv, hmo, hse⟩ := selM (decide ((if f2.start < 0 then -f2.start else f2.start) ≤ 9999)) fun z => by
        have := of_decide_eq_true z
        omega
      refine ⟨_, rfl, if_sel hsel ?_⟩
      refine ⟨g, sv, mo, rfl, d9.b, hsv, hmo, fun r3 H10 f3 dr10 hr3 lf3 bf3 => ?_⟩
      have e3 : f3 = f2 := (lf3.cong hse).uniq lf
      subst e3
      have d10' := Dx.drew d9.b d9.t dr10
      have d10 := d9.trans d10'
      have k10 := dr10.1 _ _ n6 k9
      have k100 : H10 L0 = some (.lst pairs) := d10.k _ _ nL0 (fun ps z => nomatch z) k3
      refine ⟨L6, _, _, rfl, rfl, k10, (by show 2 < sizeLine; decide), ?_⟩
      have hr1c := (hr1b.dx d9.b d10').upd (o := .lst ([r1, r2] ++ [r3])) k10
      have hr2c := (hr2b.dx d9.b d10').upd (o := .lst ([r1, r2] ++ [r3])) k10
      have hr3c := hr3.upd (o := .lst ([r1, r2] ++ [r3])) k10
      have hm11 := (hm9.dx d9.b d10').upd (o := .lst ([r1, r2] ++ [r3])) k10
      have k11 : upd H10 L6 (.lst ([r1, r2] ++ [r3])) L6 = some (.lst [r1, r2, r3]) := upd_same
      have k110 : upd H10 L6 (.lst ([r1, r2] ++ [r3])) L0 = some (.lst pairs) := by rw [upd_ne n60.symm]; exact k100
      have hB11 : Bag g (upd H10 L6 (.lst ([r1, r2] ++ [r3]))) := d10.b.upd n6 n6'
      have hT11 := tabs_upd (o := .lst ([r1, r2] ++ [r3])) k10 d10.t
      have hps11 : ∀ p ∈ pairs, ∃ f m, PairV K C g L0 (upd H10 L6 (.lst ([r1, r2] ++ [r3]))) p f m := fun p hp => by
        obtain ⟨f, m, h⟩ := hps p hp
        obtain ⟨q0, rv0, mv0, e, n1, n2, hq0, hrr, hmm⟩ := h.ex
        refine ⟨f, m, ⟨q0, rv0, mv0, e, n1, n2, ?_, (hrr.dx hB3 d10).upd k10, (hmm.dx hB3 d10).upd k10⟩, h.md, h.lf, h.big⟩
        rw [upd_ne (n6q q0 (.lst [rv0, mv0]) n1 (fun ps z => nomatch z) hq0)]
        exact d10.k _ _ n1 (fun ps z => nomatch z) hq0
      have hcf : f3.left.length ≤ 12 := bf3.l
      have tx : Tx f3 := ⟨least_sgs lf md.sg md.ok, Nat.le_trans bf3.l (by decide), Nat.le_trans bf3.t (by decide), Nat.le_trans bf3.r (by decide), Nat.lt_of_le_of_lt bf3.s (by decide)⟩
      have mbig : Big m 1000 1000 (2 ^ 40) := ⟨Nat.le_trans m4 (by decide), Nat.le_trans m5 (by decide), Nat.le_trans m6 (by decide), Nat.le_trans m7 (by decide)⟩
      clear hr1b hr2b hr3 hm9 hl9 hl4 hpl hsv hsel hmo hse selM d10 d10' dr10 k10 k100 hps hB3 hT3 k3 d9 n6q k9 k9' lf3 bf s9 k30 n6'
      generalize upd H10 L6 (.lst ([r1, r2] ++ [r3])) = H11 at *
      have hrs : ∀ y ∈ [r1, r2, r3], RowV K C H11 y f3 := fun y hy => by
        simp only [List.mem_cons, List.not_mem_nil, or_false] at hy
        rcases hy with rfl | rfl | rfl
        · exact hr1c
        · exact hr2c
        · exact hr3c
      refine ⟨_, rfl, L6, rfl, ⟨_, SqL.of k11⟩, for_list (K := K) (a := L6) (D := { nx := _, rt := Q, bk := fun _ _ => False, ct := fun _ _ => False }) (xs := [r1, r2, r3]) (fun j σ H' => ∃ x7, σ = [some (.ref sa), some (.ref g.b), some (.ref L0), some (.int (0 + (i : Int))), some mv, some (.ref pl), some (.ref L6), x7, none, none] ∧ Dx g TT H11 H') ⟨_, rfl, Dx.refl hB11 hT11⟩ (fun j σ H' _ ⟨_, _, dj⟩ => SqL.of (dj.k _ _ n6 (fun ps z => nomatch z) k11)) ?_ ?_⟩
      · rintro j y σ H12 hj ⟨x7', rfl, d12⟩
        have hy := (hrs y (List.mem_of_getElem? hj)).dx hB11 d12
        have hm12 := hm11.dx hB11 d12
        have hz := hr1c.dx hB11 d12
        have k12 : H12 L6 = some (.lst [r1, r2, r3]) := d12.k _ _ n6 (fun ps z => nomatch z) k11
        obtain ⟨ya, ydx, yl, yt, yr, rfl, hya, hy4⟩ := id hy
        -- its least form, its text
        refine ⟨_, rfl, _, rfl, _, mv, f3, m, rfl, hy, hm12, md.ok, mbig, lf, fun H13 s13 => ⟨_, rfl, iteF ?_⟩⟩
        refine ⟨_, rfl, ya, ydx, _, rfl, s13 _ _ hya, _, f3, rfl, hy.same s13, tx, _, rfl, ?_⟩
        refine ⟨_, rfl, mv, m, rfl, hm12.same s13, md.ok, md.sg, mbig, fun f4 H14 s14 lf4 => ?_⟩
        have e4 := lf4.uniq lf
        subst e4
        refine ⟨_, _, rfl, Alk.sc (.str _), fun H15 s15 => ⟨_, rfl, iteF ?_⟩⟩
        have s1215 := (s13.trans s14).trans s15
        have hy15 := hy.same s1215
        have hz15 := hz.same s1215
        have k15 := s1215 _ _ k12
        have ya15 := s1215 _ _ hya
        have t15 := same_T s1215 hy4.told
        have d15 := d12.trans (Dx.same d12.b d12.t s1215)
        clear s13 s14 s15 s1215 hm12 hz k12 hy4
        -- ==
        refine ⟨_, rfl, _, rfl, L6, _, 0, _, rfl, rfl, SqL.of k15, rfl, .inl ⟨f4, f4, hy15, hz15, fun H16 s16 => ?_⟩⟩
        refine ⟨_, rfl, L6, _, 0, _, rfl, rfl, SqL.of (s16 _ _ k15), rfl, _, rfl, .inl ⟨f4, f4, hz15.same s16, hy15.same s16, fun H17 s17 => ?_⟩⟩
        have s1517 := s16.trans s17
        refine ⟨_, rfl, _, rfl, ya, C, ydx, _, _, rfl, s1517 _ _ ya15, o_R.cl, o_R.c.n2, rfl, .inr ⟨f4, hy15.same s1517, .inl ⟨yt, _, rfl, same_T s1517 t15⟩, ?_⟩⟩
        refine ⟨_, rfl, _, rfl, ya, ydx, _, rfl, s1517 _ _ ya15, _, f4, rfl, hy15.same s1517, tx, _, rfl, .inr ⟨f4, hy15.same s1517, .inr ⟨_, rfl⟩, ?_⟩⟩
        rw [decide_eq_true rfl]
        refine ⟨(by show 4 ≤ sizeLine; decide), fun M1 hM1 => ?_⟩
        have s18 : Same H17 (upd H17 M1 (.lst [.bl true, .bl true, .bl false, .bl false])) := Same.new hM1
        refine ⟨(by show 4 ≤ sizeLine; decide), fun M2 hM2 => ?_⟩
        have s19 : Same (upd H17 M1 (.lst [.bl true, .bl true, .bl false, .bl false])) (upd (upd H17 M1 (.lst [.bl true, .bl true, .bl false, .bl false])) M2 (.lst [.bl true, .bl true, .bl false, .bl false])) := Same.new hM2
        refine ⟨_, _, rfl, alk_lst (n := 4) (s19 _ _ upd_same) upd_same (by show 4 ≤ 1000; decide) (.cons (Alk.sc (.bl _)) (.cons (Alk.sc (.bl _)) (.cons (Alk.sc (.bl _)) (.cons (Alk.sc (.bl _)) .nil)))), fun H20 s20 => ⟨_, rfl, iteF ?_⟩⟩
        exact ⟨_, rfl, d15.trans (Dx.same d15.b d15.t ((s1517.trans (s18.trans s19)).trans s20))⟩
      · rintro σ H12 ⟨x7', rfl, d12⟩
        have k12 : H12 L6 = some (.lst [r1, r2, r3]) := d12.k _ _ n6 (fun ps z => nomatch z) k11
        refine ⟨_, rfl, _, rfl, g, L6, _, rfl, d12.b, k12, n6, (by show 1 ≤ 3; decide), (by show 3 < 1000; decide), fun y H13 hyy dr13 => ?_⟩
        have d13 := d12.trans (Dx.drew d12.b d12.t dr13)
        have hy := hrs y hyy
        refine ⟨_, rfl, _, rfl, _, rfl, g, y, mv, f3, m, rfl, d13.b, d13.t, hy.dx hB11 d13, hm11.dx hB11 d13, md, lf, bf3, fun H14 d14' => ⟨_, rfl, iteF ?_⟩⟩
        have d14 := d13.trans d14'
        refine ⟨_, rfl, _, rfl, y, mv, f3, m, rfl, hy.dx hB11 d14, hm11.dx hB11 d14, md.ok, mbig, lf, fun H15 s15 => ⟨_, rfl, iteF ?_⟩⟩
        have d15 := d14.trans (Dx.same d14.b d14.t s15)
        have k150 : H15 L0 = some (.lst pairs) := d15.k _ _ nL0 (fun ps z => nomatch z) k110
        refine ⟨_, rfl, .inl ⟨rfl, _, SqL.of k150⟩, _, rfl, _, rfl, (by show 2 ≤ sizeLine; decide), fun L7 hL7 => ?_⟩
        have s16 : Same H15 (upd H15 L7 (.lst [y, mv])) := Same.new hL7
        have d16 := d15.trans (Dx.same d15.b d15.t s16)
        have n7 : L7 ≠ g.b := d15.b.ne hL7
        have n70 : L7 ≠ L0 := fun z => by
          rw [z, k150] at hL7
          cases hL7
        have k16 : upd H15 L7 (.lst [y, mv]) L7 = some (.lst [y, mv]) := upd_same
        have k160 := s16 _ _ k150
        generalize upd H15 L7 (.lst [y, mv]) = H16 at s16 d16 k16 k160
        refine ⟨L0, _, _, rfl, rfl, k160, by rw [lp, sizeLine_eq]; omega, ?_⟩
        refine ⟨_, _, _, _, _, _, rfl, d16.b.upd nL0 nL0', tabs_upd k160 d16.t, upd_same, by rw [List.length_append, lp]; rfl, fun p hp => ?_⟩
        rcases List.mem_append.mp hp with hp | hp
        · obtain ⟨f, m, h⟩ := hps11 p hp
          exact ⟨f, m, (h.dx hB11 d16).upd k160⟩
        · rw [List.mem_singleton.mp hp]
          exact ⟨f3, m, PairV.upd k160 ⟨⟨L7, y, mv, rfl, n7, n70, k16, hy.dx hB11 d16, hm11.dx hB11 d16⟩, md, lf, bf3⟩⟩
    · rintro σ H3 ⟨x3, x4, x5, x6, x7, pairs, rfl, hB3, hT3, k3, lp, hps⟩
      match pairs, lp, hps, k3 with
      | [pa, pb], _, hps, k3 =>
      obtain ⟨f, m, ha⟩ := hps pa (by simp)
      obtain ⟨f', m', hb⟩ := hps pb (by simp)
      obtain ⟨qa, ra, ma, rfl, _, _, ka, hra, hma⟩ := ha.ex
      obtain ⟨qb, rb, mb, rfl, _, _, kb, hrb, hmb⟩ := hb.ex
      refine ⟨_, rfl, L0, _, 0, _, rfl, rfl, SqL.of k3, rfl, _, rfl, L0, _, 1, _, rfl, rfl, SqL.of k3, rfl, _, _, rfl, ?_⟩
      obtain ⟨aa, adx, al, at_, ar, rfl, haa, ha4⟩ := id hra
      have rn : ∀ {l t r : Addr} {s : Int}, (rowF l t r s).lookup ("apart" : Str) = none := row_no (by decide) (by decide) (by decide) (by decide)
      have a1 := ha.md.l
      have a2 := ha.md.t
      have a3 := ha.md.r
      have a4 := ha.md.s
      have b1 := hb.md.l
      have b2 := hb.md.t
      have b3 := hb.md.r
      have b4 := hb.md.s
      have bigA : Big f 1000 100000 200000 := ⟨Nat.le_trans ha.big.l (by decide), Nat.le_trans ha.big.t (by decide), Nat.le_trans ha.big.r (by decide), Nat.le_trans ha.big.s (by decide)⟩
      have bigB : Big f' 1000 100000 200000 := ⟨Nat.le_trans hb.big.l (by decide), Nat.le_trans hb.big.t (by decide), Nat.le_trans hb.big.r (by decide), Nat.le_trans hb.big.s (by decide)⟩
      have mA : Big m 1000 1000 (2 ^ 40) := ⟨by omega, by omega, by omega, by omega⟩
      have mB : Big m' 1000 1000 (2 ^ 40) := ⟨by omega, by omega, by omega, by omega⟩
      refine ⟨_, rfl, qa, _, 0, _, rfl, rfl, SqL.of ka, rfl, _, rfl, qb, _, 0, _, rfl, rfl, SqL.of kb, rfl, .inl ⟨f, f', hra, hrb, fun H4 s4 => ?_⟩⟩
      have d4 := Dx.same hB3 hT3 s4
      refine ⟨_, rfl, qa, _, 0, _, rfl, rfl, SqL.of (s4 _ _ ka), rfl, aa, adx, _, rfl, s4 _ _ haa, rn, _, rfl, qb, _, 0, _, rfl, rfl, SqL.of (s4 _ _ kb), rfl, ?_⟩
      refine ⟨_, _, f, f', rfl, hra.same s4, hrb.same s4, Least.ok ha.lf, Least.ok hb.lf, bigA, bigB, d4.t, fun q1 H5 e5 t5 z1 => ?_⟩
      have d5 := d4.trans (Dx.ext d4.b e5 t5)
      refine ⟨(by show 2 ≤ sizeLine; decide), fun M1 hM1 => ?_⟩
      have s6 : Same H5 (upd H5 M1 (.lst [.bl (decide (f = f') == true), q1])) := Same.new hM1
      have k6 : upd H5 M1 (.lst [.bl (decide (f = f') == true), q1]) M1 = some (.lst [.bl (decide (f = f') == true), q1]) := upd_same
      have d6 := d5.trans (Dx.same d5.b d5.t s6)
      generalize upd H5 M1 (.lst [.bl (decide (f = f') == true), q1]) = H6 at *
      have nqa : qa ≠ g.b := by
        obtain ⟨q0, rv0, mv0, e, n1, n2, hq0, hrr, hmm⟩ := ha.ex
        cases e
        exact n1
      have nqb : qb ≠ g.b := by
        obtain ⟨q0, rv0, mv0, e, n1, n2, hq0, hrr, hmm⟩ := hb.ex
        cases e
        exact n1
      have ka6 := d6.k qa (.lst [.ref aa, ma]) nqa (fun ps z => nomatch z) ka
      have kb6 := d6.k qb (.lst [rb, mb]) nqb (fun ps z => nomatch z) kb
      refine ⟨_, rfl, qa, _, 1, _, rfl, rfl, SqL.of ka6, rfl, _, rfl, qb, _, 1, _, rfl, rfl, SqL.of kb6, rfl, ?_⟩
      refine ⟨_, _, m, m', rfl, hma.dx hB3 d6, hmb.dx hB3 d6, ha.md.ok, hb.md.ok, mA, mB, fun H7 b s7 hbb => ?_⟩
      have d7 := d6.trans (Dx.same d6.b d6.t s7)
      refine ⟨_, rfl, qa, _, 1, _, rfl, rfl, SqL.of (s7 _ _ ka6), rfl, _, rfl, qb, _, 1, _, rfl, rfl, SqL.of (s7 _ _ kb6), rfl, ?_⟩
      refine ⟨_, _, m, m', rfl, hma.dx hB3 d7, hmb.dx hB3 d7, ha.md.ok, hb.md.ok, ⟨by omega, by omega, by omega, by omega⟩, ⟨by omega, by omega, by omega, by omega⟩, fun q2 H8 s8 z2 => ?_⟩
      have d8 := d7.trans (Dx.same d7.b d7.t s8)
      refine ⟨(by show 2 ≤ sizeLine; decide), fun M2 hM2 => ?_⟩
      have s9 : Same H8 (upd H8 M2 (.lst [.bl b, q2])) := Same.new hM2
      have eb : (decide (f = f') == true) = b := by
        rw [Bool.eq_iff_iff, hbb, beq_iff_eq, decide_eq_true_iff]
        exact Least.eq_iff ha.lf hb.lf
      have e12 := NearR.uniq (z1.cong fun c => by rw [Least.sign ha.lf, Least.sign hb.lf]) z2
      have sc1 : Alk K NoA (upd H8 M2 (.lst [.bl b, q2])) 4 (.bl (decide (f = f') == true)) (.bl b) := by
        rw [eb]
        exact Alk.sc (.bl _)
      refine ⟨_, _, rfl, alk_lst (n := 4) (s9 _ _ (s8 _ _ (s7 _ _ k6))) upd_same (by show 2 ≤ 1000; decide) (.cons sc1 (.cons (e12.1 ▸ Alk.sc e12.2) .nil)), fun H10 s10 => ⟨_, rfl, iteF ?_⟩⟩
      have d10 := d8.trans (Dx.same d8.b d8.t (s9.trans s10))
      have ka10 := d10.k qa (.lst [.ref aa, ma]) nqa (fun ps z => nomatch z) ka
      refine ⟨_, rfl, qa, _, 0, _, rfl, rfl, SqL.of ka10, rfl, _, rfl, qa, _, 1, _, rfl, rfl, SqL.of ka10, rfl, ?_⟩
      refine ⟨_, _, f, m, rfl, hra.dx hB3 d10, hma.dx hB3 d10, ha.md.ok, mA, ha.lf, fun H11 s11 => ?_⟩
      have d11 := d10.trans (Dx.same d10.b d10.t s11)
      exact ⟨_, rfl, iteT ⟨_, rfl, g, rfl, d11.b, d11.t, q⟩⟩
end
end K02
set_option Elab.async false
set_option linter.all false
set_option maxRecDepth 100000
set_option maxHeartbeats 4000000
/-! a lambda of one parameter with a default, called without arguments -/
namespace LamX
open PySem PySem.Spec PySem.W PyProof.Rows L2
/-- its function, the defaults at dV -/
abbrev fnT (qual : Str) (params : Arguments) (body : Expr) (scope : Scope) (cl : List (Str × Addr)) (pm cdv ct dV : Value) : FuncData := { kla_fn "<lambda>" qual params body scope cl pm cdv ct with defaults := dV }
abbrev objT (qual : Str) (params : Arguments) (body : Expr) (scope : Scope) (cl : List (Str × Addr)) (pm cdv ct dV : Value) : Obj := { cls := .type "function", data := .func (fnT qual params body scope cl pm cdv ct dV) }
section
variable {M : Model} {A : Around} {E : Value → Shared → Prop} {s : Shared} {qual : Str} {params : Arguments} {body : Expr} {scope : Scope} {env : Env} {c P : Addr} {ps : Array Value} {pos : Pos} {line : Nat} {mg : Str → Option Value} {clos : List (Str × Addr)} {Q : Value → Shared → Prop} {dV : Value}
theorem tailD (e1 : closureFor scope env = pure clos) (e2 : env.globals = mainGlobals) (g : s.heap.Ns mainGlobals mg) (e3 : env.code = .ref c) (C : CodeHd s.heap c P) (tP : s.heap.get? P = some (tabObj ps)) (t3 : TriplesOk ps.toList) (gP : mainGlobals ≠ P) (B : s.heap.BuiltinsAt mg P)
    (knew : codeAmong pos ps.toList = none → ∀ (c' : Addr) (ct : Value) (h' : Heap) (tk : Tok), Heap.ExtBut P s.heap h' → s.heap.objs.size ≤ c' → c' < h'.objs.size → h'.CodeRec (.ref c') qual → h'.get? P = some (tabObj (ps ++ #[rawInt pos.line, rawInt pos.col, .ref c'])) →
      Q (.ref h'.objs.size) { s with heap := h'.push (objT qual params body scope clos ((mg "__name__").getD .none) (.ref c') ct dV), toks := tk })
    (kold : ∀ cv, codeAmong pos ps.toList = some cv → ∀ (ct : Value) (h' : Heap) (tk : Tok), (∀ b o, s.heap.get? b = some o → h'.get? b = some o) → s.heap.objs.size ≤ h'.objs.size →
      Q (.ref h'.objs.size) { s with heap := h'.push (objT qual params body scope clos ((mg "__name__").getD .none) cv ct dV), toks := tk }) :
    wpAny M A (makeTail "<lambda>" qual params (.expr body) scope env dV .none none pos line) Q E s := by
  obtain ⟨bm, ob, m1, m2, _, m3, m4, m5, m6, m7⟩ := B
  unfold makeTail
  rw [e1, e2]
  refine wpAny_bind (wpAny_pure ?_)
  cases clos with
  | nil =>
    simp only [List.isEmpty_nil, if_true]
    refine wpAny_bind (wpAny_pure ?_)
    cases hc : codeAmong pos ps.toList with
    | none =>
      refine wpAny_bind (wpAny_functionCodeX e3 (C.code tP t3) (C.tab tP) hc fun c' h' tk x ge lt _ cr tb _ => ?_)
      have g' := g.extBut x gP
      refine wpAny_bind (wpAny_builtinsFor g' m1 m2 (x _ _ m3 m4) m5 m6 m7 (wpAny_bind (wpAny_nsGet g' (wpAny_bind (wpAny_pure (wpAny_newObj_type ?_ (by size_fits)))))))
      exact knew hc c' .none h' tk x ge lt cr tb.2
    | some cv =>
      refine wpAny_bind (wpAny_functionCode_hit e3 (C.code tP t3) hc ?_)
      refine wpAny_bind (wpAny_builtinsFor g m1 m2 m4 m5 m6 m7 (wpAny_bind (wpAny_nsGet g (wpAny_bind (wpAny_pure (wpAny_newObj_type ?_ (by size_fits)))))))
      exact kold cv hc .none s.heap s.toks (fun _ _ e => e) (Nat.le_refl _)
  | cons q r =>
    simp only [List.isEmpty_cons, Bool.false_eq_true, if_false]
    refine wpAny_bind (wpAny_newTextTuple ?_)
    have up : ∀ {b : Addr} {o oT : Obj}, s.heap.get? b = some o → (s.heap.push oT).get? b = some o := fun e => Heap.get?_push_of_some _ e
    have sz : ∀ oT : Obj, s.heap.objs.size ≤ (s.heap.push oT).objs.size := fun oT => by rw [Heap.size_push]; exact Nat.le_succ _
    have C' : ∀ oT : Obj, CodeHd (s.heap.push oT) c P := fun oT => C.keeps fun _ _ e => up e
    cases hc : codeAmong pos ps.toList with
    | none =>
      refine wpAny_bind (wpAny_functionCodeX e3 ((C' _).code (up tP) t3) ((C' _).tab (up tP)) hc fun c' h' tk x ge lt _ cr tb _ => ?_)
      have g' := (g.push _).extBut x gP
      have x' : Heap.ExtBut P s.heap h' := fun b o nb e => x b o nb (up e)
      refine wpAny_bind (wpAny_builtinsFor g' m1 m2 (x' _ _ m3 m4) m5 m6 m7 (wpAny_bind (wpAny_nsGet g' (wpAny_bind (wpAny_pure (wpAny_newObj_type ?_ (by size_fits)))))))
      exact knew hc c' _ h' tk x' (Nat.le_trans (sz _) ge) lt cr tb.2
    | some cv =>
      refine wpAny_bind (wpAny_functionCode_hit e3 ((C' _).code (up tP) t3) hc ?_)
      refine wpAny_bind (wpAny_builtinsFor (g.push _) m1 m2 (up m4) m5 m6 m7 (wpAny_bind (wpAny_nsGet (g.push _) (wpAny_bind (wpAny_pure (wpAny_newObj_type ?_ (by size_fits)))))))
      exact kold cv hc _ _ s.toks (fun _ _ e => up e) (sz _)
end
section
variable {X : Cx} {pins : List (Addr × Obj)} {σ : L2.St} {H : Hp} {s : Shared}
/-- the lambda is made; its defaults stand in the tuple at T, which nobody tracks -/
theorem lam_makeD {T : List (Addr × Str)} {c P : Addr} {params : Arguments} {body : Expr} {scope : Scope} {pos dp : Pos} {z : Int} {jz : Nat} {E : Value → Shared → Prop} {Q : Value → Shared → Prop} (I : Inv X pins σ H s) (TB : TabB X.base X.mg c P) (hcode : X.env.code = .ref c)
    (hm : (P, X.env.qual ++ "<lambda>") ∈ T) (hu : ∀ p ∈ T, p.1 = P → p.2 = X.env.qual ++ "<lambda>") (hT : Tabs T H) (hdef : defaultsOf params X.env = ([eval (.Constant (.int z) jz dp) X.env], [])) (hkw : params.kwonlyargs = []) (hfree : ∀ y ∈ scope.names, y.2 = .free → ∃ c, X.env.cells.lookup y.1 = some c)
    (h : ∀ (f c' D : Addr) (pm ct : Value) (u : Tok) (H1 : Hp) (s' : Shared), Inv X pins σ H1 s' → ExtN H H1 → Tabs T H1 →
      s'.heap.get? f = some (objT (X.env.qual ++ "<lambda>") params body scope (cloFrom X.env.cells scope.names []) pm (.ref c') ct (.ref D)) → H1 f = none → f ∉ frs X.stack → s'.heap.get? D = some { cls := .type "tuple", data := .seq #[.int z u] } → H1 D = none → D ∉ frs X.stack → H1 c' = some (CodeO c' (X.env.qual ++ "<lambda>")) → Q (.ref f) s') :
    wpAny (model X.prog X.w) X.A (eval (.Lambda params body scope pos) X.env) Q E s := by
  obtain ⟨ps, hP, h3, ha⟩ := hT _ hm
  rw [arm_eval_Lambda, hdef]
  show wpAny _ _ (do let dv ← evalAll [eval (.Constant (.int z) jz dp) X.env]; let kdv ← holding dv (evalAllOpt []); makeFunction "<lambda>" (X.env.qual ++ "<lambda>") params (.expr body) scope X.env dv kdv [] pos pos.line) Q E s
  refine wpAny_bind (PySem.wpAny_evalAll_cons (wpAny_Constant_int ?_))
  refine wpAny_evalAll_nil (wpAny_bind (wpAny_holding (wpAny_pure ?_)))
  rw [makeFunction_eq]
  simp only [hkw, List.zip_nil_right, List.filterMap_nil, List.isEmpty_nil, List.isEmpty_cons, Bool.false_eq_true, if_true, if_false, pure_bind]
  refine wpAny_bind (wpAny_newTextTuple ?_)
  have I2 : Inv X pins σ H { s with heap := s.heap.push { cls := .type "tuple", data := .seq #[.int z s.toks] }, toks := s.toks + 1 } := I.kept fun b o e => Heap.get?_push_of_some _ e
  have nD : H s.heap.objs.size = none := I.hok.fresh (Nat.le_refl _)
  have gD : (s.heap.push { cls := .type "tuple", data := .seq #[.int z s.toks] }).get? s.heap.objs.size = some { cls := .type "tuple", data := .seq #[.int z s.toks] } := Heap.get?_push_size _ rfl
  generalize hh : s.heap.push { cls := .type "tuple", data := .seq #[.int z s.toks] } = h2 at I2 gD
  have hsz : s.heap.objs.size < h2.objs.size := by
    rw [← hh, Heap.size_push]
    exact Nat.lt_succ_self _
  have young : ∀ b, s.heap.objs.size ≤ b → b ∉ frs X.stack := fun b hb y => by
    rcases List.mem_cons.mp (I.stkSub _ y) with e | e
    · have := I.lt
      rw [← e] at this
      exact Nat.lt_irrefl _ (Nat.lt_of_lt_of_le this hb)
    · exact I.nofs hb e
  have tP : h2.get? P = some { cls := .none, data := .fields ps } := I2.hok P _ hP
  refine tailD (mg := X.mg) (c := c) (P := P) (ps := ps) (closure_ok hfree) I.ok.glob (I2.mod.glob.keeps I2.bk) hcode (TB.code.keeps I2.bk) tP h3 TB.gP (TB.bm.keeps I2.bk) (fun _ c' ct h' tk x ge lt cr tb => ?_) (fun cv hc ct h' tk x sz => ?_)
  · obtain ⟨c2, oc, vs, t, ec, o1, o2, o3⟩ := cr
    cases ec
    have ge' : s.heap.objs.size ≤ c' := Nat.le_trans (Nat.le_of_lt hsz) ge
    have nC : H c' = none := I2.hok.fresh ge
    have nPD : s.heap.objs.size ≠ P := fun e => by
      rw [e, hP] at nD
      cases nD
    have I3 := inv_table (t' := tk) (more := #[rawInt pos.line, rawInt pos.col, .ref c']) (h' := h'.push (objT (X.env.qual ++ "<lambda>") params body scope (cloFrom X.env.cells scope.names []) ((X.mg "__name__").getD .none) (.ref c') ct (.ref s.heap.objs.size))) I2 hP
      (fun b o nb e => Heap.get?_push_of_some _ (x b o nb e)) (Heap.get?_push_of_some _ tb) ge ⟨oc, vs, t, Heap.get?_push_of_some _ o1, o2, o3⟩
    have ext : ExtN H (upd (upd H P (.tbl (ps ++ #[rawInt pos.line, rawInt pos.col, .ref c']))) c' (CodeO c' (X.env.qual ++ "<lambda>"))) := fun b o e n => by
      rw [upd_ne (ne_of_none e nC), upd_ne (fun y => n ps (Option.some.inj (e.symm.trans (by rw [y]; exact hP))))]
      exact e
    have app : (ps ++ #[rawInt pos.line, rawInt pos.col, .ref c']).toList = ps.toList ++ [rawInt pos.line, rawInt pos.col, .ref c'] := by simp
    have lt2 : h2.objs.size ≤ h'.objs.size := Nat.le_trans ge (Nat.le_of_lt lt)
    have none_ : ∀ b, s.heap.objs.size ≤ b → b ≠ c' → upd (upd H P (.tbl (ps ++ #[rawInt pos.line, rawInt pos.col, .ref c']))) c' (CodeO c' (X.env.qual ++ "<lambda>")) b = none := fun b hb n => by
      have nb : H b = none := I.hok.fresh hb
      rw [upd_ne n, upd_ne (fun y => by rw [y, hP] at nb; cases nb)]
      exact nb
    refine h h'.objs.size c' s.heap.objs.size ((X.mg "__name__").getD .none) ct s.toks _ _ I3 ext (fun p hp => ?_) (Heap.get?_push_size _ rfl) (none_ _ (Nat.le_trans (Nat.le_of_lt hsz) lt2) (Nat.ne_of_gt lt)) (young _ (Nat.le_trans (Nat.le_of_lt hsz) lt2)) (Heap.get?_push_of_some _ (x _ _ nPD gD)) (none_ _ (Nat.le_refl _) (Nat.ne_of_lt (Nat.lt_of_lt_of_le hsz ge))) (young _ (Nat.le_refl _)) upd_same
    by_cases hb : p.1 = P
    · rw [hu p hp hb, hb]
      refine ⟨_, by rw [upd_ne (ne_of_none hP nC), upd_same], by rw [app]; exact PySem.TriplesOk_snoc _ _ _ _ h3, fun p' cv hcv => ?_⟩
      rw [app] at hcv
      exact (among_app _ h3 hcv).elim (fun y => (ha p' cv y).imp fun c0 w => ⟨w.1, ext _ _ w.2 codeO_ne⟩) fun y => ⟨c', y, upd_same⟩
    · obtain ⟨qs, a1, a2, a3⟩ := hT p hp
      exact ⟨qs, by rw [upd_ne (ne_of_none a1 nC), upd_ne hb]; exact a1, a2, fun p' cv hcv => (a3 p' cv hcv).imp fun c0 w => ⟨w.1, ext _ _ w.2 codeO_ne⟩⟩
  · obtain ⟨c', e, hco⟩ := ha pos cv hc
    subst e
    have I3 : Inv X pins σ H { s with heap := h'.push (objT (X.env.qual ++ "<lambda>") params body scope (cloFrom X.env.cells scope.names []) ((X.mg "__name__").getD .none) (.ref c') ct (.ref s.heap.objs.size)), toks := tk } := I2.kept fun b o e => Heap.get?_push_of_some _ (x b o e)
    exact h h'.objs.size c' s.heap.objs.size ((X.mg "__name__").getD .none) ct s.toks H _ I3 (ExtN.refl H) hT (Heap.get?_push_size _ rfl) (I2.hok.fresh sz) (young _ (Nat.le_trans (Nat.le_of_lt hsz) sz)) (Heap.get?_push_of_some _ (x _ _ gD)) nD (young _ (Nat.le_refl _)) hco
end
/-- one own name, the parameter a, which the def around does not have -/
structure LamSD (N : List Str) (a : Str) (sc scope : Scope) : Prop where
  kind : scope.kind = .function
  co : scope.isCoroutine = false
  gen : scope.isGenerator = false
  own : ∀ y ∈ scope.names, (y.2 = .local → y.1 = a) ∧ y.2 ≠ .cell
  par : scope.names.lookup a = some .local
  out : a ∉ N
  free : ∀ y ∈ scope.names, y.2 = .free → sc.names.lookup y.1 = some .cell ∨ sc.names.lookup y.1 = some .free
def lamSDB (N : List Str) (a : Str) (sc scope : Scope) : Bool :=
  decide (scope.kind = .function) && (!scope.isCoroutine && (!scope.isGenerator && ((scope.names.all fun y => (!decide (y.2 = .local) || decide (y.1 = a)) && (!decide (y.2 = .cell) && (!decide (y.2 = .free) || (decide (sc.names.lookup y.1 = some .cell) || decide (sc.names.lookup y.1 = some .free))))) && (decide (scope.names.lookup a = some .local) && decide (a ∉ N)))))
theorem lamSD_by {N : List Str} {a : Str} {sc scope : Scope} (h : lamSDB N a sc scope = true) : LamSD N a sc scope := by
  unfold lamSDB at h
  simp only [Bool.and_eq_true, Bool.or_eq_true, Bool.not_eq_true', decide_eq_true_eq, decide_eq_false_iff_not, List.all_eq_true] at h
  obtain ⟨h1, h2, h3, h4, h5, h6⟩ := h
  exact ⟨h1, h2, h3, fun y hy => ⟨fun e => (h4 y hy).1.elim (fun n => absurd e n) id, (h4 y hy).2.1⟩, h5, h6, fun y hy e => (h4 y hy).2.2.elim (fun n => absurd e n) id⟩
section
variable {X : Cx} {pins : List (Addr × Obj)} {σ : L2.St} {H HZ : Hp} {s s1 : Shared} {N : List Str} {a : Str}
theorem LamSD.has {scope : Scope} (L : LamSD N a X.env.scope scope) (ok : X.Ok) : ∀ y ∈ scope.names, y.2 = .free → ∃ c, X.env.cells.lookup y.1 = some c := fun y hy e => ok.has _ (L.free y hy e)
theorem start_lamD {A : Around} {outer : List Env} {E : XK} {scope : Scope} {f c' : Addr} {h1 : Heap} {tk : Nat} {m : Str → Option Value} (I : Inv X pins σ H s) (L : LamSD X.N a X.env.scope scope) (e0 : Env0 X.prog X.w X.K X.mg X.base A outer s1 HZ) (hd : A.handled = none)
    (un : Un (frs X.stack) [] H HZ s.heap s1.heap) (hns : h1.Ns s1.heap.objs.size m) (kp : ∀ b o, s1.heap.get? b = some o → h1.get? b = some o) : Inv (lamCx X A outer s1 HZ E scope f c') [] σ HZ { s1 with heap := h1, toks := tk } := by
  have hfree := L.has I.ok
  -- what the lambda captures is what the def holds
  have same : ∀ {y : Str} {c : Addr}, (cloFrom X.env.cells scope.names []).lookup y = some c → X.env.cells.lookup y = some c := fun {y c} e => by
    rcases cloFrom_mem (PySem.mem_of_lookup e) with z | ⟨z1, z2⟩
    · cases z
    · obtain ⟨c1, hc⟩ := hfree _ z1 rfl
      have hc : X.env.cells.lookup y = some c1 := hc
      rw [z2, hc]
      rfl
  have has : ∀ {y : Str}, scope.names.lookup y = some .free → ∃ c, (cloFrom X.env.cells scope.names []).lookup y = some c := fun {y} e => mem_lookup (cloFrom_has (cells := X.env.cells) (acc := []) (PySem.mem_of_lookup e))
  have cellUp : ∀ {c : Addr} {v : Option Value}, H c = none → s.heap.IsCell c v → h1.IsCell c v := fun n z => by
    obtain ⟨o, ho, hd⟩ := z
    obtain ⟨sl, q⟩ := un.any ho n List.not_mem_nil
    exact ⟨_, kp _ _ q, hd⟩
  have none_ : ∀ b : Addr, b ∉ (lamCx X A outer s1 HZ E scope f c').ex := fun b z => absurd (show b ∈ ([] : List Addr) from z) List.not_mem_nil
  have capt : ∀ {y : Str}, scope.names.lookup y = some .cell ∨ scope.names.lookup y = some .free → ∃ c, (cloFrom X.env.cells scope.names []).lookup y = some c := fun {y} z => z.elim (fun z => absurd rfl (L.own _ (PySem.mem_of_lookup z)).2) has
  refine ⟨⟨e0.mod, L.kind, rfl, rfl, Nat.le_refl _, fun y w c z1 z2 => I.ok.inj y w c (same z1) (same z2), fun y z => capt z, fun y c z _ => ?_, fun _ => hd, Around.frames_deeper e0.frames, .inr ⟨rfl, rfl⟩, fun b z => absurd z (none_ b), e0.bs, e0.bsz, fun b _ _ => none_ b, fun b z => absurd z (none_ b), e0.funs, e0.frf⟩,
    rfl, e0.bare, Un.kept kp, ⟨_, hns, fun i y v z1 z2 z3 => ?_⟩, fun y c z => ?_, e0.hok.fresh (Nat.le_refl _), fun y c z => ?_, fun q z => absurd (show q ∈ ([] : List (Addr × Obj)) ++ [] from z) (by simp), e0.hok.kept kp, I.len⟩
  · cases (show false = true from z)
  · rcases (show Vis scope y from z3) with k | k | k
    · have ya := (L.own _ (PySem.mem_of_lookup k)).1 rfl
      exact absurd (List.mem_of_getElem? z1) (by rw [show y = a from ya]; exact L.out)
    · exact absurd rfl (L.own _ (PySem.mem_of_lookup k)).2
    · obtain ⟨_, _, hl⟩ := I.loc
      have fr := L.free _ (PySem.mem_of_lookup k) rfl
      obtain ⟨v', r, q⟩ := hl i y v z1 z2 (fr.elim (fun z => .inr (.inl z)) fun z => .inr (.inr z))
      obtain ⟨c2, h2⟩ := has k
      refine ⟨v', r, .inr ⟨.inr k, c2, h2, ?_⟩⟩
      have c1 := same h2
      rcases q with ⟨k', _⟩ | ⟨_, c3, e', w⟩
      · have k' : X.env.scope.names.lookup y = some .local := k'
        rcases fr with z | z <;> rw [show X.env.scope.names.lookup y = _ from z] at k' <;> cases k'
      · rw [c1] at e'
        cases e'
        exact cellUp (I.freeC y _ c1) w
  · obtain ⟨v', w⟩ := I.cell y c (same z)
    exact ⟨v', cellUp (I.freeC y c (same z)) w⟩
  · obtain ⟨_, o, ho, _⟩ := I.cell y c (same z)
    exact un.free c o ho (I.freeC y c (same z)) List.not_mem_nil
/-- x(), in the def that got the lambda -/
theorem act_lamD {CXg : CXT} {Eg : XK} {Ng : List Str} {qg : Str} {sg : Scope} {g f c' D : Addr} {cdg pm ct : Value} {u : Tok} {z : Int} {params : Arguments} {body : Expr} {scope : Scope} {k i : Nat} {x : Str} {pn : List (Addr × Obj)} {xe : Value → Shared → Prop} {W : WX} {E : XK} {tb : TE} {p1 p2 : Pos}
    (I : Inv X pins σ H s) (L : LamSD X.N a X.env.scope scope) (hf : s.heap.get? f = some (objT (X.env.qual ++ "<lambda>") params body scope (cloFrom X.env.cells scope.names []) pm (.ref c') ct (.ref D))) (hfn : H f = none) (hfr : f ∉ frs X.stack) (hD : s.heap.get? D = some { cls := .type "tuple", data := .seq #[.int z u] }) (hDn : H D = none) (hDf : D ∉ frs X.stack)
    (hbind : ∃ k, bindArgs (fnT (X.env.qual ++ "<lambda>") params body scope (cloFrom X.env.cells scope.names []) pm (.ref c') ct (.ref D)) ⟨[], []⟩ = seqItems? (.ref D) >>= k ∧ k (some #[.int z u]) = pure [(a, .int z u)])
    (tk : Takes ((cxOf CXg X.prog X.w X.K X.mg X.base Ng qg sg g cdg X.A X.stack s H Eg).tr pn xe) W) (hW : ∀ cls d σ' H', E cls d H' → W cls d σ' H') (hr : Room (k + 1) (X.A.deeper (envOfC qg sg s.heap.objs.size g cdg)))
    (hbody : ∀ (A : Around) (outer : List Env) (s : Shared) (H : Hp), Room k (A.deeper (lamEnv X scope s.heap.objs.size f c')) → PE (lamCx X A outer s H E scope f c') body tb)
    (hN : Ng[i]? = some x) (hv : Vis sg x) (hd : (x == ("__debug__" : Str)) = false := by decide) (hcd : (x == ("__classdict__" : Str)) = false := by decide) :
    PE ((cxOf CXg X.prog X.w X.K X.mg X.base Ng qg sg g cdg X.A X.stack s H Eg).tr pn xe) (.Call (.Name x p1) [] [] p2) (fun σZ HZ Q => σZ[i]? = some (some (.ref f)) ∧ HZ c' = some (CodeO c' (X.env.qual ++ "<lambda>")) ∧ tb σ HZ Q) := by
  refine ⟨fun pinsZ sZ σZ HZ Q IZ h => ?_⟩
  obtain ⟨hs, hc, ht⟩ := h
  refine wpAny_Call_Name_kw (thn ((pe_var (pos := p1) (i := i) hN hv hd hcd).run pinsZ sZ σZ HZ (fun v H1 => v = .ref f ∧ H1 = HZ) IZ ⟨.ref f, hs, rfl, rfl⟩) fun y s1 ⟨v, H1, I1, r1, ev, eH⟩ => ?_)
  subst ev eH
  cases (show y = Value.ref f from r1)
  have un : Un (frs X.stack) [] H H1 s.heap s1.heap := I1.base
  have of1 := un.keep f _ hf hfn hfr List.not_mem_nil
  have oD1 := un.keep D _ hD hDn hDf List.not_mem_nil
  refine PySem.W.callWith_F0 ⟨_, _, _, _, of1⟩ ?_
  refine wpAny_call (codeAny_mono (R := CR (L2.CX X.prog X.w) (envOfC qg sg s.heap.objs.size g cdg :: X.stack) X.prog X.w H1 s1 Q E) ?_ fun r s' hq => ?_)
  · obtain ⟨⟨oc, vs, t, o1, o2, o3⟩, _, _⟩ := I1.hok c' _ hc
    show codeAny _ _ (.call (.ref f) ⟨[], []⟩) _ _
    refine PySem.W.kla_callFunE hr.depth of1 rfl L.co L.gen rfl ⟨c', oc, vs, t, rfl, o1, o2, o3⟩ ?_
    obtain ⟨kb, b1, b2⟩ := hbind
    rw [b1]
    refine wpAny_bind (wpAny_seqItems oD1 rfl ?_)
    rw [b2]
    refine wpAny_pure (wpAny_newFunctionEnv (fun y hy => (L.own y hy).2) (fun y hy => ?_) (fun h1 hns hsb => ⟨I1.nolimit.fresh _ hsb, ?_⟩) L.kind)
    · rw [List.mem_singleton.mp hy]
      exact L.par
    have kp : ∀ b o, s1.heap.get? b = some o → h1.get? b = some o := fun b o e => hsb.extBut b o (Nat.ne_of_lt (Heap.lt_size e)) (Heap.get?_push_of_some _ e)
    have J := start_lamD (A := X.A.deeper (envOfC qg sg s.heap.objs.size g cdg)) (E := E) (f := f) (c' := c') (tk := s1.toks + 1) I L I1.env0 hr.hd un hns kp
    refine PySem.W.kla_codeExpr (wpAny_mono ((hbody _ _ s1 H1 (hr.deeper _)).run [] _ _ H1 Q J ht) (fun v s' q => ?_) fun _ _ q => q)
    obtain ⟨w', H', J', rv, q⟩ := q
    exact ⟨w', H', J'.os, J'.bare, J'.base, J'.hok, rv, q⟩
  · have hx : Passes (L2.CX X.prog X.w) ((cxOf CXg X.prog X.w X.K X.mg X.base Ng qg sg g cdg X.A X.stack s H Eg).tr pn xe) E := passes_call tk hW
    cases r with
    | error e => exact hx pinsZ σZ H1 s1 e s' I1 hq
    | ok fl =>
      cases fl with
      | ret u => exact I1.after hq
      | next => exact (show False from hq).elim
      | brk => exact (show False from hq).elim
      | cont => exact (show False from hq).elim
/-- x(lambda a=z: body) -/
theorem pe_lamcallD {T : List (Addr × Str)} {TT : (XK → Hp → VK → Prop) → Hp → VK → Prop} {x b : Str} {g c P : Addr} {k : Nat} {pg : Arguments} {bg : List Stmt} {sg : Scope} {dV kV doc pm cdv ct oc : Value} {an od : Option Addr} {osl : Array (Option Value)} {Ng : List Str} {params : Arguments} {body : Expr} {scope : Scope} {t : XK → TE} {z : Int} {jz : Nat} {dp p lpos pos : Pos}
    (hg : Gl X x) (hm : X.mg x = some (.ref g)) (hk : PySem.W.keepIn X.K (.ref g) = true) (lk : X.K.lookup g = some ⟨oc, od, .func (PySem.W.fnOf x x pg bg sg dV kV doc pm an cdv ct), osl⟩) (hcg : PySem.W.codeIn X.K cdv x = true) (hb : L2.Binds X.K (PySem.W.fnOf x x pg bg sg dV kV doc pm an cdv ct) [b] []) (Sg : FnScope Ng [b] sg) (h0 : Ng[0]? = some b) (hva : Vis sg b)
    (hG : GivesTo X Ng x sg g cdv bg b (X.env.qual ++ "<lambda>") TT) (TB : TabB X.base X.mg c P) (hcode : X.env.code = .ref c) (hmT : (P, X.env.qual ++ "<lambda>") ∈ T) (hu : ∀ p ∈ T, p.1 = P → p.2 = X.env.qual ++ "<lambda>") (hr : Room (k + 2) X.A) (L : LamSD X.N a X.env.scope scope) (hdef : defaultsOf params X.env = ([eval (.Constant (.int z) jz dp) X.env], [])) (hkw : params.kwonlyargs = [])
    (hbind : ∀ (q : Str) (cl : List (Str × Addr)) (pm cv ct : Value) (D : Addr) (u : Tok), ∃ k, bindArgs (fnT q params body scope cl pm cv ct (.ref D)) ⟨[], []⟩ = seqItems? (.ref D) >>= k ∧ k (some #[.int z u]) = pure [(a, .int z u)])
    (hbody : ∀ (A : Around) (outer : List Env) (s : Shared) (H : Hp) (E : XK) (f c' : Addr), Room k (A.deeper (lamEnv X scope s.heap.objs.size f c')) → PE (lamCx X A outer s H E scope f c') body (t E))
    (hdb : (x == ("__debug__" : Str)) = false := by decide) (hd : (b == ("__debug__" : Str)) = false := by decide) (hcd : (b == ("__classdict__" : Str)) = false := by decide) :
    PE X (.Call (.Name x p) [.Lambda params body scope lpos] [] pos) (tLam T TT t) := by
  refine ⟨fun pins s σ H Q I h => ?_⟩
  obtain ⟨hT, h⟩ := h
  refine wpAny_Call_Name_kw (ld_glob I hg hm (PySem.W.callWith_K (h₀ := X.base) I.ok.mod.kin hk ?_ (by rfl) (by rfl)) hdb)
  show wpAny _ _ (spliced ((false, eval (.Lambda params body scope lpos) X.env) :: backTo pos (starEach [] X.env))) _ _ s
  refine Calls.spliced_cons (lam_makeD I TB hcode hmT hu hT hdef hkw (L.has I.ok) fun f c' D pm' ct' u H1 s' I1 eN T1 g1 g2 g3 g4 g5 g6 hco => Calls.spliced_nil ⟨I1.kIn, wpAny_call (codeAny_mono (R := CR C8.CX0 X.stack X.prog X.w H1 s' Q C8.E0) ?_ fun r s2 hq => ?_)⟩)
  · refine run_ofS (N := Ng) (ps := [b]) (us := [.ref f]) (vs := [.ref f]) lk hcg Sg hr I1.env0 (hb s' [.ref f] I1.kIn rfl) (.cons rfl .nil) rfl fun hr' => ?_
    obtain ⟨t', ht', hq'⟩ := hG f c' s' H1 Q (fun E H' Q' => t E σ H' Q') (fun W pn xe E p1 p2 tk hW => act_lamD (i := 0) I1 L g1 g2 g3 g4 g5 g6 (hbind _ _ _ _ _ _ _) tk hW hr' (fun A outer s H hr2 => hbody A outer s H E f c' hr2) h0 hva hd hcd) hco (h H1 eN T1)
    exact ⟨t', ht'.nox, hq'⟩
  · cases r with
    | error e => exact (show False from hq).elim
    | ok fl =>
      cases fl with
      | ret u => exact I1.after hq
      | next => exact (show False from hq).elim
      | brk => exact (show False from hq).elim
      | cont => exact (show False from hq).elim
end
end LamX
set_option Elab.async false
set_option linter.all false
set_option maxRecDepth 100000
set_option maxHeartbeats 4000000
namespace K02
open PySem PySem.Spec PyProof.Rows L2 L2H LamX
section
variable {P : Program} {w : World} {K : PySem.W.Frag} {mg : Str → Option Value} {base : Heap}
/-! ### _law_fault -/
/-- what is told of a caught exception -/
def rFau (CI CW : Addr) (C dd : Addr) (H : Hp) (Q : VK) : Prop :=
  (C = CI ∧ ∃ x, H dd = some (.xd (fsOf "InvalidNumber" ["value"] [x])) ∧ ∀ l, H l = none → Q (.ref l) (upd H l (.lst [.str "InvalidNumber", .str "InvalidNumber", x]))) ∨
  (C = CW ∧ ∃ x, H dd = some (.xd (fsOf "InvalidWord" ["value"] [x])) ∧ ∀ l, H l = none → Q (.ref l) (upd H l (.lst [.str "InvalidWord", .str "InvalidWord", x])))
def spFau (CI CW : Addr) : Addr × Obj → List V → Hp → VK → Prop := fun p vs H Q => vs = [.ref p.1] ∧ ∃ C dd, ExcP (.ref C) (some dd) p ∧ rFau CI CW C dd H Q
theorem sc_fau : FnScope ["_law_error"] ["_law_error"] (defScope (top 43)) := ⟨rfl, rfl, rfl, by decide +kernel, rfl, by decide +kernel, by decide +kernel⟩
structure ExF (P : Program) (w : World) (K : PySem.W.Frag) (mg : Str → Option Value) (base : Heap) (CB CI CW : Addr) : Prop where
  cI : ∃ b n, Ecl P w K mg base "InvalidNumber" CI b n ["value"]
  cW : ∃ b n, Ecl P w K mg base "InvalidWord" CW b n ["value"]
  gB : mg "BorderError" = some (.ref CB)
  eI : PySem.W.exmOne K (.ref CI) (.ref CB) = some true
  eW : PySem.W.exmOne K (.ref CW) (.ref CB) = some true
  kII : PySem.W.kitOne K (.ref CI) (.ref CI) = some true
  kWI : PySem.W.kitOne K (.ref CW) (.ref CI) = some false
  kWW : PySem.W.kitOne K (.ref CW) (.ref CW) = some true
theorem ok_fau {f : Addr} {fd : FuncData} {CB CI CW : Addr} (F : FnP K "_law_fault" (top 43) f fd) (x : ExF P w K mg base CB CI CW) (m_isinstance : mg "isinstance" = none) : FnE P w K mg base 1 f fd ["_law_error"] (spFau CI CW) := by
  have sc := sc_fau
  obtain ⟨bI, nI, cI⟩ := x.cI
  obtain ⟨bW, nW, cW⟩ := x.cW
  have g_CI := cI.gC
  have g_CW := cW.gC
  refine fnE_of F sc (fun p vs H Q h => ?_) (fun cdv p A outer s H vs Q hr h => ?_)
  · rw [h.1]
    rfl
  · obtain ⟨rfl, C, dd, hz, h⟩ := h
    have hp : p ∈ (cxH CX0 P w K mg base ["_law_error"] "_law_fault" (defScope (top 43)) f cdv A outer s H E0 p).pn := List.mem_cons_self
    refine ⟨_, (pss_cons (ps_if (pt_val (pe_callB (call_isP hp) (by rfl) m_isinstance (by decide +kernel) (pa_cons (pv 0) (pa_cons (pe_glob (v := .ref CI) rfl g_CI rfl) pa_nil)))) (pss_one (ps_ret (pe_lst (pa_cons pe_str (pa_cons (pe_xfP hp hz (pv 0)) (pa_cons (pe_xfP hp hz (pv 0)) pa_nil)))))) pss_nil)
      (pss_cons (ps_if (pt_val (pe_callB (call_isP hp) (by rfl) m_isinstance (by decide +kernel) (pa_cons (pv 0) (pa_cons (pe_glob (v := .ref CW) rfl g_CW rfl) pa_nil)))) (pss_one (ps_ret (pe_lst (pa_cons pe_str (pa_cons (pe_xfP hp hz (pv 0)) (pa_cons (pe_xfP hp hz (pv 0)) pa_nil)))))) pss_nil)
      (pss_one (ps_ret (pe_lst (pa_cons pe_str pa_nil)))))), ?_⟩
    rcases h with ⟨rfl, x1, h1, q⟩ | ⟨rfl, x1, h1, q⟩
    · refine ⟨_, rfl, bI, nI, _, dd, _, _, _, true, rfl, .own _, cI.ox, hz, h1, x.kII, _, rfl, iteT ?_⟩
      refine ⟨_, rfl, rfl, _, dd, bI, nI, _, _, rfl, cI.ox, cI.no "code" (by simp), rfl, h1, rfl, ?_⟩
      exact ⟨_, rfl, rfl, _, dd, bI, nI, _, _, rfl, cI.ox, cI.no "value" (by simp), rfl, h1, rfl, (by show 3 ≤ sizeLine; decide), q⟩
    · refine ⟨_, rfl, bW, nW, _, dd, _, _, _, false, rfl, .own _, cW.ox, hz, h1, x.kWI, _, rfl, iteF ?_⟩
      refine ⟨_, rfl, bW, nW, _, dd, _, _, _, true, rfl, .own _, cW.ox, hz, h1, x.kWW, _, rfl, iteT ?_⟩
      refine ⟨_, rfl, rfl, _, dd, bW, nW, _, _, rfl, cW.ox, cW.no "code" (by simp), rfl, h1, rfl, ?_⟩
      exact ⟨_, rfl, rfl, _, dd, bW, nW, _, _, rfl, cW.ox, cW.no "value" (by simp), rfl, h1, rfl, (by show 3 ≤ sizeLine; decide), q⟩
end
theorem PE.imp {X : Cx} {e : Expr} {t t' : TE} (p : PE X e t) (h : ∀ σ H Q, t' σ H Q → t σ H Q) : PE X e t' := ⟨fun pins s σ H Q I q => p.run pins s σ H Q I (h _ _ _ q)⟩
/-! ### _law_ask(lambda: ..) -/
/-- what the ask hands back, of what its lambda hands back -/
def askQ (Q : VK) : VK := fun v H' => 2 ≤ sizeLine ∧ ∀ t, H' t = none → Q (.ref t) (upd H' t (.lst [.str "told", v]))
/-- and of what leaves its lambda -/
def askE (CI CW : Addr) (Q : VK) : XK := fun cls d H' => ∃ C dd, cls = .ref C ∧ d = some dd ∧ rFau CI CW C dd H' Q
def TTask (CI CW : Addr) : (XK → Hp → VK → Prop) → Hp → VK → Prop := fun tl H Q => tl (askE CI CW Q) H (askQ Q)
structure AskF (P : Program) (w : World) (K : PySem.W.Frag) (mg : Str → Option Value) (base : Heap) (CB CI CW : Addr) : Prop where
  F : ∃ fd, FnP K "_law_ask" (top 44) (He.ga K "_law_ask") fd
  g : mg "_law_ask" = some (.ref (He.ga K "_law_ask"))
  x : ExF P w K mg base CB CI CW
  fau : CalE P w K mg base "_law_fault" 1 ["_law_error"] (spFau CI CW)
theorem sc_ask : FnScope ["_law_deed", "_law_error"] ["_law_deed"] (defScope (top 44)) := ⟨rfl, rfl, rfl, by decide +kernel, rfl, by decide +kernel, by decide +kernel⟩
def tFau (CI CW : Addr) (a : Addr) (cls : Value) (d : Option Addr) : TE := fun σ H Q => (σ.length = 2 → σ[1]? = some (some (.ref a))) ∧ ∃ C dd, cls = .ref C ∧ d = some dd ∧ rFau CI CW C dd H Q
theorem slot1 {σ : L2.St} {v : Option V} (h : σ.length = 2) : (σ.set 1 v)[1]? = some v := by
  match σ, h with
  | [_, _], _ => rfl
theorem ask_suite {Y : Cx} {P : Program} {w : World} {K : PySem.W.Frag} {mg : Str → Option Value} {base : Heap} {CI CW a : Addr} {oe : Obj} {q p2 pos : Pos} (fau : CalE P w K mg base "_law_fault" 1 ["_law_error"] (spFau CI CW)) (e1 : Y.prog = P) (e2 : Y.w = w) (e3 : Y.K = K) (e4 : Y.mg = mg) (e5 : Y.base = base) (hp : (a, oe) ∈ Y.pn) (hr : RoomH 1 Y.A) (hg : Gl Y "_law_fault") (hN : Y.N = (["_law_deed", "_law_error"] : List Str)) (hv : Vis Y.env.scope "_law_error") :
    PE Y (.Call (.Name "_law_fault" q) [.Name "_law_error" p2] [] pos) (fun σ H Q => (σ.length = 2 → σ[1]? = some (some (.ref a))) ∧ spFau CI CW (a, oe) [.ref a] H Q) := by
  subst e1 e2 e3 e4 e5
  have v := pe_varL (X := Y) (v := .ref a) (i := 1) (x := "_law_error") (pos := p2) (by rw [hN]; rfl) hv
  rw [hN] at v
  exact pe_calE (p := (a, oe)) fau hp hr hg (pa_cons v pa_nil)
theorem ask_gives {X : Cx} {CB CI CW g : Addr} {cdg : Value} {q : Str} (t : AskF X.prog X.w X.K X.mg X.base CB CI CW) (hr : Room 2 X.A) : GivesTo X ["_law_deed", "_law_error"] "_law_ask" (defScope (top 44)) g cdg (defBody (top 44)) "_law_deed" q (TTask CI CW) := by
  intro f c' s H Q tl act hc h
  have sc := sc_ask
  refine ⟨_, pss_one (ps_try_manyAs (X := (cxOf C8.CX0 X.prog X.w X.K X.mg X.base ["_law_deed", "_law_error"] "_law_ask" (defScope (top 44)) g cdg X.A X.stack s H C8.E0).nox) (Wout := fun _ _ _ _ => False)
      (tb := fun W D σ H => ∃ Ech : XK, (∀ cls d σ' H', Ech cls d H' → W cls d σ' H') ∧ σ[0]? = some (some (.ref f)) ∧ H c' = some (CodeO c' q) ∧ tl Ech H (askQ D.rt))
      rfl rfl sc.nd L2.takes0 (fun W pn xe tk _ => ?_)
      (HdsAs.cons (q := ⟨.ref CB, 1, fun a cls d => tRet (tFau CI CW a cls d)⟩) ⟨rfl, by decide, Or.inl t.x.gB⟩ rfl rfl (fun a oe cls d pn hz hf => ?_)
      HdsAs.nil)), ?_⟩
  · refine ⟨fun pins s' σ H' D I h' => ?_⟩
    obtain ⟨Ech, hW, h1, h2, h3⟩ := h'
    refine PSs.run (t := _) (pss_one (ps_ret (pe_lst (pa_cons pe_str (pa_cons (act W pn xe Ech _ _ tk hW) pa_nil))))) pins s' σ H' D I ?_
    exact ⟨h1, h2, h3⟩
  · show PSs _ _ (tRet (tFau CI CW a cls d))
    refine pss_one (ps_ret (PE.imp (t := fun σ H Q => (σ.length = 2 → σ[1]? = some (some (.ref a))) ∧ spFau CI CW (a, oe) [.ref a] H Q) ?_ fun σ H Q h => ?_))
    · have hr' := hr.deeper (envOfC "_law_ask" (defScope (top 44)) s.heap.objs.size g cdg)
      refine ask_suite (a := a) (oe := oe) t.fau ?_ ?_ ?_ ?_ ?_ ?_ ?_ ?_ ?_ ?_
      · rfl
      · rfl
      · rfl
      · rfl
      · rfl
      · exact List.mem_cons_self
      · exact ⟨hr'.dp, hr'.un⟩
      · rfl
      · rfl
      · exact Or.inl rfl
    · obtain ⟨h1, C, dd, rfl, rfl, h2⟩ := h
      exact ⟨h1, rfl, C, dd, ⟨hz, hf⟩, h2⟩
  · refine ⟨askE CI CW Q, fun cls d σ' H' hE => ?_, rfl, hc, h⟩
    obtain ⟨C, dd, rfl, rfl, hF⟩ := hE
    have e1 : PySem.W.exmOne X.K (.ref C) (.ref CB) = some true := by
      rcases hF with ⟨rfl, _⟩ | ⟨rfl, _⟩
      · exact t.x.eI
      · exact t.x.eW
    refine ⟨true, e1, fun _ a ha => ?_, fun z => Bool.noConfusion z⟩
    exact ⟨fun hl => slot1 (by rw [List.length_set] at hl; exact hl), C, dd, rfl, rfl, hF⟩
theorem pe_lawask {X : Cx} {T : List (Addr × Str)} {CB CI CW c P : Addr} {k : Nat} {params : Arguments} {body : Expr} {scope : Scope} {tb : XK → TE} {p lpos pos : Pos} (t : AskF X.prog X.w X.K X.mg X.base CB CI CW) (hg : Gl X "_law_ask") (TB : TabB X.base X.mg c P) (hcode : X.env.code = .ref c) (hmT : (P, X.env.qual ++ "<lambda>") ∈ T) (hu : ∀ p ∈ T, p.1 = P → p.2 = X.env.qual ++ "<lambda>") (hr : Room (k + 2) X.A) (L : LamS X.env.scope scope) (hdef : defaultsOf params X.env = ([], []))
    (hbind : ∀ (q : Str) (cl : List (Str × Addr)) (pm cv ctv : Value), bindArgs (PySem.W.kla_fn "<lambda>" q params body scope cl pm cv ctv) ⟨[], []⟩ = pure [])
    (hbody : ∀ (A : Around) (outer : List Env) (s : Shared) (H : Hp) (E : XK) (f c' : Addr), Room k (A.deeper (lamEnv X scope s.heap.objs.size f c')) → PE (lamCx X A outer s H E scope f c') body (tb E)) :
    PE X (.Call (.Name "_law_ask" p) [.Lambda params body scope lpos] [] pos) (tLam T (TTask CI CW) tb) := by
  obtain ⟨fd, F⟩ := t.F
  have b := F.bindsN (ps := ["_law_deed"]) fun _ _ _ _ _ _ us hl => match us, hl with | [_], _ => rfl
  obtain ⟨oc, od, dV, kV, doc, pm, an, cdv, ct, osl, rfl, lk, hcd, hD, hK⟩ := F.ex
  exact pe_lamcall hg t.g F.kp lk hcd b sc_ask rfl (Or.inl rfl) (ask_gives t (hr.mono (by omega))) TB hcode hmT hu hr L hdef hbind hbody
theorem pe_lawaskD {X : Cx} {T : List (Addr × Str)} {CB CI CW c P : Addr} {k : Nat} {a : Str} {z : Int} {jz : Nat} {dp : Pos} {params : Arguments} {body : Expr} {scope : Scope} {tb : XK → TE} {p lpos pos : Pos} (t : AskF X.prog X.w X.K X.mg X.base CB CI CW) (hg : Gl X "_law_ask") (TB : TabB X.base X.mg c P) (hcode : X.env.code = .ref c) (hmT : (P, X.env.qual ++ "<lambda>") ∈ T) (hu : ∀ p ∈ T, p.1 = P → p.2 = X.env.qual ++ "<lambda>") (hr : Room (k + 2) X.A) (L : LamSD X.N a X.env.scope scope) (hdef : defaultsOf params X.env = ([eval (.Constant (.int z) jz dp) X.env], [])) (hkw : params.kwonlyargs = [])
    (hbind : ∀ (q : Str) (cl : List (Str × Addr)) (pm cv ct : Value) (D : Addr) (u : Tok), ∃ k, bindArgs (fnT q params body scope cl pm cv ct (.ref D)) ⟨[], []⟩ = seqItems? (.ref D) >>= k ∧ k (some #[.int z u]) = pure [(a, .int z u)])
    (hbody : ∀ (A : Around) (outer : List Env) (s : Shared) (H : Hp) (E : XK) (f c' : Addr), Room k (A.deeper (lamEnv X scope s.heap.objs.size f c')) → PE (lamCx X A outer s H E scope f c') body (tb E)) :
    PE X (.Call (.Name "_law_ask" p) [.Lambda params body scope lpos] [] pos) (tLam T (TTask CI CW) tb) := by
  obtain ⟨fd, F⟩ := t.F
  have b := F.bindsN (ps := ["_law_deed"]) fun _ _ _ _ _ _ us hl => match us, hl with | [_], _ => rfl
  obtain ⟨oc, od, dV, kV, doc, pm, an, cdv, ct, osl, rfl, lk, hcd, hD, hK⟩ := F.ex
  exact pe_lamcallD hg t.g F.kp lk hcd b sc_ask rfl (Or.inl rfl) (ask_gives t (hr.mono (by omega))) TB hcode hmT hu hr L hdef hkw hbind hbody
theorem passL {X : Cx} {A : Around} {outer : List Env} {s : Shared} {H : Hp} {E : XK} {scope : Scope} {f c' : Addr} : Passes (L2.CX X.prog X.w) (lamCx X A outer s H E scope f c') E :=
  passes_call (E := E) (takes_of (X := lamCx X A outer s H E scope f c') rfl rfl rfl rfl) fun _ _ _ _ h => h
end K02
set_option Elab.async false
set_option linter.all false
set_option maxRecDepth 100000
set_option maxHeartbeats 4000000
namespace K02
open PySem PySem.Spec PyProof.Rows L2 L2H LamX RowM
section
variable {K : PySem.W.Frag} {H H' H2 : Hp} {g : Bg} {TT : List (Addr × Str)} {v : V}
theorem Rp.dx (B : Bag g H) (d : Dx g TT H H') : ∀ {n : Nat} {t : D} {v : V}, Rp K g.b H n t v → Rp K g.b H' n t v
  | 0, _, _, h => h
  | n + 1, _, _, h => by
    rcases h with h | ⟨t, ds, a, vs, e1, e2, h3, e4, e5, h6⟩
    · exact .inl h
    · refine .inr ⟨t, ds, a, vs, e1, e2, ?_, e4, e5, fun i d' v q1 q2 => Rp.dx B d (h6 i d' v q1 q2)⟩
      unfold SqB at h3 ⊢
      by_cases e : t = true
      · rw [if_pos e] at h3 ⊢
        exact d.sqT B h3
      · rw [if_neg e] at h3 ⊢
        exact ⟨d.k _ _ h3.2 (fun ps z => nomatch z) h3.1, h3.2⟩
theorem RpA.dx (B : Bag g H) (d : Dx g TT H H') {n : Nat} {ds : List D} {vs : List V} (h : RpA K g.b H n ds vs) : RpA K g.b H' n ds vs := ⟨h.1, fun i d' v q1 q2 => (h.2 i d' v q1 q2).dx B d⟩
theorem RpA.snoc {b : Addr} {n : Nat} {ds : List D} {vs : List V} {d : D} (h : RpA K b H n ds vs) (s : Same H H') (r : Rp K b H' n d v) : RpA K b H' n (ds ++ [d]) (vs ++ [v]) := (h.same s).append (RpA.cons r .nil)
theorem RpA.mem {b : Addr} {n : Nat} {ds : List D} {vs : List V} (h : RpA K b H n ds vs) (hv : v ∈ vs) : ∃ d ∈ ds, Rp K b H n d v := by
  obtain ⟨i, hi⟩ := List.mem_iff_getElem?.mp hv
  obtain ⟨il, _⟩ := List.getElem?_eq_some_iff.mp hi
  have hd : ds[i]? = some (ds[i]'(by rw [← h.1]; exact il)) := List.getElem?_eq_getElem _
  exact ⟨_, List.mem_of_getElem? hd, h.2 i _ v hd hi⟩
end
abbrev lwD (i : Int) : D := .sc (.int i)
def odds : List D := [.seq true [], .seq false [lwD 0], .seq true [lwD 64], .seq true [lwD (0 - 1)], .seq true [lwD 0, .sc (.bl true)], .sc (.str "0"), lwD 3, .seq true [.sc .non], .seq true [lwD 0, .seq true [lwD 1]], .seq false [], .sc (.bl true), .sc (.bl false), .seq true [lwD 0, lwD 64, lwD (0 - 1)]]
theorem odds_ring : ∀ d ∈ odds ++ [.sc .non], ringD 63 d = false := by
  unfold odds
  intro d hd
  simp only [List.cons_append, List.nil_append, List.mem_cons, List.not_mem_nil, or_false] at hd
  rcases hd with rfl | rfl | rfl | rfl | rfl | rfl | rfl | rfl | rfl | rfl | rfl | rfl | rfl | rfl <;> rfl
theorem odds_word : ∀ d ∈ odds.drop 1 ++ [.sc .non], wordD 63 d = false := by
  unfold odds
  intro d hd
  simp only [List.drop_succ_cons, List.drop_zero, List.cons_append, List.nil_append, List.mem_cons, List.not_mem_nil, or_false] at hd
  rcases hd with rfl | rfl | rfl | rfl | rfl | rfl | rfl | rfl | rfl | rfl | rfl | rfl | rfl <;> rfl
theorem odds_non : ∀ d ∈ odds, d ≠ .sc .non := by
  unfold odds
  intro d hd
  simp only [List.mem_cons, List.not_mem_nil, or_false] at hd
  rcases hd with rfl | rfl | rfl | rfl | rfl | rfl | rfl | rfl | rfl | rfl | rfl | rfl | rfl <;> (intro z; first | (injection z with z; cases z) | cases z)
theorem out_word {CI CW : Addr} {H : Hp} {x : V} {Q : VK} (q : ∀ l H2, Same H H2 → H l = none → H2 l = some (.lst [.str "InvalidWord", .str "InvalidWord", x]) → Q (.ref l) H2) : Out CW "InvalidWord" ["value"] [x] H (askE CI CW Q) := fun d H2 hd s h => ⟨CW, d, rfl, rfl, .inr ⟨rfl, x, h, fun l hl => q l _ (s.trans (Same.new hl)) (s.free hl) upd_same⟩⟩
theorem out_num {CI CW : Addr} {H : Hp} {x : V} {Q : VK} (q : ∀ l H2, Same H H2 → H l = none → H2 l = some (.lst [.str "InvalidNumber", .str "InvalidNumber", x]) → Q (.ref l) H2) : Out CI "InvalidNumber" ["value"] [x] H (askE CI CW Q) := fun d H2 hd s h => ⟨CI, d, rfl, rfl, .inl ⟨rfl, x, h, fun l hl => q l _ (s.trans (Same.new hl)) (s.free hl) upd_same⟩⟩
end K02
set_option Elab.async false
set_option linter.all false
set_option maxRecDepth 100000
set_option maxHeartbeats 4000000
namespace K02
open PySem PySem.Spec PyProof.Rows L2 L2H LamX RowM
abbrev qR : Str := "_law_refused.<locals>.<lambda>"
section
variable {P : Program} {w : World} {K : PySem.W.Frag} {mg : Str → Option Value} {base : Heap}
theorem sc_refused : FnScope ["_law_bag_here", "_law_odds", "_law_lead", "_law_body", "_law_tail", "_law_bad", "_law_good", "_law_asks", "_law_dues", "_law_odd"] ["_law_bag_here"] (defScope (top 60)) := ⟨rfl, rfl, rfl, by decide +kernel, rfl, by decide +kernel, by decide +kernel⟩
theorem rp_lst {H : Hp} {b l : Addr} {n : Nat} {vs : List V} {ds : List D} (hl : H l = none) (nb : l ≠ b) (h : RpA K b H n ds vs) (len : vs.length ≤ 900) : Rp K b (upd H l (.lst vs)) (n + 1) (.seq false ds) (.ref l) := Rp.lst upd_same nb (h.same (Same.new hl)) len
theorem rp_tup {H : Hp} {b l : Addr} {n : Nat} {vs : List V} {ds : List D} (hl : H l = none) (h : RpA K b H n ds vs) (len : vs.length ≤ 900) : Rp K b (upd H l (.tup vs)) (n + 1) (.seq true ds) (.ref l) := Rp.tup (SqT.of upd_same) (h.same (Same.new hl)) len
theorem cut_tail {vs : List V} (h : vs.length = 13) : cutV vs (some 1) none = vs.drop 1 := by
  unfold cutV
  have e : HT.sIx vs.length 0 (some 1) = 1 := (HT.sIx_nat _ _ 1).trans (by rw [h]; rfl)
  rw [HT.sIx_none, e]
  exact List.take_of_length_le (by rw [List.length_drop]; exact Nat.le_refl _)
theorem ok_refused {fd : FuncData} {C CB CW CI T : Addr} {TT : List (Addr × Str)} {PR : Addr} (F : FnP K "_law_refused" (top 60) (He.fAd K ("_law_refused", none)) fd) (t_A : AskF P w K mg base CB CI CW) (t_B : TabB base mg (He.codeOf K ("_law_refused", none)) PR) (t_m : (PR, qR) ∈ TT) (t_u : ∀ p ∈ TT, p.1 = PR → p.2 = qR) (o_R : RowO P w K mg base C CW CI T TT)
    (c__law_draw : Cal P w K mg base CX0 "_law_draw" 1 ["_law_bag_here", "_law_many"] spDraw) (c__law_of : Cal P w K mg base CX0 "_law_of" 2 ["_law_bag_here", "_law_things"] spOf) (c__law_word : Cal P w K mg base CX0 "_law_word" 2 ["_law_bag_here", "_law_size", "_law_n"] (spLWord K)) (c__law_like : Cal P w K mg base CX0 "_law_like" 6 ["_law_found", "_law_due"] (spLike K NoA 5)) : FnOk P w K mg base CX0 12 (He.fAd K ("_law_refused", none)) fd ["_law_bag_here"] (spRefused TT) := by
  have sc := sc_refused
  refine okC F sc (fun vs H Q E h => ?_) (fun A outer s H vs Q E hr h => ?_)
  · obtain ⟨g, rfl, _⟩ := h
    rfl
  · obtain ⟨g, rfl, hB, hT, q⟩ := h
    have hr_ask : Room 11 _ := hr
    have hr__law_like : Room 6 _ := hr.mono (by decide)
    have hr__law_of : Room 2 _ := hr.mono (by decide)
    have hr__law_word : Room 2 _ := hr.mono (by decide)
    have hr__law_draw : Room 1 _ := hr.mono (by decide)
    obtain ⟨f_chg, fd_chg, M_changed, F_changed, b_changed⟩ := o_R.chg
    refine ⟨_, PSs.nox (Evl.pss_cut (ps_set (i := 1) sc.nd rfl (Or.inl rfl) (pe_lst (pa_cons (pe_tup pa_nil) (pa_cons (pe_lst (pa_cons pe_int pa_nil)) (pa_cons (pe_tup (pa_cons pe_int pa_nil)) (pa_cons (pe_tup (pa_cons (pe_op op_sub pe_int pe_int) pa_nil)) (pa_cons (pe_tup (pa_cons pe_int (pa_cons pe_bl pa_nil))) (pa_cons pe_str (pa_cons pe_int (pa_cons (pe_tup (pa_cons pe_non pa_nil)) (pa_cons (pe_tup (pa_cons pe_int (pa_cons (pe_tup (pa_cons pe_int pa_nil)) pa_nil))) (pa_cons (pe_lst pa_nil) (pa_cons pe_bl (pa_cons pe_bl (pa_cons (pe_tup (pa_cons pe_int (pa_cons pe_int (pa_cons (pe_op op_sub pe_int pe_int) pa_nil)))) pa_nil)))))))))))))))
      (pss_cons (ps_asg (pe_tup (pa_cons (pe_cal c__law_of hr__law_of rfl (pa_cons (pv 0) (pa_cons (pe_op op_cat (pv 1) (pe_lst (pa_cons pe_non pa_nil))) pa_nil))) (pa_cons (pe_cal c__law_of hr__law_of rfl (pa_cons (pv 0) (pa_cons (pe_op op_cat (pe_slice sl_list (pv 1) (po_some pe_int) po_none) (pe_lst (pa_cons pe_non pa_nil))) pa_nil))) (pa_cons (pe_cal c__law_of hr__law_of rfl (pa_cons (pv 0) (pa_cons (pv 1) pa_nil))) pa_nil)))) (pg_tup rfl (pgs_cons (pg_name (i := 2) sc.nd rfl (Or.inr rfl)) (pgs_cons (pg_name (i := 3) sc.nd rfl (Or.inr rfl)) (pgs_cons (pg_name (i := 4) sc.nd rfl (Or.inr rfl)) pgs_nil)))))
      (pss_cons (ps_set (i := 5) sc.nd rfl (Or.inr rfl) (pe_cal c__law_of hr__law_of rfl (pa_cons (pv 0) (pa_cons (pe_lst (pa_cons pe_int (pa_cons (pe_op op_sub pe_int pe_int) (pa_cons pe_bl (pa_cons pe_non (pa_cons pe_str (pa_cons (pe_tup (pa_cons pe_int pa_nil)) (pa_cons (pe_op op_add pe_int (pe_cal c__law_draw hr__law_draw rfl (pa_cons (pv 0) (pa_cons pe_int pa_nil)))) pa_nil)))))))) pa_nil))))
      (pss_cons (ps_set (i := 6) sc.nd rfl (Or.inr rfl) (pe_cal c__law_word hr__law_word rfl (pa_cons (pv 0) (pa_cons (pe_op op_add pe_int (pe_cal c__law_draw hr__law_draw rfl (pa_cons (pv 0) (pa_cons pe_int pa_nil)))) (pa_cons pe_int pa_nil)))))
      (pss_cons (ps_set (i := 7) sc.nd rfl (Or.inl rfl) (pe_lst (pa_cons (pe_lawask (k := 9) (tb := (fun E2 => fun σ H Q => tCons (tVar 2) (tCons (tVar 3) (tCons (tVar 4) tNil)) σ H fun vs H1 => tCons (tVar 5) tNil σ H1 fun zs H2 => ∃ xl xt xr xs, vs = [xl, xt, xr] ∧ zs = [xs] ∧ rRow K C CW CI E2 xl xt xr xs H2 Q)) t_A rfl t_B rfl t_m t_u hr_ask (lamS_by (show lamSB (defScope (top 60)) _ = true by decide +kernel)) rfl (fun _ _ _ _ _ => by rfl) (fun A2 o2 s2 H2 E2 f2 c2 hr2 => ?lam6)) (pa_cons (pe_lawaskD (k := 9) (tb := (fun E2 => fun σ H Q => tCons (tVar 6) (tCons (tVar 3) (tCons (tVar 4) tNil)) σ H fun vs H1 => tCons (tVar 5) tNil σ H1 fun zs H2 => ∃ xl xt xr xs, vs = [xl, xt, xr] ∧ zs = [xs] ∧ rRow K C CW CI E2 xl xt xr xs H2 Q)) t_A rfl t_B rfl t_m t_u hr_ask (lamSD_by (a := "_law_a") (show lamSDB ["_law_bag_here", "_law_odds", "_law_lead", "_law_body", "_law_tail", "_law_bad", "_law_good", "_law_asks", "_law_dues", "_law_odd"] "_law_a" (defScope (top 60)) _ = true by decide +kernel)) rfl rfl (fun _ _ _ _ _ _ _ => ⟨_, rfl, rfl⟩) (fun A2 o2 s2 H2 E2 f2 c2 hr2 => ?lam5)) pa_nil))))
      (pss_cons (ps_set (i := 7) sc.nd rfl (Or.inl rfl) (pe_op op_cat (pv 7) (pe_lst (pa_cons (pe_lawask (k := 9) (tb := (fun E2 => fun σ H Q => tCons (tVar 6) (tCons (tVar 6) (tCons (tVar 4) tNil)) σ H fun vs H1 => tCons (tVar 5) tNil σ H1 fun zs H2 => ∃ xl xt xr xs, vs = [xl, xt, xr] ∧ zs = [xs] ∧ rRow K C CW CI E2 xl xt xr xs H2 Q)) t_A rfl t_B rfl t_m t_u hr_ask (lamS_by (show lamSB (defScope (top 60)) _ = true by decide +kernel)) rfl (fun _ _ _ _ _ => by rfl) (fun A2 o2 s2 H2 E2 f2 c2 hr2 => ?lam4)) (pa_cons (pe_lawaskD (k := 9) (tb := (fun E2 => fun σ H Q => tCons (tVar 6) tNil σ H fun vs H1 => tCons (tVar 5) tNil σ H1 fun zs H2 => ∃ xl xs, vs = [xl] ∧ zs = [xs] ∧ rRow K C CW CI E2 xl (.ref T) .non xs H2 Q)) t_A rfl t_B rfl t_m t_u hr_ask (lamSD_by (a := "_law_a") (show lamSDB ["_law_bag_here", "_law_odds", "_law_lead", "_law_body", "_law_tail", "_law_bad", "_law_good", "_law_asks", "_law_dues", "_law_odd"] "_law_a" (defScope (top 60)) _ = true by decide +kernel)) rfl rfl (fun _ _ _ _ _ _ _ => ⟨_, rfl, rfl⟩) (fun A2 o2 s2 H2 E2 f2 c2 hr2 => ?lam3)) pa_nil)))))
      (pss_cons (ps_set (i := 7) sc.nd rfl (Or.inl rfl) (pe_op op_cat (pv 7) (pe_lst (pa_cons (pe_lawask (k := 9) (tb := (fun E2 => tMeth C "changed" (spChg K C CW) [] E2 (fun σ H Q => tCons (tVar 6) tNil σ H fun vs H1 => ∃ xl, vs = [xl] ∧ rRow K C CW CI E2 xl (.ref T) .non (.int 0) H1 Q) (tCons (tC (.int 4)) (tCons (tVar 3) tNil)))) t_A rfl t_B rfl t_m t_u hr_ask (lamS_by (show lamSB (defScope (top 60)) _ = true by decide +kernel)) rfl (fun _ _ _ _ _ => by rfl) (fun A2 o2 s2 H2 E2 f2 c2 hr2 => ?lam2)) (pa_cons (pe_lawaskD (k := 9) (tb := (fun E2 => fun σ H Q => tCons (tVar 2) tNil σ H fun vs H1 => tCons (tVar 5) tNil σ H1 fun zs H2 => ∃ xl xs, vs = [xl] ∧ zs = [xs] ∧ rRow K C CW CI E2 xl (.ref T) .non xs H2 Q)) t_A rfl t_B rfl t_m t_u hr_ask (lamSD_by (a := "_law_a") (show lamSDB ["_law_bag_here", "_law_odds", "_law_lead", "_law_body", "_law_tail", "_law_bad", "_law_good", "_law_asks", "_law_dues", "_law_odd"] "_law_a" (defScope (top 60)) _ = true by decide +kernel)) rfl rfl (fun _ _ _ _ _ _ _ => ⟨_, rfl, rfl⟩) (fun A2 o2 s2 H2 E2 f2 c2 hr2 => ?lam1)) pa_nil)))))
      (pss_cons (ps_setLc (i := 8) (own := [("_law_odd", 9)]) (g := gName 9) rfl sc.nd rfl rfl (sw_true rfl rfl rfl (by decide +kernel)) (pi_list (pe_lst (pa_cons (pv 2) (pa_cons (pv 3) (pa_cons (pv 4) (pa_cons pe_int (pa_cons (pv 3) (pa_cons (pv 2) pa_nil)))))))) (blkOk_by (N := ["_law_bag_here", "_law_odds", "_law_lead", "_law_body", "_law_tail", "_law_bad", "_law_good", "_law_asks", "_law_dues", "_law_odd"]) (sc := defScope (top 60)) (by decide +kernel)) (fun _ _ _ _ _ => (pg_name (i := 9) sc.nd rfl (Or.inl rfl))) (fun _ _ _ _ _ => pts_nil) (fun _ _ _ _ _ => (pe_lst (pa_cons pe_str (pa_cons pe_str (pa_cons (pv 9) pa_nil))))))
      (pss_cons (ps_asg (pe_lst (pa_cons pe_str (pa_cons pe_str (pa_cons (pv 5) pa_nil)))) (pg_sub (pv 8) pe_int set_list (fun _ => rfl)))
      (pss_one (ps_ret (pe_cal c__law_like hr__law_like rfl (pa_cons (pv 7) (pa_cons (pv 8) pa_nil)))))))))))))), ?_⟩
    case lam6 =>
      refine pe_rowK3 (T := T) (E := E2) ?_ ?_ ?_ ?_ ?_ ?_
      · exact o_R.c
      · exact hr2.mono (by decide)
      · rfl
      · exact passes_call (E := E2) (takes_of rfl rfl rfl rfl) fun _ _ _ _ h => h
      · exact pa_cons (pv 2) (pa_cons (pv 3) (pa_cons (pv 4) pa_nil))
      · exact pk_cons (pv 5) pk_nil
    case lam5 =>
      refine pe_rowK3 (T := T) (E := E2) ?_ ?_ ?_ ?_ ?_ ?_
      · exact o_R.c
      · exact hr2.mono (by decide)
      · rfl
      · exact passes_call (E := E2) (takes_of rfl rfl rfl rfl) fun _ _ _ _ h => h
      · exact pa_cons (pv 6) (pa_cons (pv 3) (pa_cons (pv 4) pa_nil))
      · exact pk_cons (pv 5) pk_nil
    case lam4 =>
      refine pe_rowK3 (T := T) (E := E2) ?_ ?_ ?_ ?_ ?_ ?_
      · exact o_R.c
      · exact hr2.mono (by decide)
      · rfl
      · exact passes_call (E := E2) (takes_of rfl rfl rfl rfl) fun _ _ _ _ h => h
      · exact pa_cons (pv 6) (pa_cons (pv 6) (pa_cons (pv 4) pa_nil))
      · exact pk_cons (pv 5) pk_nil
    case lam3 =>
      refine pe_rowK1 (E := E2) ?_ ?_ ?_ ?_ ?_ ?_
      · exact o_R.c
      · exact hr2.mono (by decide)
      · rfl
      · exact passes_call (E := E2) (takes_of rfl rfl rfl rfl) fun _ _ _ _ h => h
      · exact pa_cons (pv 6) pa_nil
      · exact pk_cons (pv 5) pk_nil
    case lam2 =>
      refine pe_meth (E := E2) ?_ o_R.cl M_changed F_changed (hr2.mono (by decide)) b_changed .nil ?_ ?_
      · refine pe_row1 (E := E2) ?_ ?_ ?_ ?_ ?_
        · exact o_R.c
        · exact hr2.mono (by decide)
        · rfl
        · exact passes_call (E := E2) (takes_of rfl rfl rfl rfl) fun _ _ _ _ h => h
        · exact pa_cons (pv 6) pa_nil
      · exact passes_call (E := E2) (takes_of rfl rfl rfl rfl) fun _ _ _ _ h => h
      · exact pa_cons pe_int (pa_cons (pv 3) pa_nil)
    case lam1 =>
      refine pe_rowK1 (E := E2) ?_ ?_ ?_ ?_ ?_ ?_
      · exact o_R.c
      · exact hr2.mono (by decide)
      · rfl
      · exact passes_call (E := E2) (takes_of rfl rfl rfl rfl) fun _ _ _ _ h => h
      · exact pa_cons (pv 2) pa_nil
      · exact pk_cons (pv 5) pk_nil
    -- the odd things
    refine ⟨fun σ' H' => ∃ (L : Addr) (vs : List V), σ' = [some (.ref g.b), some (.ref L), none, none, none, none, none, none, none, none] ∧ Dx g TT H H' ∧ L ≠ g.b ∧ H' L = some (.lst vs) ∧ RpA K g.b H' 2 odds vs ∧ vs.length = 13, ?_, ?_⟩
    · have R0 : RpA K g.b H 2 [] [] := .nil
      refine ⟨Nat.zero_le _, fun a0 n0 => ?_⟩
      have s0 : Same H (upd H a0 (.tup [])) := Same.new n0
      have R1 := R0.snoc s0 (rp_tup (n := 1) n0 (.nil (K := K) (b := g.b)) (by decide))
      have B1 := hB.same s0
      generalize upd H a0 (.tup []) = H1 at s0 R1 B1 ⊢
      refine ⟨(by show 1 ≤ sizeLine; decide), fun a1 n1 => ?_⟩
      have s1 : Same H1 (upd H1 a1 (.lst [.int 0])) := Same.new n1
      have R2 := R1.snoc s1 (rp_lst (n := 1) n1 (B1.ne n1) (RpA.cons (K := K) (b := g.b) (Rp.sc (.int 0)) .nil) (by show 1 ≤ 900; decide))
      have B2 := B1.same s1
      generalize upd H1 a1 (.lst [.int 0]) = H2 at s1 R2 B2 ⊢
      refine ⟨(by show 1 ≤ sizeLine; decide), fun a2 n2 => ?_⟩
      have s2 : Same H2 (upd H2 a2 (.tup [.int 64])) := Same.new n2
      have R3 := R2.snoc s2 (rp_tup (n := 1) n2 (RpA.cons (K := K) (b := g.b) (Rp.sc (.int 64)) .nil) (by show 1 ≤ 900; decide))
      have B3 := B2.same s2
      generalize upd H2 a2 (.tup [.int 64]) = H3 at s2 R3 B3 ⊢
      refine ⟨_, _, rfl, rfl, (by show 1 ≤ sizeLine; decide), fun a3 n3 => ?_⟩
      have s3 : Same H3 (upd H3 a3 (.tup [.int (0 - 1)])) := Same.new n3
      have R4 := R3.snoc s3 (rp_tup (n := 1) n3 (RpA.cons (K := K) (b := g.b) (Rp.sc (.int (0 - 1))) .nil) (by show 1 ≤ 900; decide))
      have B4 := B3.same s3
      show tCons _ _ _ (upd H3 a3 (.tup [.int (0 - 1)])) _
      generalize upd H3 a3 (.tup [.int (0 - 1)]) = H4 at s3 R4 B4 ⊢
      refine ⟨(by show 2 ≤ sizeLine; decide), fun a4 n4 => ?_⟩
      have s4 : Same H4 (upd H4 a4 (.tup [.int 0, .bl true])) := Same.new n4
      have R5 := R4.snoc s4 (rp_tup (n := 1) n4 (RpA.cons (K := K) (b := g.b) (Rp.sc (.int 0)) (RpA.cons (Rp.sc (.bl true)) .nil)) (by show 2 ≤ 900; decide))
      have B5 := B4.same s4
      generalize upd H4 a4 (.tup [.int 0, .bl true]) = H5 at s4 R5 B5 ⊢
      have R6 := R5.snoc (Same.refl H5) (Rp.sc (.str "0"))
      have R7 := R6.snoc (Same.refl H5) (Rp.sc (.int 3))
      refine ⟨(by show 1 ≤ sizeLine; decide), fun a7 n7 => ?_⟩
      have s7 : Same H5 (upd H5 a7 (.tup [.non])) := Same.new n7
      have R8 := R7.snoc s7 (rp_tup (n := 1) n7 (RpA.cons (K := K) (b := g.b) (Rp.sc .non) .nil) (by show 1 ≤ 900; decide))
      have B8 := B5.same s7
      generalize upd H5 a7 (.tup [.non]) = H8 at s7 R8 B8 ⊢
      refine ⟨(by show 1 ≤ sizeLine; decide), fun a8 n8 => ?_⟩
      have s8 : Same H8 (upd H8 a8 (.tup [.int 1])) := Same.new n8
      have i8 := rp_tup (n := 0) n8 (RpA.cons (K := K) (b := g.b) (Rp.sc (.int 1)) .nil) (by show 1 ≤ 900; decide)
      have B8' := B8.same s8
      generalize upd H8 a8 (.tup [.int 1]) = H8' at s8 i8 B8' ⊢
      refine ⟨(by show 2 ≤ sizeLine; decide), fun a9 n9 => ?_⟩
      have s9 : Same H8' (upd H8' a9 (.tup [.int 0, .ref a8])) := Same.new n9
      have R9 := R8.snoc (s8.trans s9) (rp_tup (n := 1) n9 (RpA.cons (K := K) (b := g.b) (Rp.sc (.int 0)) (RpA.cons i8 .nil)) (by show 2 ≤ 900; decide))
      have B9 := B8'.same s9
      generalize upd H8' a9 (.tup [.int 0, .ref a8]) = H9 at s9 R9 B9 ⊢
      refine ⟨Nat.zero_le _, fun a10 n10 => ?_⟩
      have s10 : Same H9 (upd H9 a10 (.lst [])) := Same.new n10
      have R10 := R9.snoc s10 (rp_lst (n := 1) n10 (B9.ne n10) (.nil (K := K) (b := g.b)) (by decide))
      have B10 := B9.same s10
      generalize upd H9 a10 (.lst []) = H10 at s10 R10 B10 ⊢
      have R11 := R10.snoc (Same.refl H10) (Rp.sc (.bl true))
      have R12 := R11.snoc (Same.refl H10) (Rp.sc (.bl false))
      refine ⟨_, _, rfl, rfl, (by show 3 ≤ sizeLine; decide), fun a12 n12 => ?_⟩
      have s12 : Same H10 (upd H10 a12 (.tup [.int 0, .int 64, .int (0 - 1)])) := Same.new n12
      have R13 := R12.snoc s12 (rp_tup (n := 1) n12 (RpA.cons (K := K) (b := g.b) (Rp.sc (.int 0)) (RpA.cons (Rp.sc (.int 64)) (RpA.cons (Rp.sc (.int (0 - 1))) .nil))) (by show 3 ≤ 900; decide))
      have B13 := B10.same s12
      show tNil _ (upd H10 a12 (.tup [.int 0, .int 64, .int (0 - 1)])) _
      generalize upd H10 a12 (.tup [.int 0, .int 64, .int (0 - 1)]) = H12 at s12 R13 B13 ⊢
      refine ⟨(by show 13 ≤ sizeLine; decide), fun L hL => ?_⟩
      have all := s0.trans (s1.trans (s2.trans (s3.trans (s4.trans (s7.trans (s8.trans (s9.trans (s10.trans s12))))))))
      exact ⟨L, _, rfl, Dx.same hB hT (all.trans (Same.new hL)), B13.ne hL, upd_same, R13.same (Same.new hL), rfl⟩
    · rintro σ' H1 ⟨L, vs, rfl, d1, nL, kL, RL, lv⟩
      -- lead
      refine ⟨_, rfl, _, rfl, (by show 1 ≤ sizeLine; decide), fun N1 hN1 => ?_⟩
      have sN1 : Same H1 (upd H1 N1 (.lst [.non])) := Same.new hN1
      refine ⟨L, N1, vs, [.non], rfl, rfl, sN1 _ _ kL, upd_same, by rw [lv]; decide, fun P1 hP1 => ?_⟩
      have sP1 := sN1.trans (Same.new (o := .lst (vs ++ [.non])) hP1)
      have bP1 := d1.b.same sP1
      have nP1 : P1 ≠ g.b := (d1.b.same sN1).ne hP1
      refine ⟨g, P1, _, rfl, bP1, upd_same, nP1, by rw [List.length_append, lv]; decide, by rw [List.length_append, lv]; decide, fun v1 H2 hv1 dr2 => ?_⟩
      have d2' : Dx g TT H1 H2 := (Dx.same d1.b d1.t sP1).trans (Dx.drew bP1 (tabs_same d1.t sP1) dr2)
      have R1 : RpA K g.b H1 2 (odds ++ [.sc .non]) (vs ++ [.non]) := RL.append (RpA.cons (Rp.sc .non) .nil)
      obtain ⟨e1, he1, r1⟩ := (R1.dx d1.b d2').mem hv1
      have f1 := odds_ring e1 he1
      have d2 := d1.trans d2'
      have kL2 : H2 L = some (.lst vs) := d2'.k _ _ nL (fun ps z => nomatch z) kL
      have RL2 := RL.dx d1.b d2'
      clear sN1 hN1 sP1 hP1 bP1 nP1 dr2 R1 RL kL hv1 he1
      -- body
      refine ⟨_, rfl, _, rfl, 1, rfl, _, _, rfl, SqL.of kL2, fun S1 hS1 => ?_⟩
      rw [cut_tail lv]
      have sS1 : Same H2 (upd H2 S1 (.lst (vs.drop 1))) := Same.new hS1
      have kS1 : upd H2 S1 (.lst (vs.drop 1)) S1 = some (.lst (vs.drop 1)) := upd_same
      refine ⟨(by show 1 ≤ sizeLine; decide), fun N2 hN2 => ?_⟩
      have sN2 := sS1.trans (Same.new (o := .lst [.non]) hN2)
      refine ⟨S1, N2, vs.drop 1, [.non], rfl, rfl, Same.new hN2 _ _ kS1, upd_same, by rw [List.length_drop, lv]; decide, fun P2 hP2 => ?_⟩
      have sP2 := sN2.trans (Same.new (o := .lst (vs.drop 1 ++ [.non])) hP2)
      have bP2 := d2.b.same sP2
      have nP2 : P2 ≠ g.b := (d2.b.same sN2).ne hP2
      refine ⟨g, P2, _, rfl, bP2, upd_same, nP2, by rw [List.length_append, List.length_drop, lv]; decide, by rw [List.length_append, List.length_drop, lv]; decide, fun v2 H3 hv2 dr3 => ?_⟩
      have d3' : Dx g TT H2 H3 := (Dx.same d2.b d2.t sP2).trans (Dx.drew bP2 (tabs_same d2.t sP2) dr3)
      have R2 : RpA K g.b H2 2 (odds.drop 1 ++ [.sc .non]) (vs.drop 1 ++ [.non]) := (RL2.drop 1).append (RpA.cons (Rp.sc .non) .nil)
      obtain ⟨e2, he2, r2⟩ := (R2.dx d2.b d3').mem hv2
      have f2 := odds_word e2 he2
      have d3 := d2.trans d3'
      have kL3 : H3 L = some (.lst vs) := d3'.k _ _ nL (fun ps z => nomatch z) kL2
      have RL3 := RL2.dx d2.b d3'
      have r1a := r1.dx d2.b d3'
      clear sS1 kS1 sN2 sP2 bP2 nP2 dr3 R2 RL2 kL2 hv2 he2 hP2 hN2 hS1 r1
      -- tail
      refine ⟨_, rfl, _, rfl, g, L, vs, rfl, d3.b, kL3, nL, by rw [lv]; decide, by rw [lv]; decide, fun v3 H4 hv3 dr4 => ?_⟩
      have d4' : Dx g TT H3 H4 := Dx.drew d3.b d3.t dr4
      obtain ⟨e3, he3, r3⟩ := (RL3.dx d3.b d4').mem hv3
      have f3 := odds_ring e3 (List.mem_append_left _ he3)
      have n3 := odds_non e3 he3
      have d4 := d3.trans d4'
      have r1b := r1a.dx d3.b d4'
      have r2b := r2.dx d3.b d4'
      have v3n : v3 ≠ .non := fun z => by
        subst z
        rcases r3 with ⟨h, _⟩ | ⟨t, ds, a, vs, _, h, _⟩
        · exact n3 h
        · cases h
      refine ⟨(by show 3 ≤ sizeLine; decide), fun p hp => ?_⟩
      have s5 : Same H4 (upd H4 p (.tup [v1, v2, v3])) := Same.new hp
      refine ⟨p, _, rfl, SqT.of upd_same, rfl, _, _, rfl, _, _, rfl, _, _, rfl, rfl, ?_⟩
      have d5 := d4.trans (Dx.same d4.b d4.t s5)
      have q1 := r1b.same s5
      have q2 := r2b.same s5
      have q3 := r3.same s5
      clear r1a r1b r2 r2b r3 RL3 kL3 d3' d4' dr4 hv3 he3 n3 s5 hp
      generalize upd H4 p (.tup [v1, v2, v3]) = H5 at d5 q1 q2 q3
      -- the wrong start
      refine ⟨_, rfl, _, _, rfl, rfl, (by show 1 ≤ sizeLine; decide), fun t0 ht0 => ?_⟩
      have s6 : Same H5 (upd H5 t0 (.tup [.int 0])) := Same.new ht0
      have i6 : Rp K g.b (upd H5 t0 (.tup [.int 0])) 1 (.seq true [lwD 0]) (.ref t0) := rp_tup (n := 0) ht0 (RpA.cons (K := K) (b := g.b) (Rp.sc (.int 0)) .nil) (by show 1 ≤ 900; decide)
      have d6' : Dx g TT H5 (upd H5 t0 (.tup [.int 0])) := Dx.same d5.b d5.t s6
      generalize upd H5 t0 (.tup [.int 0]) = H6 at s6 i6 d6' ⊢
      have d6 := d5.trans d6'
      refine ⟨_, rfl, g, _, rfl, d6.b, by decide, by decide, fun c H7 dr7 c0 c1 => ?_⟩
      have d7' : Dx g TT H6 H7 := Dx.drew d6.b d6.t dr7
      refine ⟨_, _, rfl, rfl, (by show 7 ≤ sizeLine; decide), fun LB hLB => ?_⟩
      have d7 := d6.trans d7'
      have s8 : Same H7 (upd H7 LB (.lst [.int 10000, .int (0 - 10000), .bl true, .non, .str "0", .ref t0, .int (10000 + c)])) := Same.new hLB
      refine ⟨g, LB, _, rfl, d7.b.same s8, upd_same, d7.b.ne hLB, (by show 1 ≤ 7; decide), (by show 7 < 1000; decide), fun vb H8 hvb dr8 => ?_⟩
      have d8' : Dx g TT H5 H8 := (d6'.trans d7').trans ((Dx.same d7.b d7.t s8).trans (Dx.drew (d7.b.same s8) (tabs_same d7.t s8) dr8))
      have d78 : Dx g TT H6 H8 := d7'.trans ((Dx.same d7.b d7.t s8).trans (Dx.drew (d7.b.same s8) (tabs_same d7.t s8) dr8))
      obtain ⟨db, rb, fb⟩ : ∃ db, Rp K g.b H8 2 db vb ∧ wh (-9999) 9999 db = false := by
        simp only [List.mem_cons, List.not_mem_nil, or_false] at hvb
        rcases hvb with rfl | rfl | rfl | rfl | rfl | rfl | rfl
        · exact ⟨_, Rp.sc (.int _), rfl⟩
        · exact ⟨_, Rp.sc (.int _), rfl⟩
        · exact ⟨_, Rp.sc (.bl _), rfl⟩
        · exact ⟨_, Rp.sc .non, rfl⟩
        · exact ⟨_, Rp.sc (.str _), rfl⟩
        · exact ⟨_, (i6.dx d6.b d78).up, rfl⟩
        · refine ⟨_, Rp.sc (.int _), ?_⟩
          show (decide (-9999 ≤ 10000 + c) && decide (10000 + c ≤ 9999)) = false
          rw [decide_eq_false (show ¬ (10000 + c ≤ 9999) by omega), Bool.and_false]
      have d8 := d5.trans d8'
      have q1a := q1.dx d5.b d8'
      have q2a := q2.dx d5.b d8'
      have q3a := q3.dx d5.b d8'
      clear hvb s6 i6 d6' d6 dr7 d7' d7 s8 dr8 d8' d78 q1 q2 q3 hLB ht0 c0 c1
      -- the good word
      refine ⟨_, rfl, _, rfl, g, _, rfl, d8.b, by decide, by decide, fun c H9 dr9 c0 c1 => ?_⟩
      obtain ⟨k, rfl⟩ : ∃ k : Nat, c = (k : Int) := ⟨c.toNat, by omega⟩
      refine ⟨_, _, rfl, rfl, g, 1 + k, 64, by rw [Int.natCast_add]; rfl, dr9.2, by omega, by decide, by decide, fun pg H10 xg dr10 hpg lg sg => ?_⟩
      have d10' : Dx g TT H8 H10 := Dx.drew d8.b d8.t (dr9.trans dr10)
      have d10 := d8.trans d10'
      have p1 := q1a.dx d8.b d10'
      have p2 := q2a.dx d8.b d10'
      have p3 := q3a.dx d8.b d10'
      have pb := rb.dx d8.b d10'
      clear dr9 dr10 d10' q1a q2a q3a rb
      have fx : ∀ H', Dx g TT H10 H' → Rp K g.b H' 2 e1 v1 ∧ Rp K g.b H' 2 e2 v2 ∧ Rp K g.b H' 2 e3 v3 ∧ Rp K g.b H' 2 db vb ∧ Rp K g.b H' 2 (.seq true (xg.map nD)) (.ref pg) ∧ SqT K H' pg (nv xg) := fun H' d => ⟨p1.dx d10.b d, p2.dx d10.b d, p3.dx d10.b d, pb.dx d10.b d, (nv_rp (d.sqT d10.b hpg) (by omega)).up, d.sqT d10.b hpg⟩
      have ring : ringD 63 (.seq true (xg.map nD)) = true := ring_nv sg (by omega)
      have word : wordD 63 (.seq true (xg.map nD)) = true := word_nv sg
      have kx : ∀ {H H' : Hp} {l : Addr} {xs : List V}, Dx g TT H H' → l ≠ g.b → H l = some (.lst xs) → H' l = some (.lst xs) := fun d n h => d.k _ _ n (fun ps z => nomatch z) h
      have d0 : Dx g TT H10 H10 := Dx.refl d10.b d10.t
      -- 1
      refine ⟨d0.t, fun H11 e11 t11 => ?_⟩
      have d11 : Dx g TT H10 H11 := Dx.ext d10.b e11 t11
      obtain ⟨z1, z2, z3, zb, zg, _⟩ := fx H11 d11
      refine ⟨_, rfl, _, rfl, _, rfl, _, rfl, _, _, _, _, rfl, rfl, .inr ⟨g.b, 2, e1, e2, e3, db, z1, z2, z3, zb, .inl ⟨f1, out_word fun l1 H12 s12 nl1 kl1 => ?_⟩⟩⟩
      have m1 : l1 ≠ g.b := d11.b.ne nl1
      have d12 := d11.trans (Dx.same d11.b d11.t s12)
      -- 2
      refine ⟨d12.t, fun H13 e13 t13 => ?_⟩
      have c13 : Dx g TT H12 H13 := Dx.ext d12.b e13 t13
      have d13 := d12.trans c13
      obtain ⟨z1, z2, z3, zb, zg, _⟩ := fx H13 d13
      refine ⟨_, rfl, _, rfl, _, rfl, _, rfl, _, _, _, _, rfl, rfl, .inr ⟨g.b, 2, _, e2, e3, db, zg, z2, z3, zb, .inr (.inl ⟨ring, f2, out_word fun l2 H14 s14 nl2 kl2 => ?_⟩)⟩⟩
      have m2 : l2 ≠ g.b := d13.b.ne nl2
      have c14 := c13.trans (Dx.same d13.b d13.t s14)
      have d14 := d12.trans c14
      refine ⟨(by show 2 ≤ sizeLine; decide), fun La hLa => ?_⟩
      have s15 : Same H14 (upd H14 La (.lst [.ref l1, .ref l2])) := Same.new hLa
      have kLa : upd H14 La (.lst [.ref l1, .ref l2]) La = some (.lst [.ref l1, .ref l2]) := upd_same
      have mLa : La ≠ g.b := d14.b.ne hLa
      have kl1' := s15 _ _ (kx c14 m1 kl1)
      have kl2' := s15 _ _ kl2
      have d15 := d14.trans (Dx.same d14.b d14.t s15)
      clear c13 c14 d11 d12 d13 d14 s12 s14 s15 e11 e13 t11 t13 z1 z2 z3 zb zg nl1 nl2 kl1 kl2
      generalize upd H14 La (.lst [.ref l1, .ref l2]) = H15 at kLa kl1' kl2' d15 ⊢
      -- 3
      refine ⟨_, rfl, d15.t, fun H16 e16 t16 => ?_⟩
      have c16 : Dx g TT H15 H16 := Dx.ext d15.b e16 t16
      have d16 := d15.trans c16
      obtain ⟨z1, z2, z3, zb, zg, _⟩ := fx H16 d16
      refine ⟨_, rfl, _, rfl, _, rfl, _, rfl, _, _, _, _, rfl, rfl, .inr ⟨g.b, 2, _, _, e3, db, zg, zg, z3, zb, .inr (.inr (.inl ⟨ring, word, v3n, f3, out_word fun l3 H17 s17 nl3 kl3 => ?_⟩))⟩⟩
      have m3 : l3 ≠ g.b := d16.b.ne nl3
      have c17 := c16.trans (Dx.same d16.b d16.t s17)
      have d17 := d15.trans c17
      -- 4
      refine ⟨d17.t, fun H18 e18 t18 => ?_⟩
      have c18 : Dx g TT H17 H18 := Dx.ext d17.b e18 t18
      have d18 := d17.trans c18
      obtain ⟨z1, z2, z3, zb, zg, _⟩ := fx H18 d18
      have zT : Rp K g.b H18 2 (.seq true []) (.ref T) := (Rp.tup (o_R.c.nil H18) .nil (by show 0 ≤ 900; decide) : Rp K g.b H18 1 (.seq true []) (.ref T)).up
      refine ⟨_, rfl, _, rfl, _, _, rfl, rfl, .inr ⟨g.b, 2, _, _, .sc .non, db, zg, zT, Rp.sc .non, zb, .inr (.inr (.inr ⟨ring, rfl, .inl rfl, fb, out_num fun l4 H19 s19 nl4 kl4 => ?_⟩))⟩⟩
      have m4 : l4 ≠ g.b := d18.b.ne nl4
      have c19 := c18.trans (Dx.same d18.b d18.t s19)
      have d19 := d17.trans c19
      refine ⟨(by show 2 ≤ sizeLine; decide), fun Lb hLb => ?_⟩
      have s20 : Same H19 (upd H19 Lb (.lst [.ref l3, .ref l4])) := Same.new hLb
      have kLb : upd H19 Lb (.lst [.ref l3, .ref l4]) Lb = some (.lst [.ref l3, .ref l4]) := upd_same
      have c20 : Dx g TT H15 (upd H19 Lb (.lst [.ref l3, .ref l4])) := (c17.trans c19).trans (Dx.same d19.b d19.t s20)
      refine ⟨La, Lb, _, _, rfl, rfl, kx c20 mLa kLa, kLb, (by show 4 ≤ sizeLine; decide), fun Lc hLc => ?_⟩
      have d20 := d15.trans c20
      have s21 : Same (upd H19 Lb (.lst [.ref l3, .ref l4])) (upd (upd H19 Lb (.lst [.ref l3, .ref l4])) Lc (.lst ([.ref l1, .ref l2] ++ [.ref l3, .ref l4]))) := Same.new hLc
      have mLc : Lc ≠ g.b := d20.b.ne hLc
      have kLc : upd (upd H19 Lb (.lst [.ref l3, .ref l4])) Lc (.lst ([.ref l1, .ref l2] ++ [.ref l3, .ref l4])) Lc = some (.lst [.ref l1, .ref l2, .ref l3, .ref l4]) := upd_same
      have b1 := s21 _ _ (kx c20 m1 kl1')
      have b2 := s21 _ _ (kx c20 m2 kl2')
      have b3 := s21 _ _ (s20 _ _ (kx c19 m3 kl3))
      have b4 := s21 _ _ (s20 _ _ kl4)
      have d21 := d20.trans (Dx.same d20.b d20.t s21)
      clear c16 c17 c18 c19 c20 d16 d17 d18 d19 d20 d15 s17 s19 s20 s21 e16 e18 t16 t18 z1 z2 z3 zb zg zT kl1' kl2' kl3 kl4 kLa kLb nl3 nl4 hLa hLb hLc
      generalize upd (upd H19 Lb (.lst [.ref l3, .ref l4])) Lc (.lst ([.ref l1, .ref l2] ++ [.ref l3, .ref l4])) = H21 at kLc b1 b2 b3 b4 d21 ⊢
      -- 5
      refine ⟨_, rfl, d21.t, fun H22 e22 t22 => ?_⟩
      have c22 : Dx g TT H21 H22 := Dx.ext d21.b e22 t22
      have d22 := d21.trans c22
      obtain ⟨z1, z2, z3, zb, zg, hg22⟩ := fx H22 d22
      have g1 : 1 ≤ xg.length := by omega
      have g3 : xg.length ≤ 3 := by omega
      refine ⟨_, rfl, _, rfl, .inl ⟨pg, T, pg, ⟨xg, [], xg, 0⟩, 3, 0, 0, rfl, rfl, .inr ⟨rfl, rfl⟩, rfl, ⟨hg22, o_R.c.nil _, hg22⟩, ⟨g1, g1⟩, ⟨sg, (fun x hx => nomatch hx), sg⟩, (by show (0 : Int).natAbs ≤ 9999; decide), ⟨g3, Nat.le_refl _, g3, (by show (0 : Int).natAbs ≤ 0; decide)⟩, by decide, by decide, by decide, fun rv H23 fr _ s23 hrv lfr bfr => ?_⟩⟩
      have c23 := c22.trans (Dx.same d22.b d22.t s23)
      have d23 := d21.trans c23
      obtain ⟨ra, rdx, rl, rt, rr, rfl, hra, hr4⟩ := id hrv
      have rn : (rowF rl rt rr fr.start).lookup ("changed" : Str) = none := row_no (by decide) (by decide) (by decide) (by decide)
      obtain ⟨_, y2, _⟩ := fx H23 d23
      refine ⟨ra, rdx, _, rfl, hra, rn, _, rfl, ?_⟩
      refine ⟨_, v2, 4, fr, 3, 0, 6, rfl, hrv, Least.ok lfr, ⟨bfr.l, bfr.t, bfr.r, Nat.le_trans bfr.s (by decide)⟩, by decide, by decide, by decide, by decide, .inr ⟨g.b, 2, e2, y2, f2, out_word fun l5 H24 s24 nl5 kl5 => ?_⟩⟩
      have m5 : l5 ≠ g.b := d23.b.ne nl5
      have c24 := c23.trans (Dx.same d23.b d23.t s24)
      have d24 := d21.trans c24
      -- 6
      refine ⟨d24.t, fun H25 e25 t25 => ?_⟩
      have c25 : Dx g TT H24 H25 := Dx.ext d24.b e25 t25
      have d25 := d24.trans c25
      obtain ⟨w1, w2, w3, wb, wg, _⟩ := fx H25 d25
      have wT : Rp K g.b H25 2 (.seq true []) (.ref T) := (Rp.tup (o_R.c.nil H25) .nil (by show 0 ≤ 900; decide) : Rp K g.b H25 1 (.seq true []) (.ref T)).up
      refine ⟨_, rfl, _, rfl, _, _, rfl, rfl, .inr ⟨g.b, 2, _, _, .sc .non, db, w1, wT, Rp.sc .non, wb, .inl ⟨f1, out_word fun l6 H26 s26 nl6 kl6 => ?_⟩⟩⟩
      have m6 : l6 ≠ g.b := d25.b.ne nl6
      have c26 := c25.trans (Dx.same d25.b d25.t s26)
      have d26 := d24.trans c26
      refine ⟨(by show 2 ≤ sizeLine; decide), fun Ld hLd => ?_⟩
      have s27 : Same H26 (upd H26 Ld (.lst [.ref l5, .ref l6])) := Same.new hLd
      have kLd : upd H26 Ld (.lst [.ref l5, .ref l6]) Ld = some (.lst [.ref l5, .ref l6]) := upd_same
      have c27 : Dx g TT H21 (upd H26 Ld (.lst [.ref l5, .ref l6])) := (c24.trans c26).trans (Dx.same d26.b d26.t s27)
      refine ⟨Lc, Ld, _, _, rfl, rfl, kx c27 mLc kLc, kLd, (by show 6 ≤ sizeLine; decide), fun Le hLe => ?_⟩
      have d27 := d21.trans c27
      have s28 : Same (upd H26 Ld (.lst [.ref l5, .ref l6])) (upd (upd H26 Ld (.lst [.ref l5, .ref l6])) Le (.lst ([.ref l1, .ref l2, .ref l3, .ref l4] ++ [.ref l5, .ref l6]))) := Same.new hLe
      have mLe : Le ≠ g.b := d27.b.ne hLe
      have kLe : upd (upd H26 Ld (.lst [.ref l5, .ref l6])) Le (.lst ([.ref l1, .ref l2, .ref l3, .ref l4] ++ [.ref l5, .ref l6])) Le = some (.lst [.ref l1, .ref l2, .ref l3, .ref l4, .ref l5, .ref l6]) := upd_same
      have k1 := s28 _ _ (kx c27 m1 b1)
      have k2 := s28 _ _ (kx c27 m2 b2)
      have k3 := s28 _ _ (kx c27 m3 b3)
      have k4 := s28 _ _ (kx c27 m4 b4)
      have k5 := s28 _ _ (s27 _ _ (kx c26 m5 kl5))
      have k6 := s28 _ _ (s27 _ _ kl6)
      have d28 := d27.trans (Dx.same d27.b d27.t s28)
      clear c22 c23 c24 c25 c26 c27 d22 d23 d24 d25 d26 d27 d21 s23 s24 s26 s27 s28 e22 e25 t22 t25 z1 z2 z3 zb zg hg22 y2 w1 w2 w3 wb wg wT kl5 kl6 nl5 nl6 hLd hLe kLc kLd b1 b2 b3 b4 hra hr4 hrv rn lfr bfr
      generalize upd (upd H26 Ld (.lst [.ref l5, .ref l6])) Le (.lst ([.ref l1, .ref l2, .ref l3, .ref l4] ++ [.ref l5, .ref l6])) = H28 at kLe k1 k2 k3 k4 k5 k6 d28 ⊢
      -- what is due
      refine ⟨_, rfl, _, rfl, _, rfl, _, rfl, _, rfl, (by show 6 ≤ sizeLine; decide), fun Lf hLf => ?_⟩
      have s29 : Same H28 (upd H28 Lf (.lst [v1, v2, v3, .int 0, v2, v1])) := Same.new hLf
      have kLf : upd H28 Lf (.lst [v1, v2, v3, .int 0, v2, v1]) Lf = some (.lst [v1, v2, v3, .int 0, v2, v1]) := upd_same
      generalize upd H28 Lf (.lst [v1, v2, v3, .int 0, v2, v1]) = H29 at s29 kLf ⊢
      have d29 := d28.trans (Dx.same d28.b d28.t s29)
      obtain ⟨XS, hXS⟩ : ∃ XS, XS = [v1, v2, v3, .int 0, v2, v1] := ⟨_, rfl⟩
      rw [← hXS] at kLf
      have lXS : XS.length = 6 := by rw [hXS]; rfl
      refine ⟨Lf, rfl, ⟨_, SqL.of kLf⟩, fun D hD => ?_⟩
      refine lc_it (walk_list (K := K) (a := Lf) (xs := XS)) (fun i H' => (∀ a o, a ≠ D → H29 a = some o → H' a = some o) ∧ ∃ ws, H' D = some (.lst ws) ∧ ws.length = i ∧ ∀ (j : Nat) (w x : V), ws[j]? = some w → XS[j]? = some x → ∃ q, w = .ref q ∧ q ≠ D ∧ H' q = some (.lst [.str "InvalidWord", .str "InvalidWord", x])) ⟨fun a o na e => by rw [upd_ne na]; exact e, [], upd_same, rfl, fun j w x h => by simp at h⟩ (fun i H' _ h => same_L (keep_same hD h.1) (SqL.of kLf)) ?_ ?_
      · rintro i x H' H'' hi ⟨kp, ws, h1, h2, h3⟩ ⟨rfl, hx⟩
        refine ⟨rfl, yes_of (iteT ?_)⟩
        refine ⟨_, rfl, (by show 3 ≤ sizeLine; decide), fun q nq => ?_⟩
        have sq := Same.new (o := .lst [.str "InvalidWord", .str "InvalidWord", x]) nq
        have nqD : q ≠ D := fun z => by
          rw [z, h1] at nq
          cases nq
        refine ⟨ws, sq _ _ h1, by rw [h2, sizeLine_eq]; omega, fun a o na e => by rw [upd_ne na]; exact sq _ _ (kp a o na e), ws ++ [.ref q], upd_same, by simp [h2], fun j w y hw hy => ?_⟩
        by_cases c : j < ws.length
        · rw [List.getElem?_append_left c] at hw
          obtain ⟨q', e1, e2, e3⟩ := h3 j w y hw hy
          exact ⟨q', e1, e2, by rw [upd_ne e2]; exact sq _ _ e3⟩
        · rw [List.getElem?_append_right (by omega)] at hw
          match e : j - ws.length, hw with
          | 0, hw =>
            cases hw
            have : j = i := by omega
            rw [this, hx] at hy
            cases hy
            exact ⟨q, rfl, nqD, by rw [upd_ne nqD]; exact upd_same⟩
          | k + 1, hw => simp at hw
      · rintro H' ⟨kp, ws, h1, h2, h3⟩
        rw [lXS] at h2
        have sD := keep_same hD kp
        have d30 := d29.trans (Dx.same d29.b d29.t sD)
        rw [hXS] at h3
        match ws, h2, h1, h3 with
        | [w0, w1, w2, w3, w4, w5], _, h1, h3 =>
        obtain ⟨q0, rfl, n0, y0⟩ := h3 0 _ _ rfl rfl
        obtain ⟨q1, rfl, n1, y1⟩ := h3 1 _ _ rfl rfl
        obtain ⟨q2, rfl, n2, y2⟩ := h3 2 _ _ rfl rfl
        obtain ⟨q4, rfl, n4, y4⟩ := h3 4 _ _ rfl rfl
        obtain ⟨q5, rfl, n5, y5⟩ := h3 5 _ _ rfl rfl
        clear h3
        refine ⟨_, rfl, (by show 3 ≤ sizeLine; decide), fun Lg hLg => ?_⟩
        have sG : Same H' (upd H' Lg (.lst [.str "InvalidNumber", .str "InvalidNumber", vb])) := Same.new hLg
        have kLg : upd H' Lg (.lst [.str "InvalidNumber", .str "InvalidNumber", vb]) Lg = some (.lst [.str "InvalidNumber", .str "InvalidNumber", vb]) := upd_same
        have nLg : Lg ≠ D := fun z => by
          rw [z, h1] at hLg
          cases hLg
        have d31 := d30.trans (Dx.same d30.b d30.t sG)
        have kD := sG _ _ h1
        refine ⟨_, rfl, D, _, 3, 3, rfl, rfl, kD, rfl, ?_⟩
        have sF : Same H29 (upd (upd H' Lg (.lst [.str "InvalidNumber", .str "InvalidNumber", vb])) D (.lst [.ref q0, .ref q1, .ref q2, .ref Lg, .ref q4, .ref q5])) := fun a o e => by
          rw [upd_ne (ne_of_none e hD)]
          exact sG _ _ (kp a o (ne_of_none e hD) e)
        have u0 : ∀ {l : Addr} {xs : List V}, l ≠ D → H' l = some (.lst xs) → upd (upd H' Lg (.lst [.str "InvalidNumber", .str "InvalidNumber", vb])) D (.lst [.ref q0, .ref q1, .ref q2, .ref Lg, .ref q4, .ref q5]) l = some (.lst xs) := fun n e => by
          rw [upd_ne n]
          exact sG _ _ e
        obtain ⟨t1, t2, t3, t4, _, _⟩ := fx _ d29
        have u1 := t1.same sF
        have u2 := t2.same sF
        have u3 := t3.same sF
        have u4 := t4.same sF
        have y0 := u0 n0 y0
        have y1 := u0 n1 y1
        have y2 := u0 n2 y2
        have y4 := u0 n4 y4
        have y5 := u0 n5 y5
        have y3 : upd (upd H' Lg (.lst [.str "InvalidNumber", .str "InvalidNumber", vb])) D (.lst [.ref q0, .ref q1, .ref q2, .ref Lg, .ref q4, .ref q5]) Lg = some (.lst [.str "InvalidNumber", .str "InvalidNumber", vb]) := by rw [upd_ne nLg]; exact kLg
        have yD : upd (upd H' Lg (.lst [.str "InvalidNumber", .str "InvalidNumber", vb])) D (.lst [.ref q0, .ref q1, .ref q2, .ref Lg, .ref q4, .ref q5]) D = some (.lst [.ref q0, .ref q1, .ref q2, .ref Lg, .ref q4, .ref q5]) := upd_same
        have j1 := sF _ _ (s29 _ _ k1)
        have j2 := sF _ _ (s29 _ _ k2)
        have j3 := sF _ _ (s29 _ _ k3)
        have j4 := sF _ _ (s29 _ _ k4)
        have j5 := sF _ _ (s29 _ _ k5)
        have j6 := sF _ _ (s29 _ _ k6)
        have jL := sF _ _ (s29 _ _ kLe)
        generalize eF : upd (upd H' Lg (.lst [.str "InvalidNumber", .str "InvalidNumber", vb])) D (.lst [.ref q0, .ref q1, .ref q2, .ref Lg, .ref q4, .ref q5]) = HF at sF u1 u2 u3 u4 y0 y1 y2 y3 y4 y5 yD j1 j2 j3 j4 j5 j6 jL
        have al : ∀ {l q : Addr} {s : Str} {v : V}, HF l = some (.lst [.str s, .str s, v]) → HF q = some (.lst [.str s, .str s, v]) → Alk K NoA HF 2 v v → Alk K NoA HF 4 (.ref l) (.ref q) := fun a b c => alk_lst (n := 3) a b (by show 3 ≤ 1000; decide) (.cons (Alk.sc (.str _)) (.cons (Alk.sc (.str _)) (.cons c.up .nil)))
        have goal : spLike K NoA 5 [.ref Le, .ref D] HF Q E0 := ⟨_, _, rfl, alk_lst (n := 4) jL yD (by show 6 ≤ 1000; decide) (.cons (al j1 y0 (u1.alk u1)) (.cons (al j2 y1 (u2.alk u2)) (.cons (al j3 y2 (u3.alk u3)) (.cons (al j4 y3 (u4.alk u4)) (.cons (al j5 y4 (u2.alk u2)) (.cons (al j6 y5 (u1.alk u1)) .nil)))))), fun H' _ => q _⟩
        rw [← eF] at goal
        exact ⟨_, rfl, _, rfl, goal⟩
end
end K02
set_option Elab.async false
set_option linter.all false
set_option maxRecDepth 100000
set_option maxHeartbeats 1000000
/-! Row(..): how its arguments are bound -/
namespace K02
open PySem PySem.Spec PyProof.Rows L2
section
variable {K : PySem.W.Frag} {f T : Addr} {fd : FuncData}
theorem row_b2 (F : FunD K "__init__" "Row.__init__" (defArgs (methOf (top 25) 0)) (defBody (methOf (top 25) 0)) (defScope (methOf (top 25) 0)) [.ref T, .non] [("start", .int 0)] f fd) : ∃ ds, Vals [.ref T, .non, .int 0] ds ∧ Binds K fd PSI ds :=
  F.binds (ps := PSI) 2 0 (by simp) rfl (fun T D doc pm an cdv ct us its ks h1 h2 h3 => match us, h1, its, h2, ks, h3 with
    | [a, b], _, [x, y], _, [z], _ => ⟨_, rfl, _, _, _, _, _, _, rfl, rfl, rfl⟩) (by simp)
theorem row_b3 (F : FunD K "__init__" "Row.__init__" (defArgs (methOf (top 25) 0)) (defBody (methOf (top 25) 0)) (defScope (methOf (top 25) 0)) [.ref T, .non] [("start", .int 0)] f fd) : ∃ ds, Vals [.non, .int 0] ds ∧ Binds K fd PSI ds :=
  F.binds (ps := PSI) 3 1 (by simp) rfl (fun T D doc pm an cdv ct us its ks h1 h2 h3 => match us, h1, its, h2, ks, h3 with
    | [a, b, c], _, [x, y], _, [z], _ => ⟨_, rfl, _, _, _, _, _, _, rfl, rfl, rfl⟩) (by simp)
theorem row_b4 (F : FunD K "__init__" "Row.__init__" (defArgs (methOf (top 25) 0)) (defBody (methOf (top 25) 0)) (defScope (methOf (top 25) 0)) [.ref T, .non] [("start", .int 0)] f fd) : ∃ ds, Vals [.int 0] ds ∧ Binds K fd PSI ds :=
  F.binds (ps := PSI) 4 2 (by simp) rfl (fun T D doc pm an cdv ct us its ks h1 h2 h3 => match us, h1, its, h2, ks, h3 with
    | [a, b, c, d], _, [x, y], _, [z], _ => ⟨_, rfl, _, _, _, _, _, _, rfl, rfl, rfl⟩) (by simp)
theorem vals_g3 {vs ds mz zs : List V} {us its mv ws : List Value} (a : Vals vs us) (_ : Vals ds its) (_ : Vals mz mv) (d : Vals zs ws) : Vals (g3 vs ds mz zs) (g3 us its mv ws) := a.append d
theorem vals_g1 {vs ds mz zs : List V} {us its mv ws : List Value} (a : Vals vs us) (b : Vals ds its) (_ : Vals mz mv) (d : Vals zs ws) : Vals (g1 vs ds mz zs) (g1 us its mv ws) := a.append (b.append d)
theorem row_k4 (F : FunD K "__init__" "Row.__init__" (defArgs (methOf (top 25) 0)) (defBody (methOf (top 25) 0)) (defScope (methOf (top 25) 0)) [.ref T, .non] [("start", .int 0)] f fd) : ∃ g, KBn K fd PSI 4 ["start"] g (fun vs zs => g3 vs [.ref T, .non] [] zs) := by
  obtain ⟨its, mv, h⟩ := F.kbinds (ps := PSI) 4 ["start"] [] g3 (by simp) (by simp) (fun q hq => by cases hq) (fun a b c d => vals_g3 a b c d) (fun T D doc pm an cdv ct us its mv ws h1 h2 h3 h4 => match us, h1, its, h2, mv, h3, ws, h4 with
    | [a, b, c, d], _, [x, y], _, [], _, [z], _ => ⟨_, rfl, rfl⟩)
  exact ⟨_, h⟩
theorem row_k2 (F : FunD K "__init__" "Row.__init__" (defArgs (methOf (top 25) 0)) (defBody (methOf (top 25) 0)) (defScope (methOf (top 25) 0)) [.ref T, .non] [("start", .int 0)] f fd) : ∃ g, KBn K fd PSI 2 ["start"] g (fun vs zs => g1 vs [.ref T, .non] [] zs) := by
  obtain ⟨its, mv, h⟩ := F.kbinds (ps := PSI) 2 ["start"] [] g1 (by simp) (by simp) (fun q hq => by cases hq) (fun a b c d => vals_g1 a b c d) (fun T D doc pm an cdv ct us its mv ws h1 h2 h3 h4 => match us, h1, its, h2, mv, h3, ws, h4 with
    | [a, b], _, [x, y], _, [], _, [z], _ => ⟨_, rfl, rfl⟩)
  exact ⟨_, h⟩
theorem vals_g0 {vs ds mz zs : List V} {us its mv ws : List Value} (a : Vals vs us) (_ : Vals ds its) (_ : Vals mz mv) (d : Vals zs ws) : Vals (g0 vs ds mz zs) (g0 us its mv ws) := by
  cases d with
  | nil => exact a
  | cons r1 d =>
    cases d with
    | nil => exact a
    | cons r2 d =>
      cases d with
      | nil => exact a
      | cons r3 d =>
        cases d with
        | nil => exact a
        | cons r4 d =>
          cases d with
          | nil => exact a.append (.cons r2 (.cons r4 (.cons r1 (.cons r3 .nil))))
          | cons r5 d => exact a
theorem row_k1 (F : FunD K "__init__" "Row.__init__" (defArgs (methOf (top 25) 0)) (defBody (methOf (top 25) 0)) (defScope (methOf (top 25) 0)) [.ref T, .non] [("start", .int 0)] f fd) : ∃ g, KBn K fd PSI 1 ["right", "left", "start", "told"] g (fun vs zs => g0 vs [.ref T, .non] [] zs) := by
  obtain ⟨its, mv, h⟩ := F.kbinds (ps := PSI) 1 ["right", "left", "start", "told"] [] g0 (by simp) (by simp) (fun q hq => by cases hq) (fun a b c d => vals_g0 a b c d) (fun T D doc pm an cdv ct us its mv ws h1 h2 h3 h4 => match us, h1, its, h2, mv, h3, ws, h4 with
    | [a], _, [x, y], _, [], _, [z1, z2, z3, z4], _ => ⟨_, rfl, rfl⟩)
  exact ⟨_, h⟩
end
end K02
set_option Elab.async false
set_option linter.all false
set_option maxRecDepth 100000
set_option maxHeartbeats 4000000
namespace K02
open PySem PySem.Spec PyProof.Rows L2 LamX
section
variable {P : Program} {w : World} {K : PySem.W.Frag} {mg : Str → Option Value} {h : Heap}
theorem fc (X : K.In h) (G : h.Ns mainGlobals mg) (c : He.SaysD fa fn K) (i : Nat) {x : Str} (e : fa[i]? = some (.free x)) : mg x = none := He.free_ok X G (c.fact i e)
theorem gc (X : K.In h) (G : h.Ns mainGlobals mg) (c : He.SaysD fa fn K) (i : Nat) {x : Str} (e : fa[i]? = some (.glo x)) : mg x = some (.ref (He.ga K x)) := He.glo_ok X G (c.fact i e)
theorem ic (X : K.In h) (G : h.Ns mainGlobals mg) (c : He.SaysD fa fn K) (i : Nat) {x : Str} {z : Int} (e : fa[i]? = some (.int x z)) : ∃ t, mg x = some (.int z t) := He.int_ok X G (c.fact i e)
theorem vals_rev : ∀ {xs : List V} {us : List Value}, Vals xs us → Vals xs.reverse us.reverse
  | [], [], _ => .nil
  | _ :: _, _ :: _, .cons r t => by
    rw [List.reverse_cons, List.reverse_cons]
    exact Vals.append (vals_rev t) (.cons r .nil)
theorem rel_pos {vs zs : List V} {us ws : List Value} (h : Vals vs us) (_ : Vals zs ws) : Vals (gPos vs zs) (gPos us ws) := h
theorem rel_turn {vs zs : List V} {us ws : List Value} (h : Vals vs us) (h2 : Vals zs ws) : Vals (gTurn vs zs) (gTurn us ws) := Vals.append h (vals_rev h2)
theorem rawN {base : Heap} {CX : CXT} {k : Nat} {f : Addr} {fd : FuncData} {ps : List Str} {sp : Sp} (F : FnOk P w K mg base CX k f fd ps sp) (b : Binds K fd ps []) : FnR P w K mg base CX k f sp := (F.raw b .nil).imp fun vs H Q E h => by
  rw [List.append_nil]
  exact h
theorem dv_ints (ns : List Int) : (ns.map He.Dv.int).map (He.Dv.v K) = ns.map V.int := by
  rw [List.map_map]
  rfl
theorem scI_InvalidNumber : FnScope ["self", "value"] ["self", "value"] (defScope (methOf (top 2) 0)) := ⟨rfl, rfl, rfl, by decide +kernel, rfl, by decide +kernel, by decide +kernel⟩
theorem ecl_InvalidNumber {base : Heap} {fd : FuncData} (G : mg "InvalidNumber" = some (.ref (He.ga K "InvalidNumber"))) (hc : clsB K "InvalidNumber" ["value"] = true) (F : FunD K "__init__" "InvalidNumber.__init__" (defArgs (methOf (top 2) 0)) (defBody (methOf (top 2) 0)) (defScope (methOf (top 2) 0)) [] [] (He.ma K (He.ga K "InvalidNumber") "__init__") fd) : Ecl P w K mg base "InvalidNumber" (He.ga K "InvalidNumber") veT "ValueError.__new__" ["value"] := by
  have h := clsB_ok hc
  exact ⟨h.1, G, h.2.1, "ValueError", "ValueError.__init__", _, fd, PySem.F.excBase_ValueError, h.2.2.1, h.2.2.2, ok_ini1 PySem.F.store_ValueError h.1 (h.2.1 "value" (by decide)) (h.2.1 "code" (by decide)) scI_InvalidNumber rfl rfl (by decide) (by decide) F, kbn_of F gPos rel_pos fun _ _ _ _ _ _ us ws l1 l2 => match us, ws, l1, l2 with | [_, _], [], _, _ => rfl, fun _ => kbn_of F gTurn rel_turn fun _ _ _ _ _ _ us ws l1 l2 => match us, ws, l1, l2 with | [_], [_], _, _ => rfl, F.bindsN fun _ _ _ _ _ _ us hl => match us, hl with | [_, _], _ => rfl⟩
theorem scI_InvalidWord : FnScope ["self", "value"] ["self", "value"] (defScope (methOf (top 3) 0)) := ⟨rfl, rfl, rfl, by decide +kernel, rfl, by decide +kernel, by decide +kernel⟩
theorem ecl_InvalidWord {base : Heap} {fd : FuncData} (G : mg "InvalidWord" = some (.ref (He.ga K "InvalidWord"))) (hc : clsB K "InvalidWord" ["value"] = true) (F : FunD K "__init__" "InvalidWord.__init__" (defArgs (methOf (top 3) 0)) (defBody (methOf (top 3) 0)) (defScope (methOf (top 3) 0)) [] [] (He.ma K (He.ga K "InvalidWord") "__init__") fd) : Ecl P w K mg base "InvalidWord" (He.ga K "InvalidWord") veT "ValueError.__new__" ["value"] := by
  have h := clsB_ok hc
  exact ⟨h.1, G, h.2.1, "ValueError", "ValueError.__init__", _, fd, PySem.F.excBase_ValueError, h.2.2.1, h.2.2.2, ok_ini1 PySem.F.store_ValueError h.1 (h.2.1 "value" (by decide)) (h.2.1 "code" (by decide)) scI_InvalidWord rfl rfl (by decide) (by decide) F, kbn_of F gPos rel_pos fun _ _ _ _ _ _ us ws l1 l2 => match us, ws, l1, l2 with | [_, _], [], _, _ => rfl, fun _ => kbn_of F gTurn rel_turn fun _ _ _ _ _ _ us ws l1 l2 => match us, ws, l1, l2 with | [_], [_], _, _ => rfl, F.bindsN fun _ _ _ _ _ _ us hl => match us, hl with | [_, _], _ => rfl⟩
def cs (K : PySem.W.Frag) : List (Addr × Addr) := tf.map (He.cT K)
def TT (K : PySem.W.Frag) : List (Addr × Str) := [((He.cT K ("nearest", none)).2, qN), ((He.cT K ("_law_refused", none)).2, qR)]
theorem facts {f : Addr} (X : K.In h) (G : h.Ns mainGlobals mg) (hfa : mg "law" = some (.ref f)) (c : He.SaysX fa fn [] tf exK w h K) :
    ∀ base : Heap, K.In base → base.Ns mainGlobals mg → (∀ p ∈ cs K, TabB base mg p.1 p.2) → FnG P w K mg base CX0 13 f (spLaw K (TT K)) := by
  have d := c.t.d
  have x := exK_ok c.more
  obtain ⟨fd_is_whole, F_is_whole⟩ : ∃ fd, FnP K "is_whole" (top 15) (He.ga K "is_whole") fd := d.def_ 0 (d := lD "is_whole" 15) rfl
  obtain ⟨fd_is_number, F_is_number⟩ : ∃ fd, FnP K "is_number" (top 18) (He.ga K "is_number") fd := d.def_ 1 (d := lD "is_number" 18) rfl
  obtain ⟨fd_is_word, F_is_word⟩ : ∃ fd, FnP K "is_word" (top 19) (He.ga K "is_word") fd := d.def_ 2 (d := lD "is_word" 19) rfl
  obtain ⟨fd_is_ring, F_is_ring⟩ : ∃ fd, FnP K "is_ring" (top 20) (He.ga K "is_ring") fd := d.def_ 3 (d := lD "is_ring" 20) rfl
  obtain ⟨fd_made_row, F_made_row⟩ : ∃ fd, FnP K "made_row" (top 27) (He.ga K "made_row") fd := d.def_ 4 (d := lD "made_row" 27) rfl
  obtain ⟨fd_sign_in, F_sign_in⟩ : ∃ fd, FnP K "sign_in" (top 28) (He.ga K "sign_in") fd := d.def_ 5 (d := lD "sign_in" 28) rfl
  obtain ⟨fd_stretch_of, F_stretch_of⟩ : ∃ fd, FnP K "stretch_of" (top 29) (He.ga K "stretch_of") fd := d.def_ 6 (d := lD "stretch_of" 29) rfl
  obtain ⟨fd_least_form, F_least_form⟩ : ∃ fd, FnP K "least_form" (top 30) (He.ga K "least_form") fd := d.def_ 7 (d := lD "least_form" 30) rfl
  obtain ⟨fd_least_period, F_least_period⟩ : ∃ fd, FnP K "least_period" (top 31) (He.ga K "least_period") fd := d.def_ 8 (d := lD "least_period" 31) rfl
  obtain ⟨fd_repeats_from, F_repeats_from⟩ : ∃ fd, FnP K "repeats_from" (top 32) (He.ga K "repeats_from") fd := d.def_ 9 (d := lD "repeats_from" 32) rfl
  obtain ⟨fd_repeats_below, F_repeats_below⟩ : ∃ fd, FnP K "repeats_below" (top 33) (He.ga K "repeats_below") fd := d.def_ 10 (d := lD "repeats_below" 33) rfl
  obtain ⟨fd_pieces_of, F_pieces_of⟩ : ∃ fd, FnP K "pieces_of" (top 34) (He.ga K "pieces_of") fd := d.def_ 11 (d := lD "pieces_of" 34) rfl
  obtain ⟨fd_telling_cells, F_telling_cells⟩ : ∃ fd, FnP K "telling_cells" (top 35) (He.ga K "telling_cells") fd := d.def_ 12 (d := lD "telling_cells" 35) rfl
  obtain ⟨fd_near_cells, F_near_cells⟩ : ∃ fd, FnP K "near_cells" (top 36) (He.ga K "near_cells") fd := d.def_ 13 (d := lD "near_cells" 36) rfl
  obtain ⟨fd_nearest, F_nearest⟩ : ∃ fd, FnP K "nearest" (top 37) (He.ga K "nearest") fd := d.def_ 14 (d := lD "nearest" 37) rfl
  obtain ⟨fd__law_bag, F__law_bag⟩ : ∃ fd, FnP K "_law_bag" (top 39) (He.ga K "_law_bag") fd := d.def_ 15 (d := lD "_law_bag" 39) rfl
  obtain ⟨fd__law_draw, F__law_draw⟩ : ∃ fd, FnP K "_law_draw" (top 40) (He.ga K "_law_draw") fd := d.def_ 16 (d := lD "_law_draw" 40) rfl
  obtain ⟨fd__law_of, F__law_of⟩ : ∃ fd, FnP K "_law_of" (top 41) (He.ga K "_law_of") fd := d.def_ 17 (d := lD "_law_of" 41) rfl
  obtain ⟨fd__law_like, F__law_like⟩ : ∃ fd, FnP K "_law_like" (top 42) (He.ga K "_law_like") fd := d.def_ 18 (d := lD "_law_like" 42) rfl
  obtain ⟨fd__law_fault, F__law_fault⟩ : ∃ fd, FnP K "_law_fault" (top 43) (He.ga K "_law_fault") fd := d.def_ 19 (d := lD "_law_fault" 43) rfl
  obtain ⟨fd__law_ask, F__law_ask⟩ : ∃ fd, FnP K "_law_ask" (top 44) (He.ga K "_law_ask") fd := d.def_ 20 (d := lD "_law_ask" 44) rfl
  obtain ⟨fd__law_sign, F__law_sign⟩ : ∃ fd, FnP K "_law_sign" (top 45) (He.ga K "_law_sign") fd := d.def_ 21 (d := lD "_law_sign" 45) rfl
  obtain ⟨fd__law_cells, F__law_cells⟩ : ∃ fd, FnP K "_law_cells" (top 46) (He.ga K "_law_cells") fd := d.def_ 22 (d := lD "_law_cells" 46) rfl
  obtain ⟨fd__law_period, F__law_period⟩ : ∃ fd, FnP K "_law_period" (top 47) (He.ga K "_law_period") fd := d.def_ 23 (d := lD "_law_period" 47) rfl
  obtain ⟨fd__law_least, F__law_least⟩ : ∃ fd, FnP K "_law_least" (top 48) (He.ga K "_law_least") fd := d.def_ 24 (d := lD "_law_least" 48) rfl
  obtain ⟨fd__law_row_so, F__law_row_so⟩ : ∃ fd, FnP K "_law_row_so" (top 49) (He.ga K "_law_row_so") fd := d.def_ 25 (d := lD "_law_row_so" 49) rfl
  obtain ⟨fd__law_strange, F__law_strange⟩ : ∃ fd, FnP K "_law_strange" (top 50) (He.ga K "_law_strange") fd := d.def_ 26 (d := lD "_law_strange" 50) rfl
  obtain ⟨fd__law_word, F__law_word⟩ : ∃ fd, FnP K "_law_word" (top 51) (He.ga K "_law_word") fd := d.def_ 27 (d := lD "_law_word" 51) rfl
  obtain ⟨fd__law_model, F__law_model⟩ : ∃ fd, FnP K "_law_model" (top 52) (He.ga K "_law_model") fd := d.def_ 28 (d := lD "_law_model" 52) rfl
  obtain ⟨fd__law_other, F__law_other⟩ : ∃ fd, FnP K "_law_other" (top 53) (He.ga K "_law_other") fd := d.def_ 29 (d := lD "_law_other" 53) rfl
  obtain ⟨fd__law_made, F__law_made⟩ : ∃ fd, FnP K "_law_made" (top 54) (He.ga K "_law_made") fd := d.def_ 30 (d := lD "_law_made" 54) rfl
  obtain ⟨fd__law_put, F__law_put⟩ : ∃ fd, FnP K "_law_put" (top 55) (He.ga K "_law_put") fd := d.def_ 31 (d := lD "_law_put" 55) rfl
  obtain ⟨fd__law_apart, F__law_apart⟩ : ∃ fd, FnP K "_law_apart" (top 56) (He.ga K "_law_apart") fd := d.def_ 32 (d := lD "_law_apart" 56) rfl
  obtain ⟨fd__law_same, F__law_same⟩ : ∃ fd, FnP K "_law_same" (top 57) (He.ga K "_law_same") fd := d.def_ 33 (d := lD "_law_same" 57) rfl
  obtain ⟨fd__law_asked, F__law_asked⟩ : ∃ fd, FnP K "_law_asked" (top 58) (He.ga K "_law_asked") fd := d.def_ 34 (d := lD "_law_asked" 58) rfl
  obtain ⟨fd__law_repr, F__law_repr⟩ : ∃ fd, FnP K "_law_repr" (top 59) (He.ga K "_law_repr") fd := d.def_ 35 (d := lD "_law_repr" 59) rfl
  obtain ⟨fd__law_refused, F__law_refused⟩ : ∃ fd, FnP K "_law_refused" (top 60) (He.ga K "_law_refused") fd := d.def_ 36 (d := lD "_law_refused" 60) rfl
  obtain ⟨fd_law, F_law⟩ : ∃ fd, FnP K "law" (top 61) (He.ga K "law") fd := d.def_ 37 (d := lD "law" 61) rfl
  obtain ⟨fd_InvalidNumber, F_InvalidNumber⟩ := d.def_ 38 (d := iD "InvalidNumber" "InvalidNumber.__init__" 2) rfl
  obtain ⟨fd_InvalidWord, F_InvalidWord⟩ := d.def_ 39 (d := iD "InvalidWord" "InvalidWord.__init__" 3) rfl
  obtain ⟨fd_Rinit, F_Rinit⟩ : ∃ fd, FunD K "__init__" "Row.__init__" (defArgs (methOf (top 25) 0)) (defBody (methOf (top 25) 0)) (defScope (methOf (top 25) 0)) [.ref (tD K), .non] [("start", .int 0)] (He.ma K (He.ga K "Row") "__init__") fd := d.def_ 40 (d := mD "Row" "__init__" "Row.__init__" (methOf (top 25) 0) [.adr tD, .non] [("start", .int 0)]) rfl
  obtain ⟨fd_Rgetitem, F_Rgetitem⟩ : ∃ fd, FunD K "__getitem__" "Row.__getitem__" (defArgs (methOf (top 25) 1)) (defBody (methOf (top 25) 1)) (defScope (methOf (top 25) 1)) [] [] (He.ma K (He.ga K "Row") "__getitem__") fd := d.def_ 41 (d := mD "Row" "__getitem__" "Row.__getitem__" (methOf (top 25) 1) [] []) rfl
  obtain ⟨fd_Rword, F_Rword⟩ : ∃ fd, FunD K "word" "Row.word" (defArgs (methOf (top 25) 3)) (defBody (methOf (top 25) 3)) (defScope (methOf (top 25) 3)) [] [] (He.ma K (He.ga K "Row") "word") fd := d.def_ 42 (d := mD "Row" "word" "Row.word" (methOf (top 25) 3) [] []) rfl
  obtain ⟨fd_Rrshift, F_Rrshift⟩ : ∃ fd, FunD K "__rshift__" "Row.__rshift__" (defArgs (methOf (top 25) 4)) (defBody (methOf (top 25) 4)) (defScope (methOf (top 25) 4)) [] [] (He.ma K (He.ga K "Row") "__rshift__") fd := d.def_ 43 (d := mD "Row" "__rshift__" "Row.__rshift__" (methOf (top 25) 4) [] []) rfl
  obtain ⟨fd_Rlshift, F_Rlshift⟩ : ∃ fd, FunD K "__lshift__" "Row.__lshift__" (defArgs (methOf (top 25) 5)) (defBody (methOf (top 25) 5)) (defScope (methOf (top 25) 5)) [] [] (He.ma K (He.ga K "Row") "__lshift__") fd := d.def_ 44 (d := mD "Row" "__lshift__" "Row.__lshift__" (methOf (top 25) 5) [] []) rfl
  obtain ⟨fd_Rchanged, F_Rchanged⟩ : ∃ fd, FunD K "changed" "Row.changed" (defArgs (methOf (top 25) 6)) (defBody (methOf (top 25) 6)) (defScope (methOf (top 25) 6)) [] [] (He.ma K (He.ga K "Row") "changed") fd := d.def_ 45 (d := mD "Row" "changed" "Row.changed" (methOf (top 25) 6) [] []) rfl
  obtain ⟨fd_Rstrange, F_Rstrange⟩ : ∃ fd, FunD K "strange" "Row.strange" (defArgs (methOf (top 25) 7)) (defBody (methOf (top 25) 7)) (defScope (methOf (top 25) 7)) [] [] (He.ma K (He.ga K "Row") "strange") fd := d.def_ 46 (d := mD "Row" "strange" "Row.strange" (methOf (top 25) 7) [] []) rfl
  obtain ⟨fd_Rapart, F_Rapart⟩ : ∃ fd, FunD K "apart" "Row.apart" (defArgs (methOf (top 25) 8)) (defBody (methOf (top 25) 8)) (defScope (methOf (top 25) 8)) [] [] (He.ma K (He.ga K "Row") "apart") fd := d.def_ 47 (d := mD "Row" "apart" "Row.apart" (methOf (top 25) 8) [] []) rfl
  obtain ⟨fd_Req, F_Req⟩ : ∃ fd, FunD K "__eq__" "Row.__eq__" (defArgs (methOf (top 25) 9)) (defBody (methOf (top 25) 9)) (defScope (methOf (top 25) 9)) [] [] (He.ma K (He.ga K "Row") "__eq__") fd := d.def_ 48 (d := mD "Row" "__eq__" "Row.__eq__" (methOf (top 25) 9) [] []) rfl
  obtain ⟨fd_Rrepr, F_Rrepr⟩ : ∃ fd, FunD K "__repr__" "Row.__repr__" (defArgs (methOf (top 25) 12)) (defBody (methOf (top 25) 12)) (defScope (methOf (top 25) 12)) [] [] (He.ma K (He.ga K "Row") "__repr__") fd := d.def_ 49 (d := mD "Row" "__repr__" "Row.__repr__" (methOf (top 25) 12) [] []) rfl
  have e := hfa.symm.trans (gc X G d 41 rfl)
  cases e
  refine fun base hKb _ hTB => ?_
  have m_NotImplemented : mg "NotImplemented" = none := fc X G d 44 rfl
  have m_abs : mg "abs" = none := fc X G d 45 rfl
  have m_all : mg "all" = none := fc X G d 46 rfl
  have m_bool : mg "bool" = none := fc X G d 47 rfl
  have m_int : mg "int" = none := fc X G d 48 rfl
  have m_isinstance : mg "isinstance" = none := fc X G d 49 rfl
  have m_len : mg "len" = none := fc X G d 50 rfl
  have m_list : mg "list" = none := fc X G d 51 rfl
  have m_max : mg "max" = none := fc X G d 52 rfl
  have m_min : mg "min" = none := fc X G d 53 rfl
  have m_range : mg "range" = none := fc X G d 54 rfl
  have m_repr : mg "repr" = none := fc X G d 55 rfl
  have m_str : mg "str" = none := fc X G d 56 rfl
  have m_tuple : mg "tuple" = none := fc X G d 57 rfl
  have m_zip : mg "zip" = none := fc X G d 58 rfl
  obtain ⟨t_ALL_SIGNS, m_ALL_SIGNS⟩ : ∃ t, mg "ALL_SIGNS" = some (.int 64 t) := ic X G d 42 rfl
  obtain ⟨t_FARTHEST, m_FARTHEST⟩ : ∃ t, mg "FARTHEST" = some (.int 9999 t) := ic X G d 43 rfl
  have m_NI := m_NotImplemented
  have c_InvalidNumber : Ecl P w K mg base "InvalidNumber" (He.ga K "InvalidNumber") veT "ValueError.__new__" ["value"] := ecl_InvalidNumber (gc X G d 2 rfl) x.cInvalidNumber F_InvalidNumber
  have c_InvalidWord : Ecl P w K mg base "InvalidWord" (He.ga K "InvalidWord") veT "ValueError.__new__" ["value"] := ecl_InvalidWord (gc X G d 3 rfl) x.cInvalidWord F_InvalidWord
  have t_u_nearest : ∀ p ∈ TT K, p.1 = (He.cT K ("nearest", none)).2 → p.2 = qN := fun p hp e => by
    simp only [TT, List.mem_cons, List.not_mem_nil, or_false] at hp
    rcases hp with rfl | rfl
    · rfl
    · exact absurd e.symm x.tabs
  have t_u__law_refused : ∀ p ∈ TT K, p.1 = (He.cT K ("_law_refused", none)).2 → p.2 = qR := fun p hp e => by
    simp only [TT, List.mem_cons, List.not_mem_nil, or_false] at hp
    rcases hp with rfl | rfl
    · exact absurd e x.tabs
    · rfl
  have c__law_like : Cal P w K mg base CX0 "_law_like" 6 ["_law_found", "_law_due"] (spLike K NoA 5) := cal_like F__law_like ⟨m_isinstance, m_list, m_tuple, m_len, m_all, m_zip, m_bool, m_str, m_int⟩ (gc X G d 22 rfl) (F__law_like.bindsN fun _ _ _ _ _ _ us hl => match us, hl with | [_, _], _ => rfl) 5
  have cls := He.cls_ok (d.fact 59 (f := .cls "Row") rfl)
  have g_Row : mg "Row" = some (.ref (He.ga K "Row")) := gc X G d 0 rfl
  have n_left := He.noat_ok (d.fact 61 (f := .noat "Row" "left") rfl)
  have n_told := He.noat_ok (d.fact 62 (f := .noat "Row" "told") rfl)
  have n_right := He.noat_ok (d.fact 63 (f := .noat "Row" "right") rfl)
  have n_start := He.noat_ok (d.fact 64 (f := .noat "Row" "start") rfl)
  have mk := He.mkr_ok (d.fact 60 (f := .mkr "Row") rfl)
  have M_getitem := He.meth_ok (d.fact 65 (f := .meth "Row" "__getitem__") rfl)
  have M_word := He.meth_ok (d.fact 66 (f := .meth "Row" "word") rfl)
  have M_rshift := He.meth_ok (d.fact 67 (f := .meth "Row" "__rshift__") rfl)
  have M_lshift := He.meth_ok (d.fact 68 (f := .meth "Row" "__lshift__") rfl)
  have M_changed := He.meth_ok (d.fact 69 (f := .meth "Row" "changed") rfl)
  have M_strange := He.meth_ok (d.fact 70 (f := .meth "Row" "strange") rfl)
  have M_apart := He.meth_ok (d.fact 71 (f := .meth "Row" "apart") rfl)
  have M_eq := He.meth_ok (d.fact 72 (f := .meth "Row" "__eq__") rfl)
  have M_repr := He.meth_ok (d.fact 73 (f := .meth "Row" "__repr__") rfl)
  have r_A : RowA K (He.ga K "Row") := ⟨cls, n_left, n_told, n_right, n_start⟩
  have c_is_whole : Cal P w K mg base CX0 "is_whole" 1 ["value"] (spWhole K) := cal_of (st := top 15) F_is_whole (gc X G d 4 rfl) (F_is_whole.bindsN fun _ _ _ _ _ _ us hl => match us, hl with | [_], _ => rfl) (ok_whole F_is_whole m_isinstance m_int m_bool)
  have c_is_number : Cal P w K mg base CX0 "is_number" 2 ["value", "least", "most"] (spNumber K) := cal_of (st := top 18) F_is_number (gc X G d 5 rfl) (F_is_number.bindsN fun _ _ _ _ _ _ us hl => match us, hl with | [_, _, _], _ => rfl) (ok_number F_is_number c_is_whole)
  have c_is_word : Cal P w K mg base CX0 "is_word" 3 ["value", "signs"] (spWord K) := cal_of (st := top 19) F_is_word (gc X G d 6 rfl) (F_is_word.bindsN fun _ _ _ _ _ _ us hl => match us, hl with | [_, _], _ => rfl) (ok_word F_is_word m_isinstance m_tuple m_min m_all m_ALL_SIGNS c_is_number)
  have c_is_ring : Cal P w K mg base CX0 "is_ring" 4 ["value", "signs"] (spRing K) := cal_of (st := top 20) F_is_ring (gc X G d 7 rfl) (F_is_ring.bindsN fun _ _ _ _ _ _ us hl => match us, hl with | [_, _], _ => rfl) (ok_ring F_is_ring m_len c_is_word)
  have c_least_period : Cal P w K mg base CX0 "least_period" 1 ["word"] (spPer K) := cal_of (st := top 31) F_least_period (gc X G d 12 rfl) (F_least_period.bindsN fun _ _ _ _ _ _ us hl => match us, hl with | [_], _ => rfl) (ok_per F_least_period m_len m_range)
  have c_sign_in : Cal P w K mg base CX0 "sign_in" 1 ["form", "cell"] (spSign K) := cal_of (st := top 28) F_sign_in (gc X G d 9 rfl) (F_sign_in.bindsN fun _ _ _ _ _ _ us hl => match us, hl with | [_, _], _ => rfl) (ok_sign F_sign_in m_len)
  have c_repeats_from : Cal P w K mg base CX0 "repeats_from" 2 ["form"] (spFrom K) := cal_of (st := top 32) F_repeats_from (gc X G d 13 rfl) (F_repeats_from.bindsN fun _ _ _ _ _ _ us hl => match us, hl with | [_], _ => rfl) (ok_from F_repeats_from m_len c_sign_in)
  have c_repeats_below : Cal P w K mg base CX0 "repeats_below" 2 ["form"] (spBel K) := cal_of (st := top 33) F_repeats_below (gc X G d 14 rfl) (F_repeats_below.bindsN fun _ _ _ _ _ _ us hl => match us, hl with | [_], _ => rfl) (ok_bel F_repeats_below m_len c_sign_in)
  have c_stretch_of : Cal P w K mg base CX0 "stretch_of" 2 ["form", "first", "end"] (spStr K) := cal_of (st := top 29) F_stretch_of (gc X G d 10 rfl) (F_stretch_of.bindsN fun _ _ _ _ _ _ us hl => match us, hl with | [_, _, _], _ => rfl) (ok_str F_stretch_of m_range m_tuple c_sign_in)
  have c_least_form : Cal P w K mg base CX0 "least_form" 3 ["left", "told", "right", "start"] (spLf K) := cal_of (st := top 30) F_least_form (gc X G d 11 rfl) (F_least_form.bindsN fun _ _ _ _ _ _ us hl => match us, hl with | [_, _, _, _], _ => rfl) (ok_lf F_least_form m_len m_min c_least_period c_repeats_from c_repeats_below c_stretch_of)
  have okI := ok_init (base := base) F_Rinit cls n_left n_told n_right n_start c_InvalidWord c_InvalidNumber m_ALL_SIGNS m_FARTHEST c_is_ring c_is_word c_is_number c_least_form
  have r_C : RowC P w K mg base (He.ga K "Row") (He.ga K "InvalidWord") (He.ga K "InvalidNumber") (tD K) := ⟨cls, g_Row, n_left, n_told, n_right, n_start, x.nil, ⟨_, _, mk, okI, row_b2 F_Rinit, row_b3 F_Rinit, row_b4 F_Rinit, row_k4 F_Rinit, row_k2 F_Rinit, row_k1 F_Rinit⟩⟩
  have b_getitem : Binds K fd_Rgetitem ["self", "at"] [] := F_Rgetitem.bindsN fun _ _ _ _ _ _ us hl => match us, hl with | [_, _], _ => rfl
  have b_word : Binds K fd_Rword ["self", "first", "end"] [] := F_Rword.bindsN fun _ _ _ _ _ _ us hl => match us, hl with | [_, _, _], _ => rfl
  have b_rshift : Binds K fd_Rrshift ["self", "other"] [] := F_Rrshift.bindsN fun _ _ _ _ _ _ us hl => match us, hl with | [_, _], _ => rfl
  have b_lshift : Binds K fd_Rlshift ["self", "other"] [] := F_Rlshift.bindsN fun _ _ _ _ _ _ us hl => match us, hl with | [_, _], _ => rfl
  have b_changed : Binds K fd_Rchanged ["self", "cell", "word"] [] := F_Rchanged.bindsN fun _ _ _ _ _ _ us hl => match us, hl with | [_, _, _], _ => rfl
  have b_strange : Binds K fd_Rstrange ["self", "signs"] [] := F_Rstrange.bindsN fun _ _ _ _ _ _ us hl => match us, hl with | [_, _], _ => rfl
  have b_apart : Binds K fd_Rapart ["self", "other"] [] := F_Rapart.bindsN fun _ _ _ _ _ _ us hl => match us, hl with | [_, _], _ => rfl
  have b_eq : Binds K fd_Req ["self", "other"] [] := F_Req.bindsN fun _ _ _ _ _ _ us hl => match us, hl with | [_, _], _ => rfl
  have r_X : RowIx P w K mg base (He.ga K "Row") (spIx K (He.ga K "Row")) := ⟨_, M_getitem.at_, x.row.2, M_getitem.fn, rawN (ok_ix F_Rgetitem r_A c_sign_in) b_getitem⟩
  have r_I : RowI P w K mg base (He.ga K "Row") := ⟨r_A, r_X⟩
  have mW : MethO P w K mg base (He.ga K "Row") "word" CX0 3 _ (spWrd K (He.ga K "Row")) := ⟨_, _, M_word, ok_wrd F_Rword r_A c_stretch_of, b_word⟩
  have c_made_row : Cal P w K mg base CX0 "made_row" 7 ["left", "told", "right", "start"] (spMade K (He.ga K "Row")) := cal_of (st := top 27) F_made_row (gc X G d 8 rfl) (F_made_row.bindsN fun _ _ _ _ _ _ us hl => match us, hl with | [_, _, _, _], _ => rfl) (ok_made F_made_row r_C c_least_form)
  have c_nearest : Cal P w K mg base CX0 "nearest" 4 ["cells"] (spNear K (TT K)) := cal_of (st := top 37) F_nearest (gc X G d 18 rfl) (F_nearest.bindsN fun _ _ _ _ _ _ us hl => match us, hl with | [_], _ => rfl) (ok_near F_nearest (hTB (He.cT K ("nearest", none)) (List.mem_map.mpr ⟨("nearest", none), by unfold tf; simp, rfl⟩)) (by simp [TT]) t_u_nearest m_min m_abs)
  have c_near_cells : Cal P w K mg base CX0 "near_cells" 1 ["first", "end", "period"] (spNc) := cal_of (st := top 36) F_near_cells (gc X G d 17 rfl) (F_near_cells.bindsN fun _ _ _ _ _ _ us hl => match us, hl with | [_, _, _], _ => rfl) (ok_nc F_near_cells m_min m_max m_list m_range)
  have c_telling_cells : Cal P w K mg base CX0 "telling_cells" 2 ["pieces"] (spTel K) := cal_of (st := top 35) F_telling_cells (gc X G d 16 rfl) (F_telling_cells.bindsN fun _ _ _ _ _ _ us hl => match us, hl with | [_], _ => rfl) (ok_tel F_telling_cells c_near_cells)
  have c_pieces_of : Cal P w K mg base CX0 "pieces_of" 1 ["row"] (spPcs K (He.ga K "Row")) := cal_of (st := top 34) F_pieces_of (gc X G d 15 rfl) (F_pieces_of.bindsN fun _ _ _ _ _ _ us hl => match us, hl with | [_], _ => rfl) (ok_pcs F_pieces_of r_A m_len)
  have r_O : RowO P w K mg base (He.ga K "Row") (He.ga K "InvalidWord") (He.ga K "InvalidNumber") (tD K) (TT K) := ⟨r_C, x.row.1, r_X,
    ⟨_, M_rshift.at_, M_rshift.fn, rawN (ok_shr F_Rrshift r_A c_made_row) b_rshift⟩, ⟨_, M_lshift.at_, M_lshift.fn, rawN (ok_shl F_Rlshift r_A c_made_row) b_lshift⟩,
    ⟨_, M_eq.at_, M_eq.fn, rawN (ok_eq F_Req r_A x.row.1.t g_Row m_isinstance) b_eq, ok_eqN F_Req g_Row m_isinstance m_NI⟩,
    mW, ⟨_, _, M_changed, ok_chg F_Rchanged r_A c_InvalidWord m_ALL_SIGNS m_min m_max m_len c_is_word c_made_row mW, b_changed⟩, ⟨_, _, M_strange, ok_stg F_Rstrange r_I c_nearest c_telling_cells c_pieces_of, b_strange⟩, ⟨_, _, M_apart, ok_apa F_Rapart r_I m_len m_min m_max c_nearest c_telling_cells, b_apart⟩,
    ⟨_, M_repr.at_, M_repr.fn, ok_rep F_Rrepr r_A⟩⟩
  have x_F : ExF P w K mg base (He.ga K "BorderError") (He.ga K "InvalidNumber") (He.ga K "InvalidWord") := ⟨⟨_, _, c_InvalidNumber⟩, ⟨_, _, c_InvalidWord⟩, gc X G d 1 rfl, He.exm_ok (d.fact 74 (f := .exm "InvalidNumber" "BorderError" true) rfl), He.exm_ok (d.fact 75 (f := .exm "InvalidWord" "BorderError" true) rfl), by unfold PySem.W.kitOne; exact if_pos (beq_self_eq_true _), x.k0, by unfold PySem.W.kitOne; exact if_pos (beq_self_eq_true _)⟩
  have t_A : AskF P w K mg base (He.ga K "BorderError") (He.ga K "InvalidNumber") (He.ga K "InvalidWord") := ⟨⟨_, F__law_ask⟩, gc X G d 24 rfl, x_F, ⟨_, _, ok_fau F__law_fault x_F m_isinstance, gc X G d 23 rfl, F__law_fault.kp, F__law_fault.bindsN fun _ _ _ _ _ _ us hl => match us, hl with | [_], _ => rfl⟩⟩
  have c__law_sign : Cal P w K mg base CX0 "_law_sign" 1 ["_law_model_here", "_law_at"] (spSign K) := cal_of (st := top 45) F__law_sign (gc X G d 25 rfl) (F__law_sign.bindsN fun _ _ _ _ _ _ us hl => match us, hl with | [_, _], _ => rfl) (ok_lsign F__law_sign m_len m_int)
  have c__law_cells : Cal P w K mg base CX0 "_law_cells" 2 ["_law_model_here", "_law_first", "_law_end"] (spStr K) := cal_of (st := top 46) F__law_cells (gc X G d 26 rfl) (F__law_cells.bindsN fun _ _ _ _ _ _ us hl => match us, hl with | [_, _, _], _ => rfl) (ok_lcells F__law_cells m_range m_tuple c__law_sign)
  have c__law_period : Cal P w K mg base CX0 "_law_period" 3 ["_law_model_here", "_law_first", "_law_size", "_law_way"] (spLPer K) := cal_of (st := top 47) F__law_period (gc X G d 27 rfl) (F__law_period.bindsN fun _ _ _ _ _ _ us hl => match us, hl with | [_, _, _, _], _ => rfl) (ok_lper F__law_period m_range c__law_cells)
  have c__law_least : Cal P w K mg base CX0 "_law_least" 4 ["_law_model_here"] (spLLeast K) := cal_of (st := top 48) F__law_least (gc X G d 28 rfl) (F__law_least.bindsN fun _ _ _ _ _ _ us hl => match us, hl with | [_], _ => rfl) (ok_lleast F__law_least m_len m_min m_range c__law_sign c__law_cells c__law_period)
  have c__law_repr : CalG P w K mg base CX0 "_law_repr" 5 ["_law_model_here"] (spLRep K) := ⟨_, ok_lrep F__law_repr m_repr m_str c__law_least, gc X G d 39 rfl, F__law_repr.kp⟩
  have c__law_bag : Cal P w K mg base CX0 "_law_bag" 1 ["_law_script"] (spBag K) := cal_of (st := top 39) F__law_bag (gc X G d 19 rfl) (F__law_bag.bindsN fun _ _ _ _ _ _ us hl => match us, hl with | [_], _ => rfl) (ok_bag F__law_bag m_int m_list)
  have c__law_draw : Cal P w K mg base CX0 "_law_draw" 1 ["_law_bag_here", "_law_many"] (spDraw) := cal_of (st := top 40) F__law_draw (gc X G d 20 rfl) (F__law_draw.bindsN fun _ _ _ _ _ _ us hl => match us, hl with | [_, _], _ => rfl) (ok_draw F__law_draw m_int m_len)
  have c__law_of : Cal P w K mg base CX0 "_law_of" 2 ["_law_bag_here", "_law_things"] (spOf) := cal_of (st := top 41) F__law_of (gc X G d 21 rfl) (F__law_of.bindsN fun _ _ _ _ _ _ us hl => match us, hl with | [_, _], _ => rfl) (ok_of F__law_of m_len c__law_draw)
  have c__law_word : Cal P w K mg base CX0 "_law_word" 2 ["_law_bag_here", "_law_size", "_law_n"] (spLWord K) := cal_of (st := top 51) F__law_word (gc X G d 31 rfl) (F__law_word.bindsN fun _ _ _ _ _ _ us hl => match us, hl with | [_, _, _], _ => rfl) (ok_lword F__law_word m_range m_tuple c__law_draw)
  have c__law_model : Cal P w K mg base CX0 "_law_model" 3 ["_law_bag_here"] (spModel K) := cal_of (st := top 52) F__law_model (gc X G d 32 rfl) (F__law_model.bindsN fun _ _ _ _ _ _ us hl => match us, hl with | [_], _ => rfl) (ok_model F__law_model m_len c__law_draw c__law_of c__law_word)
  have c__law_made : Cal P w K mg base CX0 "_law_made" 7 ["_law_bag_here", "_law_model_here"] (spLMade K (He.ga K "Row")) := cal_of (st := top 54) F__law_made (gc X G d 34 rfl) (F__law_made.bindsN fun _ _ _ _ _ _ us hl => match us, hl with | [_, _], _ => rfl) (ok_lmade F__law_made r_C c__law_draw)
  have c__law_other : Cal P w K mg base CX0 "_law_other" 3 ["_law_bag_here", "_law_model_here"] (spOther K) := cal_of (st := top 53) F__law_other (gc X G d 33 rfl) (F__law_other.bindsN fun _ _ _ _ _ _ us hl => match us, hl with | [_, _], _ => rfl) (ok_other F__law_other m_len m_max c__law_draw c__law_cells)
  have c__law_row_so : Cal P w K mg base CX0 "_law_row_so" 7 ["_law_row", "_law_model_here"] (spSo K (He.ga K "Row")) := cal_of (st := top 49) F__law_row_so (gc X G d 29 rfl) (F__law_row_so.bindsN fun _ _ _ _ _ _ us hl => match us, hl with | [_, _], _ => rfl) (ok_so F__law_row_so r_A m_list c__law_least c__law_like)
  have c__law_put : Cal P w K mg base CX0 "_law_put" 3 ["_law_model_here", "_law_at", "_law_word_here"] (spPut K) := cal_of (st := top 55) F__law_put (gc X G d 35 rfl) (F__law_put.bindsN fun _ _ _ _ _ _ us hl => match us, hl with | [_, _, _], _ => rfl) (ok_put F__law_put m_len m_min m_max c__law_cells)
  have c__law_same : Cal P w K mg base CX0 "_law_same" 5 ["_law_one", "_law_two"] (spLSame K) := cal_of (st := top 57) F__law_same (gc X G d 37 rfl) (F__law_same.bindsN fun _ _ _ _ _ _ us hl => match us, hl with | [_, _], _ => rfl) (ok_lsame F__law_same c__law_least)
  have c__law_strange : Cal P w K mg base CX0 "_law_strange" 2 ["_law_model_here", "_law_n"] (spLStg K) := cal_of (st := top 50) F__law_strange (gc X G d 30 rfl) (F__law_strange.bindsN fun _ _ _ _ _ _ us hl => match us, hl with | [_, _], _ => rfl) (ok_lstg F__law_strange m_len m_min m_abs m_list m_range c__law_sign)
  have c__law_apart : Cal P w K mg base CX0 "_law_apart" 2 ["_law_one", "_law_two"] (spLApa K) := cal_of (st := top 56) F__law_apart (gc X G d 36 rfl) (F__law_apart.bindsN fun _ _ _ _ _ _ us hl => match us, hl with | [_, _], _ => rfl) (ok_lapa F__law_apart m_len m_min m_abs m_list m_range c__law_sign)
  have c__law_asked : Cal P w K mg base CX0 "_law_asked" 9 ["_law_bag_here", "_law_row", "_law_model_here"] (spAsked K (He.ga K "Row") (TT K)) := cal_of (st := top 58) F__law_asked (gc X G d 38 rfl) (F__law_asked.bindsN fun _ _ _ _ _ _ us hl => match us, hl with | [_, _, _], _ => rfl) (ok_asked F__law_asked r_O m_len m_min m_max c__law_draw c__law_of c__law_word c__law_like c__law_sign c__law_cells c__law_row_so c__law_put c__law_same c__law_strange c__law_apart)
  have c__law_refused : Cal P w K mg base CX0 "_law_refused" 12 ["_law_bag_here"] (spRefused (TT K)) := cal_of (st := top 60) F__law_refused (gc X G d 40 rfl) (F__law_refused.bindsN fun _ _ _ _ _ _ us hl => match us, hl with | [_], _ => rfl) (ok_refused F__law_refused t_A (hTB (He.cT K ("_law_refused", none)) (List.mem_map.mpr ⟨("_law_refused", none), by unfold tf; simp, rfl⟩)) (by simp [TT]) t_u__law_refused r_O c__law_draw c__law_of c__law_word c__law_like)
  exact ok_law F_law r_O m_range m_abs m_repr c__law_bag c__law_model c__law_least c__law_made c__law_other c__law_row_so c__law_like c__law_repr c__law_of c__law_asked c__law_same c__law_apart c__law_refused
end
end K02
open PySem PySem.W PySem.Calls PyProof.Rows
theorem PySem.Challenge.cw_borderflow_k02_whole_rows_in_least_form_holds : PySem.Challenge.rw_borderflow_k02_whole_rows_in_least_form.Holds := by
  w_on; o_law
  refine HandSHeadRun.head_imp (r := K02.R) (q := K02.qv) (H := K02.hk) (ob := K02.ob) (M := 12000) (loose := K02.names) (d := HandSHeadRun.topDef K02.R.prog 61) (kwd := []) K02.ob_eq K02.run
    (by kernel_rfl) (by kernel_rfl) (by kernel_rfl) (by rfl) (by first | assumption | decide +kernel) (by decide +kernel) ⟨rfl, rfl, rfl, rfl, rfl, by decide +kernel⟩ ?hw ?hc
  case hw => w_witness2
  case hc =>
    refine LamX.walkG (l := PySem.Challenge.rw_borderflow_k02_whole_rows_in_least_form) (n := 63) (k := 13) (CX := fun _ => L2.CX0) rfl (by decide) (by kernel_rfl) ⟨rfl, by decide, by decide⟩ ?F (fun _ _ _ _ _ z => z)
    intro w mg fa h Y G hmg0
    obtain ⟨K, KX, c⟩ := Y
    have hmg : mg ("law" : PySem.Str) = some (.ref fa) := by
      have e : (HandSHeadRun.topDef K02.R.prog 61).name = ("law" : PySem.Str) := by kernel_rfl
      rw [← e]
      exact hmg0
    refine ⟨K, KX, K02.cs K, K02.spLaw K (K02.TT K), fun p hp => ?_, fun p hp => ?_, fun p hp => ?_, fun H a ns hl _ hT hS => ⟨a, ns, rfl, hS, hl, fun p hp => ?_, fun _ => rfl⟩, K02.facts (P := (PySem.Challenge.rw_borderflow_k02_whole_rows_in_least_form).prog) (w := w) KX G hmg c⟩
    · obtain ⟨q, hq, rfl⟩ := List.mem_map.mp hp
      exact c.empty q hq
    · obtain ⟨q, hq, rfl⟩ := List.mem_map.mp hp
      exact c.out q hq
    · obtain ⟨q, hq, rfl⟩ := List.mem_map.mp hp
      exact PySem.W.codeHd_of_K KX (c.hd q hq)
    · simp only [K02.TT, List.mem_cons, List.not_mem_nil, or_false] at hp
      rcases hp with rfl | rfl
      · exact LamX.TabS.nil (hT _ (List.mem_map.mpr ⟨("nearest", none), by unfold K02.tf; simp, rfl⟩))
      · exact LamX.TabS.nil (hT _ (List.mem_map.mpr ⟨("_law_refused", none), by unfold K02.tf; simp, rfl⟩))
