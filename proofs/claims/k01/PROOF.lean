import PyProof.Rows.All
import Wide.All
import OpenK.AllK
import Wide.FinOn
import PySem.Challenge.RW_borderflow_k01_ratios_and_words
import PyProof.EqAt
import PyProof.EqKinds
import PyProof.TupleCall
import KE.KFromBytes
import KE.KExcInit
import KE.KExcIs
import HandS.Base
import HandS.Call
import HandS.List
import HandS.Ends
import HandS.Exc
import HandS.ExcInit
import HandS.Defaults
import HandS.MakeKw
import HandS.IsInst
import HandS.ExcField
import HandS.ForMost
import HandS.ForExc
import HandS.Zip
import HandS.Evl
import HandS.Walk
import HandS.Style
import HandS.CallSlots
import HandS.HeadHook1
import HandS.HeadHook2
import HandS.HeadHook3
import HandS.HeadHook4
import HandS.More
import KE.KStateDown
import HandS.Head0
import HandS.Head1
import HandS.Head2
import HandS.Head3
import HandS.HeadEnd
import HandS.Wide
import HandS.Small
import HandS.SlotsOwn
import HandS.OwnEq
import KE.KOpsOwn
import HandS.Gcd
import HandS.TupAny
import HandS.ListItems
import HandS.Iter
import KE.GoesEnum
import KE.GoesMore
import HandS.Conv
import HandS.SortInts
import HandS.FStr
import HandS.Star
import HandS.Text
import PyProof.SeqIndex
import HandS.Comp
import HandS.SortOrd
import PyProof.P3In
import HandS.GenBody
import HandS.GenYield
import HandS.GenCall
import HandS.GenList
import HandS.MakeKwOnly
import HandS.StrMore
import HandS.WideBits
import PyProof.Rows.StrOr
import PyProof.Rows.StrIntSpec
import PyProof.StrLaws
import HandS.HotCalls
import HandS.Lambda
import KE.KCallOwn
import HandS.Flow
import HandS.HeadWalk
import HandS.FStrTup
import PyProof.ReprHeadsTuple
set_option Elab.async false
set_option linter.all false
set_option maxRecDepth 100000
set_option maxHeartbeats 4000000
namespace PySem
namespace EXR
open PySem.W PySem.Calls PyProof.Rows PySem.HandSPX
open Builtin Builtin.ObjectAttr
section
variable {M : Model} {A : Around} {E : Value → Shared → Prop} {h : Heap} {g : Array GenState} {d : Drawn} {t : Nat} {os : OsState}
variable {nm q : Str} {C N : Addr} {bs bm bmB : List Value} {hdct : Bool} {sn : List Str} {sub : List Value} {ab : Bool} {col : Option Bool} {dd : Option Addr} {k0 k1 k2 k3 k5 : Option Value} {B newId initId : String}
theorem check_new_kw (F : ExcBaseFacts B newId initId bmB) (hT : ∀ X : String, bm.contains (.type X) = bmB.contains (.type X)) {rest : List Value} {kw : List (Str × Value)} {Q : Unit → Shared → Prop}
    (hC : h.get? C = some (excClassObj nm q C N bs bm hdct sn sub ab col dd k0 k1 k2 k3 k5 newId)) (hq : Q () ⟨h, g, d, t, os⟩) : wpAny M A (checkBuiltinCall newId ⟨.ref C :: rest, kw⟩) Q E ⟨h, g, d, t, os⟩ := by
  have hcont : (Value.ref C :: bm).contains (.type B) = true := by rw [List.contains_cons, hT, F.hasB, Bool.or_true]
  have hstar := F.noStar
  simp only [checkBuiltinCall, F.newKind, F.newSplit, F.newRow]
  repeat (first | refine wpAny_loadPart_at hC ?_ | (refine wpAny_isSubtype_exc hC ?_; rw [hcont]) | refine wpAny_staticBase_exc hC ?_ | refine wpAny_madeBy_exc hC ?_ | simp only [bne_self_eq_false, Bool.false_eq_true, if_false] | wp_step)
  exact hq
end
section
variable {prog : Program} {w : World} {A : Around} {E : Value → Shared → Prop} {R : Result → Shared → Prop} {h : Heap} {g : Array GenState} {d : Drawn} {t : Nat} {os : OsState}
variable {nm q : Str} {C N : Addr} {bs bm bmB : List Value} {hdct : Bool} {sn : List Str} {sub : List Value} {ab : Bool} {col : Option Bool} {dd : Option Addr} {k0 k1 k2 k3 k5 : Option Value} {B newId initId : String}
theorem new_kw (F : ExcBaseFacts B newId initId bmB) (hT : ∀ X : String, bm.contains (.type X) = bmB.contains (.type X)) {rest : List Value} {kw : List (Str × Value)}
    (hC : h.get? C = some (excClassObj nm q C N bs bm hdct sn sub ab col dd k0 k1 k2 k3 k5 newId))
    (hq : R (.ok (.ret (.ref (h.objs.size + 1)))) ⟨(h.push { cls := .type "tuple", data := .seq rest.toArray }).push
      { cls := .ref C, data := .fields #[.ref h.objs.size, .none, .none, .none, .bool false, .none] }, g, d, t, os⟩) (hrest : rest.length ≤ sizeLine) :
    codeAny (model prog w) A (.builtin newId ⟨.ref C :: rest, kw⟩) R ⟨h, g, d, t, os⟩ := by
  have hends := F.ends
  have hcB : (Value.ref C :: bm).contains (.type B) = true := by rw [List.contains_cons, hT, F.hasB, Bool.or_true]
  have hcA : (Value.ref C :: bm).contains (.type "AttributeError") = false := by rw [List.contains_cons, hT, F.noAttr]; rfl
  have hcN : (Value.ref C :: bm).contains (.type "NameError") = false := by rw [List.contains_cons, hT, F.noName]; rfl
  refine codeAny_builtinAt F.entry ?_
  unfold Builtin.«BaseException.__new__»
  refine wpAt_bind ?_
  show wpAt _ _ _ (stack >>= _) _ _ _
  refine wpAt_bind (wpAt_stack fun p below => wpAt_of_wpAny ?_)
  wp_walk
  refine wpAt_of_wpAny ?_
  rw [F.owner]
  repeat (first | with_reducible refine wpAny_madeHere_exc F.canon hC ?_ | with_reducible refine wpAny_loadPart_at hC ?_ | (with_reducible refine wpAny_isSubtype_exc hC ?_; first | rw [hcB] | rw [hcA] | rw [hcN]) | wp_step)
  show R _ _
  rw [Heap.size_push]
  exact hq
theorem type_call_kw (F : ExcBaseFacts B newId initId bmB) (hT : ∀ X : String, bm.contains (.type X) = bmB.contains (.type X)) {rest : List Value} {kw : List (Str × Value)} {fI : Addr} {Q : Fin → Shared → Prop}
    (hC : h.get? C = some (excClassObj nm q C N bs bm hdct sn sub ab col dd k0 k1 k2 k3 k5 newId))
    (hi : W.Looks (model prog w) h (typeLookup (.ref C) "__init__") (some (.ref fI))) (hb : ∀ self, W.Looks (model prog w) h (bindSpecial (.ref fI) self) (.ref fI, [self])) (hrest : rest.length ≤ sizeLine)
    (hq : codeAny (model prog w) A (.call (.ref fI) ⟨.ref (h.objs.size + 1) :: rest, kw⟩)
      (fun r s' => match r with | .ok (.ret v) => v = .none ∧ Q (.done (.ret (.ref (h.objs.size + 1)))) s' | .ok _ => False | .error e => E e s')
      ⟨(h.push (W.kdv_tup rest)).push (excO C h.objs.size), g, d, t, os⟩) :
    wpAny (model prog w) A (Builtin.«type.__call__» ⟨.ref C :: rest, kw⟩) Q E ⟨h, g, d, t, os⟩ := by
  repeat (first | with_reducible refine wpAny_loadPart_at hC ?_ | with_reducible refine wpAny_madeBy_exc hC ?_ | wp_step)
  refine codeAny_call_builtin_code (Code.quiet_builtin _ F.quiet) (check_new_kw F hT hC ?_)
  refine new_kw F hT hC ?_ hrest
  show wpAny _ _ _ _ _ _
  have k : ∀ b o, h.get? b = some o → ((h.push (W.kdv_tup rest)).push (excO C h.objs.size)).get? b = some o := fun b o e => Heap.get?_push_of_some _ (Heap.get?_push_of_some _ e)
  have hC₁ := k _ _ hC
  have hget : ((h.push (W.kdv_tup rest)).push (excO C h.objs.size)).get? (h.objs.size + 1) = some (excO C h.objs.size) := by heap_get
  have hcC : (Value.ref C :: bm).contains (.ref C) = true := by simp
  have i1 := hi.keeps k
  have b1 := (hb (.ref (h.objs.size + 1))).keeps k
  unfold isInstance
  repeat (first | with_reducible refine wpAny_loadPart_at hget ?_ | (with_reducible refine wpAny_isSubtype_exc hC₁ ?_; rw [hcC]) | wp_step)
  show wpAny _ _ (typeLookup (.ref C) _) _ _ _
  refine i1.at ?_
  refine wpAny_holding (wpAny_bind (b1.at ?_))
  refine wpAny_bind (wpAny_call (codeAny_mono hq fun r s' z => ?_))
  rcases r with e | (v | _ | _ | _) <;> first | exact z | exact z.elim | skip
  obtain ⟨rfl, z⟩ := z
  first
    | exact wpAny_pure (wpAny_pure z)
    | (wp_walk; exact z)
theorem call_kw (F : ExcBaseFacts B newId initId bmB) (hT : ∀ X : String, bm.contains (.type X) = bmB.contains (.type X)) {rest : List Value} {kw : List (Str × Value)} {fI : Addr}
    (hC : h.get? C = some (excClassObj nm q C N bs bm hdct sn sub ab col dd k0 k1 k2 k3 k5 newId))
    (hi : W.Looks (model prog w) h (typeLookup (.ref C) "__init__") (some (.ref fI))) (hb : ∀ self, W.Looks (model prog w) h (bindSpecial (.ref fI) self) (.ref fI, [self])) (hrest : rest.length ≤ sizeLine)
    (hq : codeAny (model prog w) (A.under (.builtin "type.__call__" ⟨.ref C :: rest, kw⟩)) (.call (.ref fI) ⟨.ref (h.objs.size + 1) :: rest, kw⟩) (W.InitBack (h.objs.size + 1) R)
      ⟨(h.push (W.kdv_tup rest)).push (excO C h.objs.size), g, d, t, os⟩) :
    codeAny (model prog w) A (.call (.ref C) ⟨rest, kw⟩) R ⟨h, g, d, t, os⟩ := by
  have f1 := tc_lookup
  have f2 := tc_bind (.ref C)
  have hTy : (⟨h, g, d, t, os⟩ : Shared).TypeIs (.ref C) "type" := ⟨_, hC, rfl⟩
  refine codeAny_of_tree ?_
  show wpAny _ _ (callAny (.ref C) _) _ _ _
  repeat (any_goals (first | assumption | with_reducible refine wpAny_loadPart_at hC ?_ | wp_step))
  refine ⟨rfl, ?_⟩
  refine codeAny_call_builtin_at (Code.quiet_builtin _ (by decide +kernel)) entry_typeCall (wpAny_check_type_call_sub hC (type_call_kw F hT hC hi hb hrest ?_))
  refine codeAny_mono hq fun r s' z => ?_
  rcases r with e | (v | _ | _ | _) <;> exact z
end
end EXR
end PySem
set_option Elab.async false
set_option linter.all false
set_option maxRecDepth 100000
set_option maxHeartbeats 4000000
namespace PySem
namespace EXR
open PySem.W PySem.Calls PyProof.Rows PySem.HandSPX
open Builtin Builtin.ObjectAttr
section
variable {prog : Program} {w : World} {A : Around} {E : Value → Shared → Prop} {R : Result → Shared → Prop} {hp : Heap} {g : Array GenState} {d : Drawn} {t : Nat} {os : OsState} {B : String} {bmB : List Value}
theorem osaB {K : W.Frag} {name : Str} {tk : Tok} {v : Value} {x C : Addr} {fv : Array Value} {cd : ClassData} (SF : StoreFacts B bmB "object.__setattr__" "object")
    (X : K.In hp) (hx : hp.get? x = some { cls := .ref C, data := .fields fv }) (hcd : W.clsIn K C = some cd) (hm : W.excTail bmB cd.mro = true) (hne : cd.mro.isEmpty = false) (hh : cd.hasDict = true) (ha : W.findIn K (.ref C) name = some none)
    (hq : ∀ h' tk' dx, (∀ b o, b ≠ x → hp.get? b = some o → h'.get? b = some o) → hp.objs.size ≤ dx → dx ≠ x → h'.get? x = some { cls := .ref C, dict := some dx, data := .fields fv } →
      h'.Ns1 dx (fun y => if y = name then some v else none) → R (.ok (.ret .none)) ⟨h', g, d, tk', os⟩) :
    codeAny (model prog w) A (.call (.builtin "object.__setattr__") ⟨[.ref x, .str name tk, v], []⟩) R ⟨hp, g, d, t, os⟩ := by
  have I : W.InstAt hp x { cls := .ref C, data := .fields fv } C none := ⟨hx, rfl, rfl, trivial⟩
  have hob : cd.mro.contains (.type "object") = true := (W.excTail_contains "object" _ hm).trans SF.hasOwner
  have hxs : x ≠ hp.objs.size := Nat.ne_of_lt (Heap.lt_size hx)
  have sub : W.Looks (model prog w) hp (isInstance (.ref x) (.type "object")) true := I.type.andThen (W.looks_mroIn X (by unfold W.mroIn; rw [hcd, Option.bind_some, if_neg (by rw [hne]; decide), hob]))
  refine codeAny_call_builtin SF.slot.plain SF.entry (@W.check_slot (model prog w) _ _ ⟨hp, g, d, t, os⟩ "object.__setattr__" "object" "__setattr__" (.ref x) [.str name tk, v] [] _ SF.kind SF.split sub (SF.args (.ref x) (.str name tk) v) ?_)
  have hmr : W.Looks (model prog w) hp (mroOf (.ref C)) cd.mro := (W.looks_clsIn X hcd).andThen .now
  have L3 : W.Looks (model prog w) hp (storeTaker? none) none := .now
  have hcls : W.Looks (model prog w) hp (classData C) cd := W.looks_clsIn X hcd
  rw [W.osa_eq, refuse_eq]
  refine wpAny_bind (wpAny_bind (I.type.at (wpAny_bind (hmr.at ?_))))
  rw [W.excTail_pass _ (SF.passes _) _ hm]
  refine wpAny_pure (wpAny_bind (I.type.at (wpAny_bind ((W.looks_findIn X ha).at (wpAny_bind (L3.at ?_))))))
  show wpAny _ _ (storeInOwnDict (.ref x) (.ref C) (.str name tk) name v false) _ _ _
  obtain ⟨nm, bs, mro, ns, qn, hd, sn, sb, ab, col, del⟩ := cd
  dsimp only at hh
  subst hh
  unfold storeInOwnDict ownDictForStores
  repeat (first | with_reducible refine store_in_new ?_ ?_ | with_reducible refine wpAny_loadPart_at hx ?_ | with_reducible refine hcls.at ?_ | wp_step)
  · exact ⟨_, #[], _, (Heap.get?_update_ne _ _ _ _ hxs.symm).trans (Heap.get?_push_at rfl rfl), rfl, fun e he => absurd he (by simp), fun _ => rfl⟩
  · intro h' tk' hn' hs
    have hx₁ : (hp.push { cls := .type "dict", data := .dict #[] }).get? x = some { cls := .ref C, data := .fields fv } := Heap.get?_push_of_some _ hx
    refine hq h' tk' hp.objs.size (fun b o hb ho => ?_) (Nat.le_refl _) hxs.symm ?_ hn'
    · exact (hs.2 b (Nat.ne_of_lt (Heap.lt_size ho))).trans ((Heap.get?_update_ne _ _ _ _ hb).trans (Heap.get?_push_of_some _ ho))
    · exact (hs.2 x hxs).trans (Heap.get?_update_self _ hx₁ rfl)
theorem osaB_old {K : W.Frag} {name : Str} {tk : Tok} {v : Value} {x C dx : Addr} {fv : Array Value} {cd : ClassData} {m0 : Str → Option Value} {nl : List Str} (SF : StoreFacts B bmB "object.__setattr__" "object")
    (X : K.In hp) (hx : hp.get? x = some { cls := .ref C, dict := some dx, data := .fields fv }) (hns : hp.Ns1 dx m0) (hw : Within m0 nl) (hz : nl.length ≤ 1000) (hcd : W.clsIn K C = some cd) (hm : W.excTail bmB cd.mro = true) (hne : cd.mro.isEmpty = false) (hh : cd.hasDict = true)
    (ha : W.findIn K (.ref C) name = some none)
    (hq : ∀ h' tk', (∀ b o, b ≠ dx → hp.get? b = some o → h'.get? b = some o) → h'.Ns1 dx (fun y => if y = name then some v else m0 y) → R (.ok (.ret .none)) ⟨h', g, d, tk', os⟩) :
    codeAny (model prog w) A (.call (.builtin "object.__setattr__") ⟨[.ref x, .str name tk, v], []⟩) R ⟨hp, g, d, t, os⟩ := by
  obtain ⟨oD, esD, epD, hoD, hdD, _⟩ := hns.count hw
  have I : W.InstAt hp x { cls := .ref C, dict := some dx, data := .fields fv } C (some oD) := ⟨hx, rfl, rfl, hoD⟩
  have hob : cd.mro.contains (.type "object") = true := (W.excTail_contains "object" _ hm).trans SF.hasOwner
  have sub : W.Looks (model prog w) hp (isInstance (.ref x) (.type "object")) true := I.type.andThen (W.looks_mroIn X (by unfold W.mroIn; rw [hcd, Option.bind_some, if_neg (by rw [hne]; decide), hob]))
  refine codeAny_call_builtin SF.slot.plain SF.entry (@W.check_slot (model prog w) _ _ ⟨hp, g, d, t, os⟩ "object.__setattr__" "object" "__setattr__" (.ref x) [.str name tk, v] [] _ SF.kind SF.split sub (SF.args (.ref x) (.str name tk) v) ?_)
  have hmr : W.Looks (model prog w) hp (mroOf (.ref C)) cd.mro := (W.looks_clsIn X hcd).andThen .now
  have L3 : W.Looks (model prog w) hp (storeTaker? none) none := .now
  have hcls : W.Looks (model prog w) hp (classData C) cd := W.looks_clsIn X hcd
  rw [W.osa_eq, refuse_eq]
  refine wpAny_bind (wpAny_bind (I.type.at (wpAny_bind (hmr.at ?_))))
  rw [W.excTail_pass _ (SF.passes _) _ hm]
  refine wpAny_pure (wpAny_bind (I.type.at (wpAny_bind ((W.looks_findIn X ha).at (wpAny_bind (L3.at ?_))))))
  show wpAny _ _ (storeInOwnDict (.ref x) (.ref C) (.str name tk) name v false) _ _ _
  obtain ⟨nm, bs, mro, ns, qn, hd, sn, sb, ab, col, del⟩ := cd
  dsimp only at hh
  subst hh
  unfold storeInOwnDict ownDictForStores
  repeat (first | with_reducible refine PySem.OEX.store_in_old hns hw hz ?_ | with_reducible refine wpAny_loadPart_at hx ?_ | with_reducible refine hcls.at ?_ | wp_step)
  intro h' tk' hn' hs
  exact hq h' tk' (fun b o hb ho => (hs.2 b hb).trans ho) hn'
end
end EXR
end PySem

namespace L2
open PySem PySem.Spec PyProof.Rows
/-- what the written part says of an exception class at C over a built-in base -/
structure OxB (K : PySem.W.Frag) (C : Addr) (bmB : List Value) (newId : String) : Prop where
  cls : ∃ nm q N bs bm sn sub ab col dd k0 k1 k2 k3 k5, K.lookup C = some (excClassObj nm q C N bs bm true sn sub ab col dd k0 k1 k2 k3 k5 newId) ∧ PySem.W.excTail bmB bm = true
  sa : PySem.W.findIn K (.ref C) "__setattr__" = some (some (.builtin "object.__setattr__"))
  exC : PySem.W.subIn K (.ref C) (.type "BaseException") = some true
  tyC : PySem.W.typeIn K (.ref C) = some (.type "type")
  kC : PySem.W.keepIn K (.ref C) = true
  ga : PySem.W.findIn K (.ref C) "__getattribute__" = some (some (.builtin "BaseException.__getattribute__"))
  gg : PySem.W.findIn K (.ref C) "__getattr__" = some none
  hd : PySem.W.hasDictIn K C = true
  hcl : (PySem.W.clsIn K C).isSome = true
  ha : PySem.W.findIn K (.ref C) "__class__" = some (some (.builtin "object.__class__"))
  hn : PySem.W.specialIn K (.builtin "object.__class__") "__get__" = some (some (.builtin "getset_descriptor.__get__"))
  ht : PySem.W.takesIn K (.builtin "object.__class__") = some true
  hm : PySem.W.mroIn K C (.type "object") = some true
def oxB (K : PySem.W.Frag) (C : Addr) (bmB : List Value) (newId : String) : Bool :=
  PySem.W.excInitIn K C bmB newId && (decide (PySem.W.findIn K (.ref C) "__setattr__" = some (some (.builtin "object.__setattr__"))) && (decide (PySem.W.subIn K (.ref C) (.type "BaseException") = some true) &&
  (decide (PySem.W.typeIn K (.ref C) = some (.type "type")) && (PySem.W.keepIn K (.ref C) && (decide (PySem.W.findIn K (.ref C) "__getattribute__" = some (some (.builtin "BaseException.__getattribute__"))) &&
  (decide (PySem.W.findIn K (.ref C) "__getattr__" = some none) && (PySem.W.hasDictIn K C && ((PySem.W.clsIn K C).isSome && (decide (PySem.W.findIn K (.ref C) "__class__" = some (some (.builtin "object.__class__"))) &&
  (decide (PySem.W.specialIn K (.builtin "object.__class__") "__get__" = some (some (.builtin "getset_descriptor.__get__"))) && (decide (PySem.W.takesIn K (.builtin "object.__class__") = some true) && decide (PySem.W.mroIn K C (.type "object") = some true))))))))))))
theorem excInit_K {K : PySem.W.Frag} {C : Addr} {bmB : List Value} {newId : String} (q : PySem.W.excInitIn K C bmB newId = true) (hh : PySem.W.hasDictIn K C = true) :
    ∃ nm q N bs bm sn sub ab col dd k0 k1 k2 k3 k5, K.lookup C = some (excClassObj nm q C N bs bm true sn sub ab col dd k0 k1 k2 k3 k5 newId) ∧ PySem.W.excTail bmB bm = true := by
  unfold PySem.W.excInitIn at q
  split at q
  · rename_i dd cd sl ho
    split at q
    · rename_i C' bm k0 k1 k2 k3 n k5 hm hs
      simp only [Bool.and_eq_true, beq_iff_eq, Bool.not_eq_true'] at q
      obtain ⟨⟨⟨rfl, rfl⟩, hdel⟩, ht⟩ := q
      obtain ⟨nm, bs, mro, ns, qn, hd, sn, sub, ab, col, del⟩ := cd
      dsimp only at hm hdel
      subst hm hdel
      have hsl : sl = #[k0, k1, k2, k3, some (.builtin n), k5] := by
        obtain ⟨l⟩ := sl
        simp only at hs
        rw [hs]
      subst hsl
      have hdt : hd = true := by
        obtain ⟨cd, hc, hd'⟩ := PySem.W.any_some hh
        unfold PySem.W.clsIn at hc
        rw [ho] at hc
        have e := Option.some.inj hc
        subst e
        exact hd'
      subst hdt
      exact ⟨nm, qn, ns, bs, bm, sn, sub, ab, col, dd, k0, k1, k2, k3, k5, ho, ht⟩
    · cases q
  · cases q
theorem oxB_ok {K : PySem.W.Frag} {C : Addr} {bmB : List Value} {newId : String} (h : oxB K C bmB newId = true) : OxB K C bmB newId := by
  unfold oxB at h
  simp only [Bool.and_eq_true, decide_eq_true_eq] at h
  obtain ⟨h1, h2, h3, h4, h5, h6, h7, h8, h9, h10, h11, h12, h13⟩ := h
  exact ⟨excInit_K h1 h8, h2, h3, h4, h5, h6, h7, h8, h9, h10, h11, h12, h13⟩

section
variable {X : Cx} {pins : List (Addr × Obj)} {σ : St} {H : Hp} {s : Shared} {a C dx : Addr} {f : Str} {y : V} {u : Value} {fs : List (Str × V)} {Q : Unit → Shared → Prop} {E : Value → Shared → Prop} {A : Around} {B newId initId : String} {bmB : List Value}
theorem oxb_new (SF : StoreFacts B bmB "object.__setattr__" "object") (T : OxB X.K C bmB newId) (I : Inv X pins σ H s) (e : H a = some (exo a C none)) (hno : PySem.W.findIn X.K (.ref C) f = some none) (ry : RelV y u)
    (h : ∀ dx s', H dx = none → dx ≠ a → Inv X pins σ (upd (upd H dx (exd dx [(f, y)])) a (exo a C (some dx))) s' → Q () s') : wpAny (model X.prog X.w) A (setAttr (.ref a) f u) Q E s := by
  obtain ⟨nm, q, N, bs, bm, sn, sub, ab, col, dd, k0, k1, k2, k3, k5, hC, hbm⟩ := T.cls
  have hcl : PySem.W.clsIn X.K C = some { name := nm, bases := bs, mro := .ref C :: bm, ns := N, qualname := q, hasDict := true, slotNames := sn, subclasses := sub, abstract := ab, collection := col, hasDel := false } := by unfold PySem.W.clsIn; rw [hC] <;> rfl
  obtain ⟨t1, ho⟩ := exo_at I.hok e
  obtain ⟨hp, g, d, t, os⟩ := s
  refine PySem.W.set_plain I.kIn (ox := { cls := .ref C, dict := none, data := .fields #[.ref t1, .none, .none, .none, .bool false, .none] }) (od := none) ⟨ho, rfl, rfl, trivial⟩ T.sa ?_
  refine PySem.EXR.osaB SF I.kIn ho hcl (show PySem.W.excTail bmB (.ref C :: bm) = true from hbm) rfl rfl hno (fun h' tk' dx k dn dne hx hn => ?_)
  have hnd : H dx = none := I.hok.fresh dn
  have nd : ∀ {b : Addr} {o : Obj}, hp.get? b = some o → b ≠ dx := fun {b o} q => Nat.ne_of_lt (Nat.lt_of_lt_of_le (Heap.lt_size q) dn)
  have na : ∀ {b : Addr}, H b = none → b ≠ a := fun {b} n z => by
    rw [z, e] at n
    cases n
  have Un1 : Un X.fs [] H (upd (upd H dx (exd dx [(f, y)])) a (exo a C (some dx))) hp h' := {
    keep := fun b o q n _ _ => k b o (na n) q
    slot := fun b o q n _ _ => ⟨o.slots, k b o (na n) q⟩
    free := fun b o q n _ => by rw [upd_ne (na n), upd_ne (nd q)]; exact n
    there := fun b o q _ => by
      by_cases hb : b = a
      · exact ⟨_, by rw [hb]; exact hx⟩
      · exact ⟨o, k b o hb q⟩
    tups := fun b xs q => by rw [upd_ne (at_ne e q exo_tup), upd_ne (ne_of_none q hnd)]; exact q
    frzs := fun b o v q => by rw [upd_ne (at_ne e q exo_frz), upd_ne (ne_of_none q hnd)]; exact q
    tbls := fun b ps q => ⟨#[], by rw [upd_ne (at_ne e q exo_tbl), upd_ne (ne_of_none q hnd), q]; simp⟩ }
  refine h dx _ hnd dne (I.un (t' := tk') Un1 fun b o q => ?_)
  by_cases hb : b = a
  · subst hb
    rw [upd_same] at q
    cases q
    exact exo_ok hx
  · rw [upd_ne hb] at q
    by_cases hd : b = dx
    · subst hd
      rw [upd_same] at q
      cases q
      exact exd_ok hn (relO_put (fs := []) ry fun g => True.intro)
    · rw [upd_ne hd] at q
      exact (I.hok b o q).stay (fun c v hc z => k c v (by
          rcases hc with hc | hc
          · rw [hc]
            exact hb
          · exact at_ne e hc exo_own) z)
        (fun c hc => by rw [upd_ne (at_ne e hc exo_own), upd_ne (ne_of_none hc hnd)]; exact hc) (fun c xs hc => by rw [upd_ne (at_ne e hc exo_tup), upd_ne (ne_of_none hc hnd)]; exact hc)
theorem oxb_old (SF : StoreFacts B bmB "object.__setattr__" "object") (T : OxB X.K C bmB newId) (I : Inv X pins σ H s) (e : H a = some (exo a C (some dx))) (ed : H dx = some (exd dx fs)) (hl : fs.length ≤ 900) (hno : PySem.W.findIn X.K (.ref C) f = some none) (ry : RelV y u)
    (h : ∀ s', Inv X pins σ (upd H dx (exd dx ((f, y) :: fs))) s' → Q () s') : wpAny (model X.prog X.w) A (setAttr (.ref a) f u) Q E s := by
  obtain ⟨nm, q, N, bs, bm, sn, sub, ab, col, dd, k0, k1, k2, k3, k5, hC, hbm⟩ := T.cls
  have hcl : PySem.W.clsIn X.K C = some { name := nm, bases := bs, mro := .ref C :: bm, ns := N, qualname := q, hasDict := true, slotNames := sn, subclasses := sub, abstract := ab, collection := col, hasDel := false } := by unfold PySem.W.clsIn; rw [hC] <;> rfl
  obtain ⟨t1, ho⟩ := exo_at I.hok e
  obtain ⟨mA, hns, rel⟩ := exd_at I.hok ed
  have hw := within_of rel
  obtain ⟨hp, g, d, t, os⟩ := s
  obtain ⟨oD, _, _, hoD, _, _⟩ := hns.count hw
  refine PySem.W.set_plain I.kIn (ox := { cls := .ref C, dict := some dx, data := .fields #[.ref t1, .none, .none, .none, .bool false, .none] }) (od := some oD) ⟨ho, rfl, rfl, hoD⟩ T.sa ?_
  refine PySem.EXR.osaB_old SF I.kIn ho hns hw (by rw [List.length_map]; omega) hcl (show PySem.W.excTail bmB (.ref C :: bm) = true from hbm) rfl rfl hno (fun h' tk' k hn => ?_)
  have hd : ∃ o, h'.get? dx = some o := by
    obtain ⟨o, _, _, e', _⟩ := hn
    exact ⟨o, e'⟩
  exact h _ (I.write (t' := tk') (x := dx) (e := dx) (o := exd dx ((f, y) :: fs)) (by rw [ed]; exact True.intro) (.inl rfl) k hd (exd_ok hn (relO_put ry rel)))
end
/-- self.f = e on an exception of the class at C -/
def tOxb (K : PySem.W.Frag) (bmB : List Value) (newId : String) (f : Str) (to te : TE) : TS := fun D σ H => te σ H fun y H1 => to σ H1 fun x H2 => ∃ a C : Addr, x = .ref a ∧ OxB K C bmB newId ∧ PySem.W.findIn K (.ref C) f = some none ∧
  ((H2 a = some (exo a C none) ∧ ∀ dx, H2 dx = none → dx ≠ a → D.nx σ (upd (upd H2 dx (exd dx [(f, y)])) a (exo a C (some dx)))) ∨
    ∃ (dx : Addr) (fs : List (Str × V)), H2 a = some (exo a C (some dx)) ∧ H2 dx = some (exd dx fs) ∧ fs.length ≤ 900 ∧ D.nx σ (upd H2 dx (exd dx ((f, y) :: fs))))
theorem ps_oxb {X : Cx} {o e : Expr} {to te : TE} {f : Str} {p' pos : Pos} {B newId : String} {bmB : List Value} (SF : StoreFacts B bmB "object.__setattr__" "object") (ho : PE X o to) (he : PE X e te) (hs : swapsWith e (some (.Attribute o f p')) pos.line X.env = pure false := by rfl) :
    PS X (.Assign [.Attribute o f p'] e pos) (tOxb X.K bmB newId f to te) := by
  refine ⟨fun pins s σ H D I h => ?_⟩
  refine plainObj_wpAny_Assign_Attribute (thn (he.run pins s σ H _ I h) fun v s1 ⟨y, H1, I1, r1, q1⟩ => thn (ho.run pins s1 σ H1 _ I1 q1) fun u s2 ⟨x, H2, I2, r2, a, C, ex, T, hno, q⟩ => ?_) hs
  subst ex
  obtain rfl : u = Value.ref a := r2
  rcases q with ⟨ea, q⟩ | ⟨dx, fs, ea, ed, hl, q⟩
  · exact oxb_new SF T I2 ea hno r1 fun dx s' n ne J => ⟨σ, _, J, q dx n ne⟩
  · exact oxb_old SF T I2 ea ed hl hno r1 fun s' J => ⟨σ, _, J, q⟩
end L2
set_option Elab.async false
set_option linter.all false
set_option maxRecDepth 100000
set_option maxHeartbeats 4000000
namespace L2
open PySem PySem.Spec PyProof.Rows
/-- an exception of the class at C with these fields stands at a -/
def ExV (H : Hp) (a C : Addr) (fs : List (Str × V)) : Prop := ∃ d, H a = some (exo a C (some d)) ∧ H d = some (exd d fs)
/-- C(e, .., k = v, ..), by values: __init__ keeping sp -/
def rMkB (C : Addr) (sp : Sp) (gV : List V → List V → List V) (vs zs : List V) (H : Hp) (Q : VK) : Prop := vs.length ≤ 1000 ∧ ∀ a, H a = none → sp (gV (.ref a :: vs) zs) (upd H a (exo a C none)) (fun v H2 => v = .non ∧ Q (.ref a) H2) (fun _ _ _ => False)
section
variable {X : Cx} {pins : List (Addr × Obj)} {σ : St} {H : Hp} {s : Shared} {CX : CXT} {k n : Nat} {f C fI : Addr} {fd : FuncData} {ps ks : List Str} {sp : Sp} {x : Str} {p pos : Pos} {e : Expr} {es : List Expr} {kws : List Keyword} {t tk : TA} {g : List Value → List Value → List Value} {gV : List V → List V → List V} {B newId initId : String} {bmB : List Value}
theorem run_mkB (F : ExcBaseFacts B newId initId bmB) (T : OxB X.K C bmB newId) (iC : PySem.W.findIn X.K (.ref C) "__init__" = some (some (.ref fI))) (tI : PySem.W.typeIn X.K (.ref fI) = some (.type "function"))
    (F1 : FnOk X.prog X.w X.K X.mg X.base CX k fI fd ps sp) (hr : Room (k + 1) X.A) (hb : KBn X.K fd ps (n + 1) ks g gV) (hx : Passes CX X (fun _ _ _ => False)) {us ws : List Value} {vs zs : List V} {Q : VK}
    (I : Inv X pins σ H s) (r : Vals vs us) (rz : Vals zs ws) (l1 : vs.length = n) (l2 : zs.length = ks.length) (h : rMkB C sp gV vs zs H Q) :
    wpAny (model X.prog X.w) X.A (call (.ref C) us (ks.zip ws)) (EP X pins σ Q) X.xe s := by
  obtain ⟨nm, q, N, bs, bm, sn, sub, ab, col, dd, k0, k1, k2, k3, k5, hC, hbm⟩ := T.cls
  obtain ⟨hz, q1⟩ := h
  obtain ⟨hp, g', dr, tk', os⟩ := s
  have hsz : hp.objs.size ≤ hp.objs.size + 1 := Nat.le_succ _
  have hn : H (hp.objs.size + 1) = none := I.hok.fresh hsz
  have hq := q1 (hp.objs.size + 1) hn
  have kk : ∀ b o, hp.get? b = some o → ((hp.push (PySem.W.kdv_tup us)).push (PySem.HandSPX.excO C hp.objs.size)).get? b = some o := fun b o e => Heap.get?_push_of_some _ (Heap.get?_push_of_some _ e)
  have hget : ((hp.push (PySem.W.kdv_tup us)).push (PySem.HandSPX.excO C hp.objs.size)).get? (hp.objs.size + 1) = some (PySem.HandSPX.excO C hp.objs.size) := by heap_get
  have I2 : Inv X pins σ (upd H (hp.objs.size + 1) (exo (hp.objs.size + 1) C none)) ⟨(hp.push (PySem.W.kdv_tup us)).push (PySem.HandSPX.excO C hp.objs.size), g', dr, tk', os⟩ :=
    I.laid (t' := tk') (a := hp.objs.size + 1) (o := exo (hp.objs.size + 1) C none) (h' := (hp.push (PySem.W.kdv_tup us)).push (PySem.HandSPX.excO C hp.objs.size)) kk hsz (exo_ok hget)
  have r1 : Vals (V.ref (hp.objs.size + 1) :: vs) (Value.ref (hp.objs.size + 1) :: us) := .cons rfl r
  have r2 := hb.rel r1 rz
  have e1 : (Value.ref (hp.objs.size + 1) :: us).length = n + 1 := r1.length.symm.trans (congrArg Nat.succ l1)
  have e2 : ws.length = ks.length := rz.length.symm.trans l2
  have hus : us.length ≤ sizeLine := by
    rw [← Paired.length r, sizeLine_eq]
    omega
  refine wpAny_call (PySem.EXR.call_kw F (fun Y => PySem.W.excTail_contains Y bm hbm) (I.kIn _ _ hC) (PySem.W.looks_findIn I.kIn iC) (fun self => PySem.W.bind_fn I.kIn self tI) hus
    (codeAny_mono (F1.run _ X.stack _ _ ⟨Value.ref (hp.objs.size + 1) :: us, ks.zip ws⟩ (g (Value.ref (hp.objs.size + 1) :: us) ws) _ _ (fun _ _ _ => False) (hr.make C us (ks.zip ws)) (I2.env0.make C us (ks.zip ws)) (hb.to _ (Value.ref (hp.objs.size + 1) :: us) ws I2.kIn e1 e2) r2 hq) fun r s' hq' => ?_))
  cases r with
  | error er => exact hx pins σ _ _ er s' I2 hq'
  | ok fl =>
    cases fl with
    | ret u =>
      obtain ⟨v, H', I3, rv, ev, q3⟩ := I2.after hq'
      subst ev
      exact ⟨rv, ⟨V.ref (hp.objs.size + 1), H', I3, rfl, q3⟩⟩
    | next => exact False.elim hq'
    | brk => exact False.elim hq'
    | cont => exact False.elim hq'
/-- C(e, ..) -/
theorem pe_mkB (F : ExcBaseFacts B newId initId bmB) (T : OxB X.K C bmB newId) (iC : PySem.W.findIn X.K (.ref C) "__init__" = some (some (.ref fI))) (tI : PySem.W.typeIn X.K (.ref fI) = some (.type "function"))
    (F1 : FnOk X.prog X.w X.K X.mg X.base CX k fI fd ps sp) (hr : Room (k + 1) X.A) (hb : KBn X.K fd ps (n + 1) [] g gV) (hx : Passes CX X (fun _ _ _ => False)) (hg : Gl X x) (hm : X.mg x = some (.ref C)) (ha : PA X (e :: es) t)
    (hdb : (x == ("__debug__" : Str)) = false := by decide) (he : starEach (e :: es) X.env = (false, eval e X.env) :: starEach es X.env := by rfl) (hpl : (backTo pos (starEach es X.env)).any (·.1) = false := by rfl) :
    PE X (.Call (.Name x p) (e :: es) [] pos) (fun σ H Q => t σ H fun vs H1 => vs.length = n ∧ rMkB C sp gV vs [] H1 Q) := by
  refine ⟨fun pins s σ H Q I h => ?_⟩
  refine wpAny_Call_Name_kw (ld_glob I hg hm ?_ hdb)
  refine PySem.W.callWith_K (h₀ := X.base) I.ok.mod.kin T.kC (thn (ha.run pos pins s σ H _ I h) fun us s1 ⟨vs, H1, I1, r1, l1, q1⟩ => ⟨I1.kIn, ?_⟩) he hpl
  exact run_mkB (ks := []) (ws := []) F T iC tI F1 hr hb hx I1 r1 .nil l1 rfl q1
/-- C() -/
theorem pe_mkB0 (F : ExcBaseFacts B newId initId bmB) (T : OxB X.K C bmB newId) (iC : PySem.W.findIn X.K (.ref C) "__init__" = some (some (.ref fI))) (tI : PySem.W.typeIn X.K (.ref fI) = some (.type "function"))
    (F1 : FnOk X.prog X.w X.K X.mg X.base CX k fI fd ps sp) (hr : Room (k + 1) X.A) (hb : KBn X.K fd ps 1 [] g gV) (hx : Passes CX X (fun _ _ _ => False)) (hg : Gl X x) (hm : X.mg x = some (.ref C))
    (hdb : (x == ("__debug__" : Str)) = false := by decide) :
    PE X (.Call (.Name x p) [] [] pos) (fun σ H Q => rMkB C sp gV [] [] H Q) := by
  refine ⟨fun pins s σ H Q I h => ?_⟩
  refine wpAny_Call_Name_kw (ld_glob I hg hm ?_ hdb)
  refine PySem.W.callWith_K0 I.kIn T.kC ?_
  exact run_mkB (n := 0) (ks := []) (ws := []) F T iC tI F1 hr hb hx I .nil .nil rfl rfl h
/-- C(k = v, ..) -/
theorem pe_mkBK (F : ExcBaseFacts B newId initId bmB) (T : OxB X.K C bmB newId) (iC : PySem.W.findIn X.K (.ref C) "__init__" = some (some (.ref fI))) (tI : PySem.W.typeIn X.K (.ref fI) = some (.type "function"))
    (F1 : FnOk X.prog X.w X.K X.mg X.base CX k fI fd ps sp) (hr : Room (k + 1) X.A) (hb : KBn X.K fd ps 1 ks g gV) (hx : Passes CX X (fun _ _ _ => False)) (hg : Gl X x) (hm : X.mg x = some (.ref C))
    (hkw : PK X kws tk) (hall : (backToKw pos (keywordEach kws X.env)).all (·.1.isSome) = true := by rfl) (hks : (backToKw pos (keywordEach kws X.env)).filterMap (·.1) = ks := by rfl)
    (hdb : (x == ("__debug__" : Str)) = false := by decide) (hpl : ((backTo pos (starEach [] X.env)).any (·.1) || (backToKw pos (keywordEach kws X.env)).any (·.1.isNone)) = false := by rfl) :
    PE X (.Call (.Name x p) [] kws pos) (fun σ H Q => tk σ H fun zs H1 => zs.length = ks.length ∧ rMkB C sp gV [] zs H1 Q) := by
  refine ⟨fun pins s σ H Q I h => ?_⟩
  refine wpAny_Call_Name_kw (ld_glob I hg hm ?_ hdb)
  refine PySem.W.callWith_KW0 (h₀ := X.base) I.ok.mod.kin T.kC hall ?_ hpl
  refine thn (hkw.run pos pins s σ H _ I h) fun ws s2 ⟨zs, H2, I2, rz, l2, q2⟩ => ⟨I2.kIn, ?_⟩
  rw [hks]
  exact run_mkB (n := 0) F T iC tI F1 hr hb hx I2 .nil rz rfl l2 q2
/-- e.f -/
def tGetB (K : PySem.W.Frag) (f : Str) (te : TE) : TE := fun σ H Q => te σ H fun x H1 => ∃ (bmB : List Value) (newId : String) (a C : Addr) (fs : List (Str × V)) (v : V), x = .ref a ∧ OxB K C bmB newId ∧ PySem.W.findIn K (.ref C) f = some none ∧ ExV H1 a C fs ∧ fs.lookup f = some v ∧ Q v H1
theorem pe_getB {te : TE} {f : Str} (he : PE X e te) (hb : attributeBase e f X.env (eval e X.env) = eval e X.env := by rfl) : PE X (.Attribute e f pos) (tGetB X.K f te) := by
  refine ⟨fun pins s σ H Q I h => ?_⟩
  refine attr_of hb (thn (he.run pins s σ H _ I h) fun u s1 hh => ?_)
  obtain ⟨x, H1, I1, rx, bmB, newId, a, C, fs, v, ex, T, hno, ⟨d, ea, ed⟩, l, q⟩ := hh
  subst ex
  obtain rfl : u = Value.ref a := rx
  obtain ⟨t1, ho⟩ := exo_at I1.hok ea
  obtain ⟨mA, hns, hr⟩ := exd_at I1.hok ed
  obtain ⟨od, hod, hl⟩ := lookIn_ns hns
  obtain ⟨u, hu, ru⟩ := RelO.some_of (v := v) (o := mA f) (by rw [← l]; exact hr f)
  have J : PySem.W.InstAt s1.heap a _ C (some od) := ⟨ho, rfl, rfl, hod⟩
  exact HandSPX.exc_get I1.kIn J T.ga T.gg T.exC (PySem.W.findObj_own T.hd hno rfl (by rw [hl, hu])) (handed_of ru) ⟨v, H1, I1.tok _, ru, q⟩
/-- isinstance(e, c), e an exception of ours -/
def rIsEx (K : PySem.W.Frag) : List V → Hp → VK → Prop := fun xs H Q => ∃ (bmB : List Value) (newId : String) (a C : Addr) (fs : List (Str × V)) (c : V) (cv : Value) (b : Bool), xs = [.ref a, c] ∧ ClsV c cv ∧ OxB K C bmB newId ∧ ExV H a C fs ∧ PySem.W.kitOne K (.ref C) cv = some b ∧ Q (.bl b) H
theorem call_isEx : CallR X (.builtin "isinstance") (rIsEx X.K) := by
  intro pins s σ H xs us Q I r h
  obtain ⟨bmB, newId, a, C, fs, c, cv, b, rfl, hcv, T, ⟨d, ea, ed⟩, e, q⟩ := h
  obtain ⟨u1, u2, rfl, r1, r2⟩ := vals2 r
  have e2 := hcv.eq r2
  subst e2
  cases (show u1 = Value.ref a from r1)
  obtain ⟨t1, ho⟩ := exo_at I.hok ea
  obtain ⟨mA, hns, hr⟩ := exd_at I.hok ed
  obtain ⟨od, hod, hl⟩ := lookIn_ns hns
  have J : PySem.W.InstAt s.heap a _ C (some od) := ⟨ho, rfl, rfl, hod⟩
  exact PySem.W.kia_one (PySem.W.kitx_exc (od := some od) T.hcl T.ga T.gg T.exC T.ha T.hn T.ht T.hm) I.kIn J e (fun z => nomatch z) fun tk => ⟨.bl b, H, I.tok tk, rfl, q⟩
end
end L2
set_option Elab.async false
set_option linter.all false
set_option maxRecDepth 100000
set_option maxHeartbeats 4000000
namespace L2
open PySem PySem.Spec PyProof.Rows
section
variable {X : Cx} {CX : CXT} {k : Nat} {C fI : Addr} {fd : FuncData} {ps : List Str} {sp : Sp} {x : Str} {p pos : Pos} {e : Expr} {es : List Expr} {ta : TA} {B newId initId : String} {bmB : List Value}
theorem run_pmkB (F : ExcBaseFacts B newId initId bmB) (T : OxB X.K C bmB newId) (iC : PySem.W.findIn X.K (.ref C) "__init__" = some (some (.ref fI))) (tI : PySem.W.typeIn X.K (.ref fI) = some (.type "function"))
    (F1 : FnOk X.prog X.w X.K X.mg X.base CX k fI fd ps sp) (hr : Room (k + 1) X.A) (hb : Binds X.K fd ps []) (hx : Passes CX X (fun _ _ _ => False)) {pins : List (Addr × Obj)} {σ : St} {H1 : Hp} {s : Shared} {us : List Value} {vs : List V} {Q : XK}
    (I1 : Inv X pins σ H1 s) (r1 : Vals vs us) (hz : vs.length ≤ 1000)
    (q1 : ∀ a, H1 a = none → sp (.ref a :: vs) (upd H1 a (exo a C none)) (fun v H2 => v = .non ∧ ∃ (d : Addr) (fs : List (Str × V)), H2 a = some (exo a C (some d)) ∧ H2 d = some (exd d fs) ∧ H1 d = none ∧ Q (.ref C) (some d) (upd (del H2 a) d (.xd fs))) (fun _ _ _ => False)) :
    wpAny (model X.prog X.w) X.A (call (.ref C) us) (MkP X pins σ Q) X.xe s := by
  obtain ⟨nm, q, N, bs, bm, sn, sub, ab, col, dd, k0, k1, k2, k3, k5, hC, hbm⟩ := T.cls
  obtain ⟨hp, g, dr, tk, os⟩ := s
  have hsz : hp.objs.size ≤ hp.objs.size + 1 := Nat.le_succ _
  have hn : H1 (hp.objs.size + 1) = none := I1.hok.fresh hsz
  have hq := q1 (hp.objs.size + 1) hn
  have kk : ∀ b o, hp.get? b = some o → ((hp.push (PySem.W.kdv_tup us)).push (PySem.HandSPX.excO C hp.objs.size)).get? b = some o := fun b o e => Heap.get?_push_of_some _ (Heap.get?_push_of_some _ e)
  have hget : ((hp.push (PySem.W.kdv_tup us)).push (PySem.HandSPX.excO C hp.objs.size)).get? (hp.objs.size + 1) = some (PySem.HandSPX.excO C hp.objs.size) := by heap_get
  have I2 : Inv X pins σ (upd H1 (hp.objs.size + 1) (exo (hp.objs.size + 1) C none)) ⟨(hp.push (PySem.W.kdv_tup us)).push (PySem.HandSPX.excO C hp.objs.size), g, dr, tk, os⟩ :=
    I1.laid (t' := tk) (a := hp.objs.size + 1) (o := exo (hp.objs.size + 1) C none) (h' := (hp.push (PySem.W.kdv_tup us)).push (PySem.HandSPX.excO C hp.objs.size)) kk hsz (exo_ok hget)
  have r2 : Vals (V.ref (hp.objs.size + 1) :: vs) (Value.ref (hp.objs.size + 1) :: us) := .cons rfl r1
  have hl : (Value.ref (hp.objs.size + 1) :: us ++ []).length = ps.length := by
    have e := r2.length
    rw [F1.len _ _ _ _ hq] at e
    rw [List.append_nil]
    exact e.symm
  have hus : us.length ≤ sizeLine := by
    rw [← Paired.length r1, sizeLine_eq]
    omega
  have hb' := hb _ (Value.ref (hp.objs.size + 1) :: us) I2.kIn hl
  rw [List.append_nil] at hb'
  refine wpAny_call (PySem.EXR.call_kw F (fun Y => PySem.W.excTail_contains Y bm hbm) (I1.kIn _ _ hC) (PySem.W.looks_findIn I1.kIn iC) (fun self => PySem.W.bind_fn I1.kIn self tI) hus
    (codeAny_mono (F1.run _ X.stack _ _ ⟨Value.ref (hp.objs.size + 1) :: us, []⟩ (Value.ref (hp.objs.size + 1) :: us) _ _ (fun _ _ _ => False) (hr.make C us []) (I2.env0.make C us []) hb' r2 hq) fun r s' hq' => ?_))
  cases r with
  | error er => exact hx pins σ _ _ er s' I2 hq'
  | ok fl =>
    cases fl with
    | ret u =>
      obtain ⟨v, H2, os2, bare2, un2, hok2, rv, ev, d, fs, ea, ed, hd1, q2⟩ := hq'
      subst ev
      obtain ⟨h2, g2, d2, t2, os'⟩ := s'
      exact ⟨rv, mk_end (raises_own T.exC T.tyC) I1 hsz kk un2 hok2 os2 bare2 ea ed hd1 q2⟩
    | next => exact False.elim hq'
    | brk => exact False.elim hq'
    | cont => exact False.elim hq'
/-- what making C(vs) wishes -/
def rRsB (C : Addr) (sp : Sp) (vs : List V) (H1 : Hp) (Q : XK) : Prop := vs.length ≤ 1000 ∧ ∀ a, H1 a = none → sp (.ref a :: vs) (upd H1 a (exo a C none)) (fun v H2 => v = .non ∧ ∃ (d : Addr) (fs : List (Str × V)), H2 a = some (exo a C (some d)) ∧ H2 d = some (exd d fs) ∧ H1 d = none ∧ Q (.ref C) (some d) (upd (del H2 a) d (.xd fs))) (fun _ _ _ => False)
theorem pmkB (F : ExcBaseFacts B newId initId bmB) (T : OxB X.K C bmB newId) (iC : PySem.W.findIn X.K (.ref C) "__init__" = some (some (.ref fI))) (tI : PySem.W.typeIn X.K (.ref fI) = some (.type "function"))
    (F1 : FnOk X.prog X.w X.K X.mg X.base CX k fI fd ps sp) (hr : Room (k + 1) X.A) (hb : Binds X.K fd ps []) (hx : Passes CX X (fun _ _ _ => False)) (hg : Gl X x) (hm : X.mg x = some (.ref C)) (ha : PA X (e :: es) ta)
    (hdb : (x == ("__debug__" : Str)) = false := by decide) (he : starEach (e :: es) X.env = (false, eval e X.env) :: starEach es X.env := by rfl) (hpl : (backTo pos (starEach es X.env)).any (·.1) = false := by rfl) :
    PMk X (.Call (.Name x p) (e :: es) [] pos) (fun σ H Q => ta σ H fun vs H1 => rRsB C sp vs H1 Q) := by
  intro pins s σ H Q I h
  refine wpAny_Call_Name_kw (ld_glob I hg hm ?_ hdb)
  exact PySem.W.callWith_K (h₀ := X.base) I.ok.mod.kin T.kC (thn (ha.run pos pins s σ H _ I h) fun us s1 ⟨vs, H1, I1, r1, hz, q1⟩ => ⟨I1.kIn, run_pmkB F T iC tI F1 hr hb hx I1 r1 hz q1⟩) he hpl
theorem pmkB0 (F : ExcBaseFacts B newId initId bmB) (T : OxB X.K C bmB newId) (iC : PySem.W.findIn X.K (.ref C) "__init__" = some (some (.ref fI))) (tI : PySem.W.typeIn X.K (.ref fI) = some (.type "function"))
    (F1 : FnOk X.prog X.w X.K X.mg X.base CX k fI fd ps sp) (hr : Room (k + 1) X.A) (hb : Binds X.K fd ps []) (hx : Passes CX X (fun _ _ _ => False)) (hg : Gl X x) (hm : X.mg x = some (.ref C))
    (hdb : (x == ("__debug__" : Str)) = false := by decide) :
    PMk X (.Call (.Name x p) [] [] pos) (fun σ H Q => rRsB C sp [] H Q) := by
  intro pins s σ H Q I h
  refine wpAny_Call_Name_kw (ld_glob I hg hm ?_ hdb)
  exact PySem.W.callWith_K0 I.kIn T.kC (run_pmkB F T iC tI F1 hr hb hx I .nil h.1 h.2)
end
/-! ### several except clauses with names -/
structure Hd where
  c : Value
  i : Nat
  ts : Addr → Value → Option Addr → TS
def wManyAs (K : PySem.W.Frag) (Wout : WX) (D : Ends) : List Hd → WX
  | [] => Wout
  | q :: r => fun cls d σ H => ∃ b, PySem.W.exmOne K cls q.c = some b ∧ (b = true → ∀ a, H a = none → q.ts a cls d { nx := fun σ' H' => D.nx (σ'.set q.i none) H', rt := D.rt, bk := fun σ' H' => D.bk (σ'.set q.i none) H', ct := fun σ' H' => D.ct (σ'.set q.i none) H' } (σ.set q.i (some (.ref a))) H) ∧ (b = false → wManyAs K Wout D r cls d σ H)
inductive HdsAs (X : Cx) : List ExceptHandler → List Hd → Prop
  | nil : HdsAs X [] []
  | cons {x n : Str} {q : Hd} {b₀ : Stmt} {suite : List Stmt} {np pos' : Pos} {hds : List ExceptHandler} {l : List Hd} (hc : Names X x q.c) (hi : X.N[q.i]? = some n) (hln : X.env.kindOf n = some .local)
      (hsu : ∀ (a : Addr) (oe : Obj) (cls : Value) (d : Option Addr) (pn : List (Addr × Obj)), Zc cls d oe → (∃ vs, oe.data = .fields vs) → PSs (X.suite a ((a, oe) :: pn)) (b₀ :: suite) (q.ts a cls d)) (r : HdsAs X hds l) :
      HdsAs X (.ExceptHandler (some (.Name x np)) (some n) (b₀ :: suite) pos' :: hds) (q :: l)
section
variable {X : Cx} {body : List Stmt} {h₀ : ExceptHandler} {hds : List ExceptHandler} {l : List Hd} {pos : Pos} {tb : WX → TS} {Wout : WX}
theorem ps_try_manyAs (hs : X.stack = X.env :: X.outer) (hf : X.env.frame = some X.env.locals) (hN : X.N.Nodup) (tk : Takes X Wout)
    (hb : ∀ (W : WX) (pn : List (Addr × Obj)) (xe : Value → Shared → Prop), Takes (X.tr pn xe) W → PassesOwn (model X.prog X.w) X.A X.env xe → PSs (X.tr pn xe) body (tb W))
    (hh : HdsAs X (h₀ :: hds) l) : PS X (.Try body (h₀ :: hds) [] [] pos) (fun D σ H => tb (wManyAs X.K Wout D l) D σ H) := by
  refine ⟨fun pins s σ H D I h => ?_⟩
  have ok := I.ok
  have hfr : X.A.frames = some (X.env :: X.outer) := by rw [ok.frames, hs]
  refine wpAny_Try_except ?_
  refine wpAny_mono ((hb (wManyAs X.K Wout D l) (X.pn ++ pins) (fun e s₁ => wpAny (model X.prog X.w) X.A (noteFrame e X.env) (fun _ s₂ => wpAny (model X.prog X.w) X.A (setFlight e none) (fun _ s₃ =>
    wpAny (model X.prog X.w) X.A (handleBy e X.env (h₀ :: hds)) (SP X pins D) X.xe s₃) X.xe s₂) X.xe s₁) (fun u s' xx => ?_) PassesOwn.looking).run [] s σ H D (I.toTry _) h) (fun f s1 hsp => ?_) (fun e s1 he => he)
  · obtain ⟨a, B, sI, pins', σ', H', cls, d, rfl, J', nb, up, sky, na, os, ag, w⟩ := xx
    have J : Inv X pins σ' H' sI := J'.ofTry ok
    have sky' : Sky B (X.env :: X.outer) a (Zc cls d) X.env.locals s'.heap := by rw [← hs]; exact sky
    show wpAny (model X.prog X.w) X.A (noteFrame (.ref a) X.env) _ _ _
    refine Sky.land Zc.steady hfr hf sky' fun h3 fl3 up3 => ?_
    have J3 : Inv X pins σ' H' { s' with heap := h3 } := J.landed nb fl3.1 (up.trans up3) os ag
    obtain ⟨oe3, vs3, he3, hz3, hd3⟩ := fl3.there
    have notFr : ∀ {h : Heap} {o : Obj} {vs : Array Value}, h.FunFrames B (X.env :: X.outer) → h.get? a = some o → o.data = .fields vs → a ∉ frs (X.env :: X.outer) := fun {h o vs} ff e dd hm => by
      obtain ⟨_, o', e', hnf⟩ := ff.mem hm
      rw [e] at e'; cases e'
      exact hnf _ dd
    have nfr := notFr fl3.2.2.1 he3 hd3
    have nL : a ≠ X.env.locals := fun z => nfr (List.mem_filterMap.mpr ⟨X.env, List.mem_cons_self, by rw [hf, z]⟩)
    have nF : a ∉ X.fs := fun hm => by
      obtain ⟨e, he, q⟩ := List.mem_filterMap.mp hm
      exact nfr (List.mem_filterMap.mpr ⟨e, List.mem_cons_of_mem _ he, q⟩)
    have S3 := J3.suite he3 hd3 na nL nF
    have go : ∀ {hds' : List ExceptHandler} {l' : List Hd}, HdsAs X hds' l' → wManyAs X.K Wout D l' cls d σ' H' →
        wpAny (model X.prog X.w) X.A (handleBy (.ref a) X.env hds') (SP X pins D) X.xe { s' with heap := h3 } := by
      intro hds' l' hk
      induction hk with
      | nil =>
        intro w
        refine wpAny_handleBy_nil ?_
        obtain ⟨k1, k2, k3, oe, vs, T, oT, ts', he, hz, hd, h1, hr⟩ := id fl3
        unfold PySem.passOn
        refine wpAny_bind (wpAny_field he hd h1 ?_)
        rw [if_neg (show ¬ ((Value.ref T == Value.none) = true) from by simp)]
        have fin : wpAny (model X.prog X.w) X.A (setFlight (.ref a) X.env.frame) (fun _ s4 => wpAny (model X.prog X.w) X.A (throw (.ref a) : Sem Flow) (SP X pins D) X.xe s4) X.xe { s' with heap := h3 } := by
          rw [hf]
          refine HandSPX.setFlight_upZ fl3 fun h4 hh4 up4 => wpAny_throw (tk _ _ ?_)
          exact ⟨a, B, sI, pins, σ', H', cls, d, rfl, J, nb, (up.trans up3).trans up4, .inr (.inr (by rw [hs]; exact hh4)), na, os, ag, w⟩
        first
          | exact wpAny_bind (wpAny_pure (wpAny_bind fin))
          | exact wpAny_bind fin
      | @cons x n q b₀ suite np pos' hds2 l2 hc hi hln hsu r ih =>
        intro w
        have hloc : Loc X.env.scope n := .inl hln
        obtain ⟨b, hb1, hyes, hno⟩ := w
        refine wpAny_handleBy_cons (codeAny_handlers_test ?_) (by intro q; cases q)
        have LT : PySem.W.Looks (model X.prog X.w) h3 (typeOf (.ref a)) cls := fun A Q E s k q => wpAny_typeOf_ref (k _ _ he3) (by rw [hz3.1]; exact q)
        have LM := PySem.W.exm_one (M := model X.prog X.w) (J3.kIn) LT hb1
        have test : ∀ {Q : Value → Shared → Prop} {E : Value → Shared → Prop}, Q q.c { s' with heap := h3 } → wpAny (model X.prog X.w) (X.A.mark (some (.ref a))) (eval (.Name x np) X.env) Q E { s' with heap := h3 } := fun {Q E} qq => by
          obtain ⟨hg, hdbg, hm | ⟨hm, hv, hnn⟩⟩ := hc
          · exact ld_glob (X := X.suite a ((a, oe3) :: (X.pn ++ pins))) S3 hg hm qq hdbg
          · exact ld_blt (X := X.suite a ((a, oe3) :: (X.pn ++ pins))) S3 hg hm hv qq hnn hdbg
        refine test (LM.here ?_)
        cases b with
        | true =>
          refine codeAny_handlers_suite_as ?_
          refine HandSPX.lands_againZ fl3 fun h4 fl4 up4 => ?_
          have J4 : Inv X pins σ' H' { s' with heap := h4 } := J.landed nb fl4.1 ((up.trans up3).trans up4) os ag
          obtain ⟨oe4, vs4, he4, hz4, hd4⟩ := fl4.there
          have S4 := J4.suite he4 hd4 na nL nF
          refine store_ok (X := X.suite a ((a, oe4) :: (X.pn ++ pins))) (v := .ref a) S4 hN hi hloc rfl (fun s5 S5 => ?_) (.inr hln)
          refine wpAny_mono ((hsu a oe4 cls d (X.pn ++ pins) hz4 ⟨_, hd4⟩).run [] s5 _ H' _ S5 (hyes rfl a na)) (fun f s6 hsp => ?_) (fun _ _ z => False.elim z)
          have end_ : ∀ {σ6 : St} {H6 : Hp} {Q : Shared → Prop}, Inv (X.suite a ((a, oe4) :: (X.pn ++ pins))) [] σ6 H6 s6 → (∀ s7, Inv X pins (σ6.set q.i none) H6 s7 → Q s7) →
              wpAny (model X.prog X.w) X.A (do bindName X.env n .none; unbindBehindTheSuite X.env n pos') (fun _ s7 => Q s7) X.xe s6 := fun {σ6 H6 Q} S6 hq => gone_ok (S6.unsuite ok) hN hi hln hq
          cases f with
          | next =>
            obtain ⟨σ6, H6, S6, q6⟩ := hsp
            exact end_ S6 fun s7 J7 => ⟨_, _, J7, q6⟩
          | brk =>
            obtain ⟨σ6, H6, S6, q6⟩ := hsp
            exact end_ S6 fun s7 J7 => ⟨_, _, J7, q6⟩
          | cont =>
            obtain ⟨σ6, H6, S6, q6⟩ := hsp
            exact end_ S6 fun s7 J7 => ⟨_, _, J7, q6⟩
          | ret u =>
            obtain ⟨v6, σ6, H6, S6, r6, q6⟩ := hsp
            exact end_ S6 fun s7 J7 => ⟨_, _, _, J7, r6, q6⟩
        | false =>
          show wpAny _ X.A (handleBy (.ref a) X.env hds2) _ _ _
          exact ih (hno rfl)
    exact go hh w
  · cases f with
    | next =>
      obtain ⟨σ', H', J', q⟩ := hsp
      exact wpAny_execs_nil ⟨σ', H', J'.ofTry ok, q⟩
    | brk =>
      obtain ⟨σ', H', J', q⟩ := hsp
      exact ⟨σ', H', J'.ofTry ok, q⟩
    | cont =>
      obtain ⟨σ', H', J', q⟩ := hsp
      exact ⟨σ', H', J'.ofTry ok, q⟩
    | ret u =>
      obtain ⟨v, σ', H', J', r, q⟩ := hsp
      exact ⟨v, σ', H', J'.ofTry ok, r, q⟩
end
end L2
set_option Elab.async false
set_option linter.all false
set_option maxRecDepth 100000
set_option maxHeartbeats 4000000
namespace L2
open PySem PySem.Spec PyProof.Rows
/-- a def of the module as callers see it -/
def Cal (P : Program) (w : World) (K : PySem.W.Frag) (mg : Str → Option Value) (base : Heap) (CX : CXT) (x : Str) (k : Nat) (ps : List Str) (sp : Sp) : Prop :=
  ∃ f fd, FnOk P w K mg base CX k f fd ps sp ∧ mg x = some (.ref f) ∧ PySem.W.keepIn K (.ref f) = true ∧ Binds K fd ps []
theorem Cal.imp {P : Program} {w : World} {K : PySem.W.Frag} {mg : Str → Option Value} {base : Heap} {CX : CXT} {x : Str} {k : Nat} {ps : List Str} {sp sp' : Sp} (c : Cal P w K mg base CX x k ps sp) (h : ∀ vs H Q E, sp' vs H Q E → sp vs H Q E) : Cal P w K mg base CX x k ps sp' := by
  obtain ⟨f, fd, F, a, b, d⟩ := c
  exact ⟨f, fd, F.imp h, a, b, d⟩
section
variable {X : Cx} {k : Nat} {ps : List Str} {sp : Sp} {x : Str} {p pos : Pos} {e : Expr} {es : List Expr} {t : TA}
theorem pe_cal (c : Cal X.prog X.w X.K X.mg X.base CX0 x k ps sp) (hr : Room k X.A) (hg : Gl X x) (ha : PA X (e :: es) t)
    (hdb : (x == ("__debug__" : Str)) = false := by decide) (he : starEach (e :: es) X.env = (false, eval e X.env) :: starEach es X.env := by rfl) (hpl : (backTo pos (starEach es X.env)).any (·.1) = false := by rfl) :
    PE X (.Call (.Name x p) (e :: es) [] pos) (tCall sp [] E0 t) := by
  obtain ⟨f, fd, F, hm, hk, hb⟩ := c
  exact pe_call F hr hg hm hk hb .nil pass0 ha hdb he hpl
theorem pe_cal0 (c : Cal X.prog X.w X.K X.mg X.base CX0 x k ps sp) (hr : Room k X.A) (hg : Gl X x) (hdb : (x == ("__debug__" : Str)) = false := by decide) :
    PE X (.Call (.Name x p) [] [] pos) (tCall sp [] E0 tNil) := by
  obtain ⟨f, fd, F, hm, hk, hb⟩ := c
  exact pe_call0 F hr hg hm hk hb .nil pass0 hdb
theorem pe_calS {E : St → XK} {CX : CXT} (c : Cal X.prog X.w X.K X.mg X.base CX x k ps sp) (hr : Room k X.A) (hg : Gl X x) (hx : ∀ σ, PassesAt CX X σ (E σ)) (ha : PA X (e :: es) t)
    (hdb : (x == ("__debug__" : Str)) = false := by decide) (he : starEach (e :: es) X.env = (false, eval e X.env) :: starEach es X.env := by rfl) (hpl : (backTo pos (starEach es X.env)).any (·.1) = false := by rfl) :
    PE X (.Call (.Name x p) (e :: es) [] pos) (tCallS sp E t) := by
  obtain ⟨f, fd, F, hm, hk, hb⟩ := c
  exact pe_callS F hr hg hm hk hb hx ha hdb he hpl
end
/-- a def, and how its own callee stands -/
theorem cal_of {P : Program} {w : World} {K : PySem.W.Frag} {mg : Str → Option Value} {base : Heap} {CX : CXT} {x : Str} {k : Nat} {ps : List Str} {sp : Sp} {st : Stmt} {f : Addr} {fd : FuncData}
    (F : FunD K x x (defArgs st) (defBody st) (defScope st) [] [] f fd) (g : mg x = some (.ref f)) (b : Binds K fd ps []) (o : FnOk P w K mg base CX k f fd ps sp) : Cal P w K mg base CX x k ps sp :=
  ⟨f, fd, o, g, F.kp, b⟩
/-! ### a law's bag -/
/-- where a bag stands, where its script's list stands, what that list holds -/
structure Bg where
  b : Addr
  l : Addr
  ns : List Int
/-- the bag: the script's list, the place, what is left of a long item, the seed, the count -/
def Bag (g : Bg) (H : Hp) : Prop := ∃ (i : Nat) (u sd c : Int), H g.b = some (.lst [.ref g.l, .int i, .int u, .int sd, .int c]) ∧ H g.l = some (.lst (g.ns.map V.int)) ∧ g.l ≠ g.b ∧ g.ns.length ≤ 63 ∧ i ≤ g.ns.length ∧ 0 ≤ u ∧ 0 ≤ sd ∧ sd < 2147483629
/-- what stood but the bag stands; the bag is a bag -/
def Drew (g : Bg) (H H' : Hp) : Prop := (∀ a o, a ≠ g.b → H a = some o → H' a = some o) ∧ Bag g H'
section
variable {g : Bg} {H H1 H2 H' : Hp} {p : Addr} {o : HO}
theorem Drew.trans (x : Drew g H H1) (y : Drew g H1 H2) : Drew g H H2 := ⟨fun a o n e => y.1 a o n (x.1 a o n e), y.2⟩
theorem Bag.ref (x : Bag g H) : ∃ o, H g.b = some o := by
  obtain ⟨i, u, sd, c, h, _⟩ := x
  exact ⟨_, h⟩
theorem Bag.ne (x : Bag g H) (n : H p = none) : p ≠ g.b := fun e => by
  obtain ⟨o, h⟩ := x.ref
  rw [e, h] at n
  cases n
theorem Bag.nl (x : Bag g H) (n : H p = none) : p ≠ g.l := fun e => by
  obtain ⟨i, u, sd, c, _, h, _⟩ := x
  rw [e, h] at n
  cases n
theorem Bag.same (x : Bag g H) (s : Same H H') : Bag g H' := by
  obtain ⟨i, u, sd, c, h, h2, r⟩ := x
  exact ⟨i, u, sd, c, s _ _ h, s _ _ h2, r⟩
/-- a change that is none of the bag's -/
theorem Bag.upd (x : Bag g H) (n : p ≠ g.b) (m : p ≠ g.l) : Bag g (upd H p o) := by
  obtain ⟨i, u, sd, c, h, h2, r⟩ := x
  exact ⟨i, u, sd, c, by rw [upd_ne n.symm]; exact h, by rw [upd_ne m.symm]; exact h2, r⟩
theorem Same.new (h : H p = none) : Same H (L2.upd H p o) := fun a u e => by
  rw [upd_ne (ne_of_none e h)]
  exact e
theorem Drew.same (x : Bag g H) (s : Same H H') : Drew g H H' := ⟨fun a o _ e => s a o e, x.same s⟩
theorem Drew.refl (x : Bag g H) : Drew g H H := ⟨fun _ _ _ e => e, x⟩
theorem Drew.new (x : Drew g H H1) (n : H1 p = none) : Drew g H (L2.upd H1 p o) := x.trans (Drew.same x.2 (Same.new n))
/-- a free place was free ahead -/
theorem Drew.free (x : Drew g H H') (n : H' p = none) : H p = none := by
  cases e : H p with
  | none => rfl
  | some o =>
    rw [x.1 p o (x.2.ne n) e] at n
    cases n
end
end L2
set_option Elab.async false
set_option linter.all false
set_option maxRecDepth 100000
set_option maxHeartbeats 4000000
namespace K01
open PySem PySem.Spec PyProof.Rows L2
def top (i : Nat) : Stmt := PySem.Challenge.pw_borderflow_k01_ratios_and_words.main.body.getD i (.Pass ⟨0, 0, 0, 0⟩)
/-- the j-th def of a class's body -/
def methOf (s : Stmt) (j : Nat) : Stmt := match s with
  | .ClassDef _ _ _ b _ _ _ _ _ _ _ => b.getD j (.Pass ⟨0, 0, 0, 0⟩)
  | _ => .Pass ⟨0, 0, 0, 0⟩
abbrev FnP (K : PySem.W.Frag) (x : Str) (st : Stmt) (f : Addr) (fd : FuncData) : Prop := FunD K x x (defArgs st) (defBody st) (defScope st) [] [] f fd
end K01
set_option Elab.async false
set_option linter.all false
set_option maxRecDepth 100000
set_option maxHeartbeats 4000000
namespace K01
open PySem PySem.Spec PyProof.Rows L2
abbrev veT : List Value := [.type "ValueError", .type "Exception", .type "BaseException", .type "object"]
def clsB (K : PySem.W.Frag) (x : Str) (xs : List Str) : Bool := oxB K (He.ga K x) veT "ValueError.__new__" && (((("code" : Str) :: xs).all fun y => He.eqO (PySem.W.findIn K (.ref (He.ga K x)) y) (some none)) &&
  (He.eqO (PySem.W.findIn K (.ref (He.ga K x)) "__init__") (some (some (.ref (He.ma K (He.ga K x) "__init__")))) && decide (PySem.W.typeIn K (.ref (He.ma K (He.ga K x) "__init__")) = some (.type "function"))))
theorem eqO_is {a b : Option (Option Value)} (h : He.eqO a b = true) : a = b := of_decide_eq_true h
theorem clsB_ok {K : PySem.W.Frag} {x : Str} {xs : List Str} (h : clsB K x xs = true) : OxB K (He.ga K x) veT "ValueError.__new__" ∧ (∀ y ∈ ("code" : Str) :: xs, PySem.W.findIn K (.ref (He.ga K x)) y = some none) ∧ PySem.W.findIn K (.ref (He.ga K x)) "__init__" = some (some (.ref (He.ma K (He.ga K x) "__init__"))) ∧ PySem.W.typeIn K (.ref (He.ma K (He.ga K x) "__init__")) = some (.type "function") := by
  obtain ⟨h1, h2⟩ := He.ba h
  obtain ⟨h3, h4⟩ := He.ba h2
  obtain ⟨h5, h6⟩ := He.ba h4
  exact ⟨oxB_ok h1, fun y hy => eqO_is (List.all_eq_true.mp h3 y hy), eqO_is h5, of_decide_eq_true h6⟩
def soB (a : Option (Option Value)) : Bool := match a with
  | some _ => true
  | none => false
theorem soB_ok {a : Option (Option Value)} (h : soB a = true) : ∃ o, a = some o := by
  cases a with
  | none => cases h
  | some o => exact ⟨o, rfl⟩
/-- what is asked of the class Ratio, one after another -/
def ratL (K : PySem.W.Frag) (C : Addr) : List Bool := [He.eqO (PySem.W.findIn K (.ref C) "__class__") (some (some (.builtin "object.__class__"))), He.eqO (PySem.W.specialIn K (.builtin "object.__class__") "__get__") (some (some (.builtin "getset_descriptor.__get__"))), decide (PySem.W.takesIn K (.builtin "object.__class__") = some true),
  decide (PySem.W.mroIn K C (.type "object") = some true), PySem.W.selfFirst K C, He.eqO (PySem.W.findIn K (.ref C) "__rpow__") (some none), soB (PySem.W.findIn K (.type "int") "__pow__"), soB (PySem.W.findIn K (.type "int") "__rpow__"),
  decide (PySem.W.subIn K (.type "int") (.ref C) = some false), decide (PySem.W.subIn K (.type "bool") (.ref C) = some false), decide (PySem.W.subIn K (.type "str") (.ref C) = some false), decide (PySem.W.subIn K (.type "NoneType") (.ref C) = some false), decide (PySem.W.subIn K (.type "tuple") (.ref C) = some false), decide (PySem.W.subIn K (.type "list") (.ref C) = some false),
  decide (PySem.W.subIn K (.ref C) (.type "tuple") = some false), decide (PySem.W.subIn K (.ref C) (.type "list") = some false), decide (PySem.W.kitOne K (.type "tuple") (.ref C) = some false), decide (PySem.W.kitOne K (.type "str") (.ref C) = some false), decide (PySem.W.kitOne K (.type "int") (.ref C) = some false),
  He.eqO (PySem.W.findIn K (.ref C) "__bool__") (some none), He.eqO (PySem.W.findIn K (.ref C) "__len__") (some none)]
structure RatF (K : PySem.W.Frag) (C : Addr) : Prop where
  ha : PySem.W.findIn K (.ref C) "__class__" = some (some (.builtin "object.__class__"))
  hn : PySem.W.specialIn K (.builtin "object.__class__") "__get__" = some (some (.builtin "getset_descriptor.__get__"))
  htk : PySem.W.takesIn K (.builtin "object.__class__") = some true
  hm : PySem.W.mroIn K C (.type "object") = some true
  sf : PySem.W.selfFirst K C = true
  rpw : PySem.W.findIn K (.ref C) "__rpow__" = some none
  ip : ∃ o, PySem.W.findIn K (.type "int") "__pow__" = some o
  irp : ∃ o, PySem.W.findIn K (.type "int") "__rpow__" = some o
  si : PySem.W.subIn K (.type "int") (.ref C) = some false
  sb : PySem.W.subIn K (.type "bool") (.ref C) = some false
  ss : PySem.W.subIn K (.type "str") (.ref C) = some false
  sn : PySem.W.subIn K (.type "NoneType") (.ref C) = some false
  st : PySem.W.subIn K (.type "tuple") (.ref C) = some false
  sl : PySem.W.subIn K (.type "list") (.ref C) = some false
  ct : PySem.W.subIn K (.ref C) (.type "tuple") = some false
  cl : PySem.W.subIn K (.ref C) (.type "list") = some false
  kt : PySem.W.kitOne K (.type "tuple") (.ref C) = some false
  ks : PySem.W.kitOne K (.type "str") (.ref C) = some false
  ki : PySem.W.kitOne K (.type "int") (.ref C) = some false
  tb : PySem.W.findIn K (.ref C) "__bool__" = some none
  tl : PySem.W.findIn K (.ref C) "__len__" = some none
theorem ratL_ok {K : PySem.W.Frag} {C : Addr} (h : (ratL K C).all id = true) : RatF K C := by
  unfold ratL at h
  simp only [List.all_cons, List.all_nil, id, Bool.and_eq_true] at h
  obtain ⟨h1, h2, h3, h4, h5, h6, h7, h8, h9, h10, h11, h12, h13, h14, h15, h16, h17, h18, h19, h20, h21, _⟩ := h
  exact ⟨eqO_is h1, eqO_is h2, of_decide_eq_true h3, of_decide_eq_true h4, h5, eqO_is h6, soB_ok h7, soB_ok h8, of_decide_eq_true h9, of_decide_eq_true h10, of_decide_eq_true h11, of_decide_eq_true h12, of_decide_eq_true h13, of_decide_eq_true h14, of_decide_eq_true h15, of_decide_eq_true h16, of_decide_eq_true h17, of_decide_eq_true h18, of_decide_eq_true h19, eqO_is h20, eqO_is h21⟩
def primesD : List He.Dv := [.int 2, .int 3, .int 5, .int 7, .int 11, .int 13, .int 17, .int 19, .int 23, .int 29, .int 31, .int 37, .int 41, .int 43, .int 47, .int 53, .int 59, .int 61]
def tabL (K : PySem.W.Frag) : List Addr := [(He.cT K ("_law_ratio_so", none)).2, (He.cT K ("_law_ratios", none)).2, (He.cT K ("_law_refused_ratios", none)).2, (He.cT K ("_law_words", none)).2, (He.cT K ("_law_refused_words", none)).2]
structure ExH (K : PySem.W.Frag) : Prop where
  cI : clsB K "InvalidNumber" ["value"] = true
  cT : clsB K "TooMany" ["what", "count"] = true
  rat : RatF K (He.ga K "Ratio")
  gcd : PySem.W.nsIn K mainGlobals "gcd" = some (some (.builtin "math.gcd"))
  primes : He.tupB K "PRIMES" primesD = true
  kTI : PySem.W.kitOne K (.ref (He.ga K "TooMany")) (.ref (He.ga K "InvalidNumber")) = some false
  sI : PySem.W.subIn K (.ref (He.ga K "InvalidNumber")) (.type "StopIteration") = some false
  sT : PySem.W.subIn K (.ref (He.ga K "TooMany")) (.type "StopIteration") = some false
  tabs : (tabL K).Nodup
def exL (K : PySem.W.Frag) : List Bool := [clsB K "InvalidNumber" ["value"], clsB K "TooMany" ["what", "count"], (ratL K (He.ga K "Ratio")).all id, He.eqO (PySem.W.nsIn K mainGlobals "gcd") (some (some (.builtin "math.gcd"))), He.tupB K "PRIMES" primesD,
  decide (PySem.W.kitOne K (.ref (He.ga K "TooMany")) (.ref (He.ga K "InvalidNumber")) = some false), decide (PySem.W.subIn K (.ref (He.ga K "InvalidNumber")) (.type "StopIteration") = some false), decide (PySem.W.subIn K (.ref (He.ga K "TooMany")) (.type "StopIteration") = some false), decide ((tabL K).Nodup)]
def exK (K : PySem.W.Frag) : Bool := (exL K).all id
theorem exK_ok {K : PySem.W.Frag} (h : exK K = true) : ExH K := by
  unfold exK exL at h
  simp only [List.all_cons, List.all_nil, id, Bool.and_eq_true] at h
  obtain ⟨h1, h2, h3, h4, h5, h6, h7, h8, h9, _⟩ := h
  exact ⟨h1, h2, ratL_ok h3, eqO_is h4, h5, of_decide_eq_true h6, of_decide_eq_true h7, of_decide_eq_true h8, of_decide_eq_true h9⟩
abbrev iD (x q : Str) (i : Nat) : He.DefD := ⟨(x, some "__init__"), "__init__", q, defArgs (methOf (top i) 0), defBody (methOf (top i) 0), defScope (methOf (top i) 0), [], []⟩
abbrev mD (x m q : Str) (s : Stmt) (d : List He.Dv) : He.DefD := ⟨(x, some m), m, q, defArgs s, defBody s, defScope s, d, []⟩
abbrev kD (x : Str) (i : Nat) (k : List (Str × He.Dv)) : He.DefD := ⟨(x, none), x, x, defArgs (top i), defBody (top i), defScope (top i), [], k⟩
end K01
set_option Elab.async false
set_option linter.all false
set_option maxRecDepth 100000
set_option maxHeartbeats 0
namespace K01
open PySem PySem.W PySem.Calls PyProof.Rows
abbrev R : OpenRow := OpenLaw.row PySem.Challenge.rw_borderflow_k01_ratios_and_words
abbrev qv : Program := view R.prog [0, 47]
def namesA : List PySem.Str := [("BorderError" : PySem.Str), ("InvalidNumber" : PySem.Str), ("TooMany" : PySem.Str), ("is_whole" : PySem.Str), ("power_of" : PySem.Str), ("PART_DIGITS" : PySem.Str), ("number_text" : PySem.Str), ("PRIMES" : PySem.Str), ("Ratio" : PySem.Str), ("times_divided" : PySem.Str), ("count_ratio" : PySem.Str), ("MOST" : PySem.Str), ("ALL_SIGNS" : PySem.Str), ("LONGEST" : PySem.Str), ("is_number" : PySem.Str), ("is_word" : PySem.Str), ("word_index" : PySem.Str), ("word_at" : PySem.Str), ("indexed_word" : PySem.Str), ("all_words" : PySem.Str), ("_law_bag" : PySem.Str), ("_law_draw" : PySem.Str), ("_law_of" : PySem.Str), ("_law_like" : PySem.Str), ("_law_fault" : PySem.Str), ("_law_ask" : PySem.Str), ("_law_wrong" : PySem.Str), ("_law_primes" : PySem.Str), ("_law_number" : PySem.Str), ("_law_worth" : PySem.Str), ("_law_ratio_so" : PySem.Str), ("_law_sum" : PySem.Str), ("_law_drawn_ratio" : PySem.Str), ("_law_ratios" : PySem.Str), ("_law_refused_ratios" : PySem.Str), ("_law_listed" : PySem.Str), ("_law_words" : PySem.Str), ("_law_refused_words" : PySem.Str), ("_law_judged" : PySem.Str), ("_law_more_words" : PySem.Str)]
def namesB : List PySem.Str := []
def names : List PySem.Str := namesA ++ namesB
abbrev lD (x : PySem.Str) (i : Nat) : He.DefD := ⟨(x, none), x, x, L2.defArgs (top i), L2.defBody (top i), L2.defScope (top i), [], []⟩
def fnA : List He.DefD := [lD "is_whole" 6, lD "power_of" 7, lD "number_text" 10, lD "times_divided" 14, lD "count_ratio" 15, lD "is_number" 20, lD "is_word" 21, lD "word_index" 22, lD "word_at" 23, lD "indexed_word" 24, kD "all_words" 25 [("most", .int 4096)], lD "_law_bag" 27, lD "_law_draw" 28, lD "_law_of" 29, lD "_law_like" 30, lD "_law_fault" 31, lD "_law_ask" 32, lD "_law_wrong" 33, lD "_law_primes" 34, lD "_law_number" 35, lD "_law_worth" 36, lD "_law_ratio_so" 37, lD "_law_sum" 38, lD "_law_drawn_ratio" 39, lD "_law_ratios" 40]
def fnB : List He.DefD := [lD "_law_refused_ratios" 41, lD "_law_listed" 42, lD "_law_words" 43, lD "_law_refused_words" 44, lD "_law_judged" 45, lD "_law_more_words" 46, lD "law" 47]
def fnC : List He.DefD := [iD "InvalidNumber" "InvalidNumber.__init__" 3, iD "TooMany" "TooMany.__init__" 4, mD "Ratio" "__init__" "Ratio.__init__" (methOf (top 13) 0) [.int 1], mD "Ratio" "__mul__" "Ratio.__mul__" (methOf (top 13) 1) [], mD "Ratio" "__invert__" "Ratio.__invert__" (methOf (top 13) 2) [], mD "Ratio" "raised" "Ratio.raised" (methOf (top 13) 3) [], mD "Ratio" "power" "Ratio.power" (methOf (top 13) 5) [], mD "Ratio" "__pow__" "Ratio.__pow__" (methOf (top 13) 4) [], mD "Ratio" "__eq__" "Ratio.__eq__" (methOf (top 13) 6) [], mD "Ratio" "__str__" "Ratio.__str__" (methOf (top 13) 7) [], mD "Ratio" "__repr__" "Ratio.__repr__" (methOf (top 13) 8) []]
def fn : List He.DefD := fnA ++ (fnB ++ fnC)
def faA : List He.Fa := [.glo "PRIMES", .glo "Ratio", .glo "BorderError", .glo "InvalidNumber", .glo "TooMany", .glo "is_whole", .glo "power_of", .glo "number_text", .glo "times_divided", .glo "count_ratio", .glo "is_number", .glo "is_word", .glo "word_index", .glo "word_at", .glo "indexed_word", .glo "all_words", .glo "_law_bag", .glo "_law_draw", .glo "_law_of", .glo "_law_like", .glo "_law_fault", .glo "_law_ask", .glo "_law_wrong", .glo "_law_primes", .glo "_law_number", .glo "_law_worth", .glo "_law_ratio_so", .glo "_law_sum", .glo "_law_drawn_ratio", .glo "_law_ratios", .glo "_law_refused_ratios", .glo "_law_listed", .glo "_law_words", .glo "_law_refused_words", .glo "_law_judged", .glo "_law_more_words", .glo "law"]
def faB : List He.Fa := [.int "ALL_SIGNS" 64, .int "LONGEST" 99, .int "MOST" 4096, .int "PART_DIGITS" 64, .free "NotImplemented", .free "abs", .free "all", .free "bool", .free "divmod", .free "int", .free "isinstance", .free "len", .free "list", .free "max", .free "min", .free "range", .free "repr", .free "str", .free "tuple", .free "zip", .cls "Ratio", .noat "Ratio" "top", .noat "Ratio" "bottom", .mkr "Ratio", .meth "Ratio" "__mul__", .meth "Ratio" "__invert__", .meth "Ratio" "raised", .meth "Ratio" "power", .meth "Ratio" "__pow__", .meth "Ratio" "__eq__", .meth "Ratio" "__str__", .meth "Ratio" "__repr__", .exm "InvalidNumber" "BorderError" true, .exm "TooMany" "BorderError" true]
def fa : List He.Fa := faA ++ faB
def tf : List He.Defn := [("_law_ratio_so", none), ("_law_ratios", none), ("_law_refused_ratios", none), ("_law_words", none), ("_law_refused_words", none)]
abbrev hk : PySem.W.Hook := He.hookX 4 fa fn [] tf exK
def ob (s : PySem.W.SharedT) : He.AlX := He.obsX 4 fa fn [] tf exK (HandSHeadRun.getT s)
theorem ob_eq (s : PySem.W.SharedT) : ob s = hk.obs s.abs := He.obsX_eq (HandSHeadRun.getT_eq s)
theorem join3 {α β γ δ : Type} {m : Option α} {f : α → β} {g : α → γ} {h : α → δ} {a : β} {b : γ} {c : δ} (x : m.map f = some a) (y : m.map g = some b) (z : m.map h = some c) : m.map (fun x => (f x, g x, h x)) = some (a, b, c) := by
  cases m with
  | none => cases x
  | some v =>
    injection x with x
    injection y with y
    injection z with z
    rw [← x, ← y, ← z]
    rfl
theorem lookF (w : World) : (HandSHeadRun.wholeF (fun p => HandSHeadRun.stepQ (HandSHeadRun.denQ HandSHeadRun.tabQ) p (w.withFollow "special-get-raises" false)) HandSHeadRun.fenceQ 12000 R.prog).map (fun x => HandSHeadRun.looksF R.prog x.1.heap x.2.abs) = some (true) := by
  kernel_rfl
theorem seenF (w : World) : (HandSHeadRun.wholeF (fun p => HandSHeadRun.stepQ (HandSHeadRun.denQ HandSHeadRun.tabQ) p (w.withFollow "special-get-raises" false)) HandSHeadRun.fenceQ 12000 R.prog).map (fun x => HandSHeadRun.seenQ qv names (importedModules R.prog.main.body) (fun s => xlAt qv [] s && recOk R.toRowW.records s) x.2.abs) = some (openGood qv names) := by
  kernel_rfl
theorem obsF (w : World) : (HandSHeadRun.wholeF (fun p => HandSHeadRun.stepQ (HandSHeadRun.denQ HandSHeadRun.tabQ) p (w.withFollow "special-get-raises" false)) HandSHeadRun.fenceQ 12000 R.prog).map (fun x => ob x.2) = some (hk.val (w.withFollow "special-get-raises" false)) := by
  kernel_rfl
theorem runF (w : World) : HandSHeadRun.RunEqI R qv hk ob 12000 names (w.withFollow "special-get-raises" false) := by
  unfold HandSHeadRun.RunEqI
  exact join3 (lookF w) (seenF w) (obsF w)
theorem lookT (w : World) : (HandSHeadRun.wholeF (fun p => HandSHeadRun.stepQ (HandSHeadRun.denQ HandSHeadRun.tabQ) p (w.withFollow "special-get-raises" true)) HandSHeadRun.fenceQ 12000 R.prog).map (fun x => HandSHeadRun.looksF R.prog x.1.heap x.2.abs) = some (true) := by
  kernel_rfl
theorem seenT (w : World) : (HandSHeadRun.wholeF (fun p => HandSHeadRun.stepQ (HandSHeadRun.denQ HandSHeadRun.tabQ) p (w.withFollow "special-get-raises" true)) HandSHeadRun.fenceQ 12000 R.prog).map (fun x => HandSHeadRun.seenQ qv names (importedModules R.prog.main.body) (fun s => xlAt qv [] s && recOk R.toRowW.records s) x.2.abs) = some (openGood qv names) := by
  kernel_rfl
theorem obsT (w : World) : (HandSHeadRun.wholeF (fun p => HandSHeadRun.stepQ (HandSHeadRun.denQ HandSHeadRun.tabQ) p (w.withFollow "special-get-raises" true)) HandSHeadRun.fenceQ 12000 R.prog).map (fun x => ob x.2) = some (hk.val (w.withFollow "special-get-raises" true)) := by
  kernel_rfl
theorem runT (w : World) : HandSHeadRun.RunEqI R qv hk ob 12000 names (w.withFollow "special-get-raises" true) := by
  unfold HandSHeadRun.RunEqI
  exact join3 (lookT w) (seenT w) (obsT w)
theorem run (w : World) : HandSHeadRun.RunEqI R qv hk ob 12000 names w := byRow2 "special-get-raises" (P := fun w => HandSHeadRun.RunEqI R qv hk ob 12000 names w) runF runT w
end K01
set_option Elab.async false
set_option linter.all false
set_option maxRecDepth 100000
set_option maxHeartbeats 4000000
namespace K01
open PySem PySem.Spec PyProof.Rows L2
/-! ### two values that are alike -/
/-- None, a bool, an int, a text -/
inductive Sc : V → Prop
  | non : Sc .non
  | bl (x : Bool) : Sc (.bl x)
  | int (i : Int) : Sc (.int i)
  | str (x : Str) : Sc (.str x)
/-- alike to the depth n, none of it where N holds -/
def Alk (K : PySem.W.Frag) (N : Addr → Prop) (H : Hp) : Nat → V → V → Prop
  | 0 => fun x y => Sc x ∧ x = y
  | n + 1 => fun x y => (Sc x ∧ x = y) ∨ ∃ (p q : Addr) (xs ys : List V), x = .ref p ∧ y = .ref q ∧ ¬ N p ∧ ¬ N q ∧ ((H p = some (.lst xs) ∧ H q = some (.lst ys)) ∨ (SqT K H p xs ∧ SqT K H q ys)) ∧ xs.length = ys.length ∧ xs.length ≤ 1000 ∧
      ∀ (i : Nat) (u v : V), xs[i]? = some u → ys[i]? = some v → Alk K N H n u v
section
variable {K : PySem.W.Frag} {N M : Addr → Prop} {H H' : Hp}
theorem sqT_to {a : Addr} {xs : List V} (h : SqT K H a xs) (d : ∀ o, H a = some o → H' a = some o) : SqT K H' a xs := by
  rcases h with (h | ⟨o, h⟩) | h
  · exact .inl (.inl (d _ h))
  · exact .inl (.inr ⟨o, d _ h⟩)
  · exact .inr h
theorem same_T {a : Addr} {xs : List V} (s : Same H H') (h : SqT K H a xs) : SqT K H' a xs := sqT_to h fun o e => s _ _ e
theorem tyT {a : Addr} {xs : List V} (h : SqT K H a xs) : TyX K H (.ref a) (.type "tuple") := by
  rcases h with (h | ⟨o, h⟩) | ⟨o, its, n, h, c, _⟩
  · exact .base (.tup h)
  · exact .fTuple h
  · exact .kTuple h c
theorem Alk.split {n : Nat} {x y : V} (h : Alk K N H n x y) : (Sc x ∧ x = y) ∨ ∃ (m : Nat) (p q : Addr) (xs ys : List V), n = m + 1 ∧ x = .ref p ∧ y = .ref q ∧ ¬ N p ∧ ¬ N q ∧ ((H p = some (.lst xs) ∧ H q = some (.lst ys)) ∨ (SqT K H p xs ∧ SqT K H q ys)) ∧ xs.length = ys.length ∧ xs.length ≤ 1000 ∧
      ∀ (i : Nat) (u v : V), xs[i]? = some u → ys[i]? = some v → Alk K N H m u v := by
  cases n with
  | zero => exact .inl h
  | succ m =>
    rcases h with h | ⟨p, q, xs, ys, r⟩
    · exact .inl h
    · exact .inr ⟨m, p, q, xs, ys, rfl, r⟩
theorem Alk.sc {n : Nat} {x : V} (h : Sc x) : Alk K N H n x x := by
  cases n with
  | zero => exact ⟨h, rfl⟩
  | succ m => exact .inl ⟨h, rfl⟩
theorem Alk.up : ∀ {n : Nat} {x y : V}, Alk K N H n x y → Alk K N H (n + 1) x y
  | 0, _, _, h => .inl h
  | n + 1, _, _, h => by
    rcases h with h | ⟨p, q, xs, ys, e1, e2, n1, n2, e3, e4, e5, e6⟩
    · exact .inl h
    · exact .inr ⟨p, q, xs, ys, e1, e2, n1, n2, e3, e4, e5, fun i u v hu hv => (e6 i u v hu hv).up⟩
theorem Alk.mono {m n : Nat} {x y : V} (h : Alk K N H m x y) (le : m ≤ n) : Alk K N H n x y := by
  induction le with
  | refl => exact h
  | step _ ih => exact ih.up
/-- fewer forbidden places; the heap may change at forbidden ones -/
theorem Alk.to (s : ∀ a, M a → N a) (d : ∀ a o, ¬ N a → H a = some o → H' a = some o) : ∀ {n : Nat} {x y : V}, Alk K N H n x y → Alk K M H' n x y
  | 0, _, _, h => h
  | n + 1, _, _, h => by
    rcases h with h | ⟨p, q, xs, ys, e1, e2, n1, n2, e3, e4, e5, e6⟩
    · exact .inl h
    · refine .inr ⟨p, q, xs, ys, e1, e2, fun z => n1 (s _ z), fun z => n2 (s _ z), ?_, e4, e5, fun i u v hu hv => (e6 i u v hu hv).to s d⟩
      rcases e3 with ⟨h1, h2⟩ | ⟨h1, h2⟩
      · exact .inl ⟨d _ _ n1 h1, d _ _ n2 h2⟩
      · exact .inr ⟨sqT_to h1 fun o e => d _ _ n1 e, sqT_to h2 fun o e => d _ _ n2 e⟩
theorem Alk.same (d : Same H H') {n : Nat} {x y : V} (h : Alk K N H n x y) : Alk K N H' n x y := h.to (fun _ z => z) fun a o _ e => d a o e
theorem Alk.drew {b : Addr} (d : ∀ a o, a ≠ b → H a = some o → H' a = some o) (hb : N b) {n : Nat} {x y : V} (h : Alk K N H n x y) : Alk K N H' n x y := h.to (fun _ z => z) fun a o n e => d a o (fun z => n (z ▸ hb)) e
end
theorem kitP {K : PySem.W.Frag} {a b : String} {r : Bool} (h : kitB a b = some r) : PySem.W.kitOne K (.type a) (.type b) = some r := kit_ty h
/-- isinstance(x, (list, tuple)) by the type's name -/
theorem kitLT {K : PySem.W.Frag} {a : String} {r s : Bool} (h : kitB a "list" = some r) (h2 : kitB a "tuple" = some s) : PySem.W.kitAny K (.type a) [.type "list", .type "tuple"] = some (r || s) :=
  kitAny_cons (kit_ty h) (fun e => kitAny_cons (kit_ty h2) (fun e2 => by rw [e, e2]; exact kitAny_nil) (fun e2 => by rw [e, e2] <;> rfl)) (fun e => by rw [e] <;> rfl)
theorem yes_of {σ : L2.St} {H : Hp} {Q : Bool → Hp → Prop} (h : Q true H) : tYes σ H Q := h
theorem lt2 : Paired ClsV [V.ty "list", V.ty "tuple"] [Value.type "list", Value.type "tuple"] := .cons (.ty _) (.cons (.ty _) .nil)
theorem walk_zipT {K : PySem.W.Frag} {a b : Addr} {xs ys : List V} (hn : xs.length = ys.length) : Walk (RZ.ItzT K a b) xs.length (fun H => SqT K H a xs ∧ SqT K H b ys) (YPair (fun i => xs[i]?) (fun i => ys[i]?)) where
  goes := fun i H hi h => ⟨xs, ys, xs[i], ys[i]'(hn ▸ hi), h.1, h.2, List.getElem?_eq_getElem hi, List.getElem?_eq_getElem (hn ▸ hi)⟩
  stops := fun H h => ⟨xs, ys, h.1, h.2, .inl (Nat.le_refl _)⟩
  yields := fun i H x H' _ h y => by
    obtain ⟨T, u, v, e1, e2, e3, e4, e5⟩ := y
    exact ⟨T, u, v, e1, e2, e3, e4 _ h.1, e5 _ h.2⟩
section
variable {P : Program} {w : World} {K : PySem.W.Frag} {mg : Str → Option Value} {base : Heap}
def spLike (K : PySem.W.Frag) (N : Addr → Prop) (n : Nat) : Sp := fun vs H Q _ => ∃ x y : V, vs = [x, y] ∧ Alk K N H n x y ∧ ∀ H', Same H H' → Q (.bl true) H'
theorem sc_like : FnScope ["_law_found", "_law_due", "_law_a", "_law_b"] ["_law_found", "_law_due"] (defScope (top 30)) := ⟨rfl, rfl, rfl, by decide +kernel, rfl, by decide +kernel, by decide +kernel⟩
structure Like (mg : Str → Option Value) : Prop where
  isi : mg "isinstance" = none
  list : mg "list" = none
  tuple : mg "tuple" = none
  len : mg "len" = none
  all : mg "all" = none
  zip : mg "zip" = none
  bool : mg "bool" = none
  str : mg "str" = none
  int : mg "int" = none
theorem ok_like_step {f : Addr} {fd : FuncData} {N : Addr → Prop} {n j : Nat} {sp : Sp} (F : FnP K "_law_like" (top 30) f fd) (T : Like mg) (c__law_like : Cal P w K mg base CX0 "_law_like" j ["_law_found", "_law_due"] sp)
    (hsp : ∀ m, n = m + 1 → sp = spLike K N m) : FnOk P w K mg base CX0 (j + 1) f fd ["_law_found", "_law_due"] (spLike K N n) := by
  have sc := sc_like
  obtain ⟨m_isinstance, m_list, m_tuple, m_len, m_all, m_zip, m_bool, m_str, m_int⟩ := T
  refine F.ok sc (fun vs H Q E h => ?_) (fun cdv A outer s H vs Q E hr h => ?_)
  · obtain ⟨x, y, rfl, _⟩ := h
    rfl
  · obtain ⟨x, y, rfl, hA, k⟩ := h
    have hr__law_like : Room j _ := hr
    refine ⟨_, PSs.nox (pss_cons (ps_if (pt_val (pe_callB call_isiT (by rfl) m_isinstance (by decide +kernel) (pa_cons (pv 1) (pa_cons (pe_tup (pa_cons (pe_bltn (v := .ty "list") rfl m_list boot_list rfl) (pa_cons (pe_bltn (v := .ty "tuple") rfl m_tuple boot_tuple rfl) pa_nil))) pa_nil)))) (pss_cons (ps_if (PW.pt (pw_or (pt_cmpR op_ne (pe_callB call_isi (by rfl) m_isinstance (by decide +kernel) (pa_cons (pv 0) (pa_cons (pe_bltn (v := .ty "list") rfl m_list boot_list rfl) pa_nil))) (pe_callB call_isi (by rfl) m_isinstance (by decide +kernel) (pa_cons (pv 1) (pa_cons (pe_bltn (v := .ty "list") rfl m_list boot_list rfl) pa_nil))) (nomark _)) (pw_or1 (pt_cmpR op_ne (pe_callB call_isi (by rfl) m_isinstance (by decide +kernel) (pa_cons (pv 0) (pa_cons (pe_bltn (v := .ty "tuple") rfl m_tuple boot_tuple rfl) pa_nil))) (pe_callB call_isi (by rfl) m_isinstance (by decide +kernel) (pa_cons (pv 1) (pa_cons (pe_bltn (v := .ty "tuple") rfl m_tuple boot_tuple rfl) pa_nil))) (nomark _))))) (pss_one (ps_ret pe_bl)) pss_nil)
      (pss_one (ps_ret (pe_and (pe_cmpR op_eq (pe_callB call_len_seq (by rfl) m_len (by decide +kernel) (pa_cons (pv 0) pa_nil)) (pe_callB call_len_seq (by rfl) m_len (by decide +kernel) (pa_cons (pv 1) pa_nil)) (nomark _)) (pe_one (pe_callB (cr_all rfl) (by rfl) m_all (by decide +kernel) (pa_cons (pe_lc (own := [("_law_a", 2), ("_law_b", 3)]) (g := gTup _ 2 (gCons (gName 2) (gCons (gName 3) gNil))) rfl sc.nd (RZ.pi_zipA rfl m_zip (pa_cons (pv 0) (pa_cons (pv 1) pa_nil))) (blkOk_by (N := ["_law_found", "_law_due", "_law_a", "_law_b"]) (sc := defScope (top 30)) (by decide +kernel)) (fun _ _ _ _ _ => (pg_tup rfl (pgs_cons (pg_name (i := 2) sc.nd rfl (Or.inl rfl)) (pgs_cons (pg_name (i := 3) sc.nd rfl (Or.inl rfl)) pgs_nil)))) (fun _ _ _ _ _ => pts_nil) (fun _ _ _ _ _ => (pe_cal c__law_like hr__law_like rfl (pa_cons (pv 2) (pa_cons (pv 3) pa_nil))))) pa_nil))))))) pss_nil)
      (pss_cons (ps_if (PW.pt (pw_or (pt_cmp (pc_isN (pv 1))) (pw_or1 (pt_cmp (pc_isN (pv 0)))))) (pss_one (ps_ret (pe_and (pe_cmp (pc_isN (pv 1))) (pe_one (pe_cmp (pc_isN (pv 0))))))) pss_nil)
      (pss_cons (ps_if (PW.pt (pw_or (pt_val (pe_callB call_isiT (by rfl) m_isinstance (by decide +kernel) (pa_cons (pv 0) (pa_cons (pe_tup (pa_cons (pe_bltn (v := .ty "list") rfl m_list boot_list rfl) (pa_cons (pe_bltn (v := .ty "tuple") rfl m_tuple boot_tuple rfl) pa_nil))) pa_nil)))) (pw_or1 (pt_cmpR op_ne (pe_callB call_isi (by rfl) m_isinstance (by decide +kernel) (pa_cons (pv 0) (pa_cons (pe_bltn (v := .ty "bool") rfl m_bool boot_bool rfl) pa_nil))) (pe_callB call_isi (by rfl) m_isinstance (by decide +kernel) (pa_cons (pv 1) (pa_cons (pe_bltn (v := .ty "bool") rfl m_bool boot_bool rfl) pa_nil))) (nomark _))))) (pss_one (ps_ret pe_bl)) pss_nil)
      (pss_cons (ps_if (PW.pt (pw_or (pt_cmpR op_ne (pe_callB call_isi (by rfl) m_isinstance (by decide +kernel) (pa_cons (pv 0) (pa_cons (pe_bltn (v := .ty "str") rfl m_str boot_str rfl) pa_nil))) (pe_callB call_isi (by rfl) m_isinstance (by decide +kernel) (pa_cons (pv 1) (pa_cons (pe_bltn (v := .ty "str") rfl m_str boot_str rfl) pa_nil))) (nomark _)) (pw_or1 (pt_cmpR op_ne (pe_callB call_isi (by rfl) m_isinstance (by decide +kernel) (pa_cons (pv 0) (pa_cons (pe_bltn (v := .ty "int") rfl m_int boot_int rfl) pa_nil))) (pe_callB call_isi (by rfl) m_isinstance (by decide +kernel) (pa_cons (pv 1) (pa_cons (pe_bltn (v := .ty "int") rfl m_int boot_int rfl) pa_nil))) (nomark _))))) (pss_one (ps_ret pe_bl)) pss_nil)
      (pss_one (ps_ret (pe_cmpR op_eq (pv 0) (pv 1) (nomark _)))))))), ?_⟩
    rcases hA.split with ⟨hs, rfl⟩ | ⟨m, p, q, xs, ys, rfl, rfl, rfl, np, nq, ho, hlen, h1000, hall⟩
    · cases hs with
      | non =>
        refine ⟨_, rfl, (by show 2 ≤ sizeLine; decide), fun t1 ht1 => ⟨_, t1, _, _, _, _, rfl, upd_same, lt2, .base .non, kitLT (r := false) (s := false) (by decide +kernel) (by decide +kernel), _, rfl, iteF ?_⟩⟩
        refine ⟨_, rfl, _, rfl, ite2 (fun _ => ?_) (fun e => absurd rfl e)⟩
        refine ⟨_, rfl, _, rfl, ite2 (fun _ => ?_) (fun e => absurd rfl e)⟩
        refine ⟨_, rfl, ?_⟩
        exact k _ (Same.new ht1)
      | bl z =>
        refine ⟨_, rfl, (by show 2 ≤ sizeLine; decide), fun t1 ht1 => ⟨_, t1, _, _, _, _, rfl, upd_same, lt2, .base (.bl _), kitLT (r := false) (s := false) (by decide +kernel) (by decide +kernel), _, rfl, iteF ?_⟩⟩
        refine ⟨_, rfl, _, rfl, ite2 (fun e => absurd e (by simp)) (fun _ => ?_)⟩
        refine ⟨_, rfl, _, rfl, ite2 (fun e => absurd e (by simp)) (fun _ => ?_)⟩
        refine ⟨_, rfl, (by show 2 ≤ sizeLine; decide), fun t2 ht2 => ⟨_, t2, _, _, _, _, rfl, upd_same, lt2, .base (.bl _), kitLT (r := false) (s := false) (by decide +kernel) (by decide +kernel), _, rfl, iteF ?_⟩⟩
        refine ⟨_, rfl, _, _, _, _, _, rfl, .ty _, .base (.bl _), kit_ty (r := true) (by decide +kernel), _, rfl, _, _, _, _, _, rfl, .ty _, .base (.bl _), kit_ty (r := true) (by decide +kernel), rfl, _, rfl, ite2 (fun e => absurd e (by simp)) (fun _ => ?_)⟩
        refine ⟨_, rfl, _, _, _, _, _, rfl, .ty _, .base (.bl _), kit_ty (r := false) (by decide +kernel), _, rfl, _, _, _, _, _, rfl, .ty _, .base (.bl _), kit_ty (r := false) (by decide +kernel), rfl, _, rfl, ite2 (fun e => absurd e (by simp)) (fun _ => ?_)⟩
        refine ⟨_, rfl, _, _, _, _, _, rfl, .ty _, .base (.bl _), kit_ty (r := true) (by decide +kernel), _, rfl, _, _, _, _, _, rfl, .ty _, .base (.bl _), kit_ty (r := true) (by decide +kernel), rfl, _, rfl, ite2 (fun e => absurd e (by simp)) (fun _ => ?_)⟩
        refine ⟨_, rfl, _, rfl, rfl, ?_⟩
        show Q (V.bl (decide (_ = _))) _
        rw [decide_eq_true rfl]
        exact k _ ((Same.new ht1).trans (Same.new ht2))
      | int z =>
        refine ⟨_, rfl, (by show 2 ≤ sizeLine; decide), fun t1 ht1 => ⟨_, t1, _, _, _, _, rfl, upd_same, lt2, .base (.int _), kitLT (r := false) (s := false) (by decide +kernel) (by decide +kernel), _, rfl, iteF ?_⟩⟩
        refine ⟨_, rfl, _, rfl, ite2 (fun e => absurd e (by simp)) (fun _ => ?_)⟩
        refine ⟨_, rfl, _, rfl, ite2 (fun e => absurd e (by simp)) (fun _ => ?_)⟩
        refine ⟨_, rfl, (by show 2 ≤ sizeLine; decide), fun t2 ht2 => ⟨_, t2, _, _, _, _, rfl, upd_same, lt2, .base (.int _), kitLT (r := false) (s := false) (by decide +kernel) (by decide +kernel), _, rfl, iteF ?_⟩⟩
        refine ⟨_, rfl, _, _, _, _, _, rfl, .ty _, .base (.int _), kit_ty (r := false) (by decide +kernel), _, rfl, _, _, _, _, _, rfl, .ty _, .base (.int _), kit_ty (r := false) (by decide +kernel), rfl, _, rfl, ite2 (fun e => absurd e (by simp)) (fun _ => ?_)⟩
        refine ⟨_, rfl, _, _, _, _, _, rfl, .ty _, .base (.int _), kit_ty (r := false) (by decide +kernel), _, rfl, _, _, _, _, _, rfl, .ty _, .base (.int _), kit_ty (r := false) (by decide +kernel), rfl, _, rfl, ite2 (fun e => absurd e (by simp)) (fun _ => ?_)⟩
        refine ⟨_, rfl, _, _, _, _, _, rfl, .ty _, .base (.int _), kit_ty (r := true) (by decide +kernel), _, rfl, _, _, _, _, _, rfl, .ty _, .base (.int _), kit_ty (r := true) (by decide +kernel), rfl, _, rfl, ite2 (fun e => absurd e (by simp)) (fun _ => ?_)⟩
        refine ⟨_, rfl, _, rfl, rfl, ?_⟩
        show Q (V.bl (decide (_ = _))) _
        rw [decide_eq_true rfl]
        exact k _ ((Same.new ht1).trans (Same.new ht2))
      | str z =>
        refine ⟨_, rfl, (by show 2 ≤ sizeLine; decide), fun t1 ht1 => ⟨_, t1, _, _, _, _, rfl, upd_same, lt2, .base (.str _), kitLT (r := false) (s := false) (by decide +kernel) (by decide +kernel), _, rfl, iteF ?_⟩⟩
        refine ⟨_, rfl, _, rfl, ite2 (fun e => absurd e (by simp)) (fun _ => ?_)⟩
        refine ⟨_, rfl, _, rfl, ite2 (fun e => absurd e (by simp)) (fun _ => ?_)⟩
        refine ⟨_, rfl, (by show 2 ≤ sizeLine; decide), fun t2 ht2 => ⟨_, t2, _, _, _, _, rfl, upd_same, lt2, .base (.str _), kitLT (r := false) (s := false) (by decide +kernel) (by decide +kernel), _, rfl, iteF ?_⟩⟩
        refine ⟨_, rfl, _, _, _, _, _, rfl, .ty _, .base (.str _), kit_ty (r := false) (by decide +kernel), _, rfl, _, _, _, _, _, rfl, .ty _, .base (.str _), kit_ty (r := false) (by decide +kernel), rfl, _, rfl, ite2 (fun e => absurd e (by simp)) (fun _ => ?_)⟩
        refine ⟨_, rfl, _, _, _, _, _, rfl, .ty _, .base (.str _), kit_ty (r := true) (by decide +kernel), _, rfl, _, _, _, _, _, rfl, .ty _, .base (.str _), kit_ty (r := true) (by decide +kernel), rfl, _, rfl, ite2 (fun e => absurd e (by simp)) (fun _ => ?_)⟩
        refine ⟨_, rfl, _, _, _, _, _, rfl, .ty _, .base (.str _), kit_ty (r := false) (by decide +kernel), _, rfl, _, _, _, _, _, rfl, .ty _, .base (.str _), kit_ty (r := false) (by decide +kernel), rfl, _, rfl, ite2 (fun e => absurd e (by simp)) (fun _ => ?_)⟩
        refine ⟨_, rfl, _, rfl, rfl, ?_⟩
        show Q (V.bl (decide (_ = _))) _
        rw [decide_eq_true rfl]
        exact k _ ((Same.new ht1).trans (Same.new ht2))
    · rcases ho with ⟨hp, hq⟩ | ⟨hp, hq⟩
      · have e := hsp m rfl
        subst e
        refine ⟨_, rfl, (by show 2 ≤ sizeLine; decide), fun t1 ht1 => ?_⟩
        have s1 : Same H (upd H t1 (.tup [.ty "list", .ty "tuple"])) := Same.new ht1
        refine ⟨_, t1, _, _, _, _, rfl, upd_same, lt2, .base (.lst (s1 _ _ hq)), kitLT (r := true) (s := false) (by decide +kernel) (by decide +kernel), _, rfl, iteT ?_⟩
        refine ⟨_, rfl, _, _, _, _, _, rfl, .ty _, .base (.lst (s1 _ _ hp)), kit_ty (r := true) (by decide +kernel), _, rfl, _, _, _, _, _, rfl, .ty _, .base (.lst (s1 _ _ hq)), kit_ty (r := true) (by decide +kernel), rfl, _, rfl, ite2 (fun e => absurd e (by simp)) (fun _ => ?_)⟩
        refine ⟨_, rfl, _, _, _, _, _, rfl, .ty _, .base (.lst (s1 _ _ hp)), kit_ty (r := false) (by decide +kernel), _, rfl, _, _, _, _, _, rfl, .ty _, .base (.lst (s1 _ _ hq)), kit_ty (r := false) (by decide +kernel), rfl, _, rfl, ite2 (fun e => absurd e (by simp)) (fun _ => ?_)⟩
        refine ⟨_, rfl, p, _, rfl, .inl (SqL.of (s1 _ _ hp)), _, rfl, q, _, rfl, .inl (SqL.of (s1 _ _ hq)), rfl, _, rfl, ite2 (fun _ => ?_) (fun e => absurd (decide_eq_true (by rw [hlen])) e)⟩
        refine ⟨_, rfl, _, rfl, p, q, xs, ys, rfl, .inl ⟨SqL.of (s1 _ _ hp), SqL.of (s1 _ _ hq), fun D hD => ?_⟩⟩
        refine lc_it (walk_zip (xs := xs) (ys := ys) (n := xs.length) (by rw [hlen, Nat.min_self])) (fun i H' => (∀ a o, a ≠ D → upd H t1 (.tup [.ty "list", .ty "tuple"]) a = some o → H' a = some o) ∧ H' D = some (.lst ((List.replicate i true).map V.bl))) ⟨fun a o n e => by rw [upd_ne n]; exact e, upd_same⟩ (fun i H' _ h => ?_) ?_ ?_
        · exact ⟨SqL.of (h.1 _ _ (ne_of_none (s1 _ _ hp) hD) (s1 _ _ hp)), SqL.of (h.1 _ _ (ne_of_none (s1 _ _ hq) hD) (s1 _ _ hq))⟩
        · rintro i x H' Hn hi ⟨h1, h2⟩ ⟨T, u, v, rfl, hT, rfl, hu, hv⟩
          have s2 : Same H' (upd H' T (.tup [u, v])) := Same.new hT
          have nDT : D ≠ T := ne_of_none h2 hT
          have tot : ∀ a o, a ≠ D → upd H t1 (.tup [.ty "list", .ty "tuple"]) a = some o → upd H' T (.tup [u, v]) a = some o := fun a o n e => s2 _ _ (h1 a o n e)
          have hal : Alk K N (upd H' T (.tup [u, v])) m u v := by
            have z := hall i u v hu hv
            refine z.same fun a o e => tot a o (ne_of_none (s1 _ _ e) hD) (s1 _ _ e)
          refine ⟨T, [u, v], rfl, SqT.of upd_same, rfl, u, [v], rfl, v, [], rfl, rfl, rfl, ?_⟩
          refine yes_of (iteT ?_)
          refine ⟨_, rfl, _, rfl, u, v, rfl, hal, fun H3 s3 => ?_⟩
          have h3 : H3 D = some (.lst ((List.replicate i true).map V.bl)) := s3 _ _ (s2 _ _ h2)
          refine ⟨_, h3, ?_, ?_, ?_⟩
          · rw [List.length_map, List.length_replicate]
            exact small1000 (by omega)
          · intro a o n e
            rw [upd_ne n]
            exact s3 _ _ (tot a o n e)
          · rw [upd_same, List.replicate_succ', List.map_append]
            rfl
        · rintro H' ⟨h1, h2⟩
          refine ⟨D, _, rfl, SqL.of h2, ?_⟩
          have e : (List.replicate xs.length true).all id = true := by simp
          rw [e]
          exact k _ fun a o z => h1 a o (ne_of_none (s1 _ _ z) hD) (s1 _ _ z)
      · have e := hsp m rfl
        subst e
        refine ⟨_, rfl, (by show 2 ≤ sizeLine; decide), fun t1 ht1 => ?_⟩
        have s1 : Same H (upd H t1 (.tup [.ty "list", .ty "tuple"])) := Same.new ht1
        refine ⟨_, t1, _, _, _, _, rfl, upd_same, lt2, (tyT (same_T s1 hq)), kitLT (r := false) (s := true) (by decide +kernel) (by decide +kernel), _, rfl, iteT ?_⟩
        refine ⟨_, rfl, _, _, _, _, _, rfl, .ty _, (tyT (same_T s1 hp)), kit_ty (r := false) (by decide +kernel), _, rfl, _, _, _, _, _, rfl, .ty _, (tyT (same_T s1 hq)), kit_ty (r := false) (by decide +kernel), rfl, _, rfl, ite2 (fun e => absurd e (by simp)) (fun _ => ?_)⟩
        refine ⟨_, rfl, _, _, _, _, _, rfl, .ty _, (tyT (same_T s1 hp)), kit_ty (r := true) (by decide +kernel), _, rfl, _, _, _, _, _, rfl, .ty _, (tyT (same_T s1 hq)), kit_ty (r := true) (by decide +kernel), rfl, _, rfl, ite2 (fun e => absurd e (by simp)) (fun _ => ?_)⟩
        refine ⟨_, rfl, p, _, rfl, .inr (same_T s1 hp), _, rfl, q, _, rfl, .inr (same_T s1 hq), rfl, _, rfl, ite2 (fun _ => ?_) (fun e => absurd (decide_eq_true (by rw [hlen])) e)⟩
        refine ⟨_, rfl, _, rfl, p, q, xs, ys, rfl, .inr ⟨same_T s1 hp, same_T s1 hq, fun D hD => ?_⟩⟩
        refine lc_it (walk_zipT hlen) (fun i H' => (∀ a o, a ≠ D → upd H t1 (.tup [.ty "list", .ty "tuple"]) a = some o → H' a = some o) ∧ H' D = some (.lst ((List.replicate i true).map V.bl))) ⟨fun a o n e => by rw [upd_ne n]; exact e, upd_same⟩ (fun i H' _ h => ?_) ?_ ?_
        · exact ⟨sqT_to (same_T s1 hp) fun o e => h.1 _ _ (ne_of_none e hD) e, sqT_to (same_T s1 hq) fun o e => h.1 _ _ (ne_of_none e hD) e⟩
        · rintro i x H' Hn hi ⟨h1, h2⟩ ⟨T, u, v, rfl, hT, rfl, hu, hv⟩
          have s2 : Same H' (upd H' T (.tup [u, v])) := Same.new hT
          have nDT : D ≠ T := ne_of_none h2 hT
          have tot : ∀ a o, a ≠ D → upd H t1 (.tup [.ty "list", .ty "tuple"]) a = some o → upd H' T (.tup [u, v]) a = some o := fun a o n e => s2 _ _ (h1 a o n e)
          have hal : Alk K N (upd H' T (.tup [u, v])) m u v := by
            have z := hall i u v hu hv
            refine z.same fun a o e => tot a o (ne_of_none (s1 _ _ e) hD) (s1 _ _ e)
          refine ⟨T, [u, v], rfl, SqT.of upd_same, rfl, u, [v], rfl, v, [], rfl, rfl, rfl, ?_⟩
          refine yes_of (iteT ?_)
          refine ⟨_, rfl, _, rfl, u, v, rfl, hal, fun H3 s3 => ?_⟩
          have h3 : H3 D = some (.lst ((List.replicate i true).map V.bl)) := s3 _ _ (s2 _ _ h2)
          refine ⟨_, h3, ?_, ?_, ?_⟩
          · rw [List.length_map, List.length_replicate]
            exact small1000 (by omega)
          · intro a o n e
            rw [upd_ne n]
            exact s3 _ _ (tot a o n e)
          · rw [upd_same, List.replicate_succ', List.map_append]
            rfl
        · rintro H' ⟨h1, h2⟩
          refine ⟨D, _, rfl, SqL.of h2, ?_⟩
          have e : (List.replicate xs.length true).all id = true := by simp
          rw [e]
          exact k _ fun a o z => h1 a o (ne_of_none (s1 _ _ z) hD) (s1 _ _ z)
/-- the def keeps it at each depth -/
theorem cal_like {f : Addr} {fd : FuncData} {N : Addr → Prop} (F : FnP K "_law_like" (top 30) f fd) (T : Like mg) (g : mg "_law_like" = some (.ref f)) (bd : Binds K fd ["_law_found", "_law_due"] []) : ∀ n : Nat, Cal P w K mg base CX0 "_law_like" (n + 1) ["_law_found", "_law_due"] (spLike K N n)
  | 0 => ⟨f, fd, ok_like_step (sp := fun _ _ _ _ => False) F T ⟨f, fd, ⟨fun _ _ _ _ h => h.elim, fun _ _ _ _ _ _ _ _ _ _ _ _ _ h => h.elim⟩, g, F.kp, bd⟩ (fun m e => by cases e), g, F.kp, bd⟩
  | n + 1 => ⟨f, fd, ok_like_step F T (cal_like F T g bd n) (fun m e => by cases e; rfl), g, F.kp, bd⟩
end
end K01
set_option Elab.async false
set_option linter.all false
set_option maxRecDepth 100000
set_option maxHeartbeats 4000000
namespace K01
open PySem PySem.Spec PyProof.Rows L2
section
variable {P : Program} {w : World} {K : PySem.W.Frag} {mg : Str → Option Value} {base : Heap}
/-! ### is_whole: of any value -/
/-- a value whose type is told: whether it is an int, whether it is a bool -/
def Wh (K : PySem.W.Frag) (H : Hp) (x : V) (b : Bool) : Prop := ∃ (t : Value) (i j : Bool), TyX K H x t ∧ PySem.W.kitOne K t (.type "int") = some i ∧ PySem.W.kitOne K t (.type "bool") = some j ∧ b = (i && !j)
section
variable {H : Hp} {a : Addr} {xs : List V}
theorem Wh.int (i : Int) : Wh K H (.int i) true := ⟨_, true, false, .base (.int i), kit_ty (by decide +kernel), kit_ty (by decide +kernel), rfl⟩
theorem Wh.bl (b : Bool) : Wh K H (.bl b) false := ⟨_, true, true, .base (.bl b), kit_ty (by decide +kernel), kit_ty (by decide +kernel), rfl⟩
theorem Wh.non : Wh K H .non false := ⟨_, false, false, .base .non, kit_ty (by decide +kernel), kit_ty (by decide +kernel), rfl⟩
theorem Wh.str (x : Str) : Wh K H (.str x) false := ⟨_, false, false, .base (.str x), kit_ty (by decide +kernel), kit_ty (by decide +kernel), rfl⟩
theorem Wh.lst (e : H a = some (.lst xs)) : Wh K H (.ref a) false := ⟨_, false, false, .base (.lst e), kit_ty (by decide +kernel), kit_ty (by decide +kernel), rfl⟩
theorem Wh.tup (e : H a = some (.tup xs)) : Wh K H (.ref a) false := ⟨_, false, false, .base (.tup e), kit_ty (by decide +kernel), kit_ty (by decide +kernel), rfl⟩
end
def spWhole (K : PySem.W.Frag) : Sp := fun vs H Q _ => ∃ (x : V) (b : Bool), vs = [x] ∧ Wh K H x b ∧ Q (.bl b) H
theorem sc_whole : FnScope ["value"] ["value"] (defScope (top 6)) := ⟨rfl, rfl, rfl, by decide +kernel, rfl, by decide +kernel, by decide +kernel⟩
theorem ok_whole {f : Addr} {fd : FuncData} (F : FnP K "is_whole" (top 6) f fd) (m_isinstance : mg "isinstance" = none) (m_int : mg "int" = none) (m_bool : mg "bool" = none) : FnOk P w K mg base CX0 1 f fd ["value"] (spWhole K) := by
  have sc := sc_whole
  refine F.ok sc (fun vs H Q E h => ?_) (fun cdv A outer s H vs Q E hr h => ?_)
  · obtain ⟨x, b, rfl, _⟩ := h
    rfl
  · obtain ⟨x, b, rfl, ⟨t, i, j, ty, k1, k2, rfl⟩, q⟩ := h
    refine ⟨_, PSs.nox (pss_one (ps_ret (pe_and (pe_callB call_isi (by rfl) m_isinstance (by decide +kernel) (pa_cons (pv 0) (pa_cons (pe_bltn (v := .ty "int") rfl m_int boot_int rfl) pa_nil))) (pe_one (pe_not (pe_callB call_isi (by rfl) m_isinstance (by decide +kernel) (pa_cons (pv 0) (pa_cons (pe_bltn (v := .ty "bool") rfl m_bool boot_bool rfl) pa_nil)))))))), ?_⟩
    refine ⟨_, rfl, _, _, _, _, _, rfl, .ty _, ty, k1, _, rfl, ?_⟩
    refine ite2 (fun e => ?_) (fun e => ?_)
    · refine ⟨_, rfl, _, _, _, _, _, rfl, .ty _, ty, k2, _, rfl, ?_⟩
      rw [e] at q
      exact q
    · rw [Bool.eq_false_iff.mpr e] at q
      exact q
/-! ### power_of: by multiplication -/
def spPow : Sp := fun vs H Q _ => ∃ (b : Int) (e k : Nat), vs = [.int b, .int (e : Int)] ∧ b.natAbs < 2 ^ k ∧ 0 < k ∧ k * (e + 1) ≤ 900000 ∧ Q (.int (b ^ e)) H
theorem sc_pow : FnScope ["base", "exponent", "result", "_"] ["base", "exponent"] (defScope (top 7)) := ⟨rfl, rfl, rfl, by decide +kernel, rfl, by decide +kernel, by decide +kernel⟩
theorem pow_lt {b : Int} {k i : Nat} (h : b.natAbs < 2 ^ k) : (b ^ i).natAbs < 2 ^ (k * i + 1) := by
  rw [Int.natAbs_pow]
  induction i with
  | zero =>
    rw [Nat.pow_zero, Nat.mul_zero]
    decide
  | succ i ih =>
    rw [Nat.pow_succ, show k * (i + 1) + 1 = (k * i + 1) + k by rw [Nat.mul_succ]; omega, Nat.pow_add]
    exact Nat.mul_lt_mul'' ih h
theorem ok_pow {f : Addr} {fd : FuncData} (F : FnP K "power_of" (top 7) f fd) (m_range : mg "range" = none) : FnOk P w K mg base CX0 1 f fd ["base", "exponent"] spPow := by
  have sc := sc_pow
  refine F.ok sc (fun vs H Q E h => ?_) (fun cdv A outer s H vs Q E hr h => ?_)
  · obtain ⟨b, e, k, rfl, _⟩ := h
    rfl
  · obtain ⟨b, e, k, rfl, hb, k0, hk, q⟩ := h
    refine ⟨_, PSs.nox (pss_cons (ps_set (i := 2) sc.nd rfl (Or.inl rfl) pe_int)
      (pss_cons (ps_for PassesOwn.never rfl (pi_range1 rfl m_range (pa_cons (pv 1) pa_nil)) (pg_name (i := 3) sc.nd rfl (Or.inl rfl)) (pss_one (ps_set (i := 2) sc.nd rfl (Or.inl rfl) (pe_op op_mulW (pv 2) (pv 0)))))
      (pss_one (ps_ret (pv 2))))), ?_⟩
    have he : e ≤ 900000 := by
      have : 1 * (e + 1) ≤ k * (e + 1) := Nat.mul_le_mul_right _ k0
      omega
    refine ⟨_, rfl, _, rfl, by omega, by omega, ?_⟩
    rw [Int.toNat_natCast]
    refine for_range (lo := 0) (n := e) (fun i σ H' => ∃ v, σ = [some (.int b), some (.int (e : Int)), some (.int (b ^ i)), v] ∧ H' = H) ⟨none, by rw [Int.pow_zero]; rfl, rfl⟩ ?_ ?_
    · rintro i σ H' hi ⟨v, rfl, rfl⟩
      refine ⟨_, rfl, _, rfl, _, _, rfl, rfl, wide_mul (pow_lt (i := i) hb) hb (Nat.succ_pos _) k0 ?_, ?_⟩
      · have : k * (i + 1) ≤ k * (e + 1) := Nat.mul_le_mul_left _ (by omega)
        rw [Nat.mul_succ] at this
        omega
      · exact ⟨_, by rw [Int.pow_succ]; rfl, rfl⟩
    · rintro σ H' ⟨v, rfl, rfl⟩
      exact ⟨_, rfl, q⟩
/-! ### is_number -/
def spNumber (K : PySem.W.Frag) : Sp := fun vs H Q _ => ∃ (x : V) (lo hi : Int), vs = [x, .int lo, .int hi] ∧ ((∃ n : Int, x = .int n ∧ Q (.bl (decide (lo ≤ n) && decide (n ≤ hi))) H) ∨ (Wh K H x false ∧ Q (.bl false) H))
theorem sc_number : FnScope ["value", "least", "most"] ["value", "least", "most"] (defScope (top 20)) := ⟨rfl, rfl, rfl, by decide +kernel, rfl, by decide +kernel, by decide +kernel⟩
theorem ok_number {f : Addr} {fd : FuncData} (F : FnP K "is_number" (top 20) f fd) (c_is_whole : Cal P w K mg base CX0 "is_whole" 1 ["value"] (spWhole K)) : FnOk P w K mg base CX0 2 f fd ["value", "least", "most"] (spNumber K) := by
  have sc := sc_number
  refine F.ok sc (fun vs H Q E h => ?_) (fun cdv A outer s H vs Q E hr h => ?_)
  · obtain ⟨x, lo, hi, rfl, _⟩ := h
    rfl
  · obtain ⟨x, lo, hi, rfl, h⟩ := h
    have hr_is_whole : Room 1 _ := hr
    refine ⟨_, PSs.nox (pss_one (ps_ret (pe_and (pe_cal c_is_whole hr_is_whole rfl (pa_cons (pv 0) pa_nil)) (pe_and (pe_cmpR op_le (pv 1) (pv 0) (nomark _)) (pe_one (pe_cmpR op_le (pv 0) (pv 2) (nomark _))))))), ?_⟩
    rcases h with ⟨n, rfl, q⟩ | ⟨hx, q⟩
    · refine ⟨_, rfl, _, true, rfl, Wh.int n, _, rfl, iteT ?_⟩
      refine ⟨_, rfl, _, rfl, _, _, rfl, rfl, _, rfl, ite2 (fun e => ?_) (fun e => ?_)⟩
      · refine ⟨_, rfl, _, rfl, _, _, rfl, rfl, ?_⟩
        rw [e] at q
        exact q
      · rw [Bool.eq_false_iff.mpr e] at q
        exact q
    · exact ⟨_, rfl, _, false, rfl, hx, _, rfl, iteF q⟩
end
end K01
set_option Elab.async false
set_option linter.all false
set_option maxRecDepth 100000
set_option maxHeartbeats 4000000
namespace L2
open PySem PySem.Spec PyProof.Rows
/-! ### error classes whose __init__ stores its arguments and a code -/
/-- what such a class leaves of a call -/
def fsOf (code : Str) (xs : List Str) (vs : List V) : List (Str × V) := (("code" : Str), .str code) :: (xs.zip vs).reverse
def spIni (C : Addr) (xs : List Str) (code : Str) : Sp := fun vs H Q _ => ∃ (a : Addr) (us : List V), vs = .ref a :: us ∧ us.length = xs.length ∧ H a = some (exo a C none) ∧
  ∀ d H2, H d = none → (∀ b o, b ≠ a → H b = some o → H2 b = some o) → H2 a = some (exo a C (some d)) → H2 d = some (exd d (fsOf code xs us)) → Q .non H2
section
variable {P : Program} {w : World} {K : PySem.W.Frag} {mg : Str → Option Value} {base : Heap} {qual : Str} {params : Arguments} {scope : Scope} {f C : Addr} {fd : FuncData} {B newId : String} {bmB : List Value} {x y code : Str} {p1 p2 p3 p4 q1 q2 q3 q4 r1 r2 r3 r4 : Pos} {j : Nat}
abbrev iniSt (x : Str) (p1 p2 p3 p4 : Pos) : Stmt := .Assign [.Attribute (.Name "self" p1) x p2] (.Name x p3) p4
abbrev codeSt (code : Str) (j : Nat) (q1 q2 q3 q4 : Pos) : Stmt := .Assign [.Attribute (.Name "self" q1) "code" q2] (.Constant (.str code) j q3) q4
theorem ok_ini0 (SF : StoreFacts B bmB "object.__setattr__" "object") (T : OxB K C bmB newId) (nc : PySem.W.findIn K (.ref C) "code" = some none) (S : FnScope ["self"] ["self"] scope) (v0 : scope.names.lookup ("self" : Str) = some .local)
    (F : FunD K "__init__" qual params [codeSt code j q1 q2 q3 q4] scope [] [] f fd) : FnOk P w K mg base CX0 1 f fd ["self"] (spIni C [] code) := by
  refine F.ok S (fun vs H Q E h => ?_) (fun cdv A outer s H vs Q E hr h => ?_)
  · obtain ⟨a, us, rfl, hl, _⟩ := h
    cases us with
    | nil => rfl
    | cons _ _ => cases hl
  · obtain ⟨a, us, rfl, hl, ha, k⟩ := h
    cases us with
    | cons _ _ => cases hl
    | nil =>
      refine ⟨_, PSs.nox (pss_one (ps_oxb (newId := newId) SF (pe_var (i := 0) rfl (.inl v0)) pe_str)), ?_⟩
      refine ⟨_, rfl, a, C, rfl, T, nc, .inl ⟨ha, fun d hd nda => ?_⟩⟩
      refine k d _ hd (fun b o n e => ?_) upd_same ?_
      · rw [upd_ne n, upd_ne (ne_of_none e hd)]
        exact e
      · rw [upd_ne nda]
        exact upd_same
theorem ok_ini1 (SF : StoreFacts B bmB "object.__setattr__" "object") (T : OxB K C bmB newId) (nx : PySem.W.findIn K (.ref C) x = some none) (nc : PySem.W.findIn K (.ref C) "code" = some none) (S : FnScope ["self", x] ["self", x] scope) (v0 : scope.names.lookup ("self" : Str) = some .local) (v1 : scope.names.lookup x = some .local)
    (hd1 : (x == ("__debug__" : Str)) = false) (hd2 : (x == ("__classdict__" : Str)) = false)
    (F : FunD K "__init__" qual params [iniSt x p1 p2 p3 p4, codeSt code j q1 q2 q3 q4] scope [] [] f fd) : FnOk P w K mg base CX0 1 f fd ["self", x] (spIni C [x] code) := by
  refine F.ok S (fun vs H Q E h => ?_) (fun cdv A outer s H vs Q E hr h => ?_)
  · obtain ⟨a, us, rfl, hl, _⟩ := h
    match us, hl with
    | [_], _ => rfl
  · obtain ⟨a, us, rfl, hl, ha, k⟩ := h
    match us, hl with
    | [v], _ =>
      refine ⟨_, PSs.nox (pss_cons (ps_oxb (newId := newId) SF (pe_var (i := 0) rfl (.inl v0)) (pe_var (i := 1) rfl (.inl v1) hd1 hd2)) (pss_one (ps_oxb (newId := newId) SF (pe_var (i := 0) rfl (.inl v0)) pe_str))), ?_⟩
      refine ⟨_, rfl, _, rfl, a, C, rfl, T, nx, .inl ⟨ha, fun d hd nda => ?_⟩⟩
      refine ⟨_, rfl, a, C, rfl, T, nc, .inr ⟨d, _, upd_same, by rw [upd_ne nda]; exact upd_same, (by show 1 ≤ 900; decide), ?_⟩⟩
      refine k d _ hd (fun b o n e => ?_) ?_ upd_same
      · rw [upd_ne (ne_of_none e hd), upd_ne n, upd_ne (ne_of_none e hd)]
        exact e
      · rw [upd_ne nda.symm]
        exact upd_same
theorem ok_ini2 (SF : StoreFacts B bmB "object.__setattr__" "object") (T : OxB K C bmB newId) (nx : PySem.W.findIn K (.ref C) x = some none) (ny : PySem.W.findIn K (.ref C) y = some none) (nc : PySem.W.findIn K (.ref C) "code" = some none) (S : FnScope ["self", x, y] ["self", x, y] scope)
    (v0 : scope.names.lookup ("self" : Str) = some .local) (v1 : scope.names.lookup x = some .local) (v2 : scope.names.lookup y = some .local)
    (hd1 : (x == ("__debug__" : Str)) = false) (hd2 : (x == ("__classdict__" : Str)) = false) (hd3 : (y == ("__debug__" : Str)) = false) (hd4 : (y == ("__classdict__" : Str)) = false)
    (F : FunD K "__init__" qual params [iniSt x p1 p2 p3 p4, iniSt y r1 r2 r3 r4, codeSt code j q1 q2 q3 q4] scope [] [] f fd) : FnOk P w K mg base CX0 1 f fd ["self", x, y] (spIni C [x, y] code) := by
  refine F.ok S (fun vs H Q E h => ?_) (fun cdv A outer s H vs Q E hr h => ?_)
  · obtain ⟨a, us, rfl, hl, _⟩ := h
    match us, hl with
    | [_, _], _ => rfl
  · obtain ⟨a, us, rfl, hl, ha, k⟩ := h
    match us, hl with
    | [v, u], _ =>
      refine ⟨_, PSs.nox (pss_cons (ps_oxb (newId := newId) SF (pe_var (i := 0) rfl (.inl v0)) (pe_var (i := 1) rfl (.inl v1) hd1 hd2)) (pss_cons (ps_oxb (newId := newId) SF (pe_var (i := 0) rfl (.inl v0)) (pe_var (i := 2) rfl (.inl v2) hd3 hd4)) (pss_one (ps_oxb (newId := newId) SF (pe_var (i := 0) rfl (.inl v0)) pe_str)))), ?_⟩
      refine ⟨_, rfl, _, rfl, a, C, rfl, T, nx, .inl ⟨ha, fun d hd nda => ?_⟩⟩
      refine ⟨_, rfl, _, rfl, a, C, rfl, T, ny, .inr ⟨d, _, upd_same, by rw [upd_ne nda]; exact upd_same, (by show 1 ≤ 900; decide), ?_⟩⟩
      refine ⟨_, rfl, a, C, rfl, T, nc, .inr ⟨d, _, by rw [upd_ne nda.symm]; exact upd_same, upd_same, (by show 2 ≤ 900; decide), ?_⟩⟩
      refine k d _ hd (fun b o n e => ?_) ?_ upd_same
      · rw [upd_ne (ne_of_none e hd), upd_ne (ne_of_none e hd), upd_ne n, upd_ne (ne_of_none e hd)]
        exact e
      · rw [upd_ne nda.symm, upd_ne nda.symm]
        exact upd_same
/-! ### binding by position and by name -/
theorem kbn_of {body : List Stmt} {ps ks : List Str} {n : Nat} (F : FunD K "__init__" qual params body scope [] [] f fd) (g : {α : Type} → List α → List α → List α)
    (hrel : ∀ {vs zs : List V} {us ws : List Value}, Vals vs us → Vals zs ws → Vals (g vs zs) (g us ws))
    (h : ∀ (kV doc pm : Value) (an : Option Addr) (cdv ct : Value) (us ws : List Value), us.length = n → ws.length = ks.length → bindArgs (PySem.W.fnOf "__init__" qual params body scope .none kV doc pm an cdv ct) ⟨us, ks.zip ws⟩ = pure (ps.zip (g us ws))) :
    KBn K fd ps n ks (fun us ws => g us ws) (fun vs zs => g vs zs) := by
  obtain ⟨oc, od, dV, kV, doc, pm, an, cdv, ct, osl, rfl, lk, hcd, hD, hK⟩ := F.ex
  rcases hD with ⟨_, rfl⟩ | ⟨e, _⟩
  · exact ⟨fun s us ws _ l1 l2 => .of_eq (h kV doc pm an cdv ct us ws l1 l2), fun r1 r2 => hrel r1 r2⟩
  · exact absurd rfl e
/-- the places in the parameters' order: self, then (by name) the keywords' values turned as sw says -/
def gPos {α : Type} (us ws : List α) : List α := us
def gNam {α : Type} (us ws : List α) : List α := us ++ ws
def gTurn {α : Type} (us ws : List α) : List α := us ++ ws.reverse
/-- an error class as the law's defs see it: at C, over a base, with these fields -/
structure Ecl (P : Program) (w : World) (K : PySem.W.Frag) (mg : Str → Option Value) (base : Heap) (x : Str) (C : Addr) (bmB : List Value) (newId : String) (xs : List Str) : Prop where
  ox : OxB K C bmB newId
  gC : mg x = some (.ref C)
  no : ∀ y ∈ ("code" : Str) :: xs, PySem.W.findIn K (.ref C) y = some none
  ini : ∃ (B initId : String) (fI : Addr) (fd : FuncData), ExcBaseFacts B newId initId bmB ∧ PySem.W.findIn K (.ref C) "__init__" = some (some (.ref fI)) ∧ PySem.W.typeIn K (.ref fI) = some (.type "function") ∧
    FnOk P w K mg base CX0 1 fI fd ("self" :: xs) (spIni C xs x) ∧ KBn K fd ("self" :: xs) (xs.length + 1) [] (fun us ws => gPos us ws) (fun us ws => gPos us ws) ∧
    (xs ≠ [] → KBn K fd ("self" :: xs) 1 xs.reverse (fun us ws => gTurn us ws) (fun us ws => gTurn us ws)) ∧ Binds K fd ("self" :: xs) []
/-- the call's wish: a new exception with these fields -/
def rMade (x : Str) (C : Addr) (xs : List Str) (vs : List V) (H : Hp) (Q : VK) : Prop := vs.length = xs.length ∧ ∀ a H2, H a = none → Same H H2 → ExV H2 a C (fsOf x xs vs) → Q (.ref a) H2
end
section
variable {X : Cx} {x : Str} {C : Addr} {bmB : List Value} {newId : String} {xs : List Str} {p pos : Pos} {e : Expr} {es : List Expr} {kws : List Keyword} {t tk : TA}
theorem rMkB_of {g : List V → List V → List V} {vs zs us : List V} {H : Hp} {Q : VK} (hg : ∀ a, g (.ref a :: vs) zs = .ref a :: us) (hz : vs.length ≤ 1000) (h : rMade x C xs us H Q) : rMkB C (spIni C xs x) g vs zs H Q := by
  refine ⟨hz, fun a ha => ⟨a, us, hg a, h.1, upd_same, fun d H2 hd hs h1 h2 => ⟨rfl, h.2 a H2 ha (fun b o e => ?_) ⟨d, h1, h2⟩⟩⟩⟩
  exact hs b o (ne_of_none e ha) (by rw [upd_ne (ne_of_none e ha)]; exact e)
theorem pe_ecl (c : Ecl X.prog X.w X.K X.mg X.base x C bmB newId xs) (hl : xs.length ≤ 1000) (hr : Room 2 X.A) (hg : Gl X x) (ha : PA X (e :: es) t)
    (hdb : (x == ("__debug__" : Str)) = false := by decide) (he : starEach (e :: es) X.env = (false, eval e X.env) :: starEach es X.env := by rfl) (hpl : (backTo pos (starEach es X.env)).any (·.1) = false := by rfl) :
    PE X (.Call (.Name x p) (e :: es) [] pos) (fun σ H Q => t σ H fun vs H1 => rMade x C xs vs H1 Q) := by
  obtain ⟨B, initId, fI, fd, F, iC, tI, F1, b1, b2, b3⟩ := c.ini
  refine ⟨fun pins s σ H Q I h => ?_⟩
  refine wpAny_Call_Name_kw (ld_glob I hg c.gC ?_ hdb)
  refine PySem.W.callWith_K (h₀ := X.base) I.ok.mod.kin c.ox.kC (thn (ha.run pos pins s σ H _ I h) fun us s1 ⟨vs, H1, I1, r1, q1⟩ => ⟨I1.kIn, ?_⟩) he hpl
  exact run_mkB (ks := []) (ws := []) F c.ox iC tI F1 hr b1 pass0 I1 r1 .nil q1.1 rfl (rMkB_of (fun a => rfl) (by rw [q1.1]; exact hl) q1)
theorem pe_ecl0 (c : Ecl X.prog X.w X.K X.mg X.base x C bmB newId []) (hr : Room 2 X.A) (hg : Gl X x)
    (hdb : (x == ("__debug__" : Str)) = false := by decide) :
    PE X (.Call (.Name x p) [] [] pos) (fun _ H Q => rMade x C [] [] H Q) := by
  obtain ⟨B, initId, fI, fd, F, iC, tI, F1, b1, b2, b3⟩ := c.ini
  refine ⟨fun pins s σ H Q I h => ?_⟩
  refine wpAny_Call_Name_kw (ld_glob I hg c.gC ?_ hdb)
  refine PySem.W.callWith_K0 I.kIn c.ox.kC ?_
  exact run_mkB (n := 0) (ks := []) (ws := []) F c.ox iC tI F1 hr b1 pass0 I .nil .nil rfl rfl (rMkB_of (fun a => rfl) (Nat.zero_le _) h)
theorem pe_eclK (c : Ecl X.prog X.w X.K X.mg X.base x C bmB newId xs) (hne : xs ≠ []) (hr : Room 2 X.A) (hg : Gl X x)
    (hkw : PK X kws tk) (hall : (backToKw pos (keywordEach kws X.env)).all (·.1.isSome) = true := by rfl) (hks : (backToKw pos (keywordEach kws X.env)).filterMap (·.1) = xs.reverse := by rfl)
    (hdb : (x == ("__debug__" : Str)) = false := by decide) (hpl : ((backTo pos (starEach [] X.env)).any (·.1) || (backToKw pos (keywordEach kws X.env)).any (·.1.isNone)) = false := by rfl) :
    PE X (.Call (.Name x p) [] kws pos) (fun σ H Q => tk σ H fun zs H1 => rMade x C xs zs.reverse H1 Q) := by
  obtain ⟨B, initId, fI, fd, F, iC, tI, F1, b1, b2, b3⟩ := c.ini
  refine ⟨fun pins s σ H Q I h => ?_⟩
  refine wpAny_Call_Name_kw (ld_glob I hg c.gC ?_ hdb)
  refine PySem.W.callWith_KW0 (h₀ := X.base) I.ok.mod.kin c.ox.kC hall ?_ hpl
  refine thn (hkw.run pos pins s σ H _ I h) fun ws s2 ⟨zs, H2, I2, rz, q2⟩ => ⟨I2.kIn, ?_⟩
  rw [hks]
  have l2 : zs.length = xs.reverse.length := by
    rw [List.length_reverse, ← q2.1, List.length_reverse]
  exact run_mkB (n := 0) F c.ox iC tI F1 hr (b2 hne) pass0 I2 .nil rz rfl l2 (rMkB_of (fun a => rfl) (Nat.zero_le _) q2)
/-- raised -/
theorem pmk_ecl (c : Ecl X.prog X.w X.K X.mg X.base x C bmB newId xs) (hl : xs.length ≤ 1000) (hr : Room 2 X.A) (hg : Gl X x) (ha : PA X (e :: es) t)
    (hdb : (x == ("__debug__" : Str)) = false := by decide) (he : starEach (e :: es) X.env = (false, eval e X.env) :: starEach es X.env := by rfl) (hpl : (backTo pos (starEach es X.env)).any (·.1) = false := by rfl) :
    PMk X (.Call (.Name x p) (e :: es) [] pos) (fun σ H Q => t σ H fun vs H1 => vs.length = xs.length ∧ ∀ d H2, H1 d = none → Same H1 H2 → H2 d = some (.xd (fsOf x xs vs)) → Q (.ref C) (some d) H2) := by
  obtain ⟨B, initId, fI, fd, F, iC, tI, F1, b1, b2, b3⟩ := c.ini
  intro pins s σ H Q I h
  refine wpAny_Call_Name_kw (ld_glob I hg c.gC ?_ hdb)
  refine PySem.W.callWith_K (h₀ := X.base) I.ok.mod.kin c.ox.kC (thn (ha.run pos pins s σ H _ I h) fun us s1 ⟨vs, H1, I1, r1, hz, q1⟩ => ⟨I1.kIn, ?_⟩) he hpl
  refine run_pmkB F c.ox iC tI F1 hr b3 pass0 I1 r1 (by rw [hz]; exact hl) fun a ha => ⟨a, vs, rfl, hz, upd_same, fun d H2 hd hs h1 h2 => ⟨rfl, d, _, h1, h2, ?_, q1 d _ ?_ (fun b o e => ?_) upd_same⟩⟩
  · have nd : d ≠ a := fun z => by rw [z, upd_same] at hd; cases hd
    rw [upd_ne nd] at hd
    exact hd
  · have nd : d ≠ a := fun z => by rw [z, upd_same] at hd; cases hd
    rw [upd_ne nd] at hd
    exact hd
  · have nd : d ≠ a := fun z => by rw [z, upd_same] at hd; cases hd
    rw [upd_ne nd] at hd
    have nba := ne_of_none e ha
    rw [upd_ne (ne_of_none e hd), del_ne nba]
    exact hs b o nba (by rw [upd_ne nba]; exact e)
theorem pmk_ecl0 (c : Ecl X.prog X.w X.K X.mg X.base x C bmB newId []) (hr : Room 2 X.A) (hg : Gl X x)
    (hdb : (x == ("__debug__" : Str)) = false := by decide) :
    PMk X (.Call (.Name x p) [] [] pos) (fun _ H1 Q => ∀ d H2, H1 d = none → Same H1 H2 → H2 d = some (.xd (fsOf x [] [])) → Q (.ref C) (some d) H2) := by
  obtain ⟨B, initId, fI, fd, F, iC, tI, F1, b1, b2, b3⟩ := c.ini
  intro pins s σ H1 Q I q1
  refine wpAny_Call_Name_kw (ld_glob I hg c.gC ?_ hdb)
  refine PySem.W.callWith_K0 I.kIn c.ox.kC ?_
  refine run_pmkB F c.ox iC tI F1 hr b3 pass0 I .nil (Nat.zero_le _) fun a ha => ⟨a, [], rfl, rfl, upd_same, fun d H2 hd hs h1 h2 => ⟨rfl, d, _, h1, h2, ?_, q1 d _ ?_ (fun b o e => ?_) upd_same⟩⟩
  · have nd : d ≠ a := fun z => by rw [z, upd_same] at hd; cases hd
    rw [upd_ne nd] at hd
    exact hd
  · have nd : d ≠ a := fun z => by rw [z, upd_same] at hd; cases hd
    rw [upd_ne nd] at hd
    exact hd
  · have nd : d ≠ a := fun z => by rw [z, upd_same] at hd; cases hd
    rw [upd_ne nd] at hd
    have nba := ne_of_none e ha
    rw [upd_ne (ne_of_none e hd), del_ne nba]
    exact hs b o nba (by rw [upd_ne nba]; exact e)
end
end L2
set_option Elab.async false
set_option linter.all false
set_option maxRecDepth 100000
set_option maxHeartbeats 4000000
namespace K01
open PySem PySem.Spec PyProof.Rows L2
section
variable {P : Program} {w : World} {K : PySem.W.Frag} {mg : Str → Option Value} {base : Heap}
/-- None, a bool, a text, a list or a tuple: what is no int -/
def Odd (H : Hp) (x : V) : Prop := x = .non ∨ (∃ b, x = .bl b) ∨ (∃ s, x = .str s) ∨ ∃ (a : Addr) (xs : List V), x = .ref a ∧ (H a = some (.lst xs) ∨ H a = some (.tup xs))
theorem Odd.same {H H2 : Hp} {x : V} (h : Odd H x) (s : Same H H2) : Odd H2 x := by
  rcases h with h | h | h | ⟨a, xs, h, h2⟩
  · exact .inl h
  · exact .inr (.inl h)
  · exact .inr (.inr (.inl h))
  · exact .inr (.inr (.inr ⟨a, xs, h, h2.elim (fun z => .inl (s _ _ z)) fun z => .inr (s _ _ z)⟩))
theorem Odd.wh {H : Hp} {x : V} (h : Odd H x) : Wh K H x false := by
  rcases h with rfl | ⟨b, rfl⟩ | ⟨s, rfl⟩ | ⟨a, xs, rfl, h | h⟩
  · exact .non
  · exact .bl _
  · exact .str _
  · exact .lst h
  · exact .tup h
/-- InvalidNumber of x, raised -/
def Inv1 (C : Addr) (x : V) (H : Hp) (E : XK) : Prop := ∀ d H2, H d = none → Same H H2 → H2 d = some (.xd (fsOf "InvalidNumber" ["value"] [x])) → E (.ref C) (some d) H2
/-! ### times_divided -/
def spTimes : Sp := fun vs H Q _ => ∃ n p : Int, vs = [.int n, .int p] ∧ 0 < n ∧ 2 ≤ p ∧ p < 1073741824 ∧ ∀ (t : Nat) (r : Int), n = p ^ t * r → r % p ≠ 0 → Q (.int (t : Int)) H
theorem sc_times : FnScope ["number", "prime", "times", "rest"] ["number", "prime"] (defScope (top 14)) := ⟨rfl, rfl, rfl, by decide +kernel, rfl, by decide +kernel, by decide +kernel⟩
theorem ok_times {f : Addr} {fd : FuncData} (F : FnP K "times_divided" (top 14) f fd) : FnOk P w K mg base CX0 1 f fd ["number", "prime"] spTimes := by
  have sc := sc_times
  refine F.ok sc (fun vs H Q E h => ?_) (fun cdv A outer s H vs Q E hr h => ?_)
  · obtain ⟨n, p, rfl, _⟩ := h
    rfl
  · obtain ⟨n, p, rfl, n0, p2, p3, k⟩ := h
    have p0 : 0 < p := by omega
    refine ⟨_, PSs.nox (pss_cons (ps_set (i := 2) sc.nd rfl (Or.inl rfl) pe_int)
      (pss_cons (ps_set (i := 3) sc.nd rfl (Or.inl rfl) (pv 0))
      (pss_cons (ps_while PassesOwn.never (pt_cmpR op_eq (pe_op op_mod (pv 3) (pv 1)) pe_int (nomark _)) (pss_cons (ps_set (i := 3) sc.nd rfl (Or.inl rfl) (pe_op op_fdiv (pv 3) (pv 1)))
      (pss_one (ps_set (i := 2) sc.nd rfl (Or.inl rfl) (pe_op op_add (pv 2) pe_int)))))
      (pss_one (ps_ret (pv 2)))))), ?_⟩
    refine ⟨_, rfl, ?_⟩
    refine ⟨fun m σ H' => ∃ (t : Nat) (r : Int), σ = [some (.int n), some (.int p), some (.int (t : Int)), some (.int r)] ∧ H' = H ∧ n = p ^ t * r ∧ 0 < r ∧ r.toNat = m, ⟨_, 0, n, rfl, rfl, by rw [Int.pow_zero, Int.one_mul], n0, rfl⟩, ?_⟩
    rintro m σ H' ⟨t, r, rfl, rfl, e, r0, rfl⟩
    refine ⟨_, rfl, _, rfl, _, _, rfl, rfl, p0, rfl, _, rfl, ite2 (fun c => ?_) (fun c => ?_)⟩
    · have c0 : r % p = 0 := by
        have := of_decide_eq_true c
        injection this
      have ed : r = p * (r / p) := by
        have := Int.mul_ediv_add_emod r p
        omega
      have d0 : 0 < r / p := by
        refine Int.not_le.mp fun z => ?_
        have := Int.mul_le_mul_of_nonneg_left z (Int.le_of_lt p0)
        omega
      have d1 : r / p < r := by
        have := Int.mul_lt_mul_of_pos_right (show 1 < p by omega) d0
        omega
      refine ⟨fun σ' H2 => ∃ (t : Nat) (r2 : Int), σ' = [some (.int n), some (.int p), some (.int (t : Int)), some (.int r2)] ∧ H2 = H' ∧ n = p ^ t * r2 ∧ 0 < r2 ∧ r2 < r, fun σ' H' ⟨t, r2, a1, a2, a3, a4, a5⟩ => ⟨r2.toNat, by omega, t, r2, a1, a2, a3, a4, rfl⟩, ?_⟩
      refine ⟨_, rfl, _, rfl, _, _, rfl, rfl, ⟨p0, p3⟩, _, rfl, _, _, rfl, rfl, ?_⟩
      refine ⟨t + 1, r / p, rfl, rfl, ?_, d0, d1⟩
      rw [Int.pow_succ, Int.mul_assoc, ← ed]
      exact e
    · refine ⟨_, rfl, k t r e fun z => c (decide_eq_true (show V.int (r % p) = V.int 0 by rw [z]))⟩
end
end K01
set_option Elab.async false
set_option linter.all false
set_option maxRecDepth 100000
set_option maxHeartbeats 4000000
namespace L2
open PySem PySem.Spec PyProof.Rows
/-! ### operators of an own class's plain instances -/
section
variable {X : Cx} {C g : Addr} {n : Nat} {sp : Sp} {CX : CXT} {E : XK}
/-- x op y, both of the class at C -/
def rBinO (C : Addr) (sp : Sp) (E : XK) : R2 := fun x y H Q => ∃ a b dx dy fs gs, x = .ref a ∧ y = .ref b ∧ H a = some (.ins C dx fs) ∧ H b = some (.ins C dy gs) ∧ sp [x, y] H Q E
theorem op_binO {op : Operator} (hc : PySem.W.selfFirst X.K C = true) (hs : PySem.W.findIn X.K (.ref C) (PySem.dunder op.info.2) = some (some (.ref g))) (hf : PySem.W.isFn X.K (.ref g) = true) (F : FnR X.prog X.w X.K X.mg X.base CX n g sp) (hr : Room n X.A) (hx : Passes CX X E) :
    OpR X (binaryOp op) (rBinO C sp E) := by
  intro pins s σ H x y v u Q I rx ry h
  obtain ⟨a, b, dx, dy, fs, gs, rfl, rfl, ha, hb, q⟩ := h
  cases (show v = Value.ref a from rx)
  cases (show u = Value.ref b from ry)
  obtain ⟨mA, J, _⟩ := ins_get I.hok ha
  obtain ⟨mB, J2, _⟩ := ins_get I.hok hb
  obtain ⟨od, J, _⟩ := J.look
  obtain ⟨od2, J2, _⟩ := J2.look
  obtain ⟨m, hF⟩ := I.fr
  refine PySem.W.binop_K (op := op) hF I.ok.mod.kin J J2.type hc hs hf ?_
  refine wpAny_mono (wpAny_call (run_fnR (us := [.ref a, .ref b]) (vs := [.ref a, .ref b]) F hr hx I (.cons rfl (.cons rfl .nil)) q)) (fun w z hz => ?_) fun _ _ e => e
  obtain ⟨z2, H2, I2, rz, qz⟩ := hz
  exact SlX.cmpback rz ⟨z2, H2, I2, rz, qz⟩
/-- ~x -/
theorem un_invO (hs : PySem.W.findIn X.K (.ref C) "__invert__" = some (some (.ref g))) (hf : PySem.W.isFn X.K (.ref g) = true) (F : FnR X.prog X.w X.K X.mg X.base CX n g sp) (hr : Room n X.A) (hx : Passes CX X E) :
    UnR X (unaryOp .Invert) (fun x H Q => ∃ a dx fs, x = .ref a ∧ H a = some (.ins C dx fs) ∧ sp [x] H Q E) := by
  intro pins s σ H x v Q I rx h
  obtain ⟨a, dx, fs, rfl, ha, q⟩ := h
  cases (show v = Value.ref a from rx)
  obtain ⟨mA, J, _⟩ := ins_get I.hok ha
  obtain ⟨od, J, _⟩ := J.look
  obtain ⟨m, hF⟩ := I.fr
  refine PySem.W.ksp_inv hF I.ok.mod.kin J hs hf ?_
  exact wpAny_call (run_fnR (us := [.ref a]) (vs := [.ref a]) F hr hx I (.cons rfl .nil) q)
/-- x op i, i an int -/
theorem op_binI {op : Operator} {fo ro rc : Option Value} (hc : PySem.W.selfFirst X.K C = true) (hs : PySem.W.findIn X.K (.ref C) (PySem.dunder op.info.2) = some (some (.ref g))) (hf : PySem.W.isFn X.K (.ref g) = true) (hrr : PySem.W.findIn X.K (.ref C) (dunderR op.info.2) = some rc) (hp : rc = none ∨ ∃ g : Addr, rc = some (.ref g))
    (h1 : PySem.W.findIn X.K (.type "int") (PySem.dunder op.info.2) = some fo) (h2 : PySem.W.findIn X.K (.type "int") (dunderR op.info.2) = some ro) (hsub : PySem.W.subIn X.K (.type "int") (.ref C) = some false) (F : FnR X.prog X.w X.K X.mg X.base CX n g sp) (hr : Room n X.A) (hx : Passes CX X E) :
    OpR X (binaryOp op) (fun x y H Q => ∃ a dx fs i, x = .ref a ∧ y = .int i ∧ H a = some (.ins C dx fs) ∧ sp [x, y] H Q E) := by
  intro pins s σ H x y v u Q I rx ry h
  obtain ⟨a, dx, fs, i, rfl, rfl, ha, q⟩ := h
  cases (show v = Value.ref a from rx)
  obtain ⟨t, e⟩ := (show ∃ t, u = Value.int i t from ry)
  subst e
  obtain ⟨mA, J, _⟩ := ins_get I.hok ha
  obtain ⟨od, J, _⟩ := J.look
  obtain ⟨m, hF⟩ := I.fr
  refine PySem.W.ksp_binT (op := op) (T := "int") hF I.ok.mod.kin J rfl hc hs hf hrr hp h1 h2 hsub ?_
  refine wpAny_mono (wpAny_call (run_fnR (us := [.ref a, .int i t]) (vs := [.ref a, .int i]) F hr hx I (.cons rfl (.cons ⟨t, rfl⟩ .nil)) q)) (fun w z hz => ?_) fun _ _ e => e
  obtain ⟨z2, H2, I2, rz, qz⟩ := hz
  exact SlX.cmpback rz ⟨z2, H2, I2, rz, qz⟩
/-- x == y, both of the class at C, by its own __eq__ -/
theorem op_eqO (hop : ∀ a b, compareOp .Eq a b = richCompare .Eq a b) (hs : PySem.W.findIn X.K (.ref C) "__eq__" = some (some (.ref g))) (hf : PySem.W.isFn X.K (.ref g) = true) (F : FnR X.prog X.w X.K X.mg X.base CX n g sp) (hr : Room n X.A) (hx : Passes CX X E) : OpR X (compareOp .Eq) (rBinO C sp E) := by
  intro pins s σ H x y v u Q I rx ry h
  obtain ⟨a, b, dx, dy, fs, gs, rfl, rfl, ha, hb, q⟩ := h
  cases (show v = Value.ref a from rx)
  cases (show u = Value.ref b from ry)
  obtain ⟨mA, J, _⟩ := ins_get I.hok ha
  obtain ⟨mB, J2, _⟩ := ins_get I.hok hb
  obtain ⟨od, J, _⟩ := J.look
  obtain ⟨od2, J2, _⟩ := J2.look
  obtain ⟨m, hF⟩ := I.fr
  rw [hop]
  refine PySem.W.cmp_K (op := .Eq) (tb := .ref C) hr.units0 hF I.ok.mod.kin J J2.type (by simp [PySem.W.notFirst]) hs hf ?_
  refine wpAny_mono (wpAny_call (run_fnR (us := [.ref a, .ref b]) (vs := [.ref a, .ref b]) F hr hx I (.cons rfl (.cons rfl .nil)) q)) (fun w z hz => ?_) fun _ _ e => e
  obtain ⟨z2, H2, I2, rz, qz⟩ := hz
  exact SlX.cmpback rz ⟨z2, H2, I2, rz, qz⟩
end
end L2
set_option Elab.async false
set_option linter.all false
set_option maxRecDepth 100000
set_option maxHeartbeats 4000000
namespace K01
open PySem PySem.Spec PyProof.Rows L2
section
variable {P : Program} {w : World} {K : PySem.W.Frag} {mg : Str → Option Value} {base : Heap}
/-! ### Ratio: made -/
/-- a ratio of two naturals, in its least form -/
def rat (t b : Nat) : List (Str × V) := [("top", .int ((t / Nat.gcd t b : Nat) : Int)), ("bottom", .int ((b / Nat.gcd t b : Nat) : Int))]
/-- what is no whole number from lo on -/
def Low (H : Hp) (lo : Int) (x : V) : Prop := (∃ i, x = .int i ∧ i < lo) ∨ Odd H x
def spRatio (C CI : Addr) : Sp := fun vs H Q E => ∃ (a dx : Addr) (x y : V), vs = [.ref a, x, y] ∧ H a = some (.ins C dx []) ∧
  ((∃ t b : Nat, x = .int (t : Int) ∧ y = .int (b : Int) ∧ 1 ≤ b ∧ b < 2 ^ 8990 ∧ Q .non (upd H a (.ins C dx (rat t b)))) ∨ (Low H 0 x ∧ Inv1 CI x H E) ∨ ((∃ t : Nat, x = .int (t : Int)) ∧ Low H 1 y ∧ Inv1 CI y H E))
theorem sc_ratio : FnScope ["self", "top", "bottom", "shared"] ["self", "top", "bottom"] (defScope (methOf (top 13) 0)) := ⟨rfl, rfl, rfl, by decide +kernel, rfl, by decide +kernel, by decide +kernel⟩
theorem ok_ratio {f : Addr} {fd : FuncData} {C CI : Addr} {bmB : List Value} {newId : String} (F : FunD K "__init__" "Ratio.__init__" (defArgs (methOf (top 13) 0)) (defBody (methOf (top 13) 0)) (defScope (methOf (top 13) 0)) dvs dks f fd) (cl : Cls K C) (n1 : NoAttr K C "top") (n2 : NoAttr K C "bottom")
    (c_InvalidNumber : Ecl P w K mg base "InvalidNumber" CI bmB newId ["value"]) (c_is_whole : Cal P w K mg base CX0 "is_whole" 1 ["value"] (spWhole K)) (m_gcd : mg "gcd" = some (.builtin "math.gcd")) : FnOk P w K mg base (L2.CX P w) 3 f fd ["self", "top", "bottom"] (spRatio C CI) := by
  have sc := sc_ratio
  refine F.ok sc (fun vs H Q E h => ?_) (fun cdv A outer s H vs Q E hr h => ?_)
  · obtain ⟨a, dx, x, y, rfl, _⟩ := h
    rfl
  · obtain ⟨a, dx, x, y, rfl, ha, h⟩ := h
    have hr_ecl : Room 2 _ := hr
    have hr_is_whole : Room 1 _ := hr.mono (by decide)
    refine ⟨_, (pss_cons (ps_if (PW.pt (pw_or (pt_not (pt_val (pe_cal c_is_whole hr_is_whole rfl (pa_cons (pv 1) pa_nil)))) (pw_or1 (pt_cmpR op_lt (pv 1) pe_int (nomark _))))) (pss_one (ps_raise rfl (takes_of rfl rfl rfl rfl) (pmk_ecl c_InvalidNumber (by decide) hr_ecl rfl (pa_cons (pv 1) pa_nil)))) pss_nil)
      (pss_cons (ps_if (PW.pt (pw_or (pt_not (pt_val (pe_cal c_is_whole hr_is_whole rfl (pa_cons (pv 2) pa_nil)))) (pw_or1 (pt_cmpR op_lt (pv 2) pe_int (nomark _))))) (pss_one (ps_raise rfl (takes_of rfl rfl rfl rfl) (pmk_ecl c_InvalidNumber (by decide) hr_ecl rfl (pa_cons (pv 2) pa_nil)))) pss_nil)
      (pss_cons (ps_set (i := 3) sc.nd rfl (Or.inl rfl) (pe_callBfun cr_gcd rfl m_gcd (pa_cons (pv 1) (pa_cons (pv 2) pa_nil))))
      (pss_cons (ps_fld (pv 0) (pe_op op_fdivW (pv 1) (pv 3)) rfl)
      (pss_one (ps_fld (pv 0) (pe_op op_fdivW (pv 2) (pv 3)) rfl)))))), ?_⟩
    have low : ∀ {lo : Int} {z : V}, Low H lo z → ∀ {R : Prop}, (∀ (b : Bool), Wh K H z b → (b = true → ∃ i, z = .int i ∧ i < lo) → R) → R := fun {lo z} hz {R} k => by
      rcases hz with ⟨i, rfl, hi⟩ | od
      · exact k true (Wh.int i) fun _ => ⟨i, rfl, hi⟩
      · exact k false od.wh fun e => by cases e
    rcases h with ⟨t, b, rfl, rfl, b1, b9, q⟩ | ⟨hx, ke⟩ | ⟨⟨t, rfl⟩, hy, ke⟩
    · refine ⟨_, rfl, _, true, rfl, Wh.int _, _, rfl, iteF ?_⟩
      refine ⟨_, rfl, _, _, rfl, rfl, _, rfl, ite2 (fun e => absurd (of_decide_eq_true e) (by omega)) (fun _ => ?_)⟩
      refine ⟨_, rfl, _, true, rfl, Wh.int _, _, rfl, iteF ?_⟩
      refine ⟨_, rfl, _, _, rfl, rfl, _, rfl, ite2 (fun e => absurd (of_decide_eq_true e) (by omega)) (fun _ => ?_)⟩
      have g0 : 0 < Nat.gcd t b := Nat.gcd_pos_of_pos_right _ b1
      have gb : Nat.gcd t b ≤ b := Nat.gcd_le_right _ b1
      have gd : CDivW (0 : Int) ((Nat.gcd t b : Nat) : Int) := wide_div (b := 8990) (by omega) (by rw [Int.natAbs_natCast]; exact Nat.lt_of_le_of_lt gb b9) (by decide) (by decide)
      refine ⟨_, rfl, _, rfl, _, _, rfl, ?_⟩
      rw [Int.natAbs_natCast, Int.natAbs_natCast]
      refine ⟨_, rfl, _, rfl, _, _, rfl, rfl, gd, _, rfl, a, C, dx, [], rfl, ha, cl, n1, by decide, ?_⟩
      refine ⟨_, rfl, _, rfl, _, _, rfl, rfl, gd, _, rfl, a, C, dx, _, rfl, upd_same, cl, n2, (by show 1 < 1000; decide), ?_⟩
      rw [upd_upd]
      exact q
    · refine low hx fun b wb hb => ?_
      refine ⟨_, rfl, _, b, rfl, wb, _, rfl, ite2 (fun e => ?_) (fun e => ?_)⟩
      · exact ⟨_, rfl, rfl, ke⟩
      · have b1 : b = true := by
          cases b with
          | true => rfl
          | false => exact absurd rfl e
        obtain ⟨i, rfl, hi⟩ := hb b1
        refine ⟨_, rfl, _, _, rfl, rfl, _, rfl, ite2 (fun _ => ⟨_, rfl, rfl, ke⟩) (fun e => absurd (decide_eq_true hi) e)⟩
    · refine ⟨_, rfl, _, true, rfl, Wh.int _, _, rfl, iteF ?_⟩
      refine ⟨_, rfl, _, _, rfl, rfl, _, rfl, ite2 (fun e => absurd (of_decide_eq_true e) (by omega)) (fun _ => ?_)⟩
      refine low hy fun b wb hb => ?_
      refine ⟨_, rfl, _, b, rfl, wb, _, rfl, ite2 (fun e => ?_) (fun e => ?_)⟩
      · exact ⟨_, rfl, rfl, ke⟩
      · have b1 : b = true := by
          cases b with
          | true => rfl
          | false => exact absurd rfl e
        obtain ⟨i, rfl, hi⟩ := hb b1
        refine ⟨_, rfl, _, _, rfl, rfl, _, rfl, ite2 (fun _ => ⟨_, rfl, rfl, ke⟩) (fun e => absurd (decide_eq_true hi) e)⟩
end
end K01
set_option Elab.async false
set_option linter.all false
set_option maxRecDepth 100000
set_option maxHeartbeats 4000000
namespace K01
open PySem PySem.Spec PyProof.Rows L2
theorem passN {P : Program} {w : World} {X : Cx} (hp : X.prog = P) (hw : X.w = w) : Passes (L2.CX P w) X E0 := fun _ _ _ _ _ _ _ ⟨_, _, _, _, _, _, _, _, _, _, _, _, e⟩ => e.elim
theorem Inv1.same {C : Addr} {x : V} {H H2 : Hp} {E : XK} (h : Inv1 C x H E) (s : Same H H2) : Inv1 C x H2 E := fun d H3 hd s2 h3 => h d H3 (s.free hd) (s.trans s2) h3
theorem Low.same {H H2 : Hp} {lo : Int} {x : V} (h : Low H lo x) (s : Same H H2) : Low H2 lo x := h.elim .inl fun od => .inr (od.same s)
/-- the class Ratio as the program's defs see it -/
structure RatioC (P : Program) (w : World) (K : PySem.W.Frag) (mg : Str → Option Value) (base : Heap) (C CI : Addr) : Prop where
  cls : Cls K C
  gC : mg "Ratio" = some (.ref C)
  n1 : NoAttr K C "top"
  n2 : NoAttr K C "bottom"
  ha : PySem.W.findIn K (.ref C) "__class__" = some (some (.builtin "object.__class__"))
  hn : PySem.W.specialIn K (.builtin "object.__class__") "__get__" = some (some (.builtin "getset_descriptor.__get__"))
  htk : PySem.W.takesIn K (.builtin "object.__class__") = some true
  hm : PySem.W.mroIn K C (.type "object") = some true
  kit : PySem.W.kitOne K (.ref C) (.ref C) = some true
  ini : ∃ f fd, Mk K C f ∧ FnOk P w K mg base (L2.CX P w) 3 f fd ["self", "top", "bottom"] (spRatio C CI) ∧ Binds K fd ["self", "top", "bottom"] []
/-- a ratio at v -/
def Rt (C : Addr) (H : Hp) (v : V) (t b : Nat) : Prop := ∃ a dx, v = .ref a ∧ H a = some (.ins C dx (rat t b))
theorem Rt.same {C : Addr} {H H2 : Hp} {v : V} {t b : Nat} (h : Rt C H v t b) (s : Same H H2) : Rt C H2 v t b := by
  obtain ⟨a, dx, e, h⟩ := h
  exact ⟨a, dx, e, s _ _ h⟩
theorem RatioC.ty {P : Program} {w : World} {K : PySem.W.Frag} {mg : Str → Option Value} {base : Heap} {C CI : Addr} (c : RatioC P w K mg base C CI) {H : Hp} {a dx : Addr} {fs : List (Str × V)} (h : H a = some (.ins C dx fs)) : TyX K H (.ref a) (.ref C) := .base (.ins h c.cls c.ha c.hn c.htk c.hm)
theorem ps_dead {X : Cx} {st : Stmt} : PS X st (fun _ _ _ => False) := ⟨fun _ _ _ _ _ _ h => h.elim⟩
theorem rat_top {t b : Nat} : (rat t b).lookup ("top" : Str) = some (.int ((t / Nat.gcd t b : Nat) : Int)) := rfl
theorem rat_bot {t b : Nat} : (rat t b).lookup ("bottom" : Str) = some (.int ((b / Nat.gcd t b : Nat) : Int)) := rfl
def rMkRat (C CI : Addr) (E : XK) (vs : List V) (H : Hp) (Q : VK) : Prop := ∃ x y, vs = [x, y] ∧ ((∃ t b : Nat, x = .int (t : Int) ∧ y = .int (b : Int) ∧ 1 ≤ b ∧ b < 2 ^ 8990 ∧ ∀ v H2, Same H H2 → Rt C H2 v t b → Q v H2) ∨ (Low H 0 x ∧ Inv1 CI x H E) ∨ ((∃ t : Nat, x = .int (t : Int)) ∧ Low H 1 y ∧ Inv1 CI y H E))
section
variable {X : Cx} {C CI : Addr} {E : XK} {p pos : Pos} {e : Expr} {es : List Expr} {t : TA}
theorem pe_ratio (c : RatioC X.prog X.w X.K X.mg X.base C CI) (hr : Room 4 X.A) (hg : Gl X "Ratio") (hx : Passes (L2.CX X.prog X.w) X E) (ha : PA X (e :: es) t)
    (he : starEach (e :: es) X.env = (false, eval e X.env) :: starEach es X.env := by rfl) (hpl : (backTo pos (starEach es X.env)).any (·.1) = false := by rfl) :
    PE X (.Call (.Name "Ratio" p) (e :: es) [] pos) (fun σ H Q => t σ H fun vs H1 => rMkRat C CI E vs H1 Q) := by
  obtain ⟨f, fd, M, F, b⟩ := c.ini
  have h := pe_make (p := p) (pos := pos) M F hr hg c.gC b .nil hx ha (by decide) he hpl
  refine ⟨fun pins s σ H Q I hq => ?_⟩
  refine wpAny_Call_Name_kw (ld_glob I hg c.gC ?_ (by decide))
  refine PySem.W.callWith_K (h₀ := X.base) I.ok.mod.kin M.kp (thn (ha.run pos pins s σ H _ I hq) fun us s1 ⟨vs, H1, I1, r, q⟩ => ⟨I1.kIn, ?_⟩) he hpl
  refine run_make M F hr b .nil hx I1 r fun a dx ha hdx nda => ?_
  obtain ⟨x, y, rfl, q⟩ := q
  have s1 : Same H1 (upd (upd H1 dx (.own a)) a (.ins C dx [])) := fun c o z => by
    rw [upd_ne (ne_of_none z ha), upd_ne (ne_of_none z hdx)]
    exact z
  refine ⟨a, dx, x, y, rfl, upd_same, ?_⟩
  rcases q with ⟨t, b, rfl, rfl, b1, b2, q⟩ | ⟨hl, k⟩ | ⟨hx, hl, k⟩
  · refine .inl ⟨t, b, rfl, rfl, b1, b2, rfl, ?_⟩
    rw [upd_upd]
    refine q _ _ (fun c o z => ?_) ⟨a, dx, rfl, upd_same⟩
    rw [upd_ne (ne_of_none z ha), upd_ne (ne_of_none z hdx)]
    exact z
  · exact .inr (.inl ⟨hl.same s1, k.same s1⟩)
  · exact .inr (.inr ⟨hx, hl.same s1, k.same s1⟩)
end
end K01
set_option Elab.async false
set_option linter.all false
set_option maxRecDepth 100000
set_option maxHeartbeats 4000000
namespace K01
open PySem PySem.Spec PyProof.Rows L2
section
variable {P : Program} {w : World} {K : PySem.W.Frag} {mg : Str → Option Value} {base : Heap}
/-- the two sides of a ratio in its least form -/
abbrev tp (t b : Nat) : Nat := t / Nat.gcd t b
abbrev bt (t b : Nat) : Nat := b / Nat.gcd t b
theorem bt_pos {t b : Nat} (h : 1 ≤ b) : 1 ≤ bt t b := Nat.div_pos (Nat.gcd_le_right _ h) (Nat.gcd_pos_of_pos_right _ h)
theorem bt_le {t b : Nat} : bt t b ≤ b := Nat.div_le_self _ _
theorem tp_le {t b : Nat} : tp t b ≤ t := Nat.div_le_self _ _
abbrev FnM (K : PySem.W.Frag) (x q : Str) (st : Stmt) (f : Addr) (fd : FuncData) : Prop := FunD K x q (defArgs st) (defBody st) (defScope st) [] [] f fd
/-! ### Ratio * Ratio -/
def spMul (C : Addr) : Sp := fun vs H Q _ => ∃ (x y : V) (t b u d : Nat), vs = [x, y] ∧ Rt C H x t b ∧ Rt C H y u d ∧ 1 ≤ b ∧ 1 ≤ d ∧ t < 2 ^ 20000 ∧ b < 2 ^ 20000 ∧ u < 2 ^ 20000 ∧ d < 2 ^ 20000 ∧ bt t b * bt u d < 2 ^ 8990 ∧ ∀ v H2, Same H H2 → Rt C H2 v (tp t b * tp u d) (bt t b * bt u d) → Q v H2
theorem sc_mul : FnScope ["self", "other"] ["self", "other"] (defScope (methOf (top 13) 1)) := ⟨rfl, rfl, rfl, by decide +kernel, rfl, by decide +kernel, by decide +kernel⟩
theorem mulW {x y : Nat} (hx : x < 2 ^ 20000) (hy : y < 2 ^ 20000) : CMulW (x : Int) (y : Int) := wide_mul (a := 20000) (b := 20000) (by rw [Int.natAbs_natCast]; exact hx) (by rw [Int.natAbs_natCast]; exact hy) (by decide) (by decide) (by decide)
theorem ok_mul {f : Addr} {fd : FuncData} {C CI : Addr} (F : FnM K "__mul__" "Ratio.__mul__" (methOf (top 13) 1) f fd) (c_Ratio : RatioC P w K mg base C CI) (m_isinstance : mg "isinstance" = none) : FnOk P w K mg base CX0 5 f fd ["self", "other"] (spMul C) := by
  have sc := sc_mul
  refine F.ok sc (fun vs H Q E h => ?_) (fun cdv A outer s H vs Q E hr h => ?_)
  · obtain ⟨x, y, t, b, u, d, rfl, _⟩ := h
    rfl
  · obtain ⟨x, y, t, b, u, d, rfl, ⟨a, dx, rfl, ha⟩, ⟨a2, dx2, rfl, ha2⟩, hb, hd, t9, b9, u9, d9, bd9, k⟩ := h
    have hr_ratio : Room 4 _ := hr
    have px := passN (P := P) (w := w) (X := (cxOf CX0 P w K mg base ["self", "other"] "Ratio.__mul__" (defScope (methOf (top 13) 1)) f cdv A outer s H E).nox) rfl rfl
    refine ⟨_, PSs.nox (pss_cons (ps_if (pt_not (pt_val (pe_callB call_isi (by rfl) m_isinstance (by decide +kernel) (pa_cons (pv 1) (pa_cons (pe_glob (v := .ref C) rfl c_Ratio.gC rfl) pa_nil))))) (pss_one ps_dead) pss_nil)
      (pss_one (ps_ret (pe_ratio c_Ratio hr_ratio rfl px (pa_cons (pe_op op_mulW (pe_fld (pv 0) rfl) (pe_fld (pv 1) rfl)) (pa_cons (pe_op op_mulW (pe_fld (pv 0) rfl) (pe_fld (pv 1) rfl)) pa_nil)))))), ?_⟩
    refine ⟨_, rfl, _, _, _, _, _, rfl, .own _, c_Ratio.ty ha2, c_Ratio.kit, _, rfl, iteF ?_⟩
    refine ⟨_, rfl, a, C, dx, _, _, rfl, ha, c_Ratio.cls, c_Ratio.n1, rat_top, _, rfl, a2, C, dx2, _, _, rfl, ha2, c_Ratio.cls, c_Ratio.n1, rat_top, _, _, rfl, rfl, mulW (Nat.lt_of_le_of_lt tp_le t9) (Nat.lt_of_le_of_lt tp_le u9), ?_⟩
    refine ⟨_, rfl, a, C, dx, _, _, rfl, ha, c_Ratio.cls, c_Ratio.n2, rat_bot, _, rfl, a2, C, dx2, _, _, rfl, ha2, c_Ratio.cls, c_Ratio.n2, rat_bot, _, _, rfl, rfl, mulW (Nat.lt_of_le_of_lt bt_le b9) (Nat.lt_of_le_of_lt bt_le d9), ?_⟩
    exact ⟨_, _, rfl, .inl ⟨tp t b * tp u d, bt t b * bt u d, by rw [Int.natCast_mul], by rw [Int.natCast_mul], Nat.mul_pos (bt_pos hb) (bt_pos hd), bd9, k⟩⟩
end
end K01
set_option Elab.async false
set_option linter.all false
set_option maxRecDepth 100000
set_option maxHeartbeats 4000000
namespace K01
open PySem PySem.Spec PyProof.Rows L2
section
variable {P : Program} {w : World} {K : PySem.W.Frag} {mg : Str → Option Value} {base : Heap}
theorem tp_zero {t b : Nat} (h : 1 ≤ b) : tp t b = 0 ↔ t = 0 := by
  constructor
  · intro e
    rcases Nat.eq_zero_or_pos t with z | z
    · exact z
    · have := Nat.div_pos (Nat.gcd_le_left b z) (Nat.gcd_pos_of_pos_right t h)
      unfold tp at e
      omega
  · intro e
    subst e
    exact Nat.zero_div _
/-! ### ~ Ratio -/
def spNeg (C CI : Addr) : Sp := fun vs H Q E => ∃ (x : V) (t b : Nat), vs = [x] ∧ Rt C H x t b ∧ 1 ≤ b ∧ t < 2 ^ 8990 ∧ ((t = 0 ∧ Inv1 CI (.int 0) H E) ∨ (0 < t ∧ ∀ v H2, Same H H2 → Rt C H2 v (bt t b) (tp t b) → Q v H2))
theorem sc_neg : FnScope ["self"] ["self"] (defScope (methOf (top 13) 2)) := ⟨rfl, rfl, rfl, by decide +kernel, rfl, by decide +kernel, by decide +kernel⟩
theorem ok_neg {f : Addr} {fd : FuncData} {C CI : Addr} {bmB : List Value} {newId : String} (F : FnM K "__invert__" "Ratio.__invert__" (methOf (top 13) 2) f fd) (c_Ratio : RatioC P w K mg base C CI) (c_InvalidNumber : Ecl P w K mg base "InvalidNumber" CI bmB newId ["value"]) : FnOk P w K mg base (L2.CX P w) 5 f fd ["self"] (spNeg C CI) := by
  have sc := sc_neg
  refine F.ok sc (fun vs H Q E h => ?_) (fun cdv A outer s H vs Q E hr h => ?_)
  · obtain ⟨x, t, b, rfl, _⟩ := h
    rfl
  · obtain ⟨x, t, b, rfl, ⟨a, dx, rfl, ha⟩, hb, t9, h⟩ := h
    have hr_ratio : Room 4 _ := hr
    have hr_ecl : Room 2 _ := hr.mono (by decide)
    have px := passN (P := P) (w := w) (X := cxOf (L2.CX P w) P w K mg base ["self"] "Ratio.__invert__" (defScope (methOf (top 13) 2)) f cdv A outer s H E) rfl rfl
    refine ⟨_, (pss_cons (ps_if (pt_cmpR op_eq (pe_fld (pv 0) rfl) pe_int (nomark _)) (pss_one (ps_raise rfl (takes_of rfl rfl rfl rfl) (pmk_ecl c_InvalidNumber (by decide) hr_ecl rfl (pa_cons pe_int pa_nil)))) pss_nil)
      (pss_one (ps_ret (pe_ratio c_Ratio hr_ratio rfl px (pa_cons (pe_fld (pv 0) rfl) (pa_cons (pe_fld (pv 0) rfl) pa_nil)))))), ?_⟩
    refine ⟨_, rfl, a, C, dx, _, _, rfl, ha, c_Ratio.cls, c_Ratio.n1, rat_top, rfl, _, rfl, ?_⟩
    rcases h with ⟨rfl, ke⟩ | ⟨t0, k⟩
    · refine ite2 (fun _ => ⟨rfl, ke⟩) (fun e => absurd (decide_eq_true ?_) e)
      show V.int ((tp 0 b : Nat) : Int) = V.int 0
      rw [(tp_zero hb).mpr rfl]
      rfl
    · have tp0 : 0 < tp t b := Nat.pos_of_ne_zero fun z => by
        have := (tp_zero hb).mp z
        omega
      refine ite2 (fun e => ?_) (fun _ => ?_)
      · have := of_decide_eq_true e
        have e2 : ((tp t b : Nat) : Int) = 0 := V.int.inj this
        omega
      refine ⟨_, rfl, a, C, dx, _, _, rfl, ha, c_Ratio.cls, c_Ratio.n2, rat_bot, _, rfl, a, C, dx, _, _, rfl, ha, c_Ratio.cls, c_Ratio.n1, rat_top, ?_⟩
      exact ⟨_, _, rfl, .inl ⟨bt t b, tp t b, rfl, rfl, tp0, Nat.lt_of_le_of_lt tp_le t9, k⟩⟩
/-! ### Ratio.raised -/
def spRaised (C CI : Addr) : Sp := fun vs H Q E => ∃ (x : V) (n : Int) (t b m : Nat), vs = [x, .int n] ∧ Rt C H x t b ∧ 1 ≤ b ∧ 0 < m ∧ t < 2 ^ m ∧ b < 2 ^ m ∧ m * (n.natAbs + 1) ≤ 8900 ∧
  ((0 ≤ n ∧ ∀ v H2, Same H H2 → Rt C H2 v (tp t b ^ n.natAbs) (bt t b ^ n.natAbs) → Q v H2) ∨ (n < 0 ∧ t = 0 ∧ Inv1 CI (.int 0) H E) ∨ (n < 0 ∧ 0 < t ∧ ∀ v H2, Same H H2 → Rt C H2 v (bt t b ^ n.natAbs) (tp t b ^ n.natAbs) → Q v H2))
theorem sc_raised : FnScope ["self", "k"] ["self", "k"] (defScope (methOf (top 13) 3)) := ⟨rfl, rfl, rfl, by decide +kernel, rfl, by decide +kernel, by decide +kernel⟩
theorem natPow (x e : Nat) : ((x : Nat) : Int) ^ e = ((x ^ e : Nat) : Int) := by
  induction e with
  | zero => rfl
  | succ e ih => rw [Int.pow_succ, Nat.pow_succ, ih, Int.natCast_mul]
theorem pow_bd {x m e : Nat} (h : x < 2 ^ m) (hm : m * (e + 1) ≤ 8900) : x ^ e < 2 ^ 8990 := by
  have h2 := pow_lt (b := (x : Int)) (k := m) (i := e) (by rw [Int.natAbs_natCast]; exact h)
  rw [natPow, Int.natAbs_natCast] at h2
  rw [Nat.mul_succ] at hm
  exact Nat.lt_of_lt_of_le h2 (Nat.pow_le_pow_right (by decide) (by omega))
theorem ok_raised {f : Addr} {fd : FuncData} {C CI : Addr} {bmB : List Value} {newId : String} (F : FnM K "raised" "Ratio.raised" (methOf (top 13) 3) f fd) (c_Ratio : RatioC P w K mg base C CI) (c_InvalidNumber : Ecl P w K mg base "InvalidNumber" CI bmB newId ["value"]) (c_power_of : Cal P w K mg base CX0 "power_of" 1 ["base", "exponent"] spPow) : FnOk P w K mg base (L2.CX P w) 5 f fd ["self", "k"] (spRaised C CI) := by
  have sc := sc_raised
  refine F.ok sc (fun vs H Q E h => ?_) (fun cdv A outer s H vs Q E hr h => ?_)
  · obtain ⟨x, n, t, b, m, rfl, _⟩ := h
    rfl
  · obtain ⟨x, n, t, b, m, rfl, ⟨a, dx, rfl, ha⟩, hb, m0, tm, bm, hm, h⟩ := h
    have hr_ratio : Room 4 _ := hr
    have hr_ecl : Room 2 _ := hr.mono (by decide)
    have hr_power_of : Room 1 _ := hr.mono (by decide)
    have px := passN (P := P) (w := w) (X := cxOf (L2.CX P w) P w K mg base ["self", "k"] "Ratio.raised" (defScope (methOf (top 13) 3)) f cdv A outer s H E) rfl rfl
    have T : ∀ {R : Prop}, (tp t b < 2 ^ m → bt t b < 2 ^ m → R) → R := fun k => k (Nat.lt_of_le_of_lt tp_le tm) (Nat.lt_of_le_of_lt bt_le bm)
    refine T fun tm2 bm2 => ?_
    have hm9 : m * (n.natAbs + 1) ≤ 900000 := Nat.le_trans hm (by decide)
    refine ⟨_, (pss_cons (ps_if (pt_cmpR op_ge (pv 1) pe_int (nomark _)) (pss_one (ps_ret (pe_ratio c_Ratio hr_ratio rfl px (pa_cons (pe_cal c_power_of hr_power_of rfl (pa_cons (pe_fld (pv 0) rfl) (pa_cons (pv 1) pa_nil))) (pa_cons (pe_cal c_power_of hr_power_of rfl (pa_cons (pe_fld (pv 0) rfl) (pa_cons (pv 1) pa_nil))) pa_nil))))) pss_nil)
      (pss_cons (ps_if (pt_cmpR op_eq (pe_fld (pv 0) rfl) pe_int (nomark _)) (pss_one (ps_raise rfl (takes_of rfl rfl rfl rfl) (pmk_ecl c_InvalidNumber (by decide) hr_ecl rfl (pa_cons pe_int pa_nil)))) pss_nil)
      (pss_one (ps_ret (pe_ratio c_Ratio hr_ratio rfl px (pa_cons (pe_cal c_power_of hr_power_of rfl (pa_cons (pe_fld (pv 0) rfl) (pa_cons (pe_un un_neg (pv 1)) pa_nil))) (pa_cons (pe_cal c_power_of hr_power_of rfl (pa_cons (pe_fld (pv 0) rfl) (pa_cons (pe_un un_neg (pv 1)) pa_nil))) pa_nil))))))), ?_⟩
    refine ⟨_, rfl, _, _, rfl, rfl, _, rfl, ?_⟩
    rcases h with ⟨n0, k⟩ | ⟨n0, rfl, ke⟩ | ⟨n0, t0, k⟩
    · refine ite2 (fun _ => ?_) (fun e => absurd (decide_eq_true n0) e)
      have en : n = ((n.natAbs : Nat) : Int) := (Int.natAbs_of_nonneg n0).symm
      refine ⟨_, rfl, a, C, dx, _, _, rfl, ha, c_Ratio.cls, c_Ratio.n1, rat_top, _, rfl, (tp t b : Int), n.natAbs, m, by rw [← en]; rfl, by rw [Int.natAbs_natCast]; exact tm2, m0, hm9, ?_⟩
      refine ⟨_, rfl, a, C, dx, _, _, rfl, ha, c_Ratio.cls, c_Ratio.n2, rat_bot, _, rfl, (bt t b : Int), n.natAbs, m, by rw [← en]; rfl, by rw [Int.natAbs_natCast]; exact bm2, m0, hm9, ?_⟩
      exact ⟨_, _, rfl, .inl ⟨tp t b ^ n.natAbs, bt t b ^ n.natAbs, by rw [natPow], by rw [natPow], Nat.pow_pos (bt_pos hb), pow_bd bm2 hm, k⟩⟩
    · refine ite2 (fun e => absurd (of_decide_eq_true e) (Int.not_le.mpr n0)) (fun _ => ?_)
      refine ⟨_, rfl, a, C, dx, _, _, rfl, ha, c_Ratio.cls, c_Ratio.n1, rat_top, rfl, _, rfl, ?_⟩
      refine ite2 (fun _ => ⟨rfl, ke⟩) (fun e => absurd (decide_eq_true ?_) e)
      show V.int ((tp 0 b : Nat) : Int) = V.int 0
      rw [(tp_zero hb).mpr rfl]
      rfl
    · have tp0 : 0 < tp t b := Nat.pos_of_ne_zero fun z => by
        have := (tp_zero hb).mp z
        omega
      refine ite2 (fun e => absurd (of_decide_eq_true e) (Int.not_le.mpr n0)) (fun _ => ?_)
      refine ⟨_, rfl, a, C, dx, _, _, rfl, ha, c_Ratio.cls, c_Ratio.n1, rat_top, rfl, _, rfl, ?_⟩
      refine ite2 (fun e => ?_) (fun _ => ?_)
      · have e2 : ((tp t b : Nat) : Int) = 0 := V.int.inj (of_decide_eq_true e)
        omega
      have en : -n = ((n.natAbs : Nat) : Int) := by omega
      refine ⟨_, rfl, a, C, dx, _, _, rfl, ha, c_Ratio.cls, c_Ratio.n2, rat_bot, _, rfl, _, rfl, (bt t b : Int), n.natAbs, m, by rw [← en]; rfl, by rw [Int.natAbs_natCast]; exact bm2, m0, hm9, ?_⟩
      refine ⟨_, rfl, a, C, dx, _, _, rfl, ha, c_Ratio.cls, c_Ratio.n1, rat_top, _, rfl, _, rfl, (tp t b : Int), n.natAbs, m, by rw [← en]; rfl, by rw [Int.natAbs_natCast]; exact tm2, m0, hm9, ?_⟩
      exact ⟨_, _, rfl, .inl ⟨bt t b ^ n.natAbs, tp t b ^ n.natAbs, by rw [natPow], by rw [natPow], Nat.pow_pos tp0, pow_bd tm2 hm, k⟩⟩
end
end K01
set_option Elab.async false
set_option linter.all false
set_option maxRecDepth 100000
set_option maxHeartbeats 4000000
namespace K01
open PySem PySem.Spec PyProof.Rows L2
section
variable {P : Program} {w : World} {K : PySem.W.Frag} {mg : Str → Option Value} {base : Heap}
/-! ### Ratio.power -/
def primes : List Int := [2, 3, 5, 7, 11, 13, 17, 19, 23, 29, 31, 37, 41, 43, 47, 53, 59, 61]
theorem inV_int {i : Int} {ns : List Int} : inV (V.int i) (ns.map V.int) = decide (i ∈ ns) := by
  induction ns with
  | nil => rfl
  | cons n ns ih =>
    have e : inV (V.int i) ((n :: ns).map V.int) = (n == i || inV (V.int i) (ns.map V.int)) := rfl
    rw [e, ih]
    by_cases h : n = i
    · subst h
      simp
    · have h2 : i ≠ n := fun z => h z.symm
      simp [h, h2]
theorem prime_bd {p : Int} (h : p ∈ primes) : 2 ≤ p ∧ p < 1073741824 := by
  unfold primes at h
  simp only [List.mem_cons, List.not_mem_nil, or_false] at h
  omega
def spPower (C CI : Addr) : Sp := fun vs H Q E => ∃ (x y : V) (t b : Nat), vs = [x, y] ∧ Rt C H x t b ∧ 1 ≤ b ∧ ((((∃ p, y = .int p ∧ ¬ p ∈ primes) ∨ Odd H y) ∧ Inv1 CI y H E) ∨ (t = 0 ∧ (∃ p, y = .int p ∧ p ∈ primes) ∧ Inv1 CI (.int 0) H E) ∨
  (0 < t ∧ ∃ p, y = .int p ∧ p ∈ primes ∧ ∀ (i j : Nat) (r q : Int), ((tp t b : Nat) : Int) = p ^ i * r → r % p ≠ 0 → ((bt t b : Nat) : Int) = p ^ j * q → q % p ≠ 0 → Q (.int ((i : Int) - (j : Int))) H))
theorem sc_power : FnScope ["self", "prime"] ["self", "prime"] (defScope (methOf (top 13) 5)) := ⟨rfl, rfl, rfl, by decide +kernel, rfl, by decide +kernel, by decide +kernel⟩
theorem ok_power {f : Addr} {fd : FuncData} {C CI : Addr} {bmB : List Value} {newId : String} (F : FnM K "power" "Ratio.power" (methOf (top 13) 5) f fd) (c_Ratio : RatioC P w K mg base C CI) (c_InvalidNumber : Ecl P w K mg base "InvalidNumber" CI bmB newId ["value"]) (c_is_whole : Cal P w K mg base CX0 "is_whole" 1 ["value"] (spWhole K)) (c_times_divided : Cal P w K mg base CX0 "times_divided" 1 ["number", "prime"] spTimes)
    (m_PRIMES : mg "PRIMES" = some (.ref (He.ga K "PRIMES"))) (hP : ∀ H, SqT K H (He.ga K "PRIMES") (primes.map V.int)) : FnOk P w K mg base (L2.CX P w) 3 f fd ["self", "prime"] (spPower C CI) := by
  have sc := sc_power
  refine F.ok sc (fun vs H Q E h => ?_) (fun cdv A outer s H vs Q E hr h => ?_)
  · obtain ⟨x, y, t, b, rfl, _⟩ := h
    rfl
  · obtain ⟨x, y, t, b, rfl, ⟨a, dx, rfl, ha⟩, hb, h⟩ := h
    have hr_ecl : Room 2 _ := hr
    have hr_is_whole : Room 1 _ := hr.mono (by decide)
    have hr_times_divided : Room 1 _ := hr.mono (by decide)
    refine ⟨_, (pss_cons (ps_if (PW.pt (pw_or (pt_not (pt_val (pe_cal c_is_whole hr_is_whole rfl (pa_cons (pv 1) pa_nil)))) (pw_or1 (pt_cmpR op_notIn_seq (pv 1) (pe_glob (v := .ref (He.ga K "PRIMES")) rfl m_PRIMES rfl) (by with_unfolding_all rfl))))) (pss_one (ps_raise rfl (takes_of rfl rfl rfl rfl) (pmk_ecl c_InvalidNumber (by decide) hr_ecl rfl (pa_cons (pv 1) pa_nil)))) pss_nil)
      (pss_cons (ps_if (pt_cmpR op_eq (pe_fld (pv 0) rfl) pe_int (nomark _)) (pss_one (ps_raise rfl (takes_of rfl rfl rfl rfl) (pmk_ecl c_InvalidNumber (by decide) hr_ecl rfl (pa_cons pe_int pa_nil)))) pss_nil)
      (pss_one (ps_ret (pe_op op_sub (pe_cal c_times_divided hr_times_divided rfl (pa_cons (pe_fld (pv 0) rfl) (pa_cons (pv 1) pa_nil))) (pe_cal c_times_divided hr_times_divided rfl (pa_cons (pe_fld (pv 0) rfl) (pa_cons (pv 1) pa_nil)))))))), ?_⟩
    have good : ∀ {p : Int}, p ∈ primes → (!inV (V.int p) (primes.map V.int)) = false := fun h => by rw [inV_int, decide_eq_true h]; rfl
    have bad : ∀ {p : Int}, ¬ p ∈ primes → (!inV (V.int p) (primes.map V.int)) = true := fun h => by rw [inV_int, decide_eq_false h]; rfl
    rcases h with ⟨⟨p, rfl, hp⟩ | od, ke⟩ | ⟨rfl, ⟨p, rfl, hp⟩, ke⟩ | ⟨t0, p, rfl, hp, k⟩
    · refine ⟨_, rfl, _, true, rfl, Wh.int _, _, rfl, iteF ?_⟩
      refine ⟨_, rfl, _, _, rfl, .inr (hP _), rfl, by decide, _, rfl, ?_⟩
      refine ite2 (fun _ => ⟨_, rfl, rfl, ke⟩) (fun e => absurd (bad hp) e)
    · refine ⟨_, rfl, _, false, rfl, od.wh, _, rfl, iteT ?_⟩
      exact ⟨_, rfl, rfl, ke⟩
    · refine ⟨_, rfl, _, true, rfl, Wh.int _, _, rfl, iteF ?_⟩
      refine ⟨_, rfl, _, _, rfl, .inr (hP _), rfl, by decide, _, rfl, ?_⟩
      refine ite2 (fun e => ?_) (fun _ => ?_)
      · have e2 : (!inV (V.int p) (primes.map V.int)) = true := e
        rw [good hp] at e2
        cases e2
      refine ⟨_, rfl, a, C, dx, _, _, rfl, ha, c_Ratio.cls, c_Ratio.n1, rat_top, rfl, _, rfl, ?_⟩
      refine ite2 (fun _ => ⟨rfl, ke⟩) (fun e => absurd (decide_eq_true ?_) e)
      show V.int ((tp 0 b : Nat) : Int) = V.int 0
      rw [(tp_zero hb).mpr rfl]
      rfl
    · have tp0 : 0 < tp t b := Nat.pos_of_ne_zero fun z => by
        have := (tp_zero hb).mp z
        omega
      have b0 := bt_pos (t := t) hb
      have pb := prime_bd hp
      refine ⟨_, rfl, _, true, rfl, Wh.int _, _, rfl, iteF ?_⟩
      refine ⟨_, rfl, _, _, rfl, .inr (hP _), rfl, by decide, _, rfl, ?_⟩
      refine ite2 (fun e => ?_) (fun _ => ?_)
      · have e2 : (!inV (V.int p) (primes.map V.int)) = true := e
        rw [good hp] at e2
        cases e2
      refine ⟨_, rfl, a, C, dx, _, _, rfl, ha, c_Ratio.cls, c_Ratio.n1, rat_top, rfl, _, rfl, ?_⟩
      refine ite2 (fun e => ?_) (fun _ => ?_)
      · have e2 : ((tp t b : Nat) : Int) = 0 := V.int.inj (of_decide_eq_true e)
        omega
      refine ⟨_, rfl, a, C, dx, _, _, rfl, ha, c_Ratio.cls, c_Ratio.n1, rat_top, _, rfl, _, _, rfl, by show (0 : Int) < ((tp t b : Nat) : Int); omega, pb.1, pb.2, fun i r h1 h2 => ?_⟩
      refine ⟨_, rfl, a, C, dx, _, _, rfl, ha, c_Ratio.cls, c_Ratio.n2, rat_bot, _, rfl, _, _, rfl, by show (0 : Int) < ((bt t b : Nat) : Int); omega, pb.1, pb.2, fun j q h3 h4 => ?_⟩
      exact ⟨_, _, rfl, rfl, k i j r q h1 h2 h3 h4⟩
end
end K01
set_option Elab.async false
set_option linter.all false
set_option maxRecDepth 100000
set_option maxHeartbeats 4000000
namespace K01
open PySem PySem.Spec PyProof.Rows L2
section
variable {P : Program} {w : World} {K : PySem.W.Frag} {mg : Str → Option Value} {base : Heap}
/-! ### the law's primes, the worth of powers -/
def lprimes : List Int := [2, 3, 5, 7, 11, 13, 17, 41, 59, 61]
def spPrimes : Sp := fun vs H Q _ => vs = [] ∧ ∀ t H2, H t = none → Same H H2 → H2 t = some (.lst (lprimes.map V.int)) → Q (.ref t) H2
theorem sc_primes : FnScope [] [] (defScope (top 34)) := ⟨rfl, rfl, rfl, by decide +kernel, rfl, by decide +kernel, by decide +kernel⟩
theorem ok_primes {f : Addr} {fd : FuncData} (F : FnP K "_law_primes" (top 34) f fd) : FnOk P w K mg base CX0 1 f fd [] spPrimes := by
  have sc := sc_primes
  refine F.ok sc (fun vs H Q E h => ?_) (fun cdv A outer s H vs Q E hr h => ?_)
  · obtain ⟨rfl, _⟩ := h
    rfl
  · obtain ⟨rfl, k⟩ := h
    refine ⟨_, PSs.nox (pss_one (ps_ret (pe_lst (pa_cons pe_int (pa_cons pe_int (pa_cons pe_int (pa_cons pe_int (pa_cons pe_int (pa_cons pe_int (pa_cons pe_int (pa_cons pe_int (pa_cons pe_int (pa_cons pe_int pa_nil))))))))))))), ?_⟩
    exact ⟨(by show 10 ≤ sizeLine; decide), fun t ht => k t _ ht (Same.new ht) upd_same⟩
def worth (es : List Int) : Int := (lprimes.zip es).foldl (fun a q => a * q.1 ^ q.2.toNat) 1
def spWorth (K : PySem.W.Frag) : Sp := fun vs H Q _ => ∃ (l : Addr) (es : List Int), vs = [.ref l] ∧ SqL K H l (es.map V.int) ∧ es.length = 10 ∧ (∀ e ∈ es, e ≤ 1000000) ∧ ∀ H2, Same H H2 → Q (.int (worth es)) H2
theorem sc_worth : FnScope ["_law_powers", "_law_found", "_law_prime", "_law_power", "_law_lap"] ["_law_powers"] (defScope (top 36)) := ⟨rfl, rfl, rfl, by decide +kernel, rfl, by decide +kernel, by decide +kernel⟩
theorem map_at {α β : Type} {f : α → β} {xs : List α} {i : Nat} {y : β} (h : (xs.map f)[i]? = some y) : ∃ x, xs[i]? = some x ∧ y = f x := by
  rw [List.getElem?_map] at h
  cases e : xs[i]? with
  | none =>
    rw [e] at h
    cases h
  | some x =>
    rw [e] at h
    exact ⟨x, rfl, (Option.some.inj h).symm⟩
theorem lprime_bd {p : Int} (h : p ∈ lprimes) : 2 ≤ p ∧ p < 100 := by
  unfold lprimes at h
  simp only [List.mem_cons, List.not_mem_nil, or_false] at h
  omega
theorem ok_worth {f : Addr} {fd : FuncData} (F : FnP K "_law_worth" (top 36) f fd) (m_zip : mg "zip" = none) (m_range : mg "range" = none) (m_max : mg "max" = none) (c__law_primes : Cal P w K mg base CX0 "_law_primes" 1 [] spPrimes) : FnOk P w K mg base CX0 2 f fd ["_law_powers"] (spWorth K) := by
  have sc := sc_worth
  refine F.ok sc (fun vs H Q E h => ?_) (fun cdv A outer s H vs Q E hr h => ?_)
  · obtain ⟨l, es, rfl, _⟩ := h
    rfl
  · obtain ⟨l, es, rfl, hl, hn, hb, k⟩ := h
    have hr__law_primes : Room 1 _ := hr
    refine ⟨_, PSs.nox (pss_cons (ps_set (i := 1) sc.nd rfl (Or.inl rfl) pe_int)
      (pss_cons (ps_for PassesOwn.never rfl (RZ.pi_zipA rfl m_zip (pa_cons (pe_cal0 c__law_primes hr__law_primes rfl) (pa_cons (pv 0) pa_nil))) (pg_tup rfl (pgs_cons (pg_name (i := 2) sc.nd rfl (Or.inl rfl)) (pgs_cons (pg_name (i := 3) sc.nd rfl (Or.inl rfl)) pgs_nil))) (pss_one (ps_for PassesOwn.never rfl (pi_range1 rfl m_range (pa_cons (pe_callB (call_max2 rfl) (by rfl) m_max (by decide +kernel) (pa_cons pe_int (pa_cons (pv 3) pa_nil))) pa_nil)) (pg_name (i := 4) sc.nd rfl (Or.inl rfl)) (pss_one (ps_set (i := 1) sc.nd rfl (Or.inl rfl) (pe_op op_mul (pv 1) (pv 2)))))))
      (pss_one (ps_ret (pv 1))))), ?_⟩
    refine ⟨rfl, fun t H1 ht s1 h1 => ?_⟩
    refine ⟨_, rfl, t, l, _, _, rfl, .inl ⟨SqL.of h1, s1.seq hl, ?_⟩⟩
    refine RZ.for_zipL (xs := lprimes.map V.int) (ys := es.map V.int) (by rw [List.length_map, List.length_map, hn]; rfl) (fun i σ H2 => ∃ v2 v3 v4, σ = [some (.ref l), some (.int (((lprimes.zip es).take i).foldl (fun a q => a * q.1 ^ q.2.toNat) 1)), v2, v3, v4] ∧ Same H1 H2) ⟨none, none, none, rfl, Same.refl _⟩ (fun i σ H2 ⟨_, _, _, _, s2⟩ => ⟨SqL.of (s2 _ _ h1), s2.seq (s1.seq hl)⟩) ?_ ?_
    · rintro i x y T σ H2 hx hy ⟨v2, v3, v4, rfl, s2⟩ hT
      obtain ⟨p, ep, rfl⟩ := map_at hx
      obtain ⟨e, ee, rfl⟩ := map_at hy
      have pb := lprime_bd (List.mem_of_getElem? ep)
      have eb := hb e (List.mem_of_getElem? ee)
      have s3 := s2.trans (Same.new (o := .tup [.int p, .int e]) hT)
      refine ⟨T, _, rfl, SqT.of upd_same, rfl, _, _, rfl, _, _, rfl, rfl, ?_⟩
      have mx : (if e > 0 then e else 0).toNat = e.toNat := by
        split <;> omega
      refine ⟨_, rfl, _, _, rfl, _, rfl, by split <;> omega, by split <;> omega, ?_⟩
      rw [mx]
      refine for_range (lo := 0) (n := e.toNat) (fun j σ H3 => ∃ v4, σ = [some (.ref l), some (.int (((lprimes.zip es).take i).foldl (fun a q => a * q.1 ^ q.2.toNat) 1 * p ^ j)), some (.int p), some (.int e), v4] ∧ H3 = upd H2 T (.tup [.int p, .int e])) ⟨_, by rw [Int.pow_zero, Int.mul_one]; rfl, rfl⟩ ?_ ?_
      · rintro j σ H3 hj ⟨v4, rfl, rfl⟩
        refine ⟨_, rfl, _, rfl, _, _, rfl, rfl, .inr ⟨by omega, by omega⟩, ?_⟩
        exact ⟨_, by rw [Int.pow_succ, ← Int.mul_assoc]; rfl, rfl⟩
      · rintro σ H3 ⟨v4, rfl, rfl⟩
        refine ⟨some (.int p), some (.int e), v4, ?_, s3⟩
        have ez : (lprimes.zip es)[i]? = some (p, e) := List.getElem?_zip_eq_some.mpr ⟨ep, ee⟩
        rw [List.take_succ, ez, List.foldl_append]
        rfl
    · rintro σ H2 ⟨v2, v3, v4, rfl, s2⟩
      have e : (lprimes.zip es).take (lprimes.map V.int).length = lprimes.zip es := List.take_of_length_le (by rw [List.length_zip, List.length_map]; exact Nat.min_le_left _ _)
      rw [e]
      exact ⟨_, rfl, k _ (s1.trans s2)⟩
end
end K01
set_option Elab.async false
set_option linter.all false
set_option maxRecDepth 100000
set_option maxHeartbeats 4000000
namespace K01
open PySem PySem.Spec PyProof.Rows L2
section
variable {P : Program} {w : World} {K : PySem.W.Frag} {mg : Str → Option Value} {base : Heap}
def spDraw : Sp := fun vs H Q _ => ∃ (g : Bg) (m : Int), vs = [.ref g.b, .int m] ∧ Bag g H ∧ 1 ≤ m ∧ m < 1073741824 ∧ ∀ d H', Drew g H H' → 0 ≤ d → d < m → Q (.int d) H'
theorem sc_draw : FnScope ["_law_bag_here", "_law_many", "_law_item", "_law_digit"] ["_law_bag_here", "_law_many"] (defScope (top 28)) := ⟨rfl, rfl, rfl, by decide +kernel, rfl, by decide +kernel, by decide +kernel⟩
abbrev bagL (l : Addr) (i u sd c : Int) : List V := [.ref l, .int i, .int u, .int sd, .int c]
theorem at0 {l : Addr} {i u sd c : Int} : atI (bagL l i u sd c) 0 = some (.ref l) := rfl
theorem ok_draw {f : Addr} {fd : FuncData} (F : FnP K "_law_draw" (top 28) f fd) (m_int : mg "int" = none) (m_len : mg "len" = none) : FnOk P w K mg base CX0 1 f fd ["_law_bag_here", "_law_many"] spDraw := by
  have sc := sc_draw
  refine F.ok sc (fun vs H Q E h => ?_) (fun cdv A outer s H vs Q E hr h => ?_)
  · obtain ⟨b, m, rfl, _⟩ := h
    rfl
  · obtain ⟨⟨b, l, ns⟩, m, rfl, ⟨i, u, sd, c, hb, hl, nlb, h63, hi, hu, hs0, hs1⟩, hm1, hm2, k⟩ := h
    dsimp only at hb hl nlb h63 hi k
    -- what the states have in common
    have bag : ∀ (i' : Nat) (u' sd' c' : Int), i' ≤ ns.length → 0 ≤ u' → 0 ≤ sd' → sd' < 2147483629 → Drew ⟨b, l, ns⟩ H (upd H b (.lst (bagL l i' u' sd' c'))) := fun i' u' sd' c' h1 h2 h3 h4 =>
      ⟨fun a o n e => by rw [upd_ne n]; exact e, i', u', sd', c', upd_same, by show upd H b _ l = _; rw [upd_ne nlb]; exact hl, nlb, h63, h1, h2, h3, h4⟩
    refine ⟨_, PSs.nox (pss_cons (ps_asg (pe_op op_add (pe_ix ix_list (pv 0) pe_int (fun _ _ => rfl)) pe_int) (pg_sub (pv 0) pe_int set_list (fun _ => rfl)))
      (Evl.pss_cut (ps_if (PW.pt (pw_and (pt_cmpR op_eq (pe_ix ix_list (pv 0) pe_int (fun _ _ => rfl)) pe_int (nomark _)) (pw_and1 (pt_cmpR op_lt (pe_ix ix_list (pv 0) pe_int (fun _ _ => rfl)) (pe_callB call_len_seq (by rfl) m_len (by decide +kernel) (pa_cons (pe_ix ix_list (pv 0) pe_int (fun _ _ => rfl)) pa_nil)) (nomark _))))) (pss_cons (ps_set (i := 2) sc.nd rfl (Or.inl rfl) (pe_ix ix_list (pe_ix ix_list (pv 0) pe_int (fun _ _ => rfl)) (pe_ix ix_list (pv 0) pe_int (fun _ _ => rfl)) (fun _ _ => rfl)))
      (pss_cons (ps_asg (pe_op op_add (pe_ix ix_list (pv 0) pe_int (fun _ _ => rfl)) pe_int) (pg_sub (pv 0) pe_int set_list (fun _ => rfl)))
      (pss_one (ps_if (pt_cmpR op_ge (pv 2) (pe_op op_pow pe_int pe_int) (nomark _)) (pss_one (ps_asg (pv 2) (pg_sub (pv 0) pe_int set_list (fun _ => rfl)))) (pss_one (ps_asg (pe_op op_mod (pe_callTy call_int1 (by rfl) m_int (by decide +kernel) (pa_cons (pe_op op_add (pe_op op_add (pe_op op_mul (pe_ix ix_list (pv 0) pe_int (fun _ _ => rfl)) pe_int) (pe_op op_mul (pe_op op_mod (pe_callTy call_int1 (by rfl) m_int (by decide +kernel) (pa_cons (pv 2) pa_nil)) pe_int) pe_int)) pe_int) pa_nil)) pe_int) (pg_sub (pv 0) pe_int set_list (fun _ => rfl)))))))) pss_nil)
      (pss_cons (ps_if (pt_cmpR op_gt (pe_ix ix_list (pv 0) pe_int (fun _ _ => rfl)) pe_int (nomark _)) (pss_cons (ps_set (i := 3) sc.nd rfl (Or.inl rfl) (pe_op op_mod (pe_callTy call_int1 (by rfl) m_int (by decide +kernel) (pa_cons (pe_ix ix_list (pv 0) pe_int (fun _ _ => rfl)) pa_nil)) (pv 1)))
      (pss_cons (ps_asg (pe_op op_fdiv (pe_ix ix_list (pv 0) pe_int (fun _ _ => rfl)) (pv 1)) (pg_sub (pv 0) pe_int set_list (fun _ => rfl)))
      (pss_one (ps_ret (pv 3))))) pss_nil)
      (pss_cons (ps_asg (pe_op op_mod (pe_callTy call_int1 (by rfl) m_int (by decide +kernel) (pa_cons (pe_op op_add (pe_op op_add (pe_op op_pow (pe_ix ix_list (pv 0) pe_int (fun _ _ => rfl)) pe_int) (pe_op op_mul (pe_ix ix_list (pv 0) pe_int (fun _ _ => rfl)) pe_int)) pe_int) pa_nil)) pe_int) (pg_sub (pv 0) pe_int set_list (fun _ => rfl)))
      (pss_one (ps_ret (pe_op op_mod (pe_callTy call_int1 (by rfl) m_int (by decide +kernel) (pa_cons (pe_op op_add (pe_op op_fdiv (pe_ix ix_list (pv 0) pe_int (fun _ _ => rfl)) pe_int) (pe_op op_mul (pe_op op_mod (pe_callTy call_int1 (by rfl) m_int (by decide +kernel) (pa_cons (pe_ix ix_list (pv 0) pe_int (fun _ _ => rfl)) pa_nil)) pe_int) pe_int)) pa_nil)) (pv 1)))))))), ?_⟩
    refine ⟨_, rfl, b, bagL l i u sd c, 4, _, rfl, rfl, SqL.of hb, rfl, _, _, rfl, rfl, _, rfl, b, _, 4, 4, rfl, rfl, hb, rfl, ?_⟩
    show Evl.tCut _ _ _ _ (upd H b (.lst (bagL l i u sd (c + 1))))
    refine ⟨fun σ' H' => ∃ (i' : Nat) (u' sd' : Int) (v : Option V), σ' = [some (.ref b), some (.int m), v, none] ∧ H' = upd H b (.lst (bagL l i' u' sd' (c + 1))) ∧ i' ≤ ns.length ∧ 0 ≤ u' ∧ 0 ≤ sd' ∧ sd' < 2147483629, ?_, ?_⟩
    · have hl1 : ∀ o, upd H b o l = some (.lst (ns.map V.int)) := fun o => by rw [upd_ne nlb]; exact hl
      refine ⟨_, rfl, b, _, 2, _, rfl, rfl, SqL.of upd_same, rfl, rfl, _, rfl, ite2 (fun e0 => ?_) (fun e0 => ?_)⟩
      · refine ⟨_, rfl, b, _, 1, _, rfl, rfl, SqL.of upd_same, rfl, _, rfl, b, _, 0, _, rfl, rfl, SqL.of upd_same, rfl, l, _, rfl, .inl (SqL.of (hl1 _)), _, _, rfl, rfl, _, rfl, ite2 (fun e1 => ?_) (fun e1 => ?_)⟩
        · have hlt : i < ns.length := by
            have q := of_decide_eq_true e1
            rw [List.length_map] at q
            exact Int.ofNat_lt.mp q
          have hat : atI (ns.map V.int) (i : Int) = some (.int ns[i]) := atI_nat (by rw [List.getElem?_map, List.getElem?_eq_getElem hlt]; rfl)
          refine ⟨_, rfl, b, _, 0, _, rfl, rfl, SqL.of upd_same, rfl, _, rfl, b, _, 1, _, rfl, rfl, SqL.of upd_same, rfl, l, _, _, _, rfl, rfl, SqL.of (hl1 _), hat, ?_⟩
          refine ⟨_, rfl, b, _, 1, _, rfl, rfl, SqL.of upd_same, rfl, _, _, rfl, rfl, _, rfl, b, _, 1, 1, rfl, rfl, upd_same, rfl, ?_⟩
          refine ⟨_, rfl, _, _, rfl, rfl, ⟨by decide, by decide, by decide⟩, _, _, rfl, rfl, _, rfl, ite2 (fun e2 => ?_) (fun e2 => ?_)⟩
          · refine ⟨_, rfl, _, rfl, b, _, 2, 2, rfl, rfl, upd_same, rfl, ?_⟩
            refine ⟨i + 1, ns[i], sd, _, rfl, ?_, hlt, ?_, hs0, hs1⟩
            · rw [upd_upd, upd_upd]
              rfl
            · have q := of_decide_eq_true e2
              exact Int.le_trans (by decide) q
          · refine ⟨_, rfl, b, _, 3, _, rfl, rfl, SqL.of upd_same, rfl, _, _, rfl, rfl, .inr ⟨by decide, by decide⟩, _, rfl, .inl ⟨_, rfl, _, _, rfl, rfl, (by show (0 : Int) < 2147483549; decide), _, _, rfl, rfl, .inr ⟨by decide, by decide⟩, _, _, rfl, rfl, _, _, rfl, rfl, .inl ⟨_, rfl, _, _, rfl, rfl, (by show (0 : Int) < 2147483629; decide), _, rfl, b, _, 3, 3, rfl, rfl, upd_same, rfl, ?_⟩⟩⟩
            refine ⟨i + 1, u, (sd * 40692 + ns[i] % 2147483549 * 30011 + 71) % 2147483629, _, rfl, ?_, hlt, hu, Int.emod_nonneg _ (by decide), Int.emod_lt_of_pos _ (by decide)⟩
            rw [upd_upd, upd_upd]
            rfl
        · exact ⟨i, u, sd, _, rfl, rfl, hi, hu, hs0, hs1⟩
      · exact iteF ⟨i, u, sd, _, rfl, rfl, hi, hu, hs0, hs1⟩
    · rintro σ' H' ⟨i', u', sd', v, rfl, rfl, g1, g2, g3, g4⟩
      have hmod : ∀ z : Int, 0 ≤ z % m ∧ z % m < m := fun z => ⟨Int.emod_nonneg _ (by omega), Int.emod_lt_of_pos _ (by omega)⟩
      refine ⟨_, rfl, b, _, 2, _, rfl, rfl, SqL.of upd_same, rfl, _, _, rfl, rfl, _, rfl, ite2 (fun e0 => ?_) (fun e0 => ?_)⟩
      · refine ⟨_, rfl, b, _, 2, _, rfl, rfl, SqL.of upd_same, rfl, .inl ⟨_, rfl, _, rfl, _, _, rfl, rfl, (by show 0 < m; omega), ?_⟩⟩
        refine ⟨_, rfl, b, _, 2, _, rfl, rfl, SqL.of upd_same, rfl, _, rfl, _, _, rfl, rfl, ⟨(by show 0 < m; omega), (by show m < 1073741824; omega)⟩, _, rfl, b, _, 2, 2, rfl, rfl, upd_same, rfl, ?_⟩
        refine ⟨_, rfl, ?_⟩
        rw [upd_upd]
        exact k _ _ (bag i' (u' / m) sd' (c + 1) g1 (Int.ediv_nonneg g2 (by omega)) g3 g4) (hmod _).1 (hmod _).2
      · refine ⟨_, rfl, b, _, 3, _, rfl, rfl, SqL.of upd_same, rfl, _, _, rfl, rfl, ⟨by decide, by decide, by show sd'.natAbs < 2 ^ 64; omega⟩, _, rfl, b, _, 4, _, rfl, rfl, SqL.of upd_same, rfl, _, _, rfl, rfl, .inr ⟨by decide, by decide⟩, _, _, rfl, rfl, _, _, rfl, rfl, .inl ⟨_, rfl, _, _, rfl, rfl, (by show (0 : Int) < 2147483629; decide), _, rfl, b, _, 3, 3, rfl, rfl, upd_same, rfl, ?_⟩⟩
        refine ⟨_, rfl, b, _, 3, _, rfl, rfl, SqL.of upd_same, rfl, _, _, rfl, rfl, ⟨(by show (0 : Int) < 89; decide), (by show (89 : Int) < 1073741824; decide)⟩, _, rfl, b, _, 3, _, rfl, rfl, SqL.of upd_same, rfl, .inl ⟨_, rfl, _, _, rfl, rfl, (by show (0 : Int) < 7907; decide), _, _, rfl, rfl, .inr ⟨by decide, by decide⟩, _, _, rfl, rfl, .inl ⟨_, rfl, _, rfl, _, _, rfl, rfl, (by show 0 < m; omega), ?_⟩⟩⟩
        rw [upd_upd]
        exact k _ _ (bag i' u' _ (c + 1) g1 g2 (Int.emod_nonneg _ (by decide)) (Int.emod_lt_of_pos _ (by decide))) (hmod _).1 (hmod _).2
end
end K01
set_option Elab.async false
set_option linter.all false
set_option maxRecDepth 100000
set_option maxHeartbeats 4000000
namespace K01
open PySem PySem.Spec PyProof.Rows L2
section
variable {P : Program} {w : World} {K : PySem.W.Frag} {mg : Str → Option Value} {base : Heap}
theorem foldl_mul {α : Type} (f : α → Int) : ∀ (l : List α) (a : Int), l.foldl (fun a q => a * f q) a = a * l.foldl (fun a q => a * f q) 1
  | [], a => (Int.mul_one a).symm
  | x :: l, a => by
    show l.foldl (fun a q => a * f q) (a * f x) = a * l.foldl (fun a q => a * f q) (1 * f x)
    rw [foldl_mul f l (a * f x), foldl_mul f l (1 * f x), Int.one_mul, Int.mul_assoc]
theorem worth_set : ∀ (ps es : List Int) (k : Nat) (p e : Int), ps[k]? = some p → es[k]? = some e → 0 ≤ e → (ps.zip (es.set k (e + 1))).foldl (fun a q => a * q.1 ^ q.2.toNat) 1 = (ps.zip es).foldl (fun a q => a * q.1 ^ q.2.toNat) 1 * p
  | [], _, _, _, _, h, _, _ => by simp at h
  | _ :: _, [], _, _, _, _, h, _ => by simp at h
  | q :: ps, d :: es, 0, p, e, h1, h2, h3 => by
    cases h1
    cases h2
    show (ps.zip es).foldl _ (1 * q ^ (d + 1).toNat) = (ps.zip es).foldl _ (1 * q ^ d.toNat) * q
    rw [foldl_mul (fun q : Int × Int => q.1 ^ q.2.toNat), foldl_mul (fun q : Int × Int => q.1 ^ q.2.toNat) _ (1 * q ^ d.toNat), show (d + 1).toNat = d.toNat + 1 by omega, Int.pow_succ, Int.one_mul, Int.one_mul, Int.mul_assoc, Int.mul_assoc, Int.mul_comm q]
  | q :: ps, d :: es, k + 1, p, e, h1, h2, h3 => by
    have ih := worth_set ps es k p e (by simpa using h1) (by simpa using h2) h3
    show (ps.zip (es.set k (e + 1))).foldl _ (1 * q ^ d.toNat) = (ps.zip es).foldl _ (1 * q ^ d.toNat) * p
    rw [foldl_mul (fun q : Int × Int => q.1 ^ q.2.toNat), ih, foldl_mul (fun q : Int × Int => q.1 ^ q.2.toNat) _ (1 * q ^ d.toNat)]
    simp only [Int.one_mul, Int.mul_assoc]
/-! ### _law_number: a number within a room, and its powers -/
def spNum : Sp := fun vs H Q _ => ∃ (g : Bg) (room most : Int), vs = [.ref g.b, .int room, .int most] ∧ Bag g H ∧ 1 ≤ room ∧ 0 ≤ most ∧ most ≤ 1000 ∧
  ∀ (t l : Addr) (es : List Int) (H2 : Hp), Drew g H H2 → H t = none → H l = none → H2 t = some (.tup [.int (worth es), .ref l]) → H2 l = some (.lst (es.map V.int)) → es.length = 10 → (∀ e ∈ es, 0 ≤ e ∧ e ≤ most) → 1 ≤ worth es → worth es ≤ room → Q (.ref t) H2
theorem sc_num : FnScope ["_law_bag_here", "_law_room", "_law_most_primes", "_law_worth_here", "_law_found", "_law_lap", "_law_k"] ["_law_bag_here", "_law_room", "_law_most_primes"] (defScope (top 35)) := ⟨rfl, rfl, rfl, by decide +kernel, rfl, by decide +kernel, by decide +kernel⟩
theorem worth0 : worth (List.replicate 10 0) = 1 := by decide +kernel
theorem ok_num {f : Addr} {fd : FuncData} (F : FnP K "_law_number" (top 35) f fd) (m_range : mg "range" = none) (c__law_primes : Cal P w K mg base CX0 "_law_primes" 1 [] spPrimes) (c__law_draw : Cal P w K mg base CX0 "_law_draw" 1 ["_law_bag_here", "_law_many"] spDraw) : FnOk P w K mg base CX0 2 f fd ["_law_bag_here", "_law_room", "_law_most_primes"] spNum := by
  have sc := sc_num
  refine F.ok sc (fun vs H Q E h => ?_) (fun cdv A outer s H vs Q E hr h => ?_)
  · obtain ⟨g, room, most, rfl, _⟩ := h
    rfl
  · obtain ⟨g, room, most, rfl, hB, r1, m0, m1, k⟩ := h
    have hr__law_primes : Room 1 _ := hr
    have hr__law_draw : Room 1 _ := hr
    refine ⟨_, PSs.nox (pss_cons (ps_par (i := 3) (j := 4) rfl sc.nd rfl rfl (by decide) rfl rfl (pa_cons pe_int (pa_cons (pe_op op_rep (pe_lst (pa_cons pe_int pa_nil)) pe_int) pa_nil)) (by rfl))
      (pss_cons (ps_for PassesOwn.never rfl (pi_range1 rfl m_range (pa_cons (pe_cal c__law_draw hr__law_draw rfl (pa_cons (pv 0) (pa_cons (pe_op op_add (pv 2) pe_int) pa_nil))) pa_nil)) (pg_name (i := 5) sc.nd rfl (Or.inl rfl)) (pss_cons (ps_set (i := 6) sc.nd rfl (Or.inl rfl) (pe_ifExp (pt_cmpR op_eq (pe_cal c__law_draw hr__law_draw rfl (pa_cons (pv 0) (pa_cons pe_int pa_nil))) pe_int (nomark _)) (pe_cal c__law_draw hr__law_draw rfl (pa_cons (pv 0) (pa_cons pe_int pa_nil))) (pe_cal c__law_draw hr__law_draw rfl (pa_cons (pv 0) (pa_cons pe_int pa_nil)))))
      (pss_one (ps_if (pt_cmpR op_le (pe_op op_mul (pv 3) (pe_ix ix_list (pe_cal0 c__law_primes hr__law_primes rfl) (pv 6) (fun _ _ => rfl))) (pv 1) (nomark _)) (pss_cons (ps_set (i := 3) sc.nd rfl (Or.inl rfl) (pe_op op_mul (pv 3) (pe_ix ix_list (pe_cal0 c__law_primes hr__law_primes rfl) (pv 6) (fun _ _ => rfl))))
      (pss_one (ps_asg (pe_op op_add (pe_ix ix_list (pv 4) (pv 6) (fun _ _ => rfl)) pe_int) (pg_sub (pv 4) (pv 6) set_list (fun _ => rfl))))) pss_nil))))
      (pss_one (ps_ret (pe_tup (pa_cons (pv 3) (pa_cons (pv 4) pa_nil))))))), ?_⟩
    refine ⟨(by show 1 ≤ sizeLine; decide), fun l0 h0 => ?_⟩
    have s0 := Same.new (o := .lst [.int 0]) h0
    refine ⟨l0, 10, _, rfl, rfl, upd_same, by decide, by decide, (by show 1 * 10 ≤ sizeLine; decide), fun l hl => ?_⟩
    have s1 := s0.trans (Same.new (o := .lst (List.replicate 10 (.int 0))) hl)
    have fl := @upd_same (upd H l0 (.lst [.int 0])) l (.lst (List.replicate 10 (.int 0)))
    have B1 := hB.same s0
    have nl := B1.ne hl
    have nll := B1.nl hl
    have rp : (List.replicate (10 : Int).toNat [V.int 0]).flatten = (List.replicate 10 (0 : Int)).map V.int := rfl
    rw [rp]
    have s2 := s0.trans (Same.new (o := .lst ((List.replicate 10 (0 : Int)).map V.int)) hl)
    have f2 := @upd_same (upd H l0 (.lst [.int 0])) l (.lst ((List.replicate 10 (0 : Int)).map V.int))
    have B2 := hB.same s2
    generalize upd (upd H l0 (.lst [.int 0])) l (.lst ((List.replicate 10 (0 : Int)).map V.int)) = J at s2 f2 B2 ⊢
    have hl0 : H l = none := s0.free hl
    refine ⟨_, _, rfl, ?_⟩
    refine ⟨_, rfl, _, rfl, _, _, rfl, rfl, g, _, rfl, B2, by omega, by omega, fun d H1 D1 d0 d1 => ?_⟩
    refine ⟨d, rfl, by omega, by omega, ?_⟩
    refine for_range (lo := 0) (n := d.toNat) (fun i σ H2 => ∃ (v5 v6 : Option V) (es : List Int), σ = [some (.ref g.b), some (.int room), some (.int most), some (.int (worth es)), some (.ref l), v5, v6] ∧ Bag g H2 ∧ (∀ a o, a ≠ g.b → a ≠ l → H a = some o → H2 a = some o) ∧ H2 l = some (.lst (es.map V.int)) ∧ es.length = 10 ∧ (∀ e ∈ es, 0 ≤ e ∧ e ≤ (i : Int)) ∧ 1 ≤ worth es ∧ worth es ≤ room)
      ⟨none, none, List.replicate 10 0, by rw [worth0]; rfl, D1.2, fun a o n1 n2 z => D1.1 _ _ n1 (s2 _ _ z), D1.1 _ _ nl f2, rfl, fun e he => by rw [(List.mem_replicate.mp he).2]; decide, by rw [worth0]; decide, by rw [worth0]; exact r1⟩ ?_ ?_
    · rintro i σ H2 hi ⟨v5, v6, es, rfl, hB2, keep, he, hn, hb, w1, w2⟩
      refine ⟨_, rfl, g, 2, rfl, hB2, by decide, by decide, fun d2 H3 D3 _ _ => ?_⟩
      refine ⟨rfl, _, rfl, ite2 (fun _ => ?ten) (fun _ => ?three)⟩
      case' ten =>
        refine ⟨_, rfl, g, 10, rfl, D3.2, by decide, by decide, fun q H4 D4 q0 q1 => ?_⟩
        obtain ⟨j, rfl⟩ : ∃ j : Nat, q = (j : Int) := ⟨q.toNat, (Int.toNat_of_nonneg q0).symm⟩
        have hj : j < 10 := by omega
      case' three =>
        refine ⟨_, rfl, g, 3, rfl, D3.2, by decide, by decide, fun q H4 D4 q0 q1 => ?_⟩
        obtain ⟨j, rfl⟩ : ∃ j : Nat, q = (j : Int) := ⟨q.toNat, (Int.toNat_of_nonneg q0).symm⟩
        have hj : j < 10 := by omega
      all_goals
        have D := D3.trans D4
        have he4 := D.1 _ _ nl he
        obtain ⟨p, hp⟩ : ∃ p, lprimes[j]? = some p := ⟨_, List.getElem?_eq_getElem (show j < lprimes.length from hj)⟩
        obtain ⟨e, hje⟩ : ∃ e, es[j]? = some e := ⟨_, List.getElem?_eq_getElem (show j < es.length by omega)⟩
        have pb := lprime_bd (List.mem_of_getElem? hp)
        have eb := hb e (List.mem_of_getElem? hje)
        have mp : (lprimes.map V.int)[j]? = some (.int p) := by rw [List.getElem?_map, hp]; rfl
        have me : (es.map V.int)[j]? = some (.int e) := by rw [List.getElem?_map, hje]; rfl
        refine ⟨_, rfl, rfl, fun t5 H5 ht5 s5 h5 => ?_⟩
        refine ⟨_, rfl, t5, _, _, _, rfl, rfl, SqL.of h5, atI_nat mp, _, _, rfl, rfl, .inr ⟨by omega, by omega⟩, _, rfl, _, _, rfl, rfl, _, rfl, ite2 (fun c => ?_) (fun _ => ?_)⟩
        · have c2 : worth es * p ≤ room := of_decide_eq_true c
          have ws : worth (es.set j (e + 1)) = worth es * p := worth_set lprimes es j p e hp hje eb.1
          refine ⟨_, rfl, rfl, fun t6 H6 ht6 s6 h6 => ?_⟩
          refine ⟨_, rfl, t6, _, _, _, rfl, rfl, SqL.of h6, atI_nat mp, _, _, rfl, rfl, .inr ⟨by omega, by omega⟩, ?_⟩
          have he6 := s6 _ _ (s5 _ _ he4)
          refine ⟨_, rfl, _, rfl, l, _, _, _, rfl, rfl, SqL.of he6, atI_nat me, _, _, rfl, rfl, ?_⟩
          refine ⟨_, rfl, _, rfl, l, _, _, j, rfl, rfl, he6, Evl.ixN_nat (by rw [List.length_map]; omega), ?_⟩
          refine ⟨_, _, es.set j (e + 1), by rw [ws]; rfl, ((D.2.same s5).same s6).upd nl ?_, fun a o n1 n2 z => ?_, ?_, by rw [List.length_set]; exact hn, fun x hx => ?_, ?_, by rw [ws]; exact c2⟩
          · exact nll
          · rw [upd_ne n2]
            exact s6 _ _ (s5 _ _ (D.1 _ _ n1 (keep a o n1 n2 z)))
          · rw [upd_same, List.map_set]
          · rcases List.mem_or_eq_of_mem_set hx with h | h
            · have := hb x h
              omega
            · rw [h]
              omega
          · rw [ws]
            have := Int.mul_le_mul w1 (show 1 ≤ p by omega) (by decide) (by omega)
            omega
        · exact ⟨_, _, es, rfl, D.2.same s5, fun a o n1 n2 z => s5 _ _ (D.1 _ _ n1 (keep a o n1 n2 z)), s5 _ _ he4, hn, fun x hx => by have := hb x hx; omega, w1, w2⟩
    · rintro σ H2 ⟨v5, v6, es, rfl, hB2, keep, he, hn, hb, w1, w2⟩
      refine ⟨_, rfl, _, rfl, (by show 2 ≤ sizeLine; decide), fun t ht => ?_⟩
      have nt : t ≠ g.b := hB2.ne ht
      have ntl : l ≠ t := ne_of_none he ht
      refine k t l es _ ⟨fun a o n z => ?_, hB2.same (Same.new ht)⟩ ?_ hl0 upd_same (Same.new ht _ _ he) hn (fun e h => ⟨(hb e h).1, by have := (hb e h).2; omega⟩) w1 w2
      · exact Same.new ht _ _ (keep a o n (fun y => by rw [y, hl0] at z; cases z) z)
      · cases z : H t with
        | none => rfl
        | some o =>
          rw [keep t o nt ntl.symm z] at ht
          cases ht
end
end K01
set_option Elab.async false
set_option linter.all false
set_option maxRecDepth 100000
set_option maxHeartbeats 4000000
namespace K01
open PySem PySem.Spec PyProof.Rows L2
section
variable {P : Program} {w : World} {K : PySem.W.Frag} {mg : Str → Option Value} {base : Heap}
/-! ### _law_sum: None, or the sums -/
def sums (es fs : List Int) : List Int := (es.zip fs).map fun q => q.1 + q.2
def spSum (K : PySem.W.Frag) : Sp := fun vs H Q _ => ∃ x y : V, vs = [x, y] ∧ ((x = .non ∧ Q .non H) ∨ ((∃ a, x = .ref a) ∧ y = .non ∧ Q .non H) ∨
  ∃ (a b : Addr) (es fs : List Int), x = .ref a ∧ y = .ref b ∧ H a = some (.lst (es.map V.int)) ∧ H b = some (.lst (fs.map V.int)) ∧ es.length = fs.length ∧ es.length ≤ 1000 ∧ ∀ t H2, H t = none → Same H H2 → H2 t = some (.lst ((sums es fs).map V.int)) → Q (.ref t) H2)
theorem sc_sum : FnScope ["_law_one", "_law_two", "_law_a", "_law_b"] ["_law_one", "_law_two"] (defScope (top 38)) := ⟨rfl, rfl, rfl, by decide +kernel, rfl, by decide +kernel, by decide +kernel⟩
theorem ok_sum {f : Addr} {fd : FuncData} (F : FnP K "_law_sum" (top 38) f fd) (m_zip : mg "zip" = none) : FnOk P w K mg base CX0 1 f fd ["_law_one", "_law_two"] (spSum K) := by
  have sc := sc_sum
  refine F.ok sc (fun vs H Q E h => ?_) (fun cdv A outer s H vs Q E hr h => ?_)
  · obtain ⟨x, y, rfl, _⟩ := h
    rfl
  · obtain ⟨x, y, rfl, h⟩ := h
    refine ⟨_, PSs.nox (pss_one (ps_ret (pe_ifExp (PW.pt (pw_or (pt_cmp (pc_isN (pv 0))) (pw_or1 (pt_cmp (pc_isN (pv 1)))))) pe_non (pe_lc (own := [("_law_a", 2), ("_law_b", 3)]) (g := gTup _ 2 (gCons (gName 2) (gCons (gName 3) gNil))) rfl sc.nd (RZ.pi_zipA rfl m_zip (pa_cons (pv 0) (pa_cons (pv 1) pa_nil))) (blkOk_by (N := ["_law_one", "_law_two", "_law_a", "_law_b"]) (sc := defScope (top 38)) (by decide +kernel)) (fun _ _ _ _ _ => (pg_tup rfl (pgs_cons (pg_name (i := 2) sc.nd rfl (Or.inl rfl)) (pgs_cons (pg_name (i := 3) sc.nd rfl (Or.inl rfl)) pgs_nil)))) (fun _ _ _ _ _ => pts_nil) (fun _ _ _ _ _ => (pe_op op_add (pv 2) (pv 3))))))), ?_⟩
    rcases h with ⟨rfl, q⟩ | ⟨⟨a, rfl⟩, rfl, q⟩ | ⟨a, b, es, fs, rfl, rfl, ha, hb, hl, hz, k⟩
    · exact ⟨_, rfl, _, rfl, ite2 (fun _ => iteT q) (fun e => absurd (decide_eq_true rfl) e)⟩
    · exact ⟨_, rfl, _, rfl, ite2 (fun e => absurd (of_decide_eq_true e) (fun z => nomatch z)) (fun _ => ⟨_, rfl, _, rfl, ite2 (fun _ => q) (fun e => absurd (decide_eq_true rfl) e)⟩)⟩
    · refine ⟨_, rfl, _, rfl, ite2 (fun e => absurd (of_decide_eq_true e) (fun z => nomatch z)) (fun _ => ⟨_, rfl, _, rfl, ite2 (fun e => absurd (of_decide_eq_true e) (fun z => nomatch z)) (fun _ => ?_)⟩)⟩
      refine ⟨_, rfl, _, rfl, a, b, es.map V.int, fs.map V.int, rfl, .inl ⟨SqL.of ha, SqL.of hb, fun D hD => ?_⟩⟩
      refine lc_it (walk_zip (xs := es.map V.int) (ys := fs.map V.int) (n := es.length) (by rw [List.length_map, List.length_map, ← hl, Nat.min_self])) (fun i H2 => (∀ a o, a ≠ D → H a = some o → H2 a = some o) ∧ H2 D = some (.lst (((sums es fs).take i).map V.int))) ⟨fun a o n e => by rw [upd_ne n]; exact e, upd_same⟩ (fun i H2 _ h => ?_) ?_ ?_
      · exact ⟨SqL.of (h.1 _ _ (ne_of_none ha hD) ha), SqL.of (h.1 _ _ (ne_of_none hb hD) hb)⟩
      · rintro i x H2 Hn hi ⟨h1, h2⟩ ⟨T, u, v, rfl, hT, rfl, hu, hv⟩
        obtain ⟨d, ed, rfl⟩ := map_at hu
        obtain ⟨e, ee, rfl⟩ := map_at hv
        have s2 : Same H2 (upd H2 T (.tup [.int d, .int e])) := Same.new hT
        refine ⟨T, [.int d, .int e], rfl, SqT.of upd_same, rfl, _, [.int e], rfl, _, [], rfl, rfl, rfl, ?_⟩
        refine yes_of (iteT ?_)
        refine ⟨_, rfl, _, rfl, _, _, rfl, rfl, _, s2 _ _ h2, ?_, ?_, ?_⟩
        · rw [List.length_map, List.length_take]
          exact small1000 (by omega)
        · intro a o n z
          rw [upd_ne n]
          exact s2 _ _ (h1 a o n z)
        · have ez : (sums es fs)[i]? = some (d + e) := by
            unfold sums
            rw [List.getElem?_map, show (es.zip fs)[i]? = some (d, e) from List.getElem?_zip_eq_some.mpr ⟨ed, ee⟩]
            rfl
          rw [upd_same, List.take_succ, ez, List.map_append]
          rfl
      · rintro H2 ⟨h1, h2⟩
        have e : (sums es fs).take es.length = sums es fs := List.take_of_length_le (by unfold sums; rw [List.length_map, List.length_zip]; exact Nat.min_le_left _ _)
        rw [e] at h2
        exact k D H2 hD (fun c o z => h1 c o (ne_of_none z hD) z) h2
end
end K01
set_option Elab.async false
set_option linter.all false
set_option maxRecDepth 100000
set_option maxHeartbeats 4000000
namespace K01
open PySem PySem.Spec PyProof.Rows L2
section
variable {P : Program} {w : World} {K : PySem.W.Frag} {mg : Str → Option Value} {base : Heap}
/-! ### _law_listed: all words in order -/
def wordsL (m : Nat) : Nat → List (List Int)
  | 0 => [[]]
  | n + 1 => (wordsL m n).flatMap fun u => (List.range m).map fun s : Nat => u ++ [(s : Int)]
theorem wordsL_len (m : Nat) : ∀ (n : Nat), ∀ u ∈ wordsL m n, u.length = n
  | 0, u, h => by rw [List.mem_singleton.mp h]; rfl
  | n + 1, u, h => by
    obtain ⟨x, hx, h2⟩ := List.mem_flatMap.mp h
    obtain ⟨s, _, rfl⟩ := List.mem_map.mp h2
    rw [List.length_append, wordsL_len m n x hx]
    rfl
/-- a list of the words ws at v -/
def Wds (H : Hp) (v : V) (ws : List (List Int)) : Prop := ∃ (a : Addr) (ts : List Addr), v = .ref a ∧ H a = some (.lst (ts.map V.ref)) ∧ Paired (fun (t : Addr) (u : List Int) => H t = some (.tup (u.map V.int))) ts ws
theorem Wds.same {H H2 : Hp} {v : V} {ws : List (List Int)} (h : Wds H v ws) (s : Same H H2) : Wds H2 v ws := by
  obtain ⟨a, ts, e, h1, h2⟩ := h
  exact ⟨a, ts, e, s _ _ h1, L2.Paired.mapP h2 fun t u z => s _ _ z⟩
theorem paired_app {α β : Type} {F : α → β → Prop} : ∀ {xs zs : List α} {ys us : List β}, Paired F xs ys → Paired F zs us → Paired F (xs ++ zs) (ys ++ us)
  | _, _, _, _, .nil, h => h
  | _, _, _, _, .cons a t, h => .cons a (paired_app t h)
def spListed : Sp := fun vs H Q _ => ∃ m n : Nat, vs = [.int (m : Int), .int (n : Int)] ∧ m ≤ 1000 ∧ n ≤ 1000 ∧ (∀ j, j ≤ n → (wordsL m j).length ≤ 1000) ∧ ∀ v H2, Same H H2 → Wds H2 v (wordsL m n) → Q v H2
theorem sc_listed : FnScope ["_law_signs", "_law_size", "_law_found", "_law_lap", "_law_longer", "_law_word", "_law_sign"] ["_law_signs", "_law_size"] (defScope (top 42)) := ⟨rfl, rfl, rfl, by decide +kernel, rfl, by decide +kernel, by decide +kernel⟩
theorem ok_listed {f : Addr} {fd : FuncData} (F : FnP K "_law_listed" (top 42) f fd) (m_range : mg "range" = none) : FnOk P w K mg base CX0 1 f fd ["_law_signs", "_law_size"] spListed := by
  have sc := sc_listed
  refine F.ok sc (fun vs H Q E h => ?_) (fun cdv A outer s H vs Q E hr h => ?_)
  · obtain ⟨m, n, rfl, _⟩ := h
    rfl
  · obtain ⟨m, n, rfl, m9, n9, hz, k⟩ := h
    have hw : ∀ i, i ≤ n → ∀ u ∈ wordsL m i, u.length ≤ 999 + 1 := fun i hi u hu => by
      rw [wordsL_len m i u hu]
      omega
    refine ⟨_, PSs.nox (pss_cons (ps_set (i := 2) sc.nd rfl (Or.inl rfl) (pe_lst (pa_cons (pe_tup pa_nil) pa_nil)))
      (pss_cons (ps_for PassesOwn.never rfl (pi_range1 rfl m_range (pa_cons (pv 1) pa_nil)) (pg_name (i := 3) sc.nd rfl (Or.inl rfl)) (pss_cons (ps_set (i := 4) sc.nd rfl (Or.inl rfl) (pe_lst pa_nil))
      (pss_cons (ps_for PassesOwn.never rfl (pi_list (pv 2)) (pg_name (i := 5) sc.nd rfl (Or.inr rfl)) (pss_one (ps_set (i := 4) sc.nd rfl (Or.inl rfl) (pe_op op_cat (pv 4) (pe_lc (own := [("_law_sign", 6)]) (g := gName 6) rfl sc.nd (pi_range1 rfl m_range (pa_cons (pv 0) pa_nil)) (blkOk_by (N := ["_law_signs", "_law_size", "_law_found", "_law_lap", "_law_longer", "_law_word", "_law_sign"]) (sc := defScope (top 42)) (by decide +kernel)) (fun _ _ _ _ _ => (pg_name (i := 6) sc.nd rfl (Or.inl rfl))) (fun _ _ _ _ _ => pts_nil) (fun _ _ _ _ _ => (pe_op (show OpR _ (binaryOp .Add) (rCatA K) from op_catA) (pv 5) (pe_tup (pa_cons (pv 6) pa_nil)))))))))
      (pss_one (ps_set (i := 2) sc.nd rfl (Or.inl rfl) (pv 4))))))
      (pss_one (ps_ret (pv 2))))), ?_⟩
    refine ⟨(by show 0 ≤ sizeLine; decide), fun e0 h0 => ?_⟩
    refine ⟨(by show 1 ≤ sizeLine; decide), fun l0 h1 => ?_⟩
    have s1 := Same.new (o := .tup []) h0
    have s2 := s1.trans (Same.new (o := .lst [.ref e0]) h1)
    refine ⟨_, rfl, _, rfl, by omega, by omega, ?_⟩
    rw [Int.toNat_natCast]
    refine for_range (lo := 0) (n := n) (fun i σ H2 => ∃ (a : Addr) (v3 v4 v5 v6 : Option V), σ = [some (.int (m : Int)), some (.int (n : Int)), some (.ref a), v3, v4, v5, v6] ∧ Same H H2 ∧ Wds H2 (.ref a) (wordsL m i))
      ⟨l0, none, none, none, none, rfl, s2, l0, [e0], rfl, upd_same, .cons (Same.new h1 _ _ upd_same) .nil⟩ ?_ ?_
    · rintro i σ H2 hi ⟨a, v3, v4, v5, v6, rfl, hS, a', ts, ea, ha, hp⟩
      cases ea
      refine ⟨(by show 0 ≤ sizeLine; decide), fun q0 hq => ?_⟩
      have hts : ts.length = (wordsL m i).length := Paired.length hp
      have s3 : Same H2 (upd H2 q0 (.lst [])) := Same.new hq
      refine ⟨_, rfl, a, rfl, ⟨_, SqL.of (s3 _ _ ha)⟩, ?_⟩
      refine for_list (K := K) (a := a) (xs := ts.map V.ref) (fun j σ H3 => ∃ (b : Addr) (us : List Addr) (v5 v6 : Option V), σ = [some (.int (m : Int)), some (.int (n : Int)), some (.ref a), some (.int (0 + (i : Nat))), some (.ref b), v5, v6] ∧ Same H2 H3 ∧ H3 b = some (.lst (us.map V.ref)) ∧ Paired (fun (t : Addr) (u : List Int) => H3 t = some (.tup (u.map V.int))) us (((wordsL m i).take j).flatMap fun u => (List.range m).map fun s : Nat => u ++ [(s : Int)]))
        ⟨q0, [], _, _, rfl, s3, upd_same, .nil⟩ (fun j σ H3 _ h => ?_) ?_ ?_
      · obtain ⟨_, _, _, _, _, s4, _⟩ := h
        exact SqL.of (s4 _ _ ha)
      · rintro j x σ H3 hx ⟨b, us, v5, v6, rfl, s4, hb, hu⟩
        obtain ⟨t, et, rfl⟩ := map_at hx
        obtain ⟨u, eu, htu⟩ := LiI.paired_get hp et
        have htu3 := s4 _ _ htu
        refine ⟨_, rfl, _, rfl, _, rfl, by omega, by omega, fun D hD => ?_⟩
        rw [Int.toNat_natCast]
        refine lc_range (lo := 0) (n := m) (fun r H4 => ∃ ys : List Addr, (∀ c o, c ≠ D → H3 c = some o → H4 c = some o) ∧ H4 D = some (.lst (ys.map V.ref)) ∧ ys.length = r ∧ Paired (fun (t : Addr) (z : List Int) => H4 t = some (.tup (z.map V.int))) ys ((List.range r).map fun s : Nat => u ++ [(s : Int)])) ⟨[], fun c o nc z => by rw [upd_ne nc]; exact z, upd_same, rfl, .nil⟩ ?_ ?_
        · rintro r H4 hr4 ⟨ys, keep, hD4, hl4, hy⟩
          refine ⟨rfl, yes_of (iteT ?_)⟩
          have nt : t ≠ D := ne_of_none htu3 hD
          refine ⟨_, rfl, _, rfl, (by show 1 ≤ sizeLine; decide), fun z1 hz1 => ?_⟩
          rw [show (0 : Int) + (r : Nat) = (r : Int) from Int.zero_add _]
          have s5 := Same.new (o := .tup [.int (r : Int)]) hz1
          have f5 := @upd_same H4 z1 (.tup [.int (r : Int)])
          generalize upd H4 z1 (.tup [.int (r : Int)]) = H5 at s5 f5 ⊢
          have fin : ∀ (z : Addr) (H6 : Hp), Same H4 H6 → H4 z = none → H6 z = some (.tup ((u ++ [(r : Int)]).map V.int)) → ∃ acc, H6 D = some (.lst acc) ∧ acc.length < sizeLine ∧ ∃ ys2 : List Addr, (∀ c o, c ≠ D → H3 c = some o → upd H6 D (.lst (acc ++ [.ref z])) c = some o) ∧ upd H6 D (.lst (acc ++ [.ref z])) D = some (.lst (ys2.map V.ref)) ∧ ys2.length = r + 1 ∧
              Paired (fun (t : Addr) (z2 : List Int) => upd H6 D (.lst (acc ++ [.ref z])) t = some (.tup (z2.map V.int))) ys2 ((List.range (r + 1)).map fun s : Nat => u ++ [(s : Int)]) := by
            intro z H6 s6 hz hz6
            refine ⟨_, s6 _ _ hD4, small1000 (by rw [List.length_map]; omega), ys ++ [z], fun c o nc hc => ?_, ?_, ?_, ?_⟩
            · rw [upd_ne nc]
              exact s6 _ _ (keep c o nc hc)
            · rw [upd_same, List.map_append]
              rfl
            · rw [List.length_append, hl4]
              rfl
            · rw [List.range_succ, List.map_append]
              refine paired_app (L2.Paired.mapP hy fun t2 z2 h2 => ?_) (.cons ?_ .nil)
              · rw [upd_ne (fun e => by rw [e, hD4] at h2; cases h2)]
                exact s6 _ _ h2
              · rw [upd_ne (ne_of_none hD4 hz).symm]
                exact hz6
          refine ⟨t, z1, u.map V.int, [.int (r : Int)], rfl, rfl, SqT.of (s5 _ _ (keep _ _ nt htu3)), SqT.of f5, ?_, fun e => ?_, fun _ e => (by cases e), fun _ _ p hp2 => ?_⟩
          · rw [List.length_map]
            have := hw i (by omega) u (List.mem_of_getElem? eu)
            show u.length + 1 ≤ sizeLine
            exact Nat.le_trans (show u.length + 1 ≤ 1001 by omega) (by decide)
          · have e2 : u = [] := List.map_eq_nil_iff.mp e
            exact fin z1 H5 s5 hz1 (by rw [e2]; exact f5)
          · exact fin p _ (s5.trans (Same.new hp2)) (s5.free hp2) (by rw [upd_same, List.map_append]; rfl)
        · rintro H4 ⟨ys, keep, hD4, hl4, hy⟩
          have nb : b ≠ D := ne_of_none hb hD
          have hb4 := keep _ _ nb hb
          have eT : ((wordsL m i).take (j + 1)).flatMap (fun u => (List.range m).map fun s : Nat => u ++ [(s : Int)]) = ((wordsL m i).take j).flatMap (fun u => (List.range m).map fun s : Nat => u ++ [(s : Int)]) ++ (List.range m).map fun s : Nat => u ++ [(s : Int)] := by
            rw [List.take_succ, eu, List.flatMap_append]
            simp
          have lz : us.length + ys.length ≤ 1000 := by
            have l1 := Paired.length hu
            have l2 := Paired.length hy
            have l3 : (((wordsL m i).take (j + 1)).flatMap (fun u => (List.range m).map fun s : Nat => u ++ [(s : Int)])).length ≤ (wordsL m (i + 1)).length := by
              have e : wordsL m (i + 1) = ((wordsL m i).take (j + 1) ++ (wordsL m i).drop (j + 1)).flatMap fun u => (List.range m).map fun s : Nat => u ++ [(s : Int)] := by
                rw [List.take_append_drop]
                rfl
              rw [e, List.flatMap_append, List.length_append]
              exact Nat.le_add_right _ _
            rw [eT, List.length_append, ← l1, ← l2] at l3
            exact Nat.le_trans l3 (hz (i + 1) (by omega))
          refine ⟨b, D, _, _, rfl, rfl, hb4, hD4, (by rw [List.length_map, List.length_map]; exact Nat.le_of_lt (small1000 lz)), fun p hp2 => ?_⟩
          have s6 : Same H3 (upd H4 p (.lst (us.map V.ref ++ ys.map V.ref))) := fun c o z => Same.new hp2 _ _ (keep c o (ne_of_none z hD) z)
          refine ⟨p, us ++ ys, _, _, rfl, s4.trans s6, by rw [upd_same, List.map_append], ?_⟩
          rw [eT]
          exact paired_app (L2.Paired.mapP hu fun t2 z2 h2 => s6 _ _ h2) (L2.Paired.mapP hy fun t2 z2 h2 => Same.new hp2 _ _ h2)
      · rintro σ H3 ⟨b, us, v5, v6, rfl, s4, hb, hu⟩
        rw [List.length_map, hts, List.take_length] at hu
        exact ⟨_, rfl, b, _, _, _, _, rfl, hS.trans s4, b, us, rfl, hb, hu⟩
    · rintro σ H2 ⟨a, v3, v4, v5, v6, rfl, hS, h⟩
      exact ⟨_, rfl, k _ _ hS h⟩
end
end K01
set_option Elab.async false
set_option linter.all false
set_option maxRecDepth 100000
set_option maxHeartbeats 4000000
namespace K01
open PySem PySem.Spec PyProof.Rows L2
section
variable {P : Program} {w : World} {K : PySem.W.Frag} {mg : Str → Option Value} {base : Heap}
/-! ### word_index -/
def spWordIx (K : PySem.W.Frag) : Sp := fun vs H Q _ => ∃ (a : Addr) (ns : List Int) (m : Int), vs = [.ref a, .int m] ∧ SqT K H a (ns.map V.int) ∧ 0 ≤ m ∧ m < 1000 ∧ Q (.int (ns.foldl (fun i d => i * m + d) 0)) H
theorem sc_wordIx : FnScope ["word", "signs", "index", "sign"] ["word", "signs"] (defScope (top 22)) := ⟨rfl, rfl, rfl, by decide +kernel, rfl, by decide +kernel, by decide +kernel⟩
theorem ok_wordIx {f : Addr} {fd : FuncData} (F : FnP K "word_index" (top 22) f fd) : FnOk P w K mg base CX0 1 f fd ["word", "signs"] (spWordIx K) := by
  have sc := sc_wordIx
  refine F.ok sc (fun vs H Q E h => ?_) (fun cdv A outer s H vs Q E hr h => ?_)
  · obtain ⟨a, ns, m, rfl, _⟩ := h
    rfl
  · obtain ⟨a, ns, m, rfl, hs, m0, m1, q⟩ := h
    refine ⟨_, PSs.nox (pss_cons (ps_set (i := 2) sc.nd rfl (Or.inl rfl) pe_int)
      (pss_cons (ps_for PassesOwn.never rfl (pi_tup (pv 0)) (pg_name (i := 3) sc.nd rfl (Or.inl rfl)) (pss_one (ps_set (i := 2) sc.nd rfl (Or.inl rfl) (pe_op op_add (pe_op op_mul (pv 2) (pv 1)) (pv 3)))))
      (pss_one (ps_ret (pv 2))))), ?_⟩
    refine ⟨_, rfl, a, rfl, ⟨_, hs⟩, ?_⟩
    refine for_tup (K := K) (a := a) (xs := ns.map V.int) (fun i σ H' => ∃ v, σ = [some (.ref a), some (.int m), some (.int ((ns.take i).foldl (fun i d => i * m + d) 0)), v] ∧ H' = H) ⟨none, rfl, rfl⟩ (fun i σ H' _ ⟨_, _, e⟩ => e ▸ hs) ?_ ?_
    · rintro i x σ H' hx ⟨v, rfl, rfl⟩
      rw [List.getElem?_map] at hx
      cases e : ns[i]? with
      | none =>
        rw [e] at hx
        cases hx
      | some d =>
        rw [e] at hx
        cases hx
        refine ⟨_, rfl, _, rfl, _, _, rfl, rfl, .inr ⟨by omega, by omega⟩, _, rfl, _, _, rfl, rfl, ?_⟩
        refine ⟨some (.int d), ?_, rfl⟩
        rw [List.take_succ, e, List.foldl_append]
        rfl
    · rintro σ H' ⟨v, rfl, rfl⟩
      rw [List.length_map, List.take_length]
      exact ⟨_, rfl, q⟩
/-! ### indexed_word -/
/-- the last n signs of an index, the last first -/
def lastOf (m : Int) : Nat → Int → List Int
  | 0, _ => []
  | n + 1, r => r % m :: lastOf m n (r / m)
theorem lastOf_succ (m : Int) : ∀ (n : Nat) (r : Int), lastOf m (n + 1) r = lastOf m n r ++ [(Nat.repeat (· / m) n r) % m]
  | 0, r => rfl
  | n + 1, r => by
    show r % m :: lastOf m (n + 1) (r / m) = r % m :: (lastOf m n (r / m) ++ [_])
    rw [lastOf_succ m n (r / m)]
    have e : Nat.repeat (· / m) n (r / m) = Nat.repeat (· / m) (n + 1) r := by
      induction n with
      | zero => rfl
      | succ k ih => exact congrArg (· / m) ih
    rw [e]
theorem lastOf_len (m : Int) : ∀ (n : Nat) (r : Int), (lastOf m n r).length = n
  | 0, _ => rfl
  | n + 1, r => congrArg (· + 1) (lastOf_len m n (r / m))
def spIxWord : Sp := fun vs H Q _ => ∃ (x : Int) (n : Nat) (m : Int), vs = [.int x, .int (n : Int), .int m] ∧ n ≤ 1000 ∧ 0 < m ∧ m < 1000 ∧ ∀ p H2, H p = none → Same H H2 → H2 p = some (.tup ((lastOf m n x).reverse.map V.int)) → Q (.ref p) H2
theorem sc_ixWord : FnScope ["index", "length", "signs", "digits", "rest", "_"] ["index", "length", "signs"] (defScope (top 24)) := ⟨rfl, rfl, rfl, by decide +kernel, rfl, by decide +kernel, by decide +kernel⟩
theorem ok_ixWord {f : Addr} {fd : FuncData} (F : FnP K "indexed_word" (top 24) f fd) (m_range : mg "range" = none) (m_tuple : mg "tuple" = none) : FnOk P w K mg base CX0 1 f fd ["index", "length", "signs"] spIxWord := by
  have sc := sc_ixWord
  refine F.ok sc (fun vs H Q E h => ?_) (fun cdv A outer s H vs Q E hr h => ?_)
  · obtain ⟨x, n, m, rfl, _⟩ := h
    rfl
  · obtain ⟨x, n, m, rfl, hn, m0, m1, k⟩ := h
    refine ⟨_, PSs.nox (pss_cons (ps_set (i := 3) sc.nd rfl (Or.inl rfl) (pe_lst pa_nil))
      (pss_cons (ps_set (i := 4) sc.nd rfl (Or.inl rfl) (pv 0))
      (pss_cons (ps_for PassesOwn.never rfl (pi_range1 rfl m_range (pa_cons (pv 1) pa_nil)) (pg_name (i := 5) sc.nd rfl (Or.inl rfl)) (pss_cons (ps_expr (pe_bm PySem.F.plainAttrs_list PySem.F.slot_list_append PySem.F.type_list_append mt_append (pv 3) (pa_cons (pe_op op_mod (pv 4) (pv 2)) pa_nil)))
      (pss_one (ps_set (i := 4) sc.nd rfl (Or.inl rfl) (pe_op op_fdiv (pv 4) (pv 2))))))
      (pss_one (ps_ret (pe_callTy call_tuple_of (by rfl) m_tuple (by decide +kernel) (pa_cons (pe_revL (pv 3)) pa_nil))))))), ?_⟩
    refine ⟨(by show 0 ≤ sizeLine; decide), fun D hD => ?_⟩
    refine ⟨_, rfl, _, rfl, _, rfl, by omega, by omega, ?_⟩
    rw [Int.toNat_natCast]
    refine for_range (lo := 0) (n := n) (fun i σ H' => ∃ v, σ = [some (.int x), some (.int (n : Int)), some (.int m), some (.ref D), some (.int (Nat.repeat (· / m) i x)), v] ∧ H' = upd H D (.lst ((lastOf m i x).map V.int))) ⟨none, rfl, rfl⟩ ?_ ?_
    · rintro i σ H' hi ⟨v, rfl, rfl⟩
      refine ⟨_, rfl, .inl ⟨rfl, _, SqL.of upd_same⟩, _, rfl, _, rfl, _, _, rfl, rfl, m0, D, _, _, rfl, rfl, upd_same, small1000 (by rw [List.length_map, lastOf_len]; omega), ?_⟩
      refine ⟨_, rfl, _, rfl, _, _, rfl, rfl, ⟨m0, by omega⟩, ?_⟩
      refine ⟨some (.int (0 + (i : Nat))), rfl, ?_⟩
      rw [upd_upd, lastOf_succ, List.map_append]
      rfl
    · rintro σ H' ⟨v, rfl, rfl⟩
      have s1 := Same.new (o := .lst ((lastOf m n x).map V.int)) hD
      refine ⟨_, rfl, D, _, rfl, SqL.of upd_same, fun r hr2 => ?_⟩
      have s2 := s1.trans (Same.new (o := .lst ((lastOf m n x).map V.int).reverse) hr2)
      refine ⟨r, _, rfl, .inl ⟨SqL.of upd_same, fun q hq => ?_⟩⟩
      refine k q _ (s2.free hq) (s2.trans (Same.new hq)) ?_
      rw [upd_same, List.map_reverse]
end
end K01
set_option Elab.async false
set_option linter.all false
set_option maxRecDepth 100000
set_option maxHeartbeats 4000000
namespace K01
open PySem PySem.Spec PyProof.Rows L2
section
variable {P : Program} {w : World} {K : PySem.W.Frag} {mg : Str → Option Value} {base : Heap}
/-! ### word_at -/
/-- a number within lo and hi, or what is none such -/
def Bad (H : Hp) (lo hi : Int) (x : V) : Prop := (∃ i, x = .int i ∧ ¬ (lo ≤ i ∧ i ≤ hi)) ∨ Odd H x
def spWordAt (C : Addr) : Sp := fun vs H Q E => ∃ (x : V) (n : Nat) (m : Int), vs = [x, .int (n : Int), .int m] ∧ n ≤ 1000 ∧ 0 < m ∧ m < 500 ∧ ((∃ i, x = .int i ∧ 0 ≤ i ∧ i ≤ m ^ n - 1 ∧ ∀ p H2, H p = none → Same H H2 → H2 p = some (.tup ((lastOf m n i).reverse.map V.int)) → Q (.ref p) H2) ∨ (Bad H 0 (m ^ n - 1) x ∧ Inv1 C x H E))
theorem sc_wordAt : FnScope ["index", "length", "signs"] ["index", "length", "signs"] (defScope (top 23)) := ⟨rfl, rfl, rfl, by decide +kernel, rfl, by decide +kernel, by decide +kernel⟩
theorem ok_wordAt {f : Addr} {fd : FuncData} {C : Addr} {bmB : List Value} {newId : String} (F : FnP K "word_at" (top 23) f fd) (c_InvalidNumber : Ecl P w K mg base "InvalidNumber" C bmB newId ["value"]) (c_is_number : Cal P w K mg base CX0 "is_number" 2 ["value", "least", "most"] (spNumber K)) (c_power_of : Cal P w K mg base CX0 "power_of" 1 ["base", "exponent"] spPow) (c_indexed_word : Cal P w K mg base CX0 "indexed_word" 1 ["index", "length", "signs"] spIxWord) : FnOk P w K mg base (L2.CX P w) 3 f fd ["index", "length", "signs"] (spWordAt C) := by
  have sc := sc_wordAt
  refine F.ok sc (fun vs H Q E h => ?_) (fun cdv A outer s H vs Q E hr h => ?_)
  · obtain ⟨x, n, m, rfl, _⟩ := h
    rfl
  · obtain ⟨x, n, m, rfl, hn, m0, m1, h⟩ := h
    have hr_is_number : Room 2 _ := hr
    have hr_ecl : Room 2 _ := hr
    have hr_power_of : Room 1 _ := hr.mono (by decide)
    have hr_indexed_word : Room 1 _ := hr.mono (by decide)
    have hp : m.natAbs < 2 ^ 9 := by omega
    refine ⟨_, (pss_cons (ps_if (pt_not (pt_val (pe_cal c_is_number hr_is_number rfl (pa_cons (pv 0) (pa_cons pe_int (pa_cons (pe_op op_sub (pe_cal c_power_of hr_power_of rfl (pa_cons (pv 2) (pa_cons (pv 1) pa_nil))) pe_int) pa_nil)))))) (pss_one (ps_raise rfl (takes_of rfl rfl rfl rfl) (pmk_ecl c_InvalidNumber (by decide) hr_ecl rfl (pa_cons (pv 0) pa_nil)))) pss_nil)
      (pss_one (ps_ret (pe_cal c_indexed_word hr_indexed_word rfl (pa_cons (pv 0) (pa_cons (pv 1) (pa_cons (pv 2) pa_nil))))))), ?_⟩
    rcases h with ⟨i, rfl, i0, i1, k⟩ | ⟨hb, k⟩
    · refine ⟨_, rfl, _, rfl, _, rfl, m, n, 9, rfl, hp, by decide, by omega, _, _, rfl, rfl, _, 0, _, rfl, .inl ⟨i, rfl, ?_⟩⟩
      rw [decide_eq_true i0, decide_eq_true i1]
      refine ⟨_, rfl, iteF ?_⟩
      exact ⟨_, rfl, _, rfl, _, rfl, i, n, m, rfl, hn, m0, by omega, k⟩
    · have rest : ∀ b : Bool, b = false → _ := fun b hb => hb
      rcases hb with ⟨i, rfl, hi⟩ | od
      · refine ⟨_, rfl, _, rfl, _, rfl, m, n, 9, rfl, hp, by decide, by omega, _, _, rfl, rfl, _, 0, _, rfl, .inl ⟨i, rfl, ?_⟩⟩
        have e : (decide (0 ≤ i) && decide (i ≤ m ^ n - 1)) = false := by
          rw [← Bool.decide_and]
          exact decide_eq_false hi
        rw [e]
        refine ⟨_, rfl, iteT ?_⟩
        exact ⟨_, rfl, rfl, k⟩
      · refine ⟨_, rfl, _, rfl, _, rfl, m, n, 9, rfl, hp, by decide, by omega, _, _, rfl, rfl, _, 0, _, rfl, .inr ⟨od.wh, ?_⟩⟩
        refine ⟨_, rfl, iteT ?_⟩
        exact ⟨_, rfl, rfl, k⟩
end
end K01
set_option Elab.async false
set_option linter.all false
set_option maxRecDepth 100000
set_option maxHeartbeats 4000000
namespace PySem
open PySem PySem.Spec
/-! ### enumerate(v), v told by how its iterator begins -/
theorem meets_enum1 {v : Value} {ob : Obj} {Hq : Heap → Prop} (Bg : Begins v ob Hq) : Meets (Builtin.«enumerate.__new__» ⟨[.type "enumerate", v], []⟩) (fun _ R t => Hq t.heap ∧ R (.ok (.ret (.ref (t.heap.push ob).objs.size))) { t with heap := (t.heap.push ob).push ⟨.type "enumerate", none, .fields #[.none, .bool false, .ref t.heap.objs.size, rawInt 0, .none, .none], #[]⟩ }) :=
  .of_wp fun pg w A R t z => by
    obtain ⟨hh, gg, dd, tt, oo⟩ := t
    obtain ⟨z1, z2⟩ := z
    have y0 := sub_enumerate
    have go : ∀ {A' : Around} {E : Value → Shared → Prop} {Q : Value → Shared → Prop}, Q (.ref hh.objs.size) ⟨hh.push ob, gg, dd, tt, oo⟩ → wpAny (model pg w) A' (pyIter v) Q E ⟨hh, gg, dd, tt, oo⟩ := fun q => Bg.iter pg w _ _ ⟨hh, gg, dd, tt, oo⟩ _ z1 q
    wp_walk using go
    refine wpAny_stack_any fun st => wpAny_pure ?_
    split
    · rename_i cc _ _ _ _ _
      cases (cc == Value.type "enumerate")
      · wp_walk using go
        exact ⟨_, rfl, z2⟩
      · wp_walk using go
        exact ⟨_, rfl, z2⟩
    · wp_walk using go
      exact ⟨_, rfl, z2⟩
theorem call_enum1 {pg : Program} {w : World} {A : Around} {E : Value → Shared → Prop} {t : Shared} {v : Value} {ob : Obj} {Hq : Heap → Prop} {Q : Value → Shared → Prop} (Bg : Begins v ob Hq) (z1 : Hq t.heap)
    (k : ∀ h2, IsEnum h2 (t.heap.objs.size + 1) t.heap.objs.size 0 .none → h2.get? t.heap.objs.size = some ob → (∀ b o, t.heap.get? b = some o → h2.get? b = some o) → Q (.ref (t.heap.objs.size + 1)) { t with heap := h2 }) : wpAny (model pg w) A (call (.type "enumerate") [v]) Q E t := by
  refine callType_new F.called_enumerate (by decide) (F.typeCall_enumerate_1 _) (F.newCall_enumerate_1 _) (fun q => F.args_object_init_2 q _) F.entry_enumerate_new (meets_enum1 Bg) ⟨z1, ?_⟩
  have sz : (t.heap.push ob).objs.size = t.heap.objs.size + 1 := Heap.size_push ..
  show _ ∧ _
  rw [sz]
  have at1 : IsEnum ((t.heap.push ob).push ⟨.type "enumerate", none, .fields #[.none, .bool false, .ref t.heap.objs.size, rawInt 0, .none, .none], #[]⟩) (t.heap.objs.size + 1) t.heap.objs.size 0 .none := by
    have q := Heap.get?_push_size (t.heap.push ob) (o := ⟨.type "enumerate", none, .fields #[.none, .bool false, .ref t.heap.objs.size, rawInt 0, .none, .none], #[]⟩) rfl
    rw [sz] at q
    exact q
  exact ⟨⟨_, at1, rfl⟩, k _ at1 (Heap.get?_push_of_some _ (Heap.get?_push_size _ Bg.free)) fun b o x => Heap.get?_push_of_some _ (Heap.get?_push_of_some _ x)⟩
end PySem
namespace L2
open PySem PySem.Spec PyProof.Rows
/-! ### enumerate(tuple) -/
def IteT (K : PySem.W.Frag) (a : Addr) : It :=
  ⟨fun i H => ∃ (xs : List V) (x : V), SqT K H a xs ∧ xs[i]? = some x, fun i H v H' => ∃ (T : Addr) (x : V), v = .ref T ∧ H T = none ∧ H' = upd H T (.tup [.int (i : Nat), x]) ∧ ∀ xs, SqT K H a xs → xs[i]? = some x, fun i H => ∃ xs : List V, SqT K H a xs ∧ xs.length = i⟩
theorem turn_enumT {P : Program} {w : World} {K : PySem.W.Frag} {elts : List Expr} {kk : Nat} {tpos : Pos} (a e it : Addr) : Turn P w K (.Tuple elts kk tpos) (IteT K a) [e, it] e (fun i h => (∃ old, IsEnum h e it ((i : Nat) : Int) old) ∧ h.IsTupleIter it a i ∧ e ≠ it) where
  mem := by simp
  obj := fun i h st b hb => by
    obtain ⟨⟨old, he⟩, ⟨o, ho, hc, hd⟩, _⟩ := st
    have z : b = e ∨ b = it := by simpa using hb
    rcases z with rfl | rfl
    · exact ⟨_, he, fun v q => nomatch q⟩
    · exact ⟨o, ho, fun v q => by rw [hd] at q; cases q⟩
  keep := fun i h h' st k => by
    obtain ⟨⟨old, he⟩, hi, n1⟩ := st
    exact ⟨⟨old, k e (by simp) _ he⟩, hi.at fun o q => k it (by simp) o q, n1⟩
  item := by
    intro X e1 e2 e3 calm i pins s σ H E I fresh st hg
    subst e1 e2 e3
    obtain ⟨⟨old, he⟩, hit, n1⟩ := st
    obtain ⟨xs, x, hq, hx⟩ := hg
    obtain ⟨its, rv, ⟨o, ho, c1, n, d1⟩, _⟩ := I.tuple hq
    obtain ⟨u, hu, ru⟩ := rv.get hx
    have nea : e ≠ a := fun z => by
      subst z
      have y : o = _ := Option.some.inj (ho.symm.trans he)
      subst y
      exact absurd (Value.type.inj c1) (by decide)
    have nia : a ≠ it := fun z => by
      subst z
      obtain ⟨o2, ho2, c2, _⟩ := hit
      obtain rfl : o = o2 := Option.some.inj (ho.symm.trans ho2)
      rw [c1] at c2
      exact absurd (Value.type.inj c2) (by decide)
    have el : e < s.heap.objs.size := Heap.lt_size he
    have il : it < s.heap.objs.size := by
      obtain ⟨_, q, _⟩ := hit
      exact Heap.lt_size q
    have hh : X.A.in1.handled = none := by simp [I.ok.hd calm]
    have len := (List.getElem?_eq_some_iff.mp hu).1
    refine wpAny_pyNext_enum_itemC (Draws.tuple hh it a nia its.toArray) he ⟨hit, ⟨o, ho, c1, n, d1⟩⟩ (by rw [List.size_toArray]; exact len) n1 (by simp [n1, nea]) fun x' h2 tk px out st2 hT sz kp => ?_
    obtain rfl : x' = u := by
      have y : its.toArray[i]? = some x' := px
      rw [List.getElem?_toArray, hu] at y
      exact (Option.some.inj y).symm
    refine ⟨_, rfl, wpAny_letOwnedTupleGo_enum (s := { s with heap := h2, toks := tk + 1 }) out fun h3 he3 sb => ?_⟩
    have hT3 := (sb.2 _ (Nat.ne_of_gt el)).trans hT
    have mk : ObjOk X.prog X.w (upd H s.heap.objs.size (.tup [.int (i : Nat), x])) h3 s.heap.objs.size (.tup [.int (i : Nat), x]) := ⟨by show 2 ≤ sizeLine; decide, [.int i tk, x'], .cons ⟨_, rfl⟩ (.cons ru .nil), ⟨_, hT3, rfl, _, rfl⟩⟩
    have I1 : Inv X pins σ (upd H s.heap.objs.size (.tup [.int (i : Nat), x])) { s with heap := h3, toks := tk + 1 } := I.turnedNew (ch := [e, it]) (fun b ob hb q => (sb.2 b (fun z => hb (by simp [z]))).trans (kp b ob (fun z => hb (by simp [z])) (fun z => hb (by simp [z])) q)) fresh (Nat.le_refl _) mk
    refine ⟨.ref s.heap.objs.size, _, I1, rfl, ⟨_, x, rfl, I.hok.fresh (Nat.le_refl _), rfl, fun ys hy => ?_⟩, ⟨⟨x', ?_⟩, st2.1.at fun o q => (sb.2 it (Ne.symm n1)).trans q, n1⟩, fun b hb => ?_⟩
    · rw [I.tuple_inj hy hq]
      exact hx
    · rw [Int.natCast_succ]
      exact he3
    · have bl : b < s.heap.objs.size := by
        have z : b = e ∨ b = it := by simpa using hb
        rcases z with rfl | rfl
        · exact el
        · exact il
      rw [upd_ne (Nat.ne_of_lt bl)]
      exact (fresh b hb).1
  done := by
    intro X e1 e2 e3 calm i pins s σ H E I fresh st hg
    subst e1 e2 e3
    obtain ⟨⟨old, he⟩, hit, n1⟩ := st
    obtain ⟨xs, hq, hx⟩ := hg
    obtain ⟨its, rv, ⟨o, ho, c1, n, d1⟩, _⟩ := I.tuple hq
    have nia : a ≠ it := fun z => by
      subst z
      obtain ⟨o2, ho2, c2, _⟩ := hit
      obtain rfl : o = o2 := Option.some.inj (ho.symm.trans ho2)
      rw [c1] at c2
      exact absurd (Value.type.inj c2) (by decide)
    obtain ⟨f0, f1, f2, f3, f4, f5⟩ := fresh it (by simp)
    have hh : X.A.in1.handled = none := by simp [I.ok.hd calm]
    have len : i = its.toArray.size := by
      rw [List.size_toArray, ← rv.length, hx]
    subst len
    exact wpAny_pyNext_enum_endD (Draws.tuple hh it a nia its.toArray) he ⟨hit, ⟨o, ho, c1, n, d1⟩⟩ fun h2 eb => ⟨rfl, I.turned (t' := s.toks) (fun b ob hb q => eb b ob hb q) f0 f1 f3 f4 f5⟩
  self := fun A i t Q E st h => by
    obtain ⟨⟨_, he⟩, _⟩ := st
    exact wpAny_pyIter_enum he h
def iEnumT (K : PySem.W.Frag) (ta : TA) : TI := fun σ H R => ta σ H fun vs H1 => ∃ (a : Addr) (xs : List V), vs = [.ref a] ∧ SqT K H1 a xs ∧ R (IteT K a) H1
theorem pi_enumT {X : Cx} {e : Expr} {ta : TA} {p pos tpos : Pos} {elts : List Expr} {kk : Nat} (hg : Gl X "enumerate") (hm : X.mg "enumerate" = none) (ha : PA X [e] ta) (sE : starEach [e] X.env = [(false, eval e X.env)] := by rfl) : PI X (.Tuple elts kk tpos) (.Call (.Name "enumerate" p) [e] [] pos) (iEnumT X.K ta) := by
  refine ⟨fun pins s σ H R I h => Call_ (ld_blt I hg hm boot_enumerate (PyProof.Rows.callWith_type1 (thn (ha.run pos pins s σ H _ I h) fun us s1 ⟨vs, H1, I1, r1, q1⟩ => ?_) sE rfl))⟩
  obtain ⟨a, xs, rfl, hq, q⟩ := q1
  cases r1 with
  | cons r rr =>
    cases rr
    cases r
    obtain ⟨its, rv, ht, _⟩ := I1.tuple hq
    refine call_enum1 (begins_tuple a its.toArray) ht fun h2 he hit hk => wpAny_pyIter_enum he ?_
    have I2 : Inv X pins σ H1 { s1 with heap := h2 } := I1.kept (t' := s1.toks) hk
    refine ⟨s1.heap.objs.size + 1, [s1.heap.objs.size + 1, s1.heap.objs.size], _, _, H1, rfl, I2, turn_enumT a (s1.heap.objs.size + 1) s1.heap.objs.size, ⟨⟨.none, he⟩, ⟨_, hit, rfl, rfl⟩, Nat.succ_ne_self _⟩, fun b hb => ?_, q⟩
    have z : b = s1.heap.objs.size + 1 ∨ b = s1.heap.objs.size := by simpa using hb
    have le : s1.heap.objs.size ≤ b := by
      rcases z with rfl | rfl
      · exact Nat.le_add_right _ _
      · exact Nat.le_refl _
    exact I1.fpOk le (I1.hok.fresh le)
theorem walk_enumT {K : PySem.W.Frag} {a : Addr} {xs : List V} : Walk (IteT K a) xs.length (fun H => SqT K H a xs) (fun i H v H' => ∃ (T : Addr) (x : V), v = .ref T ∧ H T = none ∧ H' = upd H T (.tup [.int (i : Nat), x]) ∧ xs[i]? = some x) where
  goes := fun i H hi h => ⟨xs, xs[i], h, List.getElem?_eq_getElem hi⟩
  stops := fun H h => ⟨xs, h, rfl⟩
  yields := fun i H x H' _ h y => by
    obtain ⟨T, u, e1, e2, e3, e4⟩ := y
    exact ⟨T, u, e1, e2, e3, e4 _ h⟩
end L2
set_option Elab.async false
set_option linter.all false
set_option maxRecDepth 100000
set_option maxHeartbeats 4000000
namespace L2
open PySem PySem.Spec PyProof.Rows
/-! ### a list or a tuple -/
def SqE (K : PySem.W.Frag) (H : Hp) (a : Addr) (xs : List V) : Prop := SqL K H a xs ∨ SqT K H a xs
theorem sqL_at {K : PySem.W.Frag} {H H' : Hp} {a : Addr} {xs : List V} (h : SqL K H a xs) (d : ∀ o, H a = some o → H' a = some o) : SqL K H' a xs := by
  rcases h with (h | ⟨o, h⟩) | h
  · exact .inl (.inl (d _ h))
  · exact .inl (.inr ⟨o, d _ h⟩)
  · exact .inr h
theorem sqT_at {K : PySem.W.Frag} {H H' : Hp} {a : Addr} {xs : List V} (h : SqT K H a xs) (d : ∀ o, H a = some o → H' a = some o) : SqT K H' a xs := by
  rcases h with (h | ⟨o, h⟩) | h
  · exact .inl (.inl (d _ h))
  · exact .inl (.inr ⟨o, d _ h⟩)
  · exact .inr h
theorem SqE.at {K : PySem.W.Frag} {H H' : Hp} {a : Addr} {xs : List V} (h : SqE K H a xs) (d : ∀ o, H a = some o → H' a = some o) : SqE K H' a xs := h.imp (fun q => sqL_at q d) fun q => sqT_at q d
section
variable {K : PySem.W.Frag} {H : Hp} {σ : St} {a : Addr} {xs : List V} {R : It → Hp → Prop}
theorem seq_of {te : TE} (hS : SqE K H a xs) (hte : ∀ Q : VK, Q (.ref a) H → te σ H Q)
    (k : ∀ (J : It) (G : Hp → Prop), Walk J xs.length G (YAt xs) → (∀ H' : Hp, (∀ o, H a = some o → H' a = some o) → G H') → R J H) : iList K te σ H R ∨ iTup K te σ H R :=
  hS.imp (fun h => hte _ ⟨a, rfl, ⟨xs, h⟩, k _ _ walk_list fun H' d => sqL_at h d⟩) fun h => hte _ ⟨a, rfl, ⟨xs, h⟩, k _ _ walk_tup fun H' d => sqT_at h d⟩
abbrev YEn (xs : List V) : Nat → Hp → V → Hp → Prop := fun i H v H' => ∃ (T : Addr) (x : V), v = .ref T ∧ H T = none ∧ H' = upd H T (.tup [.int (i : Nat), x]) ∧ xs[i]? = some x
theorem enum_of {ta : TA} (hS : SqE K H a xs) (hta : ∀ Q : List V → Hp → Prop, Q [.ref a] H → ta σ H Q)
    (k : ∀ (J : It) (G : Hp → Prop), Walk J xs.length G (YEn xs) → (∀ H' : Hp, (∀ o, H a = some o → H' a = some o) → G H') → R J H) : iEnum K ta σ H R ∨ iEnumT K ta σ H R :=
  hS.imp (fun h => hta _ ⟨a, xs, rfl, h, k _ _ (walk_enum.mono (fun _ q => q) fun i H v H' _ _ y => by
    obtain ⟨T, x, y', e1, e2, e3, e4, e5⟩ := y
    cases e4
    exact ⟨T, y', e1, e2, e3, e5⟩) fun H' d => sqL_at h d⟩) fun h => hta _ ⟨a, xs, rfl, h, k _ _ walk_enumT fun H' d => sqT_at h d⟩
theorem seq_of0 {H0 : Hp} {te : TE} (hS : SqE K H0 a xs) (d0 : ∀ o, H0 a = some o → H a = some o) (hte : ∀ Q : VK, Q (.ref a) H → te σ H Q)
    (k : ∀ (J : It) (G : Hp → Prop), Walk J xs.length G (YAt xs) → (∀ H' : Hp, (∀ o, H0 a = some o → H' a = some o) → G H') → R J H) : iList K te σ H R ∨ iTup K te σ H R :=
  hS.imp (fun h => hte _ ⟨a, rfl, ⟨xs, sqL_at h d0⟩, k _ _ walk_list fun H' d => sqL_at h d⟩) fun h => hte _ ⟨a, rfl, ⟨xs, sqT_at h d0⟩, k _ _ walk_tup fun H' d => sqT_at h d⟩
theorem enum_of0 {H0 : Hp} {ta : TA} (hS : SqE K H0 a xs) (d0 : ∀ o, H0 a = some o → H a = some o) (hta : ∀ Q : List V → Hp → Prop, Q [.ref a] H → ta σ H Q)
    (k : ∀ (J : It) (G : Hp → Prop), Walk J xs.length G (YEn xs) → (∀ H' : Hp, (∀ o, H0 a = some o → H' a = some o) → G H') → R J H) : iEnum K ta σ H R ∨ iEnumT K ta σ H R :=
  hS.imp (fun h => hta _ ⟨a, xs, rfl, sqL_at h d0, k _ _ (walk_enum.mono (fun _ q => q) fun i H v H' _ _ y => by
    obtain ⟨T, x, y', e1, e2, e3, e4, e5⟩ := y
    cases e4
    exact ⟨T, y', e1, e2, e3, e5⟩) fun H' d => sqL_at h d⟩) fun h => hta _ ⟨a, xs, rfl, sqT_at h d0, k _ _ walk_enumT fun H' d => sqT_at h d⟩
theorem ixE {i : Int} {v : V} {Q : VK} (hS : SqE K H a xs) (hv : atI xs i = some v) (q : Q v H) : rIx K (.ref a) (.int i) H Q :=
  hS.elim (fun h => .inl ⟨a, xs, i, v, rfl, rfl, h, hv, q⟩) fun h => .inr (.inl ⟨a, xs, i, v, rfl, rfl, h, hv, q⟩)
/-- what is cut off a list or a tuple -/
theorem slE {lo hi : Option Int} {Q : VK} (hS : SqE K H a xs) (q : ∀ (p : Addr) (H' : Hp), Same H H' → SqE K H' p (cutV xs lo hi) → Q (.ref p) H') : rSlL K (.ref a) lo hi H Q ∨ rSlA K (.ref a) lo hi H Q :=
  hS.imp (fun h => ⟨a, xs, rfl, h, fun p hp => q p _ (Same.new hp) (.inl (SqL.of upd_same))⟩) fun h => ⟨a, xs, rfl, h, fun w => q a H (Same.refl _) (.inr (by
    have e : cutV xs lo hi = xs := by
      unfold cutV
      rw [w.1, w.2, List.drop_zero, Nat.sub_zero, List.take_length]
    rw [e]
    exact h)), fun _ p hp => q p _ (Same.new hp) (.inr (SqT.of upd_same))⟩
theorem slT {lo hi : Option Int} {Q : VK} (h : SqT K H a xs) (q : ∀ (p : Addr) (H' : Hp), Same H H' → SqT K H' p (cutV xs lo hi) → Q (.ref p) H') : rSlA K (.ref a) lo hi H Q :=
  ⟨a, xs, rfl, h, fun w => q a H (Same.refl _) (by
    have e : cutV xs lo hi = xs := by
      unfold cutV
      rw [w.1, w.2, List.drop_zero, Nat.sub_zero, List.take_length]
    rw [e]
    exact h), fun _ p hp => q p _ (Same.new hp) (SqT.of upd_same)⟩
theorem catT {b : Addr} {ys : List V} {Q : VK} (h : SqT K H a xs) (h2 : SqT K H b ys) (hl : xs.length + ys.length ≤ sizeLine) (q : ∀ (p : Addr) (H' : Hp), Same H H' → SqT K H' p (xs ++ ys) → Q (.ref p) H') : rCatA K (.ref a) (.ref b) H Q :=
  ⟨a, b, xs, ys, rfl, rfl, h, h2, hl, fun e => q b H (Same.refl _) (by
    rw [e, List.nil_append]
    exact h2), fun _ e => q a H (Same.refl _) (by
    rw [e, List.append_nil]
    exact h), fun _ _ p hp => q p _ (Same.new hp) (SqT.of upd_same)⟩
end
theorem pe_orE {X : Cx} {e : Expr} {t u : TE} (h : PE X e t) (k : PE X e u) : PE X e (fun σ H Q => t σ H Q ∨ u σ H Q) := ⟨fun pins s σ H Q I q => q.elim (h.run pins s σ H Q I) (k.run pins s σ H Q I)⟩
theorem pi_orI {X : Cx} {tg it : Expr} {t u : TI} (h : PI X tg it t) (k : PI X tg it u) : PI X tg it (fun σ H Q => t σ H Q ∨ u σ H Q) := ⟨fun pins s σ H Q I q => q.elim (h.run pins s σ H Q I) (k.run pins s σ H Q I)⟩
section
variable {X : Cx}
theorem slR_or {r r' : V → Option Int → Option Int → Hp → VK → Prop} (h : SlR X r) (h' : SlR X r') : SlR X (fun x lo hi H Q => r x lo hi H Q ∨ r' x lo hi H Q) := h.or h'
/-- t.index(y), flat items -/
def rIndexT (K : PySem.W.Frag) : V → List V → Hp → VK → Prop := fun x xs H Q => ∃ (a : Addr) (ys : List V) (y : V) (j : Nat) (z : V), x = V.ref a ∧ xs = [y] ∧ SqT K H a ys ∧ flatV y = true ∧ ys.all flatV = true ∧ ys[j]? = some z ∧ eqV z y = true ∧ (∀ (m : Nat) (z' : V), m < j → ys[m]? = some z' → eqV z' y = false) ∧ Q (.int (j : Nat)) H
theorem mt_tindex : MtR X "tuple.index" (rIndexT X.K) := by
  intro pins s σ H x args v us Q I rx rargs hq
  obtain ⟨a, ys, y, j, z, rfl, rfl, hs, fy, fys, hz, zj, none_ahead, q⟩ := hq
  cases rx
  cases rargs with
  | cons ry rest =>
    rename_i uy ut
    cases rest
    obtain ⟨its, rv, ⟨⟨cls, dd, data, sl⟩, ho, hc, n, hd⟩, _⟩ := I.tuple hs
    simp only at hc hd
    subst hc hd
    obtain ⟨u, hu, ru⟩ := rv.get hz
    obtain ⟨jl, je⟩ := List.getElem?_eq_some_iff.mp hu
    have vl := rv.length
    have jz : j < its.toArray.size := by rw [List.size_toArray]; exact jl
    refine call_meets PySem.F.slot_tuple_index ⟨_, ho, rfl⟩ PySem.F.entry_tuple_index (PySem.F.args_tuple_index_2 _ _) (SeqAt.tuple_index2_found a its.toArray n dd sl uy (fun i => if h : i < its.length then eqU y its[i] else false) j jz (Nat.zero_le _) jz ?_ ?_) ⟨ho, fun i hi => ?_, ?_⟩
    · have e1 : its[j] = u := je
      rw [dif_pos jl, e1, eqU_of ru (flat_at fys hz)]
      exact zj
    · intro m hm _ mj
      have ml : m < its.length := by rw [List.size_toArray] at hm; exact hm
      have hy' : ys[m]? = some (ys[m]'(by omega)) := List.getElem?_eq_getElem _
      obtain ⟨u2, hu2, ru2⟩ := rv.get hy'
      obtain ⟨_, me⟩ := List.getElem?_eq_some_iff.mp hu2
      have e1 : its[m] = u2 := me
      rw [dif_pos ml, e1, eqU_of ru2 (flat_at fys hy')]
      exact none_ahead m _ mj hy'
    · have il : i < its.length := by rw [List.size_toArray] at hi; exact hi
      rw [dif_pos il]
      exact mem_eqAt ry fy rv fys _ (by simp)
    · exact ⟨.int (j : Nat), H, I.tok _, ⟨_, rfl⟩, q⟩
end
/-- a comprehension that makes f i at turn i, and leaves what stands -/
theorem lc_fn {J : It} {n : Nat} {G : Hp → Prop} {Y : Nat → Hp → V → Hp → Prop} (W : Walk J n G Y) {g : TG} {tt : TT} {te : TE} {vs : List Nat} {σ : St} {H1 : Hp} {D : Addr} {Qd : Hp → Prop} (f : Nat → V) (hn : n ≤ 1000) (hD : H1 D = none)
    (hG : ∀ H', (∀ a o, a ≠ D → H1 a = some o → H' a = some o) → G H')
    (hs : ∀ (i : Nat) (x : V) (H' H'' : Hp) (Kc : VK) (Z : Hp → Prop), i < n → (∀ a o, a ≠ D → H1 a = some o → H' a = some o) → Y i H' x H'' → (∀ H2, Same H' H2 → Kc (f i) H2) → g x (wipe σ vs) H'' fun σ2 H3 => wipe σ2 vs = wipe σ vs ∧ tt σ2 H3 fun b H4 => if b = true then te σ2 H4 Kc else Z H4)
    (hd : ∀ H', (∀ a o, a ≠ D → H1 a = some o → H' a = some o) → H' D = some (.lst ((List.range n).map f)) → Qd H') :
    ∃ Wt : Nat → Nat → Hp → Prop, (∃ m, Wt 0 m (upd H1 D (.lst []))) ∧ ∀ i m H, Wt i m H →
      (J.stop i H ∧ Qd H) ∨ (J.go i H ∧ ∃ Nx : Hp → Prop, (∀ H', Nx H' → ∃ m', m' < m ∧ Wt (i + 1) m' H') ∧ ∀ x H', J.yld i H x H' → g x (wipe σ vs) H' fun σ2 H2 => wipe σ2 vs = wipe σ vs ∧ tt σ2 H2 fun b H3 =>
        if b = true then te σ2 H3 fun y H4 => ∃ acc, H4 D = some (.lst acc) ∧ acc.length < sizeLine ∧ Nx (upd H4 D (.lst (acc ++ [y]))) else Nx H3) := by
  refine lc_it W (fun i H' => (∀ a o, a ≠ D → H1 a = some o → H' a = some o) ∧ H' D = some (.lst ((List.range i).map f))) ⟨fun a o na e => by rw [upd_ne na]; exact e, upd_same⟩ (fun i H' _ h => hG H' h.1) ?_ fun H' h => hd H' h.1 h.2
  rintro i x H' H'' hi ⟨h1, h2⟩ y
  refine hs i x H' H'' _ _ hi h1 y fun H2 s => ⟨_, s _ _ h2, ?_, fun a o na e => ?_, ?_⟩
  · rw [List.length_map, List.length_range, sizeLine_eq]
    omega
  · rw [upd_ne na]
    exact s _ _ (h1 a o na e)
  · rw [upd_same, List.range_succ, List.map_append]
    rfl
theorem keep_same {H1 H' : Hp} {D : Addr} (hD : H1 D = none) (k : ∀ a o, a ≠ D → H1 a = some o → H' a = some o) : Same H1 H' := fun a o e => k a o (ne_of_none e hD) e
end L2
set_option Elab.async false
set_option linter.all false
set_option maxRecDepth 100000
set_option maxHeartbeats 4000000
namespace K01
open PySem PySem.Spec PyProof.Rows L2
/-! ### data: trees of tuples and lists -/
inductive D where
  | sc (v : V)
  | seq (t : Bool) (xs : List D)
abbrev NoA : Addr → Prop := fun _ => False
def SqB (K : PySem.W.Frag) (b : Addr) (H : Hp) (t : Bool) (a : Addr) (vs : List V) : Prop := if t = true then SqT K H a vs else (H a = some (.lst vs) ∧ a ≠ b)
def Rp (K : PySem.W.Frag) (b : Addr) (H : Hp) : Nat → D → V → Prop
  | 0, d, v => d = .sc v ∧ Sc v
  | n + 1, d, v => (d = .sc v ∧ Sc v) ∨ ∃ (t : Bool) (ds : List D) (a : Addr) (vs : List V), d = .seq t ds ∧ v = .ref a ∧ SqB K b H t a vs ∧ vs.length = ds.length ∧ vs.length ≤ 900 ∧ ∀ (i : Nat) (d : D) (v : V), ds[i]? = some d → vs[i]? = some v → Rp K b H n d v
def RpA (K : PySem.W.Frag) (b : Addr) (H : Hp) (n : Nat) (ds : List D) (vs : List V) : Prop := vs.length = ds.length ∧ ∀ (i : Nat) (d : D) (v : V), ds[i]? = some d → vs[i]? = some v → Rp K b H n d v
section
variable {K : PySem.W.Frag} {b : Addr} {H H' : Hp} {n m : Nat} {d : D} {v w : V} {a : Addr} {ds : List D} {vs : List V} {t : Bool}
theorem Rp.sc (h : Sc v) : Rp K b H n (.sc v) v := by
  cases n with
  | zero => exact ⟨rfl, h⟩
  | succ n => exact .inl ⟨rfl, h⟩
theorem SqB.to (h : SqB K b H t a vs) (f : ∀ o, (t = false → a ≠ b) → H a = some o → H' a = some o) : SqB K b H' t a vs := by
  unfold SqB at h ⊢
  by_cases e : t = true
  · rw [if_pos e] at h ⊢
    exact sqT_at h fun o q => f o (fun z => by rw [e] at z; cases z) q
  · rw [if_neg e] at h ⊢
    exact ⟨f _ (fun _ => h.2) h.1, h.2⟩
theorem Rp.to (f : ∀ (a : Addr) (o : HO) (vs : List V), (SqT K H a vs ∨ a ≠ b) → H a = some o → H' a = some o) : ∀ {n : Nat} {d : D} {v : V}, Rp K b H n d v → Rp K b H' n d v
  | 0, _, _, h => h
  | n + 1, _, _, h => by
    rcases h with h | ⟨t, ds, a, vs, e1, e2, h3, e4, e5, h6⟩
    · exact .inl h
    · refine .inr ⟨t, ds, a, vs, e1, e2, h3.to fun o z q => f a o vs ?_ q, e4, e5, fun i d v q1 q2 => (h6 i d v q1 q2).to f⟩
      cases t with
      | true => exact .inl h3
      | false => exact .inr (z rfl)
theorem Rp.same (s : Same H H') (h : Rp K b H n d v) : Rp K b H' n d v := h.to fun a o vs _ q => s a o q
theorem RpA.same (s : Same H H') (h : RpA K b H n ds vs) : RpA K b H' n ds vs := ⟨h.1, fun i d v q1 q2 => (h.2 i d v q1 q2).same s⟩
theorem Rp.up : ∀ {n : Nat} {d : D} {v : V}, Rp K b H n d v → Rp K b H (n + 1) d v
  | 0, _, _, h => .inl h
  | n + 1, _, _, h => by
    rcases h with h | ⟨t, ds, a, vs, e1, e2, h3, e4, e5, h6⟩
    · exact .inl h
    · exact .inr ⟨t, ds, a, vs, e1, e2, h3, e4, e5, fun i d v q1 q2 => (h6 i d v q1 q2).up⟩
theorem Rp.mono (h : Rp K b H m d v) (le : m ≤ n) : Rp K b H n d v := by
  induction le with
  | refl => exact h
  | step _ ih => exact ih.up
theorem RpA.up (h : RpA K b H n ds vs) : RpA K b H (n + 1) ds vs := ⟨h.1, fun i d v q1 q2 => (h.2 i d v q1 q2).up⟩
theorem RpA.nil : RpA K b H n [] [] := ⟨rfl, fun i d v q => by cases i <;> cases q⟩
theorem RpA.cons (h : Rp K b H n d v) (r : RpA K b H n ds vs) : RpA K b H n (d :: ds) (v :: vs) := ⟨by simp [r.1], fun i d' v' q1 q2 => by
  cases i with
  | zero =>
    cases q1
    cases q2
    exact h
  | succ i => exact r.2 i d' v' q1 q2⟩
theorem RpA.append {es : List D} {ws : List V} (h : RpA K b H n ds vs) (r : RpA K b H n es ws) : RpA K b H n (ds ++ es) (vs ++ ws) := ⟨by simp [r.1, h.1], fun i d' v' q1 q2 => by
  by_cases c : i < ds.length
  · rw [List.getElem?_append_left c] at q1
    rw [List.getElem?_append_left (by rw [h.1]; exact c)] at q2
    exact h.2 i d' v' q1 q2
  · rw [List.getElem?_append_right (by omega)] at q1
    rw [List.getElem?_append_right (by rw [h.1]; omega), h.1] at q2
    exact r.2 _ d' v' q1 q2⟩
theorem RpA.take (k : Nat) (h : RpA K b H n ds vs) : RpA K b H n (ds.take k) (vs.take k) := ⟨by simp [h.1], fun i d' v' q1 q2 => by
  rw [List.getElem?_take] at q1 q2
  split at q1
  · rename_i c
    rw [if_pos c] at q2
    exact h.2 i d' v' q1 q2
  · cases q1⟩
theorem RpA.drop (k : Nat) (h : RpA K b H n ds vs) : RpA K b H n (ds.drop k) (vs.drop k) := ⟨by simp [h.1], fun i d' v' q1 q2 => by
  rw [List.getElem?_drop] at q1 q2
  exact h.2 _ d' v' q1 q2⟩
theorem Rp.seq (h : SqB K b H t a vs) (r : RpA K b H n ds vs) (l : vs.length ≤ 900) : Rp K b H (n + 1) (.seq t ds) (.ref a) := .inr ⟨t, ds, a, vs, rfl, rfl, h, r.1, l, r.2⟩
theorem Rp.tup (h : SqT K H a vs) (r : RpA K b H n ds vs) (l : vs.length ≤ 900) : Rp K b H (n + 1) (.seq true ds) (.ref a) := Rp.seq (by unfold SqB; rw [if_pos rfl]; exact h) r l
theorem Rp.lst (h : H a = some (.lst vs)) (nb : a ≠ b) (r : RpA K b H n ds vs) (l : vs.length ≤ 900) : Rp K b H (n + 1) (.seq false ds) (.ref a) := Rp.seq (by unfold SqB; rw [if_neg (by decide)]; exact ⟨h, nb⟩) r l
/-- a scalar is itself -/
theorem Rp.of_sc (h : Rp K b H n (.sc w) v) : v = w ∧ Sc v := by
  cases n with
  | zero =>
    obtain ⟨e, s⟩ := h
    cases e
    exact ⟨rfl, s⟩
  | succ n =>
    rcases h with ⟨e, s⟩ | ⟨t, ds, a, vs, e, _⟩
    · cases e
      exact ⟨rfl, s⟩
    · cases e
theorem Rp.of_seq (h : Rp K b H n (.seq t ds) v) : ∃ (m : Nat) (a : Addr) (vs : List V), n = m + 1 ∧ v = .ref a ∧ SqB K b H t a vs ∧ RpA K b H m ds vs ∧ vs.length ≤ 900 := by
  cases n with
  | zero => cases h.1
  | succ n =>
    rcases h with ⟨e, s⟩ | ⟨t', ds', a, vs, e, e2, h3, h4, h5, h6⟩
    · cases e
    · cases e
      exact ⟨n, a, vs, rfl, e2, h3, ⟨h4, h6⟩, h5⟩
theorem Rp.of_tup (h : Rp K b H (n + 1) (.seq true ds) v) : ∃ (a : Addr) (vs : List V), v = .ref a ∧ SqT K H a vs ∧ RpA K b H n ds vs ∧ vs.length ≤ 900 := by
  obtain ⟨m, a, vs, e, e2, h3, h4, h5⟩ := h.of_seq
  cases e
  unfold SqB at h3
  rw [if_pos rfl] at h3
  exact ⟨a, vs, e2, h3, h4, h5⟩
theorem SqB.E (h : SqB K b H t a vs) : SqE K H a vs := by
  unfold SqB at h
  split at h
  · exact .inr h
  · exact .inl (SqL.of h.1)
/-- two values with the same data are alike -/
theorem Rp.alk : ∀ {n : Nat} {d : D} {v w : V}, Rp K b H n d v → Rp K b H n d w → Alk K NoA H n v w
  | 0, _, _, _, h1, h2 => by
    obtain ⟨e1, s1⟩ := h1
    obtain ⟨e2, s2⟩ := h2
    rw [e1] at e2
    cases e2
    exact ⟨s1, rfl⟩
  | n + 1, _, _, _, h1, h2 => by
    rcases h1 with ⟨e1, s1⟩ | ⟨t, ds, p, xs, e1, e2, h3, e4, e5, h6⟩
    · subst e1
      obtain ⟨e, s⟩ := h2.of_sc
      exact .inl ⟨s1, e.symm⟩
    · subst e1
      obtain ⟨m, q, ys, em, f2, g3, g4, g5⟩ := h2.of_seq
      cases em
      refine .inr ⟨p, q, xs, ys, e2, f2, fun z => z, fun z => z, ?_, by rw [e4, g4.1], by omega, fun i u v' hu hv => ?_⟩
      · unfold SqB at h3 g3
        split at h3
        · rename_i c
          rw [if_pos c] at g3
          exact .inr ⟨h3, g3⟩
        · rename_i c
          rw [if_neg c] at g3
          exact .inl ⟨h3.1, g3.1⟩
      · obtain ⟨l1, _⟩ := List.getElem?_eq_some_iff.mp hu
        have hd : ds[i]? = some ds[i] := List.getElem?_eq_getElem (by omega)
        exact (h6 i _ u hd hu).alk (g4.2 i _ v' hd hv)
end
theorem dec_int {a k : Int} : decide (V.int a = V.int k) = decide (a = k) := decide_eq_decide.mpr ⟨fun h => by cases h; rfl, fun h => by rw [h]⟩
theorem dec_str {a k : Str} : decide (V.str a = V.str k) = decide (a = k) := decide_eq_decide.mpr ⟨fun h => by cases h; rfl, fun h => by rw [h]⟩
/-! ### what a value is -/
def intD : D → Option Int
  | .sc (.int i) => some i
  | _ => none
def isI (d : D) : Bool := (intD d).isSome
def isT : D → Bool
  | .seq t _ => t
  | _ => false
def isQ : D → Bool
  | .seq _ _ => true
  | _ => false
def strD : D → Option Str
  | .sc (.str x) => some x
  | _ => none
def isS (d : D) : Bool := (strD d).isSome
/-- a number from lo to hi -/
def wh (lo hi : Int) (d : D) : Bool := match intD d with
  | some i => decide (lo ≤ i) && decide (i ≤ hi)
  | none => false
def num (d : D) : Int := (intD d).getD 0
def items : D → List D
  | .seq _ xs => xs
  | _ => []
theorem wh_int {lo hi : Int} {d : D} (h : wh lo hi d = true) : d = .sc (.int (num d)) ∧ lo ≤ num d ∧ num d ≤ hi := by
  unfold wh at h
  cases d with
  | sc v =>
    cases v with
    | int i => simpa [intD, num] using h
    | _ => cases h
  | seq t xs => cases h
theorem wh_of {lo hi i : Int} (h1 : lo ≤ i) (h2 : i ≤ hi) : wh lo hi (.sc (.int i)) = true := by simp [wh, intD, h1, h2]
section
variable {K : PySem.W.Frag} {b : Addr} {H : Hp} {n : Nat} {d : D} {v : V}
/-- the type of a value, by its name -/
theorem Rp.ty (h : Rp K b H n d v) : ∃ s : String, TyX K H v (.type s) ∧ kitB s "tuple" = some (isT d) ∧ kitB s "list" = some (isQ d && !isT d) ∧ kitB s "str" = some (isS d) ∧ ∃ i j, kitB s "int" = some i ∧ kitB s "bool" = some j ∧ isI d = (i && !j) := by
  cases d with
  | sc w =>
    obtain ⟨rfl, s⟩ := h.of_sc
    cases s with
    | non => exact ⟨"NoneType", .base .non, (show kitB "NoneType" "tuple" = some false by decide +kernel), (show kitB "NoneType" "list" = some false by decide +kernel), (show kitB "NoneType" "str" = some false by decide +kernel), false, false, by decide +kernel, by decide +kernel, rfl⟩
    | bl x => exact ⟨"bool", .base (.bl x), (show kitB "bool" "tuple" = some false by decide +kernel), (show kitB "bool" "list" = some false by decide +kernel), (show kitB "bool" "str" = some false by decide +kernel), true, true, by decide +kernel, by decide +kernel, rfl⟩
    | int i => exact ⟨"int", .base (.int i), (show kitB "int" "tuple" = some false by decide +kernel), (show kitB "int" "list" = some false by decide +kernel), (show kitB "int" "str" = some false by decide +kernel), true, false, by decide +kernel, by decide +kernel, rfl⟩
    | str x => exact ⟨"str", .base (.str x), (show kitB "str" "tuple" = some false by decide +kernel), (show kitB "str" "list" = some false by decide +kernel), (show kitB "str" "str" = some true by decide +kernel), false, false, by decide +kernel, by decide +kernel, rfl⟩
  | seq t ds =>
    obtain ⟨m, a, vs, _, rfl, h3, _⟩ := h.of_seq
    cases t with
    | true => exact ⟨"tuple", K01.tyT h3, (show kitB "tuple" "tuple" = some true by decide +kernel), (show kitB "tuple" "list" = some false by decide +kernel), (show kitB "tuple" "str" = some false by decide +kernel), false, false, by decide +kernel, by decide +kernel, rfl⟩
    | false => exact ⟨"list", .base (.lst h3.1), (show kitB "list" "tuple" = some false by decide +kernel), (show kitB "list" "list" = some true by decide +kernel), (show kitB "list" "str" = some false by decide +kernel), false, false, by decide +kernel, by decide +kernel, rfl⟩
theorem Rp.Wh (h : Rp K b H n d v) : Wh K H v (isI d) := by
  obtain ⟨s, ty, _, _, _, i, j, e1, e2, e3⟩ := h.ty
  exact ⟨_, i, j, ty, kit_ty e1, kit_ty e2, e3⟩
theorem Rp.tyT (h : Rp K b H n d v) : ∃ t, TyX K H v t ∧ PySem.W.kitOne K t (.type "tuple") = some (isT d) := by
  obtain ⟨s, ty, e, _⟩ := h.ty
  exact ⟨_, ty, kit_ty e⟩
theorem Rp.tyS (h : Rp K b H n d v) : ∃ t, TyX K H v t ∧ PySem.W.kitOne K t (.type "str") = some (isS d) := by
  obtain ⟨s, ty, _, _, e, _⟩ := h.ty
  exact ⟨_, ty, kit_ty e⟩
theorem Rp.tyQ (h : Rp K b H n d v) : ∃ t, TyX K H v t ∧ PySem.W.kitAny K t [.type "list", .type "tuple"] = some (isQ d) := by
  obtain ⟨s, ty, e1, e2, _⟩ := h.ty
  refine ⟨_, ty, ?_⟩
  rw [kitLT e2 e1]
  cases d with
  | sc w => rfl
  | seq t ds => cases t <;> rfl
theorem isI_num (h : isI d = true) : d = .sc (.int (num d)) := by
  cases d with
  | sc v =>
    cases v with
    | int i => rfl
    | _ => cases h
  | seq t xs => cases h
theorem Rp.int (h : Rp K b H n d v) (e : isI d = true) : v = .int (num d) := by
  rw [isI_num e] at h
  exact h.of_sc.1
theorem isS_str (h : isS d = true) : ∃ x, d = .sc (.str x) := by
  cases d with
  | sc v =>
    cases v with
    | str i => exact ⟨i, rfl⟩
    | _ => cases h
  | seq t xs => cases h
theorem isT_tup (h : isT d = true) : d = .seq true (items d) := by
  cases d with
  | sc v => cases h
  | seq t xs =>
    cases h
    rfl
theorem isQ_seq (h : isQ d = true) : d = .seq (isT d) (items d) := by
  cases d with
  | sc v => cases h
  | seq t xs => rfl
theorem num_D {lo hi : Int} {Q : VK} {E : XK} (h : Rp K b H n d v) (q : Q (.bl (wh lo hi d)) H) : spNumber K [v, .int lo, .int hi] H Q E := by
  refine ⟨v, lo, hi, rfl, ?_⟩
  by_cases e : isI d = true
  · refine .inl ⟨num d, h.int e, ?_⟩
    rw [isI_num e] at q
    exact q
  · refine .inr ⟨?_, ?_⟩
    · have := h.Wh
      rw [Bool.eq_false_iff.mpr e] at this
      exact this
    · have e2 : wh lo hi d = false := by
        unfold wh
        have : intD d = none := by
          unfold isI at e
          cases c : intD d with
          | none => rfl
          | some i => rw [c] at e; exact absurd rfl e
        rw [this]
      rw [e2] at q
      exact q
end
end K01
set_option Elab.async false
set_option linter.all false
set_option maxRecDepth 100000
set_option maxHeartbeats 4000000
namespace L2
open PySem PySem.Spec PyProof.Rows SrtO
/-! ### sorted(t), t a tuple of ints -/
section
variable {pg : Program} {w : World} {A : Around} {E : Value → Shared → Prop} {s : Shared}
abbrev hpC (h : Heap) (us : List Value) : Heap := (h.push (seqObj "list" #[] 0)).update h.objs.size (Obj.mapSeq (· ++ us.toArray))
theorem collect_tuple {t : Addr} {us : List Value} {Q : List Value → Shared → Prop} (ht : s.heap.IsTuple t us.toArray) (few : us.length ≤ sizeLine) (k : Q us { s with heap := hpC s.heap us }) : wpAny (model pg w) A (collect (.ref t)) Q E s := by
  obtain ⟨o, ho, hc, n, hd⟩ := id ht
  unfold collect
  refine wpAny_bind (wpAny_runValue (codeAny_builtin entry_proto_collect' (show wpAny _ _ (do again (.builtin "list.__iadd__" ⟨[← newList [], .ref t], []⟩)) _ _ s from wpAny_bind (wpAny_newList (wpAny_pure ⟨Code.quiet_builtin _ (by decide +kernel), codeAny_builtin entry_list_iadd' ?_⟩)))))
  show wpAny _ _ (Builtin.List.listExtendWith (.ref s.heap.objs.size) (.ref t) (.ref s.heap.objs.size)) _ _ { s with heap := s.heap.push (seqObj "list" #[] 0) }
  unfold Builtin.List.listExtendWith
  have ho1 : (s.heap.push (seqObj "list" #[] 0)).get? t = some o := Heap.get?_push_of_some _ ho
  refine wpAny_bind (wpAny_typeOf (T := "tuple") ⟨o, ho1, hc⟩ ?_)
  rw [if_pos (by simp)]
  refine wpAny_bind (listItems_at ho1 hd (wpAny_bind (listItems_at (xs := #[]) (n := 0) (Heap.get?_push_size _ rfl) rfl ?_)))
  rw [if_neg (by simp)]
  refine wpAny_bind (listUpdate_at (xs := #[]) (n := 0) (Heap.get?_push_size _ rfl) rfl ?_ (Nat.zero_le _) (by simp; omega))
  refine wpAny_pure (show wpAny (model pg w) A (do
      let o ← load s.heap.objs.size
      match o.data with
      | .seq xs _ => pure xs.toList
      | _ => unsupported "internal:collect") Q E { s with heap := hpC s.heap us } from wpAny_bind (wpAny_load (get?_update_seq (Heap.get?_push_size _ rfl) _) ?_))
  show wpAny _ _ (pure ((#[] : Array Value) ++ us.toArray).toList) Q E _
  rw [show ((#[] : Array Value) ++ us.toArray).toList = us by simp]
  exact wpAny_pure k
theorem sorted_tuple {t : Addr} {us : List Value} {lt : Value → Value → Bool} {Q : Value → Shared → Prop} (O : Swo lt) (ht : s.heap.IsTuple t us.toArray) (few : us.length ≤ sizeLine)
    (srt : 2 ≤ us.length → ∀ (h1 : Heap) (a : Addr), h1.get? a = some (seqObj "list" us.toArray 0) → (∀ b o, s.heap.get? b = some o → b ≠ a ∧ h1.get? b = some o) → SortableO pg w A.in1.in1 { s with heap := h1 } a us lt)
    (k : ∀ out : List Value, Srtd lt out → Stb lt out us → Q (.ref (s.heap.objs.size + 1)) { s with heap := sortedAll s.heap us out.toArray }) : wpAny (model pg w) A (call (.builtin "sorted") [.ref t]) Q E s := by
  refine Calls.call_function_entry kind_sorted plain_sorted entry_sorted (args_sorted1 _) ?_
  unfold Builtin.«sorted»
  refine wpAny_bind (m := checkCount "sorted" 1 1 _) (wpAny_pure (wpAny_bind (collect_tuple ht few (wpAny_bind (wpAny_newList ?_ few)))))
  have sz : (hpC s.heap us).objs.size = s.heap.objs.size + 1 := by rw [Heap.size_update, size_push']
  have at1 : ((hpC s.heap us).push (seqObj "list" us.toArray 0)).get? (s.heap.objs.size + 1) = some (seqObj "list" us.toArray 0) := by
    rw [← sz]
    exact Heap.get?_push_size _ rfl
  have stay : ∀ b o, s.heap.get? b = some o → b ≠ s.heap.objs.size + 1 ∧ ((hpC s.heap us).push (seqObj "list" us.toArray 0)).get? b = some o := fun b o q => by
    have bl := Heap.lt_size q
    refine ⟨Nat.ne_of_lt (Nat.lt_succ_of_lt bl), Heap.get?_push_of_some _ ?_⟩
    rw [Heap.get?_update_ne _ _ _ _ (Nat.ne_of_lt bl)]
    exact Heap.get?_push_of_some _ q
  show wpAny _ _ _ _ _ { s with heap := (hpC s.heap us).push (seqObj "list" us.toArray 0) }
  rw [sz]
  refine wpAny_bind (wpAny_holding (wpAny_call_entry slot_list_sort ⟨_, at1, rfl⟩ entry_list_sort ?_ (args_list_sort _)))
  refine list_sort_ord O at1 few (fun h2 => srt h2 _ _ at1 stay) fun out hs hb => ⟨_, rfl, ?_⟩
  exact wpAny_pure ⟨_, rfl, k out hs hb⟩
end
def rSortedU (K : PySem.W.Frag) : List V → Hp → VK → Prop := fun vs H Q => ∃ (a : Addr) (ns : List Int), vs = [V.ref a] ∧ SqT K H a (ns.map V.int) ∧ ∀ (ms : List Int) (p : Addr), ms.Perm ns → ms.Pairwise (· ≤ ·) → H p = none → Q (.ref p) (upd H p (.lst (ms.map V.int)))
section
variable {X : Cx}
theorem cr_sortedU : CallR X (.builtin "sorted") (rSortedU X.K) := by
  intro pins s σ H vs us Q I r h
  obtain ⟨a, ns, rfl, ha, q⟩ := h
  obtain ⟨its, rv, it, hz⟩ := I.tuple ha
  rw [Vals.ref1 r]
  have hin := rv.ints
  refine sorted_tuple swo_int (show s.heap.IsTuple a its.toArray from it) (by rw [← rv.length]; exact hz) (fun h2 _ _ _ _ => ints_sortable hin h2) fun out o1 o2 => ?_
  obtain ⟨k1, k2, k3⟩ := ints_out hin o1 o2
  obtain ⟨ep, at1⟩ := PyProof.Rows.sortedAll_at s.heap its out.toArray
  have len : ((out.map iv).map V.int).length ≤ sizeLine := by
    rw [List.length_map, k2.length_eq]
    rw [List.length_map] at hz
    exact hz
  refine ⟨.ref _, upd H (s.heap.objs.size + 1) (.lst ((out.map iv).map V.int)), ?_, rfl, q _ _ k2 k3 (I.hok.fresh (Nat.le_succ _))⟩
  exact I.laid (t' := s.toks) (fun _ _ => PyProof.Rows.sortedAll_old) (Nat.le_succ _) ⟨len, out, ep, vals_of_ints k1, at1⟩
/-! ### a tuple of ints among such tuples -/
abbrev dI (k : List Int) : PyData := .tuple (k.map PyData.int)
theorem eqvAll_ints : ∀ j k : List Int, PyData.eqvAll (j.map PyData.int) (k.map PyData.int) = decide (j = k)
  | [], [] => rfl
  | [], _ :: _ => rfl
  | _ :: _, [] => rfl
  | x :: j, y :: k => by
    show (PyData.eqv (.int x) (.int y) && PyData.eqvAll (j.map PyData.int) (k.map PyData.int)) = _
    rw [eqvAll_ints j k]
    by_cases e : x = y
    · by_cases f : j = k
      · simp [e, f, PyData.eqv]
      · simp [e, f, PyData.eqv]
    · simp [e, PyData.eqv]
theorem lay_ints : ∀ k : List Int, PyData.canLayAll0 (k.map PyData.int) = true ∧ PyData.depthAll (k.map PyData.int) ≤ 1
  | [] => by simp [PyData.canLayAll0, PyData.depthAll]
  | x :: k => by
    have h := lay_ints k
    simp [PyData.canLayAll0, PyData.canLay0, PyData.depthAll, PyData.depth, h.1]
    try omega
theorem lay_many : ∀ ks : List (List Int), PyData.canLayAll0 (ks.map dI) = true ∧ PyData.depthAll (ks.map dI) ≤ 3
  | [] => by simp [PyData.canLayAll0, PyData.depthAll]
  | k :: ks => by
    have h := lay_many ks
    have h2 := lay_ints k
    simp [PyData.canLayAll0, PyData.canLay0, PyData.depthAll, PyData.depth, h.1, h2.1]
    try omega
theorem any_ints (k : List Int) : ∀ ks : List (List Int), ((ks.map dI).any fun z => PyData.eqv z (dI k)) = decide (k ∈ ks)
  | [] => rfl
  | j :: ks => by
    rw [List.map_cons, List.any_cons, any_ints k ks, show PyData.eqv (dI j) (dI k) = decide (j = k) from eqvAll_ints j k]
    by_cases e : j = k
    · simp [e]
    · have : ¬ k = j := fun z => e z.symm
      simp [e, this]
theorem dp_ints {K : PySem.W.Frag} {H : Hp} : ∀ k : List Int, DpAll K H (k.map V.int) (k.map PyData.int)
  | [] => .nil
  | x :: k => .cons (.int x) (dp_ints k)
theorem dp_tup {K : PySem.W.Frag} {H : Hp} {a : Addr} {k : List Int} (h : SqT K H a (k.map V.int)) : Dp K H (.ref a) (dI k) := .tup h (dp_ints k)
theorem dp_many {K : PySem.W.Frag} {H : Hp} : ∀ {ks : List (Addr × List Int)}, (∀ p ∈ ks, SqT K H p.1 (p.2.map V.int)) → DpAll K H (ks.map fun p => V.ref p.1) ((ks.map (·.2)).map dI)
  | [], _ => .nil
  | p :: ks, h => .cons (dp_tup (h p (List.mem_cons_self ..))) (dp_many fun q hq => h q (List.mem_cons_of_mem _ hq))
def rInK (K : PySem.W.Frag) (neg : Bool) : R2 := fun x y H Q => ∃ (a p : Addr) (k : List Int) (ks : List (Addr × List Int)), x = .ref a ∧ y = .ref p ∧ SqT K H a (k.map V.int) ∧ SqE K H p (ks.map fun q => V.ref q.1) ∧ (∀ q ∈ ks, SqT K H q.1 (q.2.map V.int)) ∧ Q (.bl (if neg = true then !decide (k ∈ ks.map (·.2)) else decide (k ∈ ks.map (·.2)))) H
theorem shaped_ints (k : List Int) : SeqAt.shaped (dI k) = true := by
  have h := lay_ints k
  show (PyData.canLayAll0 (k.map PyData.int) && decide (PyData.depthAll (k.map PyData.int) + 1 ≤ 64)) = true
  rw [h.1, Bool.true_and]
  exact decide_eq_true (by omega)
theorem op_inK (hu : X.A.units + 65 < cLine) : OpR X (compareOp .In) (rInK X.K false) := by
  intro pins s σ H x y v u Q I rx ry h
  obtain ⟨a, p, k, ks, rfl, rfl, ha, hp, hk, q⟩ := h
  rw [if_neg (by decide)] at q
  obtain ⟨as, r1⟩ := Dp.reads I (dI k) _ v (dp_tup ha) rx
  have lm := lay_many (ks.map (·.2))
  have sk := shaped_ints k
  rcases hp with hp | hp
  · obtain ⟨bs, r2⟩ := Dp.reads I (.list ((ks.map (·.2)).map dI)) _ u (.lst hp (dp_many hk)) ry
    exact SeqAt.in_list_reads r2 r1 lm.1 (SeqAt.canLay_of_shaped sk) (by have := Nat.min_le_left (PyData.depthAll ((ks.map (·.2)).map dI)) (dI k).depth; omega) ⟨.bl _, H, I, by rw [any_ints] <;> rfl, q⟩
  · obtain ⟨bs, r2⟩ := Dp.reads I (.tuple ((ks.map (·.2)).map dI)) _ u (.tup hp (dp_many hk)) ry
    exact SeqAt.in_tuple_reads r2 r1 lm.1 (SeqAt.canLay_of_shaped sk) (by have := Nat.min_le_left (PyData.depthAll ((ks.map (·.2)).map dI)) (dI k).depth; omega) ⟨.bl _, H, I, by rw [any_ints] <;> rfl, q⟩
theorem op_notInK (hu : X.A.units + 65 < cLine) : OpR X (compareOp .NotIn) (rInK X.K true) := by
  intro pins s σ H x y v u Q I rx ry h
  obtain ⟨a, p, k, ks, rfl, rfl, ha, hp, hk, q⟩ := h
  rw [if_pos rfl] at q
  obtain ⟨as, r1⟩ := Dp.reads I (dI k) _ v (dp_tup ha) rx
  have lm := lay_many (ks.map (·.2))
  have sk := shaped_ints k
  rcases hp with hp | hp
  · obtain ⟨bs, r2⟩ := Dp.reads I (.list ((ks.map (·.2)).map dI)) _ u (.lst hp (dp_many hk)) ry
    exact SeqAt.notIn_list_reads r2 r1 lm.1 (SeqAt.canLay_of_shaped sk) (by have := Nat.min_le_left (PyData.depthAll ((ks.map (·.2)).map dI)) (dI k).depth; omega) ⟨.bl _, H, I, by rw [any_ints] <;> rfl, q⟩
  · obtain ⟨bs, r2⟩ := Dp.reads I (.tuple ((ks.map (·.2)).map dI)) _ u (.tup hp (dp_many hk)) ry
    exact SeqAt.notIn_tuple_reads r2 r1 lm.1 (SeqAt.canLay_of_shaped sk) (by have := Nat.min_le_left (PyData.depthAll ((ks.map (·.2)).map dI)) (dI k).depth; omega) ⟨.bl _, H, I, by rw [any_ints] <;> rfl, q⟩
/-! ### two lists of ints -/
def rEqI (K : PySem.W.Frag) : R2 := fun x y H Q => ∃ (a b : Addr) (j k : List Int), x = .ref a ∧ y = .ref b ∧ SqL K H a (j.map V.int) ∧ SqL K H b (k.map V.int) ∧ Q (.bl (decide (j = k))) H
theorem op_eqI (hu : X.A.units + 64 < cLine) : OpR X (compareOp .Eq) (rEqI X.K) := by
  intro pins s σ H x y v u Q I rx ry h
  obtain ⟨a, b, j, k, rfl, rfl, ha, hb, q⟩ := h
  refine op_eqD hu pins s σ H _ _ v u Q I rx ry ⟨.list (j.map PyData.int), .list (k.map PyData.int), .lst ha (dp_ints j), .lst hb (dp_ints k), ?_, ?_, ?_⟩
  · exact shaped_ints j
  · exact shaped_ints k
  · rw [show PyData.eqv (.list (j.map PyData.int)) (.list (k.map PyData.int)) = decide (j = k) from eqvAll_ints j k]
    exact q
end
theorem hu65 {A : Around} {k : Nat} (hr : Room k A) : A.units + 65 < cLine := by
  have := hr.un
  omega
end L2
set_option Elab.async false
set_option linter.all false
set_option maxRecDepth 100000
set_option maxHeartbeats 4000000
namespace L2
open PySem PySem.Spec PyProof.Rows
/-- a comprehension that makes f i at each turn i with p i, and leaves what stands -/
theorem lc_flt {J : It} {n : Nat} {G : Hp → Prop} {Y : Nat → Hp → V → Hp → Prop} (W : Walk J n G Y) {g : TG} {tt : TT} {te : TE} {vs : List Nat} {σ : St} {H1 : Hp} {D : Addr} {Qd : Hp → Prop} (f : Nat → V) (p : Nat → Bool) (hn : n ≤ 1000000) (hD : H1 D = none)
    (hG : ∀ H', (∀ a o, a ≠ D → H1 a = some o → H' a = some o) → G H')
    (hs : ∀ (i : Nat) (x : V) (H' H'' : Hp) (Kc : VK) (Z : Hp → Prop), i < n → (∀ a o, a ≠ D → H1 a = some o → H' a = some o) → Y i H' x H'' → (p i = true → ∀ H2, Same H' H2 → Kc (f i) H2) → (p i = false → ∀ H2, Same H' H2 → Z H2) → g x (wipe σ vs) H'' fun σ2 H3 => wipe σ2 vs = wipe σ vs ∧ tt σ2 H3 fun b H4 => if b = true then te σ2 H4 Kc else Z H4)
    (hd : ∀ H', (∀ a o, a ≠ D → H1 a = some o → H' a = some o) → H' D = some (.lst (((List.range n).filter p).map f)) → Qd H') :
    ∃ Wt : Nat → Nat → Hp → Prop, (∃ m, Wt 0 m (upd H1 D (.lst []))) ∧ ∀ i m H, Wt i m H →
      (J.stop i H ∧ Qd H) ∨ (J.go i H ∧ ∃ Nx : Hp → Prop, (∀ H', Nx H' → ∃ m', m' < m ∧ Wt (i + 1) m' H') ∧ ∀ x H', J.yld i H x H' → g x (wipe σ vs) H' fun σ2 H2 => wipe σ2 vs = wipe σ vs ∧ tt σ2 H2 fun b H3 =>
        if b = true then te σ2 H3 fun y H4 => ∃ acc, H4 D = some (.lst acc) ∧ acc.length < sizeLine ∧ Nx (upd H4 D (.lst (acc ++ [y]))) else Nx H3) := by
  refine lc_it W (fun i H' => (∀ a o, a ≠ D → H1 a = some o → H' a = some o) ∧ H' D = some (.lst (((List.range i).filter p).map f))) ⟨fun a o na e => by rw [upd_ne na]; exact e, upd_same⟩ (fun i H' _ h => hG H' h.1) ?_ fun H' h => hd H' h.1 h.2
  rintro i x H' H'' hi ⟨h1, h2⟩ y
  refine hs i x H' H'' _ _ hi h1 y (fun hp H2 s => ⟨_, s _ _ h2, ?_, fun a o na e => ?_, ?_⟩) fun hp H2 s => ⟨fun a o na e => s _ _ (h1 a o na e), ?_⟩
  · have : ((List.range i).filter p).length ≤ (List.range i).length := List.length_filter_le _ _
    rw [List.length_range] at this
    rw [List.length_map, sizeLine_eq]
    omega
  · rw [upd_ne na]
    exact s _ _ (h1 a o na e)
  · rw [upd_same, List.range_succ, List.filter_append, List.map_append]
    simp [hp]
  · rw [s _ _ h2, List.range_succ, List.filter_append, List.map_append]
    simp [hp]
/-- the same where none is left out -/
theorem lc_all {J : It} {n : Nat} {G : Hp → Prop} {Y : Nat → Hp → V → Hp → Prop} (W : Walk J n G Y) {g : TG} {tt : TT} {te : TE} {vs : List Nat} {σ : St} {H1 : Hp} {D : Addr} {Qd : Hp → Prop} (f : Nat → V) (hn : n ≤ 1000000) (hD : H1 D = none)
    (hG : ∀ H', (∀ a o, a ≠ D → H1 a = some o → H' a = some o) → G H')
    (hs : ∀ (i : Nat) (x : V) (H' H'' : Hp) (Kc : VK) (Z : Hp → Prop), i < n → (∀ a o, a ≠ D → H1 a = some o → H' a = some o) → Y i H' x H'' → (∀ H2, Same H' H2 → Kc (f i) H2) → g x (wipe σ vs) H'' fun σ2 H3 => wipe σ2 vs = wipe σ vs ∧ tt σ2 H3 fun b H4 => if b = true then te σ2 H4 Kc else Z H4)
    (hd : ∀ H', (∀ a o, a ≠ D → H1 a = some o → H' a = some o) → H' D = some (.lst ((List.range n).map f)) → Qd H') :
    ∃ Wt : Nat → Nat → Hp → Prop, (∃ m, Wt 0 m (upd H1 D (.lst []))) ∧ ∀ i m H, Wt i m H →
      (J.stop i H ∧ Qd H) ∨ (J.go i H ∧ ∃ Nx : Hp → Prop, (∀ H', Nx H' → ∃ m', m' < m ∧ Wt (i + 1) m' H') ∧ ∀ x H', J.yld i H x H' → g x (wipe σ vs) H' fun σ2 H2 => wipe σ2 vs = wipe σ vs ∧ tt σ2 H2 fun b H3 =>
        if b = true then te σ2 H3 fun y H4 => ∃ acc, H4 D = some (.lst acc) ∧ acc.length < sizeLine ∧ Nx (upd H4 D (.lst (acc ++ [y]))) else Nx H3) :=
  lc_flt W f (fun _ => true) hn hD hG (fun i x H' H'' Kc Z hi k y h1 _ => hs i x H' H'' Kc Z hi k y (h1 rfl)) fun H' k e => hd H' k (by rw [e, List.filter_eq_self.mpr (fun _ _ => rfl)])
/-! ### tuples of naturals compared -/
abbrev nvL (xs : List Nat) : List V := xs.map fun s : Nat => V.int ((s : Nat) : Int)
theorem nvL_ints (xs : List Nat) : nvL xs = (xs.map fun s : Nat => ((s : Nat) : Int)).map V.int := by
  rw [List.map_map]
  rfl
def dN (xs : List Nat) : PyData := .tuple ((xs.map fun s : Nat => ((s : Nat) : Int)).map PyData.int)
theorem dp_nv {K : PySem.W.Frag} {H : Hp} {a : Addr} {xs : List Nat} (h : SqT K H a (nvL xs)) : Dp K H (.ref a) (dN xs) := by
  rw [nvL_ints] at h
  exact .tup h (dp_ints _)
theorem canLay_ints : ∀ j : List Int, PyData.canLayAll0 (j.map PyData.int) = true
  | [] => rfl
  | i :: j => by
    rw [List.map_cons]
    unfold PyData.canLayAll0
    rw [canLay_ints j]
    rfl
theorem depth_ints : ∀ j : List Int, PyData.depthAll (j.map PyData.int) = 0
  | [] => rfl
  | i :: j => by
    rw [List.map_cons]
    unfold PyData.depthAll
    rw [depth_ints j]
    rfl
theorem canLay_nv (xs : List Nat) : PyData.canLay0 (dN xs) = true := by
  unfold dN PyData.canLay0
  exact canLay_ints _
theorem depth_nv (xs : List Nat) : PyData.depth (dN xs) = 1 := by
  unfold dN PyData.depth
  rw [depth_ints]
theorem shaped_nv (xs : List Nat) : SeqAt.shaped (dN xs) = true := by
  unfold SeqAt.shaped
  rw [canLay_nv, depth_nv]
  rfl
theorem cast_inj {xs ys : List Nat} : (xs.map fun s : Nat => ((s : Nat) : Int)) = (ys.map fun s : Nat => ((s : Nat) : Int)) ↔ xs = ys := by
  constructor
  · intro h
    have := congrArg (List.map Int.toNat) h
    simpa [List.map_map, Function.comp_def] using this
  · intro h
    rw [h]
theorem eqv_nv (xs ys : List Nat) : PyData.eqv (dN xs) (dN ys) = decide (xs = ys) := by
  unfold dN
  rw [show PyData.eqv (.tuple ((xs.map fun s : Nat => ((s : Nat) : Int)).map PyData.int)) (.tuple ((ys.map fun s : Nat => ((s : Nat) : Int)).map PyData.int)) = PyData.eqvAll _ _ by unfold PyData.eqv; rfl, eqvAll_ints]
  exact decide_eq_decide.mpr cast_inj
theorem eq_nv {K : PySem.W.Frag} {H : Hp} {a b : Addr} {xs ys : List Nat} {Q : VK} (ha : SqT K H a (nvL xs)) (hb : SqT K H b (nvL ys)) (q : Q (.bl (decide (xs = ys))) H) : rEqD K (.ref a) (.ref b) H Q :=
  ⟨_, _, dp_nv ha, dp_nv hb, shaped_nv _, shaped_nv _, by rw [eqv_nv]; exact q⟩
theorem ne_nv {K : PySem.W.Frag} {H : Hp} {a b : Addr} {xs ys : List Nat} {Q : VK} (ha : SqT K H a (nvL xs)) (hb : SqT K H b (nvL ys)) (q : Q (.bl (!decide (xs = ys))) H) : rNeD K (.ref a) (.ref b) H Q :=
  ⟨_, _, dp_nv ha, dp_nv hb, shaped_nv _, shaped_nv _, by rw [eqv_nv]; exact q⟩
end L2
set_option Elab.async false
set_option linter.all false
set_option maxRecDepth 100000
set_option maxHeartbeats 4000000
namespace K01
open PySem PySem.Spec PyProof.Rows L2
abbrev nv (ss : List Nat) : List V := ss.map fun s : Nat => V.int ((s : Nat) : Int)
abbrev nD (s : Nat) : D := .sc (.int ((s : Nat) : Int))
theorem iteT_of {α : Prop} {β : Prop} {c : Bool} (e : c = true) (h : α) : if c = true then α else β := by
  rw [if_pos e]
  exact h
theorem iteF_of {α : Prop} {β : Prop} {c : Bool} (e : c = false) (h : β) : if c = true then α else β := by
  rw [if_neg (by rw [e]; decide)]
  exact h
theorem nv_get {ss : List Nat} {i : Nat} (h : i < ss.length) : (nv ss)[i]? = some (.int ((ss.getD i 0 : Nat) : Int)) := by
  rw [List.getElem?_map, List.getElem?_eq_getElem h, List.getD_eq_getElem?_getD, List.getElem?_eq_getElem h]
  rfl
theorem nv_rp {K : PySem.W.Frag} {b : Addr} {H : Hp} {a : Addr} {ns : List Nat} (h : SqT K H a (nv ns)) (l : ns.length ≤ 900) : Rp K b H 1 (.seq true (ns.map nD)) (.ref a) := by
  refine Rp.tup h ⟨by rw [List.length_map, List.length_map], fun i d v q1 q2 => ?_⟩ (by rw [List.length_map]; exact l)
  rw [List.getElem?_map] at q1 q2
  cases e : ns[i]? with
  | none =>
    rw [e] at q1
    cases q1
  | some s =>
    rw [e] at q1 q2
    cases q1
    cases q2
    exact Rp.sc (.int _)
theorem Rp.its {K : PySem.W.Frag} {b : Addr} {H : Hp} {n : Nat} {d : D} {v : V} (h : Rp K b H n d v) (e : isT d = true) : ∃ (m : Nat) (p : Addr) (ys : List V), v = .ref p ∧ SqT K H p ys ∧ RpA K b H m (items d) ys ∧ ys.length ≤ 900 := by
  rw [isT_tup e] at h
  obtain ⟨m, a, vs, _, rfl, h3, h4, h5⟩ := h.of_seq
  unfold SqB at h3
  rw [if_pos rfl] at h3
  exact ⟨m, a, vs, rfl, h3, h4, h5⟩
theorem RpA.get {K : PySem.W.Frag} {b : Addr} {H : Hp} {n i : Nat} {ds : List D} {vs : List V} {x : V} (h : RpA K b H n ds vs) (hx : vs[i]? = some x) : ∃ d, ds[i]? = some d ∧ Rp K b H n d x := by
  obtain ⟨l, _⟩ := List.getElem?_eq_some_iff.mp hx
  have hd : ds[i]? = some (ds[i]'(by rw [← h.1]; exact l)) := List.getElem?_eq_getElem _
  exact ⟨_, hd, h.2 i _ _ hd hx⟩
theorem map_range_getD {α β : Type} (l : List α) (f : α → β) (z : α) : l.map f = (List.range l.length).map fun i => f (l.getD i z) := by
  refine List.ext_getElem? fun i => ?_
  rw [List.getElem?_map, List.getElem?_map]
  by_cases c : i < l.length
  · rw [List.getElem?_range c, List.getElem?_eq_getElem c]
    show some (f l[i]) = some (f (l.getD i z))
    rw [List.getD_eq_getElem?_getD, List.getElem?_eq_getElem c]
    rfl
  · rw [List.getElem?_eq_none (by omega), List.getElem?_eq_none (by rw [List.length_range]; omega)]
    rfl
/-! ### is_word, is_ring -/
def wordD (g : Int) (d : D) : Bool := isT d && (items d).all (wh 0 g)
def ringD (g : Int) (d : D) : Bool := wordD g d && decide (0 < (items d).length)
section
variable {P : Program} {w : World} {K : PySem.W.Frag} {mg : Str → Option Value} {base : Heap}
def grt (n : Int) : Int := (if 64 < n then 64 else n) - 1
def spWord (K : PySem.W.Frag) : Sp := fun vs H Q _ => ∃ (b : Addr) (m : Nat) (d : D) (v : V) (n : Int), vs = [v, .int n] ∧ Rp K b H m d v ∧ ∀ H', Same H H' → Q (.bl (wordD (grt n) d)) H'
theorem sc_word : FnScope ["value", "signs", "greatest", "sign"] ["value", "signs"] (defScope (top 21)) := ⟨rfl, rfl, rfl, by decide +kernel, rfl, by decide +kernel, by decide +kernel⟩
theorem ok_word {f : Addr} {fd : FuncData} {t_ALL_SIGNS : Tok} (F : FnP K "is_word" (top 21) f fd) (m_isinstance : mg "isinstance" = none) (m_tuple : mg "tuple" = none) (m_min : mg "min" = none) (m_all : mg "all" = none) (m_ALL_SIGNS : mg "ALL_SIGNS" = some (.int 64 t_ALL_SIGNS)) (c_is_number : Cal P w K mg base CX0 "is_number" 2 ["value", "least", "most"] (spNumber K)) : FnOk P w K mg base CX0 3 f fd ["value", "signs"] (spWord K) := by
  have sc := sc_word
  refine F.ok sc (fun vs H Q E h => ?_) (fun cdv A outer s H vs Q E hr h => ?_)
  · obtain ⟨b, m, d, v, n, rfl, _⟩ := h
    rfl
  · obtain ⟨b, m, d, v, n, rfl, hd, q⟩ := h
    have hr_is_number : Room 2 _ := hr
    refine ⟨_, PSs.nox (pss_cons (ps_if (pt_not (pt_val (pe_callB call_isi (by rfl) m_isinstance (by decide +kernel) (pa_cons (pv 0) (pa_cons (pe_bltn (v := .ty "tuple") rfl m_tuple boot_tuple rfl) pa_nil))))) (pss_one (ps_ret pe_bl)) pss_nil)
      (pss_cons (ps_set (i := 2) sc.nd rfl (Or.inr rfl) (pe_op op_sub (pe_callB (call_min2 rfl) (by rfl) m_min (by decide +kernel) (pa_cons (pv 1) (pa_cons (pe_glob (v := .int 64) rfl m_ALL_SIGNS ⟨_, rfl⟩) pa_nil))) pe_int))
      (pss_one (ps_ret (pe_callB (cr_all rfl) (by rfl) m_all (by decide +kernel) (pa_cons (pe_lc (own := [("sign", 3)]) (g := gName 3) rfl sc.nd (pi_tup (pv 0)) (blkOk_by (N := ["value", "signs", "greatest", "sign"]) (sc := defScope (top 21)) (by decide +kernel)) (fun _ _ _ _ _ => (pg_name (i := 3) sc.nd rfl (Or.inl rfl))) (fun _ _ _ _ _ => pts_nil) (fun _ _ _ _ _ => (pe_cal c_is_number hr_is_number rfl (pa_cons (pv 3) (pa_cons pe_int (pa_cons (pv 2) pa_nil)))))) pa_nil)))))), ?_⟩
    obtain ⟨t, ty, kt⟩ := hd.tyT
    refine ⟨_, rfl, _, _, _, _, _, rfl, .ty _, ty, kt, _, rfl, ?_⟩
    by_cases c : isT d = true
    case neg =>
      have c' := Bool.eq_false_iff.mpr c
      rw [c']
      refine iteT ?_
      have z := q _ (Same.refl H)
      unfold wordD at z
      rw [c'] at z
      exact z
    rw [c]
    refine iteF ?_
    obtain ⟨k, p, ys, rfl, hp, hys, l9⟩ := hd.its c
    refine ⟨_, rfl, _, _, rfl, _, _, rfl, rfl, ?_⟩
    refine ⟨_, rfl, p, rfl, ⟨_, hp⟩, fun D1 hD => ?_⟩
    refine lc_all walk_tup (fun i => .bl (wh 0 (grt n) ((items d).getD i (.sc .non)))) (by omega) hD (fun H' kp => sqT_at hp fun o e => kp _ _ (ne_of_none e hD) e) ?_ ?_
    · rintro i x H' H'' Kc Z hi kp ⟨rfl, hx⟩ kk
      obtain ⟨e, he, hr1⟩ := hys.get hx
      have sm := keep_same hD kp
      refine ⟨rfl, yes_of (iteT ?_)⟩
      refine ⟨_, rfl, _, rfl, num_D (E := E0) (hr1.same sm) ?_⟩
      have := kk _ (Same.refl _)
      rw [List.getD_eq_getElem?_getD, he] at this
      exact this
    · rintro H' kp hm
      refine ⟨D1, (List.range ys.length).map fun i => wh 0 (grt n) ((items d).getD i (.sc .non)), rfl, SqL.of (by rw [hm, List.map_map]; rfl), ?_⟩
      have e : ((List.range ys.length).map fun i => wh 0 (grt n) ((items d).getD i (.sc .non))).all id = (items d).all (wh 0 (grt n)) := by
        rw [hys.1, ← map_range_getD (items d) (wh 0 (grt n)) (.sc .non), List.all_map]
        rfl
      rw [e]
      have z := q _ (keep_same hD kp)
      unfold wordD at z
      rw [c, Bool.true_and] at z
      exact z
theorem grt64 : grt 64 = 63 := by decide
end
end K01
set_option Elab.async false
set_option linter.all false
set_option maxRecDepth 100000
set_option maxHeartbeats 4000000
/-! a for loop whose body hands out items -/
namespace L2
open PySem PySem.Spec PyProof.Rows
section
variable {prog : Program} {w : World} {A : Around} {R : GenEnd} {Y : Protocol} {n : Nat} {s₀ : Shared} {fs : List Frame} {s : Shared} {env : Env}
theorem seg_forLoop {tg : Expr} {it : Value} {body : List Stmt}
    (h : wpAny (model prog w) (A.over (.forLoop tg it body [] env) fs) (pyNext it) (fun r s1 => match r with
      | none => Seg (model prog w) A R Y n s₀ (.block [] env) (.pure (.done .next)) fs s1
      | some v => wpAny (model prog w) (A.over (.forLoop tg it body [] env) fs) (letOwnedTupleGo tg it v) (fun _ s2 => wpAny (model prog w) (A.over (.forLoop tg it body [] env) fs) (assign tg env v) (fun _ s3 =>
          Seg (model prog w) A R Y n s₀ (.forLoop tg it body [] env) ((execs body env).wrap (fun f => match f with
            | .next | .cont => .pure (.again (.forLoop tg it body [] env))
            | .brk => .pure (.done .next)
            | .ret v => .pure (.done (.ret v))) (fun e => (do noteFrame e env; theTreesLotGoes e : Sem Unit).wrap (fun _ => .raise e) .raise id id) id id) fs s3)
          (fun x s' => Seg (model prog w) A R Y n s₀ (.forLoop tg it body [] env) ((do noteFrame x env; theTreesLotGoes x : Sem Unit).wrap (fun _ => .raise x) .raise id id) fs s') s2)
          (fun x s' => Seg (model prog w) A R Y n s₀ (.forLoop tg it body [] env) ((do noteFrame x env; theTreesLotGoes x : Sem Unit).wrap (fun _ => .raise x) .raise id id) fs s') s1)
      (fun x s' => Seg (model prog w) A R Y n s₀ (.forLoop tg it body [] env) ((do noteFrame x env; theTreesLotGoes x : Sem Unit).wrap (fun _ => .raise x) .raise id id) fs s') s) :
    Seg (model prog w) A R Y n s₀ (.forLoop tg it body [] env) ((model prog w).den (.forLoop tg it body [] env)) fs s := by
  show Seg _ A R Y n s₀ _ ((forTurn tg it body [] env).onRaise (fun x => do noteFrame x env; theTreesLotGoes x)) fs s
  have fix : ∀ (x : Value) (s' : Shared), Seg (model prog w) A R Y n s₀ (.forLoop tg it body [] env) ((do noteFrame x env; theTreesLotGoes x : Sem Unit).wrap (fun _ => .raise x) .raise id id) fs s' → Seg (model prog w) A R Y n s₀ (.forLoop tg it body [] env) ((do noteFrame x env; theTreesLotGoes x : Sem Unit).bind fun _ => .raise x) fs s' := fun x s' hx => by
    rw [Sem.bind_eq_wrap]
    exact hx
  unfold forTurn
  rw [Sem.onRaise_eq_wrap]
  refine seg_bind_wrap (wpAny_standAt ?_)
  refine seg_bind_wrap (wpAny_onRaise (wpAny_mono h (fun r s1 h1 => ?_) fun x s' hx => wpAny_standAt (fix x s' hx)))
  cases r with
  | none => exact seg_again rfl h1
  | some v =>
    dsimp only at h1 ⊢
    refine seg_bind_wrap (wpAny_mono h1 (fun _ s2 h2 => ?_) fun x s' hx => fix x s' hx)
    refine seg_bind_wrap (wpAny_mono h2 (fun _ s3 h3 => ?_) fun x s' hx => fix x s' hx)
    rw [Sem.bind_eq_wrap', Sem.wrap_wrap]
    rw [Sem.wrap_congr (execs body env) _ _ (K' := fun f => match f with
            | .next | .cont => .pure (.again (.forLoop tg it body [] env))
            | .brk => .pure (.done .next)
            | .ret v => .pure (.done (.ret v))) (H' := (fun e => (do noteFrame e env; theTreesLotGoes e : Sem Unit).wrap (fun _ => .raise e) .raise id id))
        (fun f => by cases f <;> rfl)
        (fun e => by first | exact Sem.bind_eq_wrap _ _ | (show (do noteFrame e env; theTreesLotGoes e : Sem Unit).bind (fun _ => .raise e) = _; rw [Sem.bind_eq_wrap]))]
    exact h3
end
section
variable {X : Cx}
def tGFor (wi : TI) (g : TG) (tb : TGn) : TGn := fun D ys σ H => wi σ H fun J H1 => ∃ W : Nat → Nat → List V → St → Hp → Prop, (∃ m, W 0 m ys σ H1) ∧ ∀ i m ys σ H, W i m ys σ H →
  (J.stop i H ∧ D.nx ys σ H) ∨ (J.go i H ∧ ∃ N : List V → St → Hp → Prop, (∀ ys' σ' H', N ys' σ' H' → ∃ m', m' < m ∧ W (i + 1) m' ys' σ' H') ∧ ∀ x H', J.yld i H x H' → g x σ H' fun σ2 H2 => tb { D with nx := N, ct := N, bk := D.nx } ys σ2 H2)
theorem gs_for {tg iter : Expr} {body : List Stmt} {wi : TI} {g : TG} {tb : TGn} {pos : Pos} (hp : PassesOwn (model X.prog X.w) X.A X.env X.xe) (hc : X.calm = true) (hi : PI X tg iter wi) (hg : PG X tg g) (hb : GSs X body tb)
    (hs : ∀ x, foldedSetIterable iter X.env x = pure x := by intro _; rfl) : GS X (.For tg iter body [] pos) (tGFor wi g tb) := by
  refine ⟨fun A S ip R n ys s₀ c fs K J gd lv s σ H D gc hn k hI ht => ?_⟩
  obtain ⟨acc, cc, r, I⟩ := hI
  show Seg _ A R _ n s₀ c ((standAt pos >>= fun _ => eval iter X.env >>= fun v => foldedSetIterable iter X.env v >>= fun x => standAt iter.pos >>= fun _ => holding [x] (pyIter x) >>= fun it => runOwn (.forLoop tg it body [] X.env) X.env).wrap K J gd lv) fs s
  refine seg_bind_wrap (wpAny_standAt ?_)
  refine seg_bind_wrap ?_
  rw [gc.over]
  refine wpAny_mono (hi.run _ s σ H _ I ht) (fun v s1 h1 => ?_) fun x s' hx => k.exc n s₀ x s' hx
  rw [hs v]
  refine seg_bind_wrap (wpAny_pure ?_)
  refine seg_bind_wrap (wpAny_standAt ?_)
  refine seg_bind_wrap (wpAny_holding ?_)
  rw [gc.over]
  refine wpAny_mono h1 (fun itv s2 h2 => ?_) fun x s' hx => k.exc n s₀ x s' hx
  obtain ⟨it, fp, tn, Jt, H2, e, I2, T, st2, f2, W, ⟨m0, w0⟩, turn⟩ := h2
  subst e
  have stat : ∀ {H' : Hp} {acc' : Array Value} {cc' : Nat}, (∀ b ∈ fp, H' b = none) → ∀ b ∈ fp, FpOk X ((S, lstObj acc' cc') :: ip) H' b := fun {H' acc' cc'} hn b hb => by
    obtain ⟨_, a2, a3, a4, a5, a6⟩ := f2 b hb
    refine ⟨hn b hb, a2, a3, a4, a5, fun p hp => ?_⟩
    rcases List.mem_append.mp hp with z | z
    · exact a6 p (List.mem_append_left _ z)
    · rcases List.mem_cons.mp z with z | z
      · rw [z]
        exact a6 (S, lstObj acc cc) (List.mem_append_right _ List.mem_cons_self)
      · exact a6 p (List.mem_append_right _ (List.mem_cons_of_mem _ z))
  have hSfp : ∀ b ∈ fp, b ≠ S := fun b hb z => by
    obtain ⟨_, _, _, _, _, a6⟩ := f2 b hb
    exact a6 (S, lstObj acc cc) (List.mem_append_right _ List.mem_cons_self) z.symm
  refine seg_call fun p => ?_
  have gl := fun (kk : Result → Sem PySem.Fin) => gc_loop (k := kk) (c' := .forLoop tg (.ref it) body [] X.env) (l := lv []) (kp := []) (p := p) gc rfl rfl
  have loop : ∀ (m i n : Nat) (ys : List V) (s₀ s : Shared) (σ : St) (H : Hp) (acc : Array Value) (cc : Nat), n + ys.length = sizeLine → W i m ys σ H → Vals ys acc.toList → Inv X ((S, lstObj acc cc) :: ip) σ H s → tn i s.heap → (∀ b ∈ fp, H b = none) →
      Seg (model X.prog X.w) A R (GY X S) n s₀ (.forLoop tg (.ref it) body [] X.env) ((model X.prog X.w).den (.forLoop tg (.ref it) body [] X.env))
        (.ret (fun r => ((match r with | .ok f => (.pure f : Sem Flow) | .error e => .raise e).onRaise (cameBack X.env)).wrap K J gd lv) none (gd false) (lv []) c p [] :: fs) s := by
    intro m
    induction m using Nat.strongRecOn with
    | ind m ih =>
      intro i n ys s₀ s σ H acc cc hn w r I st fr
      have ee : ∀ (n : Nat) (s₀ : Shared) (x : Value) (s' : Shared), X.xe x s' → Seg (model X.prog X.w) A R (GY X S) n s₀ (.forLoop tg (.ref it) body [] X.env)
          ((do noteFrame x X.env; theTreesLotGoes x : Sem Unit).wrap (fun _ => .raise x) .raise id id)
          (.ret (fun r => ((match r with | .ok f => (.pure f : Sem Flow) | .error e => .raise e).onRaise (cameBack X.env)).wrap K J gd lv) none (gd false) (lv []) c p [] :: fs) s' := fun n s₀ x s' hx => by
        refine seg_wrap ?_
        rw [(gl _).over]
        refine wpAny_bind (wpAny_mono (hp x s' hx) (fun _ s'' hcb => wpAny_theTreesLotGoes ?_) fun y s'' hcb => ?_)
        · exact seg_leaf (.error x) (seg_cameBack gc k hcb)
        · exact seg_leaf (.error y) (seg_cameBack gc k hcb)
      refine seg_forLoop ?_
      rw [(gl _).over]
      rcases turn i m ys σ H w with ⟨stop, qn⟩ | ⟨go, N, hN, step⟩
      · refine wpAny_mono (T.done X rfl rfl rfl hc i _ s σ H X.xe I (stat fr) st stop) (fun r2 s4 ⟨hr, I4⟩ => ?_) fun x s' hx => ee n s₀ x s' hx
        subst hr
        exact seg_leaf (.ok .next) (k.ok n ys s₀ s4 .next hn ⟨σ, H, ⟨acc, cc, r, I4⟩, qn⟩)
      · refine wpAny_mono (T.item X rfl rfl rfl hc i _ s σ H X.xe I (stat fr) st go) (fun r2 s4 ⟨u, hr, h4⟩ => ?_) fun x s' hx => ee n s₀ x s' hx
        subst hr
        refine wpAny_mono h4 (fun _ s5 ⟨x, H5, I5, r5, y5, st5, fr5⟩ => ?_) fun x s' hx => ee n s₀ x s' hx
        have I5' := I5.pinned (stat fr5) (T.obj _ _ st5)
        refine wpAny_mono (hg.run _ s5 σ H5 x u _ I5' r5 (step x H5 y5)) (fun _ s6 ⟨σ6, H6, I6, q6⟩ => ?_) fun x s' hx => ee n s₀ x s' hx
        have gcb : GC X S (ip ++ pinsAt fp s5.heap) A (.forLoop tg (.ref it) body [] X.env) (.ret (fun r => ((match r with | .ok f => (.pure f : Sem Flow) | .error e => .raise e).onRaise (cameBack X.env)).wrap K J gd lv) none (gd false) (lv []) c p [] :: fs) id :=
          { gl _ with ip := fun q hq => (List.mem_append.mp hq).elim (fun z => gc.ip q z) fun z => hSfp q.1 (of_pinsAt z).1 }
        have again : ∀ {n' : Nat} {ys' : List V} {s₀' s7 : Shared} {σ7 : St} {H7 : Hp}, n' + ys'.length = sizeLine → GI X S (ip ++ pinsAt fp s5.heap) ys' σ7 H7 s7 → N ys' σ7 H7 → Seg (model X.prog X.w) A R (GY X S) n' s₀' (.forLoop tg (.ref it) body [] X.env) ((model X.prog X.w).den (.forLoop tg (.ref it) body [] X.env))
            (.ret (fun r => ((match r with | .ok f => (.pure f : Sem Flow) | .error e => .raise e).onRaise (cameBack X.env)).wrap K J gd lv) none (gd false) (lv []) c p [] :: fs) s7 := fun {n' ys' s₀' s7 σ7 H7} hn' I7 n7 => by
          obtain ⟨m', hm, w7⟩ := hN ys' σ7 H7 n7
          obtain ⟨acc7, cc7, r7, I7⟩ := I7
          have I7 : Inv X (((S, lstObj acc7 cc7) :: ip) ++ pinsAt fp s5.heap) σ7 H7 s7 := I7
          refine ih m' hm (i + 1) n' ys' s₀' s7 σ7 H7 acc7 cc7 hn' w7 r7 I7.unpinned (T.keep _ _ _ st5 fun b hb o e => (I7.pin (b, o) (List.mem_append_right _ (List.mem_append_right _ (mem_pinsAt hb e)))).1) fun b hb => ?_
          obtain ⟨o, e, d⟩ := T.obj _ _ st5 b hb
          exact (I7.pin (b, o) (List.mem_append_right _ (List.mem_append_right _ (mem_pinsAt hb e)))).2.1
        have unp : ∀ {ys' : List V} {s7 : Shared} {σ7 : St} {H7 : Hp}, GI X S (ip ++ pinsAt fp s5.heap) ys' σ7 H7 s7 → GI X S ip ys' σ7 H7 s7 := fun {ys' s7 σ7 H7} I7 => by
          obtain ⟨acc7, cc7, r7, I7⟩ := I7
          have I7 : Inv X (((S, lstObj acc7 cc7) :: ip) ++ pinsAt fp s5.heap) σ7 H7 s7 := I7
          exact ⟨acc7, cc7, r7, I7.unpinned⟩
        refine hb.run A S (ip ++ pinsAt fp s5.heap) R n ys s₀ _ _ _ _ id id s6 σ6 H6 { D with nx := N, ct := N, bk := D.nx } gcb hn ⟨fun n' ys' s₀' s3 f hn' hs => ?_, fun n' s₀' x s3 hx => ee n' s₀' x s3 hx⟩ ⟨acc, cc, r, I6⟩ q6
        cases f with
        | next =>
          obtain ⟨σ3, H3, I3, n3⟩ := hs
          exact seg_again rfl (again hn' I3 n3)
        | cont =>
          obtain ⟨σ3, H3, I3, n3⟩ := hs
          exact seg_again rfl (again hn' I3 n3)
        | brk =>
          obtain ⟨σ3, H3, I3, n3⟩ := hs
          exact seg_leaf (.ok .next) (k.ok n' ys' s₀' s3 .next hn' ⟨σ3, H3, unp I3, n3⟩)
        | ret v =>
          obtain ⟨x3, σ3, H3, I3, r3, n3⟩ := hs
          exact seg_leaf (.ok (.ret v)) (k.ok n' ys' s₀' s3 (.ret v) hn' ⟨x3, σ3, H3, unp I3, r3, n3⟩)
  exact loop m0 0 n ys s₀ s2 σ H2 acc cc hn w0 r I2 st2 fun b hb => (f2 b hb).1
/-- over a range -/
theorem gfor_range {lo : Int} {n : Nat} {g : TG} {tb : TGn} {D : GEnds} {ys : List V} {σ : St} {H : Hp} (Pv : Nat → List V → St → Hp → Prop) (h0 : Pv 0 ys σ H)
    (hs : ∀ i ys σ H, i < n → Pv i ys σ H → g (.int (lo + (i : Int))) σ H fun σ2 H2 => tb { D with nx := Pv (i + 1), ct := Pv (i + 1), bk := D.nx } ys σ2 H2) (hd : ∀ ys σ H, Pv n ys σ H → D.nx ys σ H) :
    ∃ W : Nat → Nat → List V → St → Hp → Prop, (∃ m, W 0 m ys σ H) ∧ ∀ i m ys σ H, W i m ys σ H →
      ((Itr lo n).stop i H ∧ D.nx ys σ H) ∨ ((Itr lo n).go i H ∧ ∃ N : List V → St → Hp → Prop, (∀ ys' σ' H', N ys' σ' H' → ∃ m', m' < m ∧ W (i + 1) m' ys' σ' H') ∧ ∀ x H', (Itr lo n).yld i H x H' → g x σ H' fun σ2 H2 => tb { D with nx := N, ct := N, bk := D.nx } ys σ2 H2) := by
  refine ⟨fun i m ys σ H => m = n - i ∧ i ≤ n ∧ Pv i ys σ H, ⟨n, by simp, Nat.zero_le _, h0⟩, ?_⟩
  rintro i m ys σ H ⟨rfl, hi, p⟩
  by_cases hlt : i < n
  · refine .inr ⟨hlt, Pv (i + 1), fun ys' σ' H' p' => ⟨n - (i + 1), by omega, rfl, hlt, p'⟩, fun x H' y => ?_⟩
    obtain ⟨rfl, rfl⟩ := y
    exact hs i ys σ _ hlt p
  · have e : i = n := by omega
    subst e
    exact .inl ⟨Nat.le_refl _, hd ys σ H p⟩
end
end L2
set_option Elab.async false
set_option linter.all false
set_option maxRecDepth 100000
set_option maxHeartbeats 4000000
namespace K01
open PySem PySem.Spec PyProof.Rows L2
/-! ### the words by their places -/
theorem range_mul (m : Nat) : ∀ a : Nat, List.range (a * m) = (List.range a).flatMap fun j => (List.range m).map fun s => j * m + s
  | 0 => by simp
  | a + 1 => by
    rw [List.range_succ, List.flatMap_append, ← range_mul m a, Nat.succ_mul, List.range_add]
    simp
theorem wordsL_at (m : Nat) (hm : 1 ≤ m) : ∀ n : Nat, wordsL m n = (List.range (m ^ n)).map fun i : Nat => (lastOf (m : Int) n (i : Int)).reverse
  | 0 => rfl
  | n + 1 => by
    show ((wordsL m n).flatMap fun u => (List.range m).map fun s : Nat => u ++ [(s : Int)]) = _
    rw [wordsL_at m hm n, Nat.pow_succ, range_mul, List.map_flatMap, List.flatMap_map]
    refine congrArg (fun f => List.flatMap f (List.range (m ^ n))) (funext fun j => ?_)
    rw [List.map_map]
    refine List.map_congr_left fun s hs => ?_
    have hs := List.mem_range.mp hs
    show (lastOf (m : Int) n (j : Int)).reverse ++ [(s : Int)] = (((j * m + s : Nat) : Int) % (m : Int) :: lastOf (m : Int) n (((j * m + s : Nat) : Int) / (m : Int))).reverse
    have e1 : ((j * m + s : Nat) : Int) % (m : Int) = (s : Int) := by
      rw [← Int.natCast_emod, Nat.mul_comm, Nat.mul_add_mod, Nat.mod_eq_of_lt hs]
    have e2 : ((j * m + s : Nat) : Int) / (m : Int) = (j : Int) := by
      rw [← Int.natCast_ediv, Nat.mul_comm, Nat.mul_add_div (by omega), Nat.div_eq_of_lt hs, Nat.add_zero]
    rw [e1, e2, List.reverse_cons]
/-- TooMany of the words, raised -/
def Tm (C : Addr) (c : Int) (H : Hp) (E : XK) : Prop := ∀ d H2, H d = none → Same H H2 → H2 d = some (.xd (fsOf "TooMany" ["what", "count"] [.str "words", .int c])) → E (.ref C) (some d) H2
theorem Tm.same {C : Addr} {c : Int} {H H2 : Hp} {E : XK} (h : Tm C c H E) (s : Same H H2) : Tm C c H2 E := fun d H3 hd s2 h3 => h d H3 (s.free hd) (s.trans s2) h3
theorem Bad.same {H H2 : Hp} {lo hi : Int} {x : V} (h : Bad H lo hi x) (s : Same H H2) : Bad H2 lo hi x := h.elim .inl fun od => .inr (od.same s)
/-- the promise of all_words -/
def spAW (CI CT : Addr) : SpG := fun vs H Q E => ∃ (x y : V) (m : Int), vs = [x, y, .int m] ∧
  ((Bad H 0 99 x ∧ Inv1 CI x H E) ∨
   ∃ n : Nat, x = .int (n : Int) ∧ n ≤ 99 ∧ ((Bad H 1 64 y ∧ Inv1 CI y H E) ∨
    ∃ s : Nat, y = .int (s : Int) ∧ 1 ≤ s ∧ s ≤ 64 ∧ ((m < ((s ^ n : Nat) : Int) ∧ Tm CT ((s ^ n : Nat) : Int) H E) ∨
     (((s ^ n : Nat) : Int) ≤ m ∧ s ^ n ≤ 1000 ∧ ∀ (ts : List Addr) H2, Same H H2 → Paired (fun (t : Addr) (u : List Int) => H2 t = some (.tup (u.map V.int))) ts (wordsL s n) → Q (ts.map V.ref) H2))))
theorem bad_number {K : PySem.W.Frag} {H : Hp} {lo hi : Int} {x : V} {Q : VK} {E : XK} (h : Bad H lo hi x) (q : Q (.bl false) H) : spNumber K [x, .int lo, .int hi] H Q E := by
  refine ⟨x, lo, hi, rfl, ?_⟩
  rcases h with ⟨i, rfl, hi⟩ | od
  · refine .inl ⟨i, rfl, ?_⟩
    rw [← Bool.decide_and, decide_eq_false hi]
    exact q
  · exact .inr ⟨od.wh, q⟩
theorem good_number {K : PySem.W.Frag} {H : Hp} {lo hi i : Int} {Q : VK} {E : XK} (h1 : lo ≤ i) (h2 : i ≤ hi) (q : Q (.bl true) H) : spNumber K [.int i, .int lo, .int hi] H Q E := by
  refine ⟨_, lo, hi, rfl, .inl ⟨i, rfl, ?_⟩⟩
  rw [decide_eq_true h1, decide_eq_true h2]
  exact q
section
variable {P : Program} {w : World} {K : PySem.W.Frag} {mg : Str → Option Value} {base : Heap}
theorem gsc_aw : GScope ["length", "signs", "most", "count", "index"] ["length", "signs", "most"] (defScope (top 25)) := ⟨rfl, rfl, rfl, by decide +kernel, rfl, by decide +kernel, by decide +kernel⟩
abbrev FnW (K : PySem.W.Frag) (f : Addr) (fd : FuncData) : Prop := FunD K "all_words" "all_words" (defArgs (top 25)) (defBody (top 25)) (defScope (top 25)) [] [("most", .int 4096)] f fd
theorem ok_aw {f : Addr} {fd : FuncData} {CI CT : Addr} {b1 b2 : List Value} {n1 n2 : String} {t_LONGEST t_ALL_SIGNS : Tok} (F : FnW K f fd) (c_InvalidNumber : Ecl P w K mg base "InvalidNumber" CI b1 n1 ["value"]) (c_TooMany : Ecl P w K mg base "TooMany" CT b2 n2 ["what", "count"]) (m_LONGEST : mg "LONGEST" = some (.int 99 t_LONGEST)) (m_ALL_SIGNS : mg "ALL_SIGNS" = some (.int 64 t_ALL_SIGNS)) (m_range : mg "range" = none)
    (c_is_number : Cal P w K mg base CX0 "is_number" 2 ["value", "least", "most"] (spNumber K)) (c_power_of : Cal P w K mg base CX0 "power_of" 1 ["base", "exponent"] spPow) (c_indexed_word : Cal P w K mg base CX0 "indexed_word" 1 ["index", "length", "signs"] spIxWord) : GFn P w K mg base 3 f fd ["length", "signs", "most"] (spAW CI CT) := by
  have sc := gsc_aw
  obtain ⟨oc, od, dV, kV, doc, pm, an, cdv, ct, osl, rfl, lk, hcd, _, _⟩ := F.ex
  refine gfn_of lk hcd sc (fun vs H Q E h => ?_) (fun A outer s H vs Q E pn hr h => ?_)
  · obtain ⟨x, y, m, rfl, _⟩ := h
    rfl
  · obtain ⟨x, y, m, rfl, h⟩ := h
    have hr_is_number : Room 2 _ := hr
    have hr_ecl : Room 2 _ := hr
    have hr_power_of : Room 1 _ := hr.mono (by decide)
    have hr_indexed_word : Room 1 _ := hr.mono (by decide)
    refine ⟨_, (gss_cons (gs_ps (ps_if (pt_not (pt_val (pe_cal c_is_number hr_is_number rfl (pa_cons (pv 0) (pa_cons pe_int (pa_cons (pe_glob (v := .int 99) rfl m_LONGEST ⟨_, rfl⟩) pa_nil)))))) (pss_one (ps_raise rfl takes_gcx (pmk_ecl c_InvalidNumber (by decide) hr_ecl rfl (pa_cons (pv 0) pa_nil)))) pss_nil))
      (gss_cons (gs_ps (ps_if (pt_not (pt_val (pe_cal c_is_number hr_is_number rfl (pa_cons (pv 1) (pa_cons pe_int (pa_cons (pe_glob (v := .int 64) rfl m_ALL_SIGNS ⟨_, rfl⟩) pa_nil)))))) (pss_one (ps_raise rfl takes_gcx (pmk_ecl c_InvalidNumber (by decide) hr_ecl rfl (pa_cons (pv 1) pa_nil)))) pss_nil))
      (gss_cons (gs_ps (ps_set (i := 3) sc.nd rfl (Or.inl rfl) (pe_cal c_power_of hr_power_of rfl (pa_cons (pv 1) (pa_cons (pv 0) pa_nil)))))
      (gss_cons (gs_ps (ps_if (pt_cmpR op_gt (pv 3) (pv 2) (nomark _)) (pss_one (ps_raise rfl takes_gcx (pmk_ecl c_TooMany (by decide) hr_ecl rfl (pa_cons pe_str (pa_cons (pv 3) pa_nil))))) pss_nil))
      (gss_cons (gs_for owns_gcx rfl (pi_range1 rfl m_range (pa_cons (pv 3) pa_nil)) (pg_name (i := 4) sc.nd rfl (Or.inl rfl)) (gss_cons (gs_yield (pe_cal c_indexed_word hr_indexed_word rfl (pa_cons (pv 4) (pa_cons (pv 0) (pa_cons (pv 1) pa_nil)))))
      gss_nil))
      gss_nil))))), ?_⟩
    have no : ∀ {lo hi i : Int}, ¬ (lo ≤ i ∧ i ≤ hi) → (decide (lo ≤ i) && decide (i ≤ hi)) = false := fun h => by rw [← Bool.decide_and, decide_eq_false h]
    have yes : ∀ {lo hi i : Int}, lo ≤ i → i ≤ hi → (decide (lo ≤ i) && decide (i ≤ hi)) = true := fun h1 h2 => by rw [decide_eq_true h1, decide_eq_true h2]; rfl
    rcases h with ⟨⟨i, rfl, hi⟩ | od, ke⟩ | ⟨n, rfl, n9, h⟩
    · refine ⟨_, rfl, _, _, _, rfl, .inl ⟨_, rfl, ?_⟩⟩
      rw [no hi]
      exact ⟨_, rfl, iteT ⟨_, rfl, rfl, ke⟩⟩
    · exact ⟨_, rfl, _, _, _, rfl, .inr ⟨od.wh, _, rfl, iteT ⟨_, rfl, rfl, ke⟩⟩⟩
    refine ⟨_, rfl, _, _, _, rfl, .inl ⟨_, rfl, ?_⟩⟩
    rw [yes (by omega) (by omega)]
    refine ⟨_, rfl, iteF ?_⟩
    rcases h with ⟨⟨i, rfl, hi⟩ | od, ke⟩ | ⟨s2, rfl, s1, s64, h⟩
    · refine ⟨_, rfl, _, _, _, rfl, .inl ⟨_, rfl, ?_⟩⟩
      rw [no hi]
      exact ⟨_, rfl, iteT ⟨_, rfl, rfl, ke⟩⟩
    · exact ⟨_, rfl, _, _, _, rfl, .inr ⟨od.wh, _, rfl, iteT ⟨_, rfl, rfl, ke⟩⟩⟩
    refine ⟨_, rfl, _, _, _, rfl, .inl ⟨_, rfl, ?_⟩⟩
    rw [yes (by omega) (by omega)]
    refine ⟨_, rfl, iteF ?_⟩
    refine ⟨_, rfl, _, rfl, _, n, 7, rfl, by show ((s2 : Int)).natAbs < 2 ^ 7; omega, by decide, by omega, ?_⟩
    rw [← Int.natCast_pow]
    refine ⟨_, rfl, _, rfl, _, _, rfl, rfl, _, rfl, ?_⟩
    rcases h with ⟨hm, ke⟩ | ⟨hm, h1000, k⟩
    · exact iteT_of (decide_eq_true hm) ⟨_, rfl, rfl, ke⟩
    refine iteF_of (decide_eq_false (by omega)) ?_
    refine ⟨_, rfl, _, rfl, by omega, by omega, ?_⟩
    rw [Int.toNat_natCast]
    refine gfor_range (fun i ys σ H' => ∃ (v4 : Option V) (ts : List Addr), σ = [some (.int (n : Int)), some (.int (s2 : Int)), some (.int m), some (.int ((s2 ^ n : Nat) : Int)), v4] ∧ ys = ts.map V.ref ∧ Same H H' ∧ Paired (fun (t : Addr) (u : List Int) => H' t = some (.tup (u.map V.int))) ts ((wordsL s2 n).take i)) ⟨none, [], rfl, rfl, Same.refl _, .nil⟩ ?_ ?_
    · rintro i ys σ H' hi ⟨v4, ts, rfl, rfl, sm, hp⟩
      have hlen : (wordsL s2 n).length = s2 ^ n := by rw [wordsL_at s2 s1 n, List.length_map, List.length_range]
      have ei : (wordsL s2 n)[i]? = some (lastOf (s2 : Int) n (i : Int)).reverse := by rw [wordsL_at s2 s1 n, List.getElem?_map, List.getElem?_range hi]; rfl
      have tl : ts.length = i := by rw [Paired.length hp, List.length_take, hlen]; omega
      refine ⟨small1000 (by rw [List.length_map]; omega), ?_⟩
      refine ⟨_, rfl, _, rfl, _, rfl, _, n, _, rfl, by omega, by omega, by omega, fun p H2 hp2 s2' h2 => ?_⟩
      refine ⟨_, ts ++ [p], rfl, by rw [List.map_append]; rfl, sm.trans s2', ?_⟩
      rw [List.take_succ, ei]
      refine paired_app (L2.Paired.mapP hp fun t u z => s2' _ _ z) (.cons ?_ .nil)
      rw [h2, show (0 : Int) + (i : Int) = (i : Int) by omega]
    · rintro ys σ H' ⟨v4, ts, rfl, rfl, sm, hp⟩
      refine k ts H' sm ?_
      rw [List.take_of_length_le (by rw [wordsL_at s2 s1 n, List.length_map, List.length_range]; exact Nat.le_refl _)] at hp
      exact hp
end
end K01
set_option Elab.async false
set_option linter.all false
set_option maxRecDepth 100000
set_option maxHeartbeats 4000000
/-! decimal texts of any size, pieced together -/
namespace NumT
open PySem PySem.Spec PyProof.Rows PySem.Builtin PySem.Builtin.Str PyProof
abbrev dig (n : Nat) : List Char := Nat.toDigits 10 n
def pad : Nat → Nat → List Char
  | 0, _ => []
  | k + 1, q => pad k (q / 10) ++ [Nat.digitChar (q % 10)]
theorem dig_last {n d : Nat} (hn : 0 < n) (hd : d < 10) : dig (10 * n + d) = dig n ++ [Nat.digitChar d] := by
  rw [show dig (10 * n + d) = dig n ++ dig d from (Nat.toDigits_append_toDigits (by decide) hn hd).symm]
  rw [show dig d = [Nat.digitChar d] from Nat.toDigits_of_lt_base hd]
theorem dig_pad : ∀ (k : Nat) {r q : Nat}, 0 < r → q < 10 ^ k → dig (r * 10 ^ k + q) = dig r ++ pad k q
  | 0, r, q, hr, hq => by
    have : q = 0 := by simpa using hq
    subst this
    simp [pad]
  | k + 1, r, q, hr, hq => by
    have h1 : q / 10 < 10 ^ k := by
      rw [Nat.pow_succ] at hq
      omega
    have h0 : 0 < r * 10 ^ k := Nat.mul_pos hr (Nat.pow_pos (by decide))
    have e : r * 10 ^ (k + 1) + q = 10 * (r * 10 ^ k + q / 10) + q % 10 := by
      rw [Nat.pow_succ, ← Nat.mul_assoc]
      omega
    rw [e, dig_last (by omega) (Nat.mod_lt _ (by decide)), dig_pad k hr h1, List.append_assoc]
    rfl
theorem pad_zfill : ∀ (k : Nat) {q : Nat}, 1 ≤ k → q < 10 ^ k → pad k q = List.replicate (k - (dig q).length) '0' ++ dig q
  | 0, q, h, _ => absurd h (by decide)
  | 1, q, _, hq => by
    have hq : q < 10 := by simpa using hq
    rw [show dig q = [Nat.digitChar q] from Nat.toDigits_of_lt_base hq]
    show [] ++ [Nat.digitChar (q % 10)] = _
    rw [Nat.mod_eq_of_lt hq]
    rfl
  | k + 2, q, _, hq => by
    have h1 : q / 10 < 10 ^ (k + 1) := by
      rw [Nat.pow_succ] at hq
      omega
    show pad (k + 1) (q / 10) ++ [Nat.digitChar (q % 10)] = _
    rw [pad_zfill (k + 1) (by omega) h1]
    by_cases c : q < 10
    · have e0 : q / 10 = 0 := by omega
      rw [e0, show dig 0 = ['0'] from Nat.toDigits_zero 10, show dig q = [Nat.digitChar q] from Nat.toDigits_of_lt_base c, Nat.mod_eq_of_lt c]
      show List.replicate (k + 1 - 1) '0' ++ ['0'] ++ [Nat.digitChar q] = List.replicate (k + 2 - 1) '0' ++ [Nat.digitChar q]
      rw [show k + 1 - 1 = k by omega, show k + 2 - 1 = k + 1 by omega, List.replicate_succ']
    · have e : dig q = dig (q / 10) ++ [Nat.digitChar (q % 10)] := by
        have := dig_last (n := q / 10) (d := q % 10) (by omega) (Nat.mod_lt _ (by decide))
        rw [← this]
        congr 1
        omega
      rw [e, List.length_append, ← List.append_assoc]
      show _ = List.replicate (k + 2 - ((dig (q / 10)).length + 1)) '0' ++ _ ++ _
      rw [show k + 2 - ((dig (q / 10)).length + 1) = k + 1 - (dig (q / 10)).length by omega]
/-- the text of a list of signs -/
def tx (cs : List Char) : Str := ⟨(cs.map Char.toNat).toArray⟩
theorem tx_app (a b : List Char) : tx a ++ tx b = tx (a ++ b) := by
  show (⟨(a.map Char.toNat).toArray ++ (b.map Char.toNat).toArray⟩ : Str) = _
  unfold tx
  simp
theorem text_nat (n : Nat) : ((toString (n : Int) : String) : Str) = tx (dig n) := text_ofNat n
theorem tx_len (cs : List Char) : (tx cs).length = cs.length := by
  show ((cs.map Char.toNat).toArray).size = _
  simp
theorem dig_first (n : Nat) : ∃ c cs, dig n = c :: cs ∧ c.isDigit = true := by
  cases h : dig n with
  | nil => exact absurd h Nat.toDigits_ne_nil
  | cons c cs => exact ⟨c, cs, rfl, Nat.isDigit_of_mem_toDigits (b := 10) (n := n) (by decide) (by decide) (by rw [show Nat.toDigits 10 n = c :: cs from h]; exact List.mem_cons_self)⟩
theorem dig_len {n k : Nat} (hk : 1 ≤ k) (h : n < 10 ^ k) : (dig n).length ≤ k := (Nat.length_toDigits_le_iff (by decide) (by omega)).mpr h
theorem zfilled_other {x : Str} {n more : Nat} (g : x.cps[0]? = some n) (h : 48 ≤ n) : zfilled x more = padded x more 0 48 := by
  unfold zfilled
  rw [g]
  split
  · rename_i e2
    injection e2 with e2
    omega
  · rename_i e2
    injection e2 with e2
    omega
  · rfl
theorem zfill_dig {k q : Nat} (hk : 1 ≤ k) (hq : q < 10 ^ k) : Txt.zfill (tx (dig q)) (k : Int) = tx (pad k q) := by
  have hl := dig_len hk hq
  unfold Txt.zfill
  rw [tx_len]
  by_cases c : (k : Int) ≤ ((dig q).length : Int)
  · rw [if_pos c, pad_zfill k hk hq, show k - (dig q).length = 0 by omega]
    rfl
  · rw [if_neg c]
    obtain ⟨ch, cs, e, hd⟩ := dig_first q
    have h1 : 48 ≤ ch.toNat ∧ ch.toNat ≤ 57 := by
      have := hd
      simp only [Char.isDigit, Bool.and_eq_true, decide_eq_true_eq] at this
      exact ⟨by have := this.1; exact this, by have := this.2; exact this⟩
    have g : (tx (dig q)).cps[0]? = some ch.toNat := by
      rw [e]
      rfl
    rw [zfilled_other g h1.1, pad_zfill k hk hq]
    show (⟨Array.replicate (((k : Int)).toNat - (dig q).length) 48 ++ ((dig q).map Char.toNat).toArray ++ Array.replicate 0 48⟩ : Str) = ⟨((List.replicate (k - (dig q).length) '0' ++ dig q).map Char.toNat).toArray⟩
    rw [Int.toNat_natCast, List.map_append, List.map_replicate]
    simp
theorem join_tx : ∀ (ps : List (List Char)), Txt.join ("" : Str) (ps.map tx) = tx ps.flatten := fun ps => by
  show glued ("" : Str) (ps.map tx) = _
  rw [PySem.StrLaws.glued_eq_join]
  have key : ∀ ps : List (List Char), Str.join ("" : Str) (ps.map tx) = tx ps.flatten := fun ps => by
    induction ps with
    | nil => rfl
    | cons a r ih =>
      cases r with
      | nil =>
        show tx a = tx (a ++ [])
        rw [List.append_nil]
      | cons b r =>
        show tx a ++ ("" : Str) ++ Str.join ("" : Str) ((b :: r).map tx) = _
        rw [ih]
        have : tx a ++ ("" : Str) = tx a := by
          show (⟨(tx a).cps ++ ("" : Str).cps⟩ : Str) = tx a
          rw [show ("" : Str).cps = #[] from rfl, Array.append_empty]
        rw [this, tx_app]
        rfl
  exact key ps
theorem pad_len : ∀ (k q : Nat), (pad k q).length = k
  | 0, _ => rfl
  | k + 1, q => by
    show (pad k (q / 10) ++ [Nat.digitChar (q % 10)]).length = k + 1
    rw [List.length_append, pad_len k]
    rfl
theorem len_map_tx (ps : List (List Char)) : ((ps.map tx).map fun y : Str => y.length).sum = ps.flatten.length := by
  induction ps with
  | nil => rfl
  | cons a r ih =>
    rw [List.map_cons, List.map_cons, List.sum_cons, ih, tx_len, List.flatten_cons, List.length_append]
end NumT
namespace L2
open PySem PySem.Spec PyProof.Rows
section
variable {X : Cx}
/-- str of an int of less than 4300 digits -/
theorem call_str_big {k : Nat} (nd : X.base.NoDigits) (hr : Room k X.A) : CallR X (.type "str") (fun xs H Q => ∃ i, xs = [.int i] ∧ i.natAbs < 10 ^ 4300 ∧ Q (.str (toString i)) H) := by
  intro pins s σ H xs us Q I r h
  obtain ⟨i, rfl, hz, q⟩ := h
  obtain ⟨u, rfl, t, rfl⟩ := vals1 r
  refine str_of_int_or hr.hd (nd.keeps I.bk) (fun _ => ⟨.str _, H, I.tok _, ⟨_, rfl⟩, q⟩) fun hge => absurd hz (Nat.not_lt.mpr hge)
end
end L2
set_option Elab.async false
set_option linter.all false
set_option maxRecDepth 100000
set_option maxHeartbeats 4000000
namespace K01
open PySem PySem.Spec PyProof.Rows L2 NumT
/-- the decimal text of a number -/
abbrev nt (n : Nat) : Str := tx (dig n)
theorem nt_len {n : Nat} (h : n < 2 ^ 9000) : (nt n).length ≤ 4300 := by
  rw [tx_len]
  exact dig_len (by decide) (Nat.lt_of_lt_of_le h (by decide +kernel))
section
variable {P : Program} {w : World} {K : PySem.W.Frag} {mg : Str → Option Value} {base : Heap}
/-! ### number_text -/
def spNT : Sp := fun vs H Q _ => ∃ n : Nat, vs = [.int (n : Int)] ∧ n < 2 ^ 9000 ∧ ∀ H2, Same H H2 → Q (.str (nt n)) H2
theorem sc_nt : FnScope ["number", "pieces", "rest", "piece"] ["number"] (defScope (top 10)) := ⟨rfl, rfl, rfl, by decide +kernel, rfl, by decide +kernel, by decide +kernel⟩
theorem big64 : (10 : Int) ^ (64 : Int).toNat = ((10 ^ 64 : Nat) : Int) := by decide +kernel
theorem noPy (r : Int) : Builtin.divisionGoesByPylong r ((10 : Int) ^ (64 : Int).toNat) = false := by
  unfold Builtin.divisionGoesByPylong
  refine Bool.and_eq_false_iff.mpr (.inl ?_)
  decide +kernel
theorem ok_nt {f : Addr} {fd : FuncData} (F : FnP K "number_text" (top 10) f fd) (nd : base.NoDigits) (g : mg "number_text" = some (.ref f)) (bd : Binds K fd ["number"] []) (m_str : mg "str" = none) (m_divmod : mg "divmod" = none) {t_PART_DIGITS : Tok} (m_PART_DIGITS : mg "PART_DIGITS" = some (.int 64 t_PART_DIGITS)) : FnOk P w K mg base CX0 1 f fd ["number"] spNT := by
  have c_number_text : Cal P w K mg base CX0 "number_text" 0 ["number"] (fun _ _ _ _ => False) := ⟨f, fd, ⟨fun _ _ _ _ h => h.elim, fun _ _ _ _ _ _ _ _ _ _ _ _ _ h => h.elim⟩, g, F.kp, bd⟩
  have sc := sc_nt
  refine F.ok sc (fun vs H Q E h => ?_) (fun cdv A outer s H vs Q E hr h => ?_)
  · obtain ⟨n, rfl, _⟩ := h
    rfl
  · obtain ⟨n, rfl, hn, q⟩ := h
    have hr_number_text : Room 0 _ := hr
    refine ⟨_, PSs.nox (pss_cons (ps_if (pt_cmpR op_lt (pv 0) pe_int (nomark _)) (pss_one (ps_ret (pe_joined (PJ.cons pe_str (PJ.cons (pe_fmt (pe_cal c_number_text hr_number_text rfl (pa_cons (pe_un un_neg (pv 0)) pa_nil))) PJ.nil))))) pss_nil)
      (pss_cons (ps_set (i := 1) sc.nd rfl (Or.inl rfl) (pe_lst pa_nil))
      (pss_cons (ps_set (i := 2) sc.nd rfl (Or.inl rfl) (pv 0))
      (pss_cons (ps_while PassesOwn.never (pt_cmpR op_ge (pv 2) (pe_op op_pow pe_int pe_int) (nomark _)) (pss_cons (ps_asg (pe_callB call_divmodW (by rfl) m_divmod (by decide +kernel) (pa_cons (pv 2) (pa_cons (pe_op op_pow pe_int pe_int) pa_nil))) (pg_tup rfl (pgs_cons (pg_name (i := 2) sc.nd rfl (Or.inl rfl)) (pgs_cons (pg_name (i := 3) sc.nd rfl (Or.inl rfl)) pgs_nil))))
      (pss_one (ps_expr (pe_bm PySem.F.plainAttrs_list PySem.F.slot_list_append PySem.F.type_list_append mt_append (pv 1) (pa_cons (pe_m1 PySem.F.slot_str_zfill PySem.F.type_str_zfill mt_zfill (pe_callTy (call_str_big nd hr) (by rfl) m_str (by decide +kernel) (pa_cons (pv 3) pa_nil)) (pe_glob (v := .int 64) rfl m_PART_DIGITS ⟨_, rfl⟩)) pa_nil))))))
      (pss_one (ps_ret (pe_join pe_str (pe_lst (pa_cons (pe_callTy (call_str_big nd hr) (by rfl) m_str (by decide +kernel) (pa_cons (pv 2) pa_nil)) (StX.pa_star (pe_revL (pv 1)) pa_nil)))))))))), ?_⟩
    refine ⟨_, rfl, _, _, rfl, rfl, _, rfl, iteF_of (decide_eq_false (by omega)) ?_⟩
    refine ⟨(by show 0 ≤ sizeLine; decide), fun D hD => ?_⟩
    refine ⟨_, rfl, ?_⟩
    refine ⟨fun m σ H' => ∃ (r : Nat) (ps : List (List Char)) (x : Option V), σ = [some (.int (n : Int)), some (.ref D), some (.int (r : Int)), x] ∧ Same H H' ∧ H' D = some (.lst ((ps.map tx).map V.str)) ∧ dig n = dig r ++ ps.reverse.flatten ∧ r ≤ n ∧ ps.reverse.flatten.length = 64 * ps.length ∧ r = m, ⟨n, n, [], none, rfl, Same.new hD, upd_same, (List.append_nil _).symm, Nat.le_refl _, rfl, rfl⟩, ?_⟩
    rintro m σ H' ⟨r, ps, x, rfl, sm, hl, ed, rn, pl, rfl⟩
    have dl : (dig n).length ≤ 4300 := dig_len (by decide) (Nat.lt_of_lt_of_le hn (by decide +kernel))
    have p9 : ps.length ≤ 67 := by
      rw [ed, List.length_append, pl] at dl
      omega
    have r43 : r < 10 ^ 4300 := Nat.lt_of_le_of_lt rn (Nat.lt_of_lt_of_le hn (by decide +kernel))
    refine ⟨_, rfl, _, _, rfl, rfl, ⟨by decide, by decide, by decide⟩, _, _, rfl, rfl, _, rfl, ?_⟩
    by_cases c : 10 ^ 64 ≤ r
    · refine iteT_of (decide_eq_true (by show (10 : Int) ^ (64 : Int).toNat ≤ (r : Int); rw [big64]; exact Int.ofNat_le.mpr c)) ?_
      refine ⟨fun σ' H2 => ∃ (r' : Nat) (ps : List (List Char)) (x : Option V), σ' = [some (.int (n : Int)), some (.ref D), some (.int (r' : Int)), x] ∧ Same H H2 ∧ H2 D = some (.lst ((ps.map tx).map V.str)) ∧ dig n = dig r' ++ ps.reverse.flatten ∧ r' ≤ n ∧ ps.reverse.flatten.length = 64 * ps.length ∧ r' < r, fun σ' H2 ⟨r', ps, x, a1, a2, a3, a4, a5, a6, a7⟩ => ⟨r', a7, r', ps, x, a1, a2, a3, a4, a5, a6, rfl⟩, ?_⟩
      have em : ((r : Int) % (10 : Int) ^ (64 : Int).toNat) = ((r % 10 ^ 64 : Nat) : Int) := by rw [big64, Int.natCast_emod]
      have eq : ((r : Int) / (10 : Int) ^ (64 : Int).toNat) = ((r / 10 ^ 64 : Nat) : Int) := by rw [big64, Int.natCast_ediv]
      have hq : r % 10 ^ 64 < 10 ^ 64 := Nat.mod_lt _ (by decide +kernel)
      have ez : Txt.zfill ((toString ((r % 10 ^ 64 : Nat) : Int) : String) : Str) 64 = tx (pad 64 (r % 10 ^ 64)) := by
        rw [text_nat]
        exact zfill_dig (k := 64) (by decide) hq
      have r0 : 0 < r / 10 ^ 64 := Nat.div_pos c (by decide +kernel)
      have rl : r / 10 ^ 64 < r := Nat.div_lt_self (Nat.lt_of_lt_of_le (by decide +kernel) c) (by decide +kernel)
      have e2 : dig r = dig (r / 10 ^ 64) ++ pad 64 (r % 10 ^ 64) := by
        have := dig_pad 64 r0 hq
        rw [← this]
        congr 1
        rw [Nat.mul_comm]
        exact (Nat.div_add_mod r (10 ^ 64)).symm
      refine ⟨_, rfl, _, _, rfl, rfl, ⟨by decide, by decide, by decide⟩, _, _, rfl, ⟨by decide +kernel, noPy _⟩, fun T hT => ?_⟩
      rw [em, eq]
      have s2 : Same H' (upd H' T (.tup [.int ((r / 10 ^ 64 : Nat) : Int), .int ((r % 10 ^ 64 : Nat) : Int)])) := Same.new hT
      refine ⟨T, _, rfl, SqT.of upd_same, rfl, _, _, rfl, _, _, rfl, rfl, ?_⟩
      refine ⟨_, rfl, .inl ⟨rfl, _, SqL.of (s2 _ _ hl)⟩, _, rfl, _, rfl, ?_, ⟨_, rfl⟩, _, _, rfl, rfl, by decide +kernel, D, _, _, rfl, rfl, s2 _ _ hl, small1000 (by rw [List.length_map, List.length_map]; omega), ?_⟩
      · rw [Int.natAbs_natCast]
        exact Nat.lt_of_lt_of_le hq (by decide +kernel)
      refine ⟨r / 10 ^ 64, ps ++ [pad 64 (r % 10 ^ 64)], _, rfl, fun a o e => ?_, ?_, ?_, by omega, ?_, rl⟩
      · rw [upd_ne (ne_of_none e hD)]
        exact s2 _ _ (sm _ _ e)
      · rw [upd_same, ez, List.map_append, List.map_append]
        rfl
      · rw [ed, e2, List.reverse_append, List.append_assoc]
        rfl
      · rw [List.reverse_append, List.reverse_cons, List.reverse_nil, List.nil_append, List.singleton_append, List.flatten_cons, List.length_append, pl, pad_len, List.length_append]
        show 64 + 64 * ps.length = 64 * (ps.length + 1)
        omega
    · refine iteF_of (decide_eq_false (by show ¬ (10 : Int) ^ (64 : Int).toNat ≤ (r : Int); rw [big64]; exact fun z => c (Int.ofNat_le.mp z))) ?_
      refine ⟨⟨_, rfl⟩, _, rfl, _, rfl, (by rw [Int.natAbs_natCast]; exact r43), _, rfl, D, _, rfl, SqL.of hl, fun L1 hL1 => ?_⟩
      have s2 := Same.new (o := .lst ((ps.map tx).map V.str).reverse) hL1
      have e1 : V.str ((toString (r : Int) : String) : Str) :: (((ps.map tx).map V.str).reverse ++ []) = (((dig r :: ps.reverse).map tx).map V.str) := by
        rw [List.append_nil, text_nat, List.map_cons, List.map_cons, List.map_reverse, List.map_reverse]
      refine ⟨L1, _, rfl, .inr (SqL.of upd_same), (by rw [e1, List.length_map, List.length_map, List.length_cons, List.length_reverse]; exact small1000 (by omega)), fun L2 hL2 => ?_⟩
      rw [e1]
      have s3 := s2.trans (Same.new (o := .lst (((dig r :: ps.reverse).map tx).map V.str)) hL2)
      refine ⟨_, L2, (dig r :: ps.reverse).map tx, rfl, rfl, .inl (SqL.of upd_same), ?_, ?_⟩
      · rw [len_map_tx, List.flatten_cons, List.length_append, List.length_map]
        have : ("" : Str).length = 0 := rfl
        rw [this, Nat.mul_zero, Nat.add_zero, ← List.length_append, ← ed]
        omega
      · rw [join_tx, List.flatten_cons, ← ed]
        exact q _ (sm.trans s3)
/-! ### str, repr of a ratio -/
def rtx (u d : Nat) : Str := if d = 1 then nt u else nt u ++ "/" ++ nt d
def rrx (u d : Nat) : Str := "Ratio(" ++ nt u ++ ", " ++ nt d ++ ")"
def spRStr (C : Addr) : Sp := fun vs H Q _ => ∃ (v : V) (t b : Nat), vs = [v] ∧ Rt C H v t b ∧ t < 2 ^ 9000 ∧ b < 2 ^ 9000 ∧ ∀ H2, Same H H2 → Q (.str (rtx (tp t b) (bt t b))) H2
theorem sc_rstr : FnScope ["self"] ["self"] (defScope (methOf (top 13) 7)) := ⟨rfl, rfl, rfl, by decide +kernel, rfl, by decide +kernel, by decide +kernel⟩
theorem sz : ∀ n : Nat, n ≤ 100000 → n ≤ sizeLine := fun n h => by rw [sizeLine_eq]; omega
theorem empty_app (a : Str) : Str.empty ++ a = a := by
  show (⟨#[] ++ a.cps⟩ : Str) = a
  rw [Array.empty_append]
theorem app_len (a b : Str) : (a ++ b).length = a.length + b.length := by
  show (a.cps ++ b.cps).size = _
  rw [Array.size_append]
  rfl
theorem ok_rstr {f : Addr} {fd : FuncData} {C CI : Addr} (F : FnM K "__str__" "Ratio.__str__" (methOf (top 13) 7) f fd) (c_Ratio : RatioC P w K mg base C CI) (c_number_text : Cal P w K mg base CX0 "number_text" 1 ["number"] spNT) : FnOk P w K mg base CX0 2 f fd ["self"] (spRStr C) := by
  have sc := sc_rstr
  refine F.ok sc (fun vs H Q E h => ?_) (fun cdv A outer s H vs Q E hr h => ?_)
  · obtain ⟨v, t, b, rfl, _⟩ := h
    rfl
  · obtain ⟨v, t, b, rfl, ⟨a, dx, rfl, ha⟩, ht, hb, q⟩ := h
    have hr_number_text : Room 1 _ := hr
    have h1 : tp t b < 2 ^ 9000 := Nat.lt_of_le_of_lt tp_le ht
    have h2 : bt t b < 2 ^ 9000 := Nat.lt_of_le_of_lt bt_le hb
    have l1 := nt_len h1
    have l2 := nt_len h2
    have c1 : (("/" : Str)).length = 1 := by decide +kernel
    refine ⟨_, PSs.nox (pss_cons (ps_if (pt_cmpR op_eq (pe_fld (pv 0) rfl) pe_int (nomark _)) (pss_one (ps_ret (pe_joined1 (pe_fmt (pe_cal c_number_text hr_number_text rfl (pa_cons (pe_fld (pv 0) rfl) pa_nil)))))) pss_nil)
      (pss_one (ps_ret (pe_joined (PJ.cons (pe_fmt (pe_cal c_number_text hr_number_text rfl (pa_cons (pe_fld (pv 0) rfl) pa_nil))) (PJ.cons pe_str (PJ.cons (pe_fmt (pe_cal c_number_text hr_number_text rfl (pa_cons (pe_fld (pv 0) rfl) pa_nil))) PJ.nil))))))), ?_⟩
    have e1 : t / Nat.gcd t b = tp t b := rfl
    have e2 : b / Nat.gcd t b = bt t b := rfl
    unfold rat at ha
    rw [e1, e2] at ha
    generalize tp t b = u at *
    generalize bt t b = d at *
    clear ht hb e1 e2
    refine ⟨_, rfl, a, C, dx, _, _, rfl, ha, c_Ratio.cls, c_Ratio.n2, rfl, rfl, _, rfl, ?_⟩
    by_cases c : d = 1
    · refine iteT_of (decide_eq_true (by rw [c]; rfl)) ?_
      refine ⟨_, rfl, a, C, dx, _, _, rfl, ha, c_Ratio.cls, c_Ratio.n1, rfl, u, rfl, h1, fun H1 s1 => .inl ⟨_, rfl, sz _ (Nat.le_trans l1 (by decide)), ?_⟩⟩
      have := q _ s1
      unfold rtx at this
      rw [if_pos c] at this
      exact this
    · refine iteF_of (decide_eq_false (fun z => c (by injection z with z; exact Int.ofNat.inj z))) ?_
      refine ⟨_, rfl, a, C, dx, _, _, rfl, ha, c_Ratio.cls, c_Ratio.n1, rfl, u, rfl, h1, fun H1 s1 => .inl ⟨_, rfl, sz _ (Nat.le_trans l1 (by decide)), ?_⟩⟩
      have ha1 := s1 _ _ ha
      refine ⟨_, rfl, by rw [empty_app]; exact sz _ (Nat.le_trans l1 (by decide)), ?_⟩
      rw [empty_app]
      refine ⟨_, rfl, sz _ (by rw [app_len, c1]; generalize (nt u).length = x at l1; omega), ?_⟩
      refine ⟨_, rfl, a, C, dx, _, _, rfl, ha1, c_Ratio.cls, c_Ratio.n2, rfl, d, rfl, h2, fun H2 s2 => .inl ⟨_, rfl, sz _ (Nat.le_trans l2 (by decide)), ?_⟩⟩
      refine ⟨_, rfl, sz _ (by rw [app_len, app_len, c1]; generalize (nt u).length = x at l1; generalize (nt d).length = y at l2; omega), ?_⟩
      have := q _ (s1.trans s2)
      unfold rtx at this
      rw [if_neg c] at this
      exact this
def spRRep (C : Addr) : Sp := fun vs H Q _ => ∃ (v : V) (t b : Nat), vs = [v] ∧ Rt C H v t b ∧ t < 2 ^ 9000 ∧ b < 2 ^ 9000 ∧ ∀ H2, Same H H2 → Q (.str (rrx (tp t b) (bt t b))) H2
theorem sc_rrep : FnScope ["self"] ["self"] (defScope (methOf (top 13) 8)) := ⟨rfl, rfl, rfl, by decide +kernel, rfl, by decide +kernel, by decide +kernel⟩
theorem ok_rrep {f : Addr} {fd : FuncData} {C CI : Addr} (F : FnM K "__repr__" "Ratio.__repr__" (methOf (top 13) 8) f fd) (c_Ratio : RatioC P w K mg base C CI) (c_number_text : Cal P w K mg base CX0 "number_text" 1 ["number"] spNT) : FnOk P w K mg base CX0 2 f fd ["self"] (spRRep C) := by
  have sc := sc_rrep
  refine F.ok sc (fun vs H Q E h => ?_) (fun cdv A outer s H vs Q E hr h => ?_)
  · obtain ⟨v, t, b, rfl, _⟩ := h
    rfl
  · obtain ⟨v, t, b, rfl, ⟨a, dx, rfl, ha⟩, ht, hb, q⟩ := h
    have hr_number_text : Room 1 _ := hr
    have h1 : tp t b < 2 ^ 9000 := Nat.lt_of_le_of_lt tp_le ht
    have h2 : bt t b < 2 ^ 9000 := Nat.lt_of_le_of_lt bt_le hb
    have l1 := nt_len h1
    have l2 := nt_len h2
    have c1 : (("Ratio(" : Str)).length = 6 := by decide +kernel
    have c2 : ((", " : Str)).length = 2 := by decide +kernel
    have c3 : ((")" : Str)).length = 1 := by decide +kernel
    refine ⟨_, PSs.nox (pss_one (ps_ret (pe_joined (PJ.cons pe_str (PJ.cons (pe_fmt (pe_cal c_number_text hr_number_text rfl (pa_cons (pe_fld (pv 0) rfl) pa_nil))) (PJ.cons pe_str (PJ.cons (pe_fmt (pe_cal c_number_text hr_number_text rfl (pa_cons (pe_fld (pv 0) rfl) pa_nil))) (PJ.cons pe_str PJ.nil)))))))), ?_⟩
    have e1 : t / Nat.gcd t b = tp t b := rfl
    have e2 : b / Nat.gcd t b = bt t b := rfl
    unfold rat at ha
    rw [e1, e2] at ha
    generalize tp t b = u at *
    generalize bt t b = d at *
    clear ht hb e1 e2
    refine ⟨_, rfl, by rw [empty_app]; exact sz _ (by rw [c1]; decide), ?_⟩
    rw [empty_app]
    refine ⟨_, rfl, a, C, dx, _, _, rfl, ha, c_Ratio.cls, c_Ratio.n1, rfl, u, rfl, h1, fun H1 s1 => .inl ⟨_, rfl, sz _ (Nat.le_trans l1 (by decide)), ?_⟩⟩
    have ha1 := s1 _ _ ha
    refine ⟨_, rfl, sz _ (by rw [app_len, c1]; generalize (nt u).length = x at l1; omega), ?_⟩
    refine ⟨_, rfl, sz _ (by rw [app_len, app_len, c1, c2]; generalize (nt u).length = x at l1; omega), ?_⟩
    refine ⟨_, rfl, a, C, dx, _, _, rfl, ha1, c_Ratio.cls, c_Ratio.n2, rfl, d, rfl, h2, fun H2 s2 => .inl ⟨_, rfl, sz _ (Nat.le_trans l2 (by decide)), ?_⟩⟩
    refine ⟨_, rfl, sz _ (by rw [app_len, app_len, app_len, c1, c2]; generalize (nt u).length = x at l1; generalize (nt d).length = y at l2; omega), ?_⟩
    refine ⟨_, rfl, sz _ (by rw [app_len, app_len, app_len, app_len, c1, c2, c3]; generalize (nt u).length = x at l1; generalize (nt d).length = y at l2; omega), ?_⟩
    exact q _ (s1.trans s2)
end
end K01
set_option Elab.async false
set_option linter.all false
set_option maxRecDepth 100000
set_option maxHeartbeats 4000000
namespace L2
open PySem PySem.Spec PyProof.Rows
/-- err.f in an except suite, whatever its class -/
def tXfA (K : PySem.W.Frag) (a : Addr) (cls : Value) (d : Option Addr) (f : Str) (te : TE) : TE := fun σ H Q => te σ H fun x H1 => x = .ref a ∧ ∃ (C dd : Addr) (bmB : List Value) (newId : String) (fs : List (Str × V)) (v : V), cls = .ref C ∧ OxB K C bmB newId ∧ PySem.W.findIn K (.ref C) f = some none ∧ d = some dd ∧ H1 dd = some (.xd fs) ∧ fs.lookup f = some v ∧ Q v H1
theorem pe_xfA {X : Cx} {a : Addr} {oe : Obj} {cls : Value} {d : Option Addr} {pn : List (Addr × Obj)} {e : Expr} {te : TE} {pos : Pos} {n : Str}
    (hz : Zc cls d oe) (hf : ∃ vs, oe.data = .fields vs) (he : PE (X.suite a ((a, oe) :: pn)) e te) (hb : attributeBase e n X.env (eval e X.env) = eval e X.env := by rfl) :
    PE (X.suite a ((a, oe) :: pn)) (.Attribute e n pos) (tXfA X.K a cls d n te) := by
  refine ⟨fun pins s σ H Q I h => ?_⟩
  refine attr_of hb (thn (he.run pins s σ H _ I h) fun u s1 hh => ?_)
  obtain ⟨x, H1, I1, rx, ex, C, dd, bmB, newId, fs, v, ec, T, hno, ed, ea, l, q⟩ := hh
  subst ex
  obtain rfl : u = Value.ref a := rx
  subst ec
  subst ed
  obtain ⟨ha, _⟩ := I1.pin (a, oe) (List.mem_append_left _ List.mem_cons_self)
  obtain ⟨vs, hd⟩ := hf
  have hx : ObjOk X.prog X.w H1 s1.heap dd (.xd fs) := I1.hok dd _ ea
  obtain ⟨mA, hns, hr⟩ := hx
  obtain ⟨od, ho, hl⟩ := lookIn_ns hns
  obtain ⟨u, hu, ru⟩ := RelO.some_of (v := v) (o := mA n) (by rw [← l]; exact hr n)
  have J : PySem.W.InstAt s1.heap a oe C (some od) := ⟨ha, hz.1, by unfold PySem.W.notCls; rw [hd] <;> rfl, by rw [hz.2]; exact ho⟩
  exact HandSPX.exc_get I1.kIn J T.ga T.gg T.exC (PySem.W.findObj_own T.hd hno rfl (by rw [hl, hu])) (handed_of ru) ⟨v, H1, I1.tok _, ru, q⟩
/-- a name whose slot is known where the slots are as many as the names -/
theorem pe_varL {X : Cx} {x : Str} {i : Nat} {v : V} {pos : Pos} (hN : X.N[i]? = some x) (hv : Vis X.env.scope x) (hd : (x == ("__debug__" : Str)) = false := by decide) (hcd : (x == ("__classdict__" : Str)) = false := by decide) :
    PE X (.Name x pos) (fun σ H Q => (σ.length = X.N.length → σ[i]? = some (some v)) ∧ Q v H) :=
  ⟨fun pins s σ H Q I h => (pe_var (pos := pos) hN hv hd hcd).run pins s σ H Q I ⟨v, h.1 I.len, h.2⟩⟩
end L2
set_option Elab.async false
set_option linter.all false
set_option maxRecDepth 100000
set_option maxHeartbeats 4000000
/-! a caught exception handed on to a def -/
namespace L2
open PySem PySem.Spec PyProof.Rows L2H
/-- an exception's object: its class, its own dict -/
def ExcP (C : Value) (d : Option Addr) (p : Addr × Obj) : Prop := Zc C d p.2 ∧ ∃ vs, p.2.data = .fields vs
/-- a def that may be called within an except suite; p: an object that stands and is not tracked -/
structure FnE (P : Program) (w : World) (K : PySem.W.Frag) (mg : Str → Option Value) (base : Heap) (k : Nat) (f : Addr) (fd : FuncData) (ps : List Str) (sp : Addr × Obj → List V → Hp → VK → Prop) : Prop where
  len : ∀ p vs H Q, sp p vs H Q → vs.length = ps.length
  run : ∀ (p : Addr × Obj) (A : Around) (outer : List Env) (s : Shared) (H : Hp) (args : Args) (us : List Value) (vs : List V) (Q : VK), RoomH k A → PinOk outer H s p → Env0 P w K mg base A outer s H → BindsTo s fd args (ps.zip us) → Vals vs us → sp p vs H Q →
    codeAny (model P w) A (.call (.ref f) args) (CR CX0 outer P w H s Q E0) s
theorem fnE_of {P : Program} {w : World} {K : PySem.W.Frag} {mg : Str → Option Value} {base : Heap} {k : Nat} {f : Addr} {fd : FuncData} {x qual : Str} {params : Arguments} {body : List Stmt} {scope : Scope} {N ps : List Str} {sp : Addr × Obj → List V → Hp → VK → Prop}
    (F : FunD K x qual params body scope [] [] f fd) (S : FnScope N ps scope) (len : ∀ p vs H Q, sp p vs H Q → vs.length = ps.length)
    (hbody : ∀ (cdv : Value) (p : Addr × Obj) (A : Around) (outer : List Env) (s : Shared) (H : Hp) (vs : List V) (Q : VK), RoomH k (A.deeper (envOfC qual scope s.heap.objs.size f cdv)) → sp p vs H Q →
      ∃ t, PSs (cxH CX0 P w K mg base N qual scope f cdv A outer s H E0 p) body t ∧ t { nx := fun _ H' => Q .non H', rt := Q } (L2.start N vs) H) : FnE P w K mg base (k + 1) f fd ps sp := by
  obtain ⟨oc, od, dV, kV, doc, pm, an, cdv, ct, osl, rfl, lk, hcd, _, _⟩ := F.ex
  refine ⟨len, fun p A outer s H args us vs Q r pin e0 hb rv hsp => ?_⟩
  have KX : K.In s.heap := e0.mod.kin.keeps (fun b o e => (e0.bs b o e).1)
  have ks : ∀ y ∈ ps.zip us, scope.names.lookup y.1 = some .local ∨ (scope.names.lookup y.1 = some .cell ∧ ((cellsFrom (s.heap.objs.size + 1) scope.names []).lookup y.1).isSome = true) := by
    rintro ⟨n, v⟩ hy
    exact (S.par n (List.of_mem_zip hy).1).imp id fun z => ⟨z, PySem.W.cellsFrom_some _ _ _ (.inl z)⟩
  apply codeAny_call_function r.depth (KX _ _ lk) rfl S.co S.gen rfl (PySem.W.codeRec_of KX hcd)
  refine hb _ _ _ _ (wpAny_newFunctionEnv_cells S.kind ks fun env he s1 x => ?_)
  cases he
  refine ⟨e0.mod.nolimit.keeps fun b o e => x.toInCall.keep b o ((e0.bs b o e).1), codeAny_func ?_⟩
  obtain ⟨t, ht, hq⟩ := hbody cdv p A outer s H vs Q (r.deeper _) hsp
  have I := inv_startH (CX := CX0) (P := P) (w := w) (K := K) (mg := mg) (base := base) (f := f) (cd := cdv) (E := E0) S pin e0 (len _ _ _ _ hsp) rv x
  refine wpAny_mono (ht.run [] s1 (L2.start N vs) H _ I hq) (fun fl s' hs => ?_) fun _ _ z => z
  cases fl with
  | ret u =>
    obtain ⟨v, σ', H', J, rr, q⟩ := hs
    exact ⟨v, H', J.os, J.bare, J.base, J.hok, rr, q⟩
  | next =>
    obtain ⟨σ', H', J, q⟩ := hs
    exact ⟨.non, H', J.os, J.bare, J.base, J.hok, rfl, q⟩
  | brk =>
    obtain ⟨_, _, _, q⟩ := hs
    cases q
  | cont =>
    obtain ⟨_, _, _, q⟩ := hs
    cases q
/-- such a def of the module, as callers see it -/
def CalE (P : Program) (w : World) (K : PySem.W.Frag) (mg : Str → Option Value) (base : Heap) (x : Str) (k : Nat) (ps : List Str) (sp : Addr × Obj → List V → Hp → VK → Prop) : Prop :=
  ∃ f fd, FnE P w K mg base k f fd ps sp ∧ mg x = some (.ref f) ∧ PySem.W.keepIn K (.ref f) = true ∧ Binds K fd ps []
section
variable {X : Cx} {k : Nat} {ps : List Str} {sp : Addr × Obj → List V → Hp → VK → Prop} {x : Str} {q pos : Pos} {e : Expr} {es : List Expr} {t : TA} {p : Addr × Obj}
/-- f(..) where p is pinned -/
theorem pe_calE (c : CalE X.prog X.w X.K X.mg X.base x k ps sp) (hp : p ∈ X.pn) (hr : RoomH k X.A) (hg : Gl X x) (ha : PA X (e :: es) t)
    (hdb : (x == ("__debug__" : Str)) = false := by decide) (he : starEach (e :: es) X.env = (false, eval e X.env) :: starEach es X.env := by rfl) (hpl : (backTo pos (starEach es X.env)).any (·.1) = false := by rfl) :
    PE X (.Call (.Name x q) (e :: es) [] pos) (fun σ H Q => t σ H fun vs H1 => sp p vs H1 Q) := by
  obtain ⟨f, fd, F, hm, hk, hb⟩ := c
  refine ⟨fun pins s σ H Q I h => ?_⟩
  refine wpAny_Call_Name_kw (ld_glob I hg hm ?_ hdb)
  refine PySem.W.callWith_K (h₀ := X.base) I.ok.mod.kin hk (thn (ha.run pos pins s σ H _ I h) fun us s1 ⟨vs, H1, I1, rv, h1⟩ => ⟨I1.kIn, ?_⟩) he hpl
  have hl : us.length = ps.length := rv.length.symm.trans (F.len _ _ _ _ h1)
  have b := hb s1 us I1.kIn (by rw [List.append_nil]; exact hl)
  rw [List.append_nil] at b
  obtain ⟨g1, g2, g3, g4, g5⟩ := I1.pin p (List.mem_append_left _ hp)
  have pin : PinOk X.stack H1 s1 p := ⟨g1, g2, fun hm => (List.mem_cons.mp (I1.stkSub p.1 hm)).elim g3 g4, g5⟩
  refine wpAny_call (codeAny_mono (F.run p X.A X.stack s1 H1 ⟨us, []⟩ us vs Q hr pin I1.env0 b rv h1) fun r s' hq => ?_)
  cases r with
  | error e => cases hq
  | ok fl =>
    cases fl with
    | ret u => exact I1.after hq
    | next => cases hq
    | brk => cases hq
    | cont => cases hq
/-- err.f, err pinned -/
theorem pe_xfP {cls : Value} {d : Option Addr} {te : TE} {n : Str} (hp : p ∈ X.pn) (hz : ExcP cls d p) (he : PE X e te) (hb : attributeBase e n X.env (eval e X.env) = eval e X.env := by rfl) :
    PE X (.Attribute e n pos) (tXfA X.K p.1 cls d n te) := by
  refine ⟨fun pins s σ H Q I h => attr_of hb (thn (he.run pins s σ H _ I h) fun u s1 hh => ?_)⟩
  obtain ⟨y, H1, I1, ry, ey, C, dd, bmB, newId, fs, v, ec, T, hno, ed, ea, l, q⟩ := hh
  cases ey
  cases (show u = Value.ref p.1 from ry)
  cases ec
  cases ed
  obtain ⟨ha, _⟩ := I1.pin p (List.mem_append_left _ hp)
  obtain ⟨⟨z1, z2⟩, vs, hd⟩ := hz
  obtain ⟨mA, hns, hr⟩ := (show ObjOk X.prog X.w H1 s1.heap dd (.xd fs) from I1.hok dd _ ea)
  obtain ⟨od, ho, hl⟩ := lookIn_ns hns
  obtain ⟨u, hu, ru⟩ := RelO.some_of (v := v) (o := mA n) (by rw [← l]; exact hr n)
  have J : PySem.W.InstAt s1.heap p.1 p.2 C (some od) := ⟨ha, z1, by unfold PySem.W.notCls; rw [hd] <;> rfl, by rw [z2]; exact ho⟩
  exact HandSPX.exc_get I1.kIn J T.ga T.gg T.exC (PySem.W.findObj_own T.hd hno rfl (by rw [hl, hu])) (handed_of ru) ⟨v, H1, I1.tok _, ru, q⟩
/-- isinstance(err, C), err pinned -/
def rIsP (K : PySem.W.Frag) (p : Addr × Obj) : List V → Hp → VK → Prop := fun xs H Q => ∃ (bmB : List Value) (newId : String) (C dd : Addr) (fs : List (Str × V)) (c : V) (cv : Value) (b : Bool), xs = [.ref p.1, c] ∧ ClsV c cv ∧ OxB K C bmB newId ∧ ExcP (.ref C) (some dd) p ∧ H dd = some (.xd fs) ∧ PySem.W.kitOne K (.ref C) cv = some b ∧ Q (.bl b) H
theorem call_isP (hp : p ∈ X.pn) : CallR X (.builtin "isinstance") (rIsP X.K p) := by
  intro pins s σ H xs us Q I r h
  obtain ⟨bmB, newId, C, dd, fs, c, cv, b, rfl, hcv, T, ⟨⟨z1, z2⟩, vs, hd⟩, ea, e, q⟩ := h
  obtain ⟨u1, u2, rfl, r1, r2⟩ := vals2 r
  cases hcv.eq r2
  cases (show u1 = Value.ref p.1 from r1)
  obtain ⟨ha, _⟩ := I.pin p (List.mem_append_left _ hp)
  obtain ⟨mA, hns, hr⟩ := (show ObjOk X.prog X.w H s.heap dd (.xd fs) from I.hok dd _ ea)
  obtain ⟨od, ho, hl⟩ := lookIn_ns hns
  have J : PySem.W.InstAt s.heap p.1 p.2 C (some od) := ⟨ha, z1, by unfold PySem.W.notCls; rw [hd] <;> rfl, by rw [z2]; exact ho⟩
  exact PySem.W.kia_one (PySem.W.kitx_exc (od := some od) T.hcl T.ga T.gg T.exC T.ha T.hn T.ht T.hm) I.kIn J e (fun z => nomatch z) fun tk => ⟨.bl b, H, I.tok tk, rfl, q⟩
end
end L2
set_option Elab.async false
set_option linter.all false
set_option maxRecDepth 100000
set_option maxHeartbeats 4000000
namespace K01
open PySem PySem.Spec PyProof.Rows L2
section
variable {P : Program} {w : World} {K : PySem.W.Frag} {mg : Str → Option Value} {base : Heap}
/-! ### Ratio == Ratio -/
def spEqR (C : Addr) : Sp := fun vs H Q _ => ∃ (x y : V) (t b u d : Nat), vs = [x, y] ∧ Rt C H x t b ∧ Rt C H y u d ∧ Q (.bl (decide (tp t b = tp u d) && decide (bt t b = bt u d))) H
theorem sc_eqR : FnScope ["self", "other"] ["self", "other"] (defScope (methOf (top 13) 6)) := ⟨rfl, rfl, rfl, by decide +kernel, rfl, by decide +kernel, by decide +kernel⟩
theorem decN {i k : Nat} : decide (V.int (i : Int) = V.int (k : Int)) = decide (i = k) := by
  by_cases h : i = k
  · rw [decide_eq_true h, decide_eq_true (by rw [h])]
  · rw [decide_eq_false h]
    exact decide_eq_false fun z => h (Int.ofNat_inj.mp (V.int.inj z))
theorem ok_eqR {f : Addr} {fd : FuncData} {C CI : Addr} (F : FnM K "__eq__" "Ratio.__eq__" (methOf (top 13) 6) f fd) (c_Ratio : RatioC P w K mg base C CI) (m_isinstance : mg "isinstance" = none) : FnOk P w K mg base CX0 1 f fd ["self", "other"] (spEqR C) := by
  have sc := sc_eqR
  refine F.ok sc (fun vs H Q E h => ?_) (fun cdv A outer s H vs Q E hr h => ?_)
  · obtain ⟨x, y, t, b, u, d, rfl, _⟩ := h
    rfl
  · obtain ⟨x, y, t, b, u, d, rfl, ⟨a, dx, rfl, ha⟩, ⟨a2, dx2, rfl, ha2⟩, q⟩ := h
    refine ⟨_, PSs.nox (pss_cons (ps_if (pt_not (pt_val (pe_callB call_isi (by rfl) m_isinstance (by decide +kernel) (pa_cons (pv 1) (pa_cons (pe_glob (v := .ref C) rfl c_Ratio.gC rfl) pa_nil))))) (pss_one ps_dead) pss_nil)
      (pss_one (ps_ret (pe_and (pe_cmpR op_eq (pe_fld (pv 0) rfl) (pe_fld (pv 1) rfl) (nomark _)) (pe_one (pe_cmpR op_eq (pe_fld (pv 0) rfl) (pe_fld (pv 1) rfl) (nomark _))))))), ?_⟩
    refine ⟨_, rfl, _, _, _, _, _, rfl, .own _, c_Ratio.ty ha2, c_Ratio.kit, _, rfl, iteF ?_⟩
    refine ⟨_, rfl, a, C, dx, _, _, rfl, ha, c_Ratio.cls, c_Ratio.n1, rat_top, _, rfl, a2, C, dx2, _, _, rfl, ha2, c_Ratio.cls, c_Ratio.n1, rat_top, rfl, _, rfl, ?_⟩
    rw [decN]
    refine ite2 (fun e => ?_) (fun e => ?_)
    · refine ⟨_, rfl, a, C, dx, _, _, rfl, ha, c_Ratio.cls, c_Ratio.n2, rat_bot, _, rfl, a2, C, dx2, _, _, rfl, ha2, c_Ratio.cls, c_Ratio.n2, rat_bot, rfl, ?_⟩
      rw [decN]
      have q2 : Q (.bl (decide (tp t b = tp u d) && decide (bt t b = bt u d))) H := q
      rw [e] at q2
      exact q2
    · have q2 : Q (.bl (decide (tp t b = tp u d) && decide (bt t b = bt u d))) H := q
      rw [Bool.eq_false_iff.mpr e] at q2
      exact q2
end
end K01
set_option Elab.async false
set_option linter.all false
set_option maxRecDepth 100000
set_option maxHeartbeats 4000000
/-! a def of an own class that returns NotImplemented, and `==` that comes to it (own text) -/
namespace L2
open PySem PySem.Spec PyProof.Rows
abbrev NQ := Hp → Prop
/-- where a statement returns NotImplemented -/
structure PSN (X : Cx) (st : Stmt) (t : St → Hp → NQ → Prop) : Prop where
  run : ∀ (pins : List (Addr × Obj)) (s : Shared) (σ : St) (H : Hp) (Q : NQ), Inv X pins σ H s → t σ H Q → wpAny (model X.prog X.w) X.A (exec st X.env) (fun f s' => f = .ret .notImplemented ∧ ∃ σ' H', Inv X pins σ' H' s' ∧ Q H') X.xe s
structure PSNs (X : Cx) (sts : List Stmt) (t : St → Hp → NQ → Prop) : Prop where
  run : ∀ (pins : List (Addr × Obj)) (s : Shared) (σ : St) (H : Hp) (Q : NQ), Inv X pins σ H s → t σ H Q → wpAny (model X.prog X.w) X.A (execs sts X.env) (fun f s' => f = .ret .notImplemented ∧ ∃ σ' H', Inv X pins σ' H' s' ∧ Q H') X.xe s
section
variable {X : Cx} {t u : St → Hp → NQ → Prop} {pos : Pos}
theorem psn_ret {p : Pos} (hg : Gl X "NotImplemented") (hm : X.mg "NotImplemented" = none) : PSN X (.Return (some (.Name "NotImplemented" p)) pos) (fun _ H Q => Q H) :=
  ⟨fun pins s σ H Q I h => wpAny_Return_some (ld_blt I hg hm (by decide +kernel) ⟨rfl, σ, H, I, h⟩)⟩
theorem psns_head {st : Stmt} {rest : List Stmt} (h : PSN X st t) : PSNs X (st :: rest) t := by
  refine ⟨fun pins s σ H Q I q => wpAny_execs_cons (thn (h.run pins s σ H Q I q) fun f s1 z => ?_)⟩
  obtain ⟨rfl, z⟩ := z
  exact ⟨rfl, z⟩
theorem psn_if {c : Expr} {a b : List Stmt} {tc : TT} (hc : PT X c tc) (ha : PSNs X a t) (hb : PSNs X b u) : PSN X (.If c a b pos) (fun σ H Q => tc σ H fun r H1 => if r = true then t σ H1 Q else u σ H1 Q) := by
  refine ⟨fun pins s σ H D I h => ?_⟩
  refine wpAny_If (thn (hc.run pins s σ H _ I h) fun d s1 ⟨H1, I1, q1⟩ => ?_)
  cases d with
  | true => exact ha.run pins s1 σ H1 D I1 q1
  | false => exact hb.run pins s1 σ H1 D I1 q1
theorem psns_never {sts : List Stmt} : PSNs X sts (fun _ _ _ => False) := ⟨fun _ _ _ _ _ _ h => h.elim⟩
end
abbrev SpN := List V → Hp → NQ → Prop
def NR (outer : List Env) (P : Program) (w : World) (H : Hp) (s : Shared) (Q : NQ) (r : Result) (s' : Shared) : Prop :=
  r = .ok (.ret .notImplemented) ∧ ∃ H', s'.os = s.os ∧ AllBare s'.gens ∧ Un (frs outer) [] H H' s.heap s'.heap ∧ HOk P w H' s'.heap ∧ Q H'
/-- the def at f returns NotImplemented where sp holds -/
def FnNI (P : Program) (w : World) (K : PySem.W.Frag) (mg : Str → Option Value) (base : Heap) (k : Nat) (f : Addr) (sp : SpN) : Prop :=
  ∀ (A : Around) (outer : List Env) (s : Shared) (H : Hp) (us : List Value) (vs : List V) (Q : NQ), Room k A → Env0 P w K mg base A outer s H → Vals vs us → sp vs H Q →
    codeAny (model P w) A (.call (.ref f) ⟨us, []⟩) (NR outer P w H s Q) s
theorem fnN_of {P : Program} {w : World} {K : PySem.W.Frag} {mg : Str → Option Value} {base : Heap} {k : Nat} {f : Addr} {name qual : Str} {params : Arguments} {body : List Stmt} {scope : Scope} {dV kV doc pm cdv ct oc : Value} {an od : Option Addr}
    {osl : Array (Option Value)} {N ps : List Str} {sp : SpN} (lk : K.lookup f = some ⟨oc, od, .func (PySem.W.fnOf name qual params body scope dV kV doc pm an cdv ct), osl⟩) (hcd : PySem.W.codeIn K cdv qual = true) (S : FnScope N ps scope)
    (bd : Binds K (PySem.W.fnOf name qual params body scope dV kV doc pm an cdv ct) ps []) (len : ∀ vs H Q, sp vs H Q → vs.length = ps.length)
    (hbody : ∀ (A : Around) (outer : List Env) (s : Shared) (H : Hp) (vs : List V) (Q : NQ), Room k (A.deeper (envOfC qual scope s.heap.objs.size f cdv)) → sp vs H Q →
      ∃ t, PSNs (cxOf CX0 P w K mg base N qual scope f cdv A outer s H E0).nox body t ∧ t (start N vs) H Q) : FnNI P w K mg base (k + 1) f sp := by
  intro A outer s H us vs Q hr e0 r hsp
  have hl := len _ _ _ hsp
  have KX : K.In s.heap := e0.mod.kin.keeps fun b o e => (e0.bs b o e).1
  have lim : s.heap.NoLimit := e0.mod.nolimit.keeps fun b o e => (e0.bs b o e).1
  have hb := bd s us KX (by rw [List.append_nil, ← r.length]; exact hl)
  rw [List.append_nil] at hb
  have hkind : ∀ y ∈ ps.zip us, scope.names.lookup y.1 = some .local ∨ (scope.names.lookup y.1 = some .cell ∧ ((cellsFrom (s.heap.objs.size + 1) scope.names []).lookup y.1).isSome = true) := fun ⟨n, v⟩ hy => by
    rcases S.par n (List.of_mem_zip hy).1 with q | q
    · exact .inl q
    · exact .inr ⟨q, PySem.W.cellsFrom_some _ _ _ (.inl q)⟩
  refine codeAny_call_function hr.depth (KX _ _ lk) rfl S.co S.gen rfl (PySem.W.codeRec_of KX hcd) (hb _ _ _ _ ?_)
  refine wpAny_newFunctionEnv_cells S.kind hkind fun env he s1 x => ?_
  subst he
  refine ⟨lim.keeps x.toInCall.keep, codeAny_func ?_⟩
  obtain ⟨t, ht, hq⟩ := hbody A outer s H vs Q (hr.deeper _) hsp
  have I : Inv (cxOf CX0 P w K mg base N qual scope f cdv A outer s H E0) [] (start N vs) H s1 := inv_start S hr.hd e0 hl r x
  refine wpAny_mono (ht.run [] s1 (start N vs) H _ (I.wish _) hq) (fun fl s' hs => ?_) fun e s' hs => hs.elim
  obtain ⟨rfl, σ', H', J, q⟩ := hs
  have J : Inv (cxOf CX0 P w K mg base N qual scope f cdv A outer s H E0) [] σ' H' s' := J.unwish
  exact ⟨rfl, H', J.os, J.bare, J.base, J.hok, q⟩
theorem run_fnNI {X : Cx} {pins : List (Addr × Obj)} {σ : St} {H : Hp} {s : Shared} {k : Nat} {f : Addr} {sp : SpN} {Q : NQ} {us : List Value} {vs : List V} (F : FnNI X.prog X.w X.K X.mg X.base k f sp) (hr : Room k X.A) (I : Inv X pins σ H s) (r : Vals vs us) (h : sp vs H Q) :
    codeAny (model X.prog X.w) X.A (.call (.ref f) ⟨us, []⟩) (fun r s' => match r with | .ok (.ret v) => v = .notImplemented ∧ ∃ H', Inv X pins σ H' s' ∧ Q H' | .ok _ => False | .error e => X.xe e s') s := by
  refine codeAny_mono (F X.A X.stack s H us vs Q hr I.env0 r h) fun r s' hq => ?_
  obtain ⟨rfl, H', os, ag, un, hok, q⟩ := hq
  exact ⟨rfl, H', I.call' (ch := []) os un hok ag fun b hb => (nomatch hb), q⟩
end L2

namespace L2
open PySem PySem.Spec PyProof.Rows
theorem int_declines_ins (b : Int) (u : Tok) (l C dx : Addr) :
    Meets (Builtin.«int.__eq__» ⟨[.int b u, .ref l], []⟩) (fun _ R s => s.heap.get? l = some (PySem.W.instObj C dx) ∧ R (.ok (.ret .notImplemented)) s) :=
  .of_wp fun prog w A R s h => by obtain ⟨hp, g, d, tk, os⟩ := s; obtain ⟨hl, h⟩ := h; unfold PySem.W.instObj at hl; wp_walk using wpAny_loadPart' hl, wpAny_load hl; exact ⟨_, rfl, h⟩
theorem bool_declines_ins (b : Bool) (l C dx : Addr) :
    Meets (Builtin.«int.__eq__» ⟨[.bool b, .ref l], []⟩) (fun _ R s => s.heap.get? l = some (PySem.W.instObj C dx) ∧ R (.ok (.ret .notImplemented)) s) :=
  .of_wp fun prog w A R s h => by obtain ⟨hp, g, d, tk, os⟩ := s; obtain ⟨hl, h⟩ := h; unfold PySem.W.instObj at hl; wp_walk using wpAny_loadPart' hl, wpAny_load hl; exact ⟨_, rfl, h⟩
theorem str_declines_ins (b : Str) (u : Tok) (l C dx : Addr) :
    Meets (Builtin.«str.__eq__» ⟨[.str b u, .ref l], []⟩) (fun _ R s => s.heap.get? l = some (PySem.W.instObj C dx) ∧ R (.ok (.ret .notImplemented)) s) :=
  .of_wp fun prog w A R s h => by obtain ⟨hp, g, d, tk, os⟩ := s; obtain ⟨hl, h⟩ := h; unfold PySem.W.instObj at hl; wp_walk using wpAny_loadPart' hl, wpAny_load hl; exact ⟨_, rfl, h⟩
theorem none_declines_ins (l C dx : Addr) :
    Meets (Builtin.«NoneType.__eq__» ⟨[.none, .ref l], []⟩) (fun _ R s => s.heap.get? l = some (PySem.W.instObj C dx) ∧ R (.ok (.ret .notImplemented)) s) :=
  .of_wp fun prog w A R s h => by obtain ⟨hp, g, d, tk, os⟩ := s; obtain ⟨hl, h⟩ := h; wp_walk; exact ⟨_, rfl, h⟩
section
variable {X : Cx} {C g : Addr} {n : Nat} {sp : SpN}
/-- x == y, y of another kind T whose own __eq__ declines, the class's own __eq__ having returned NotImplemented -/
theorem eq_NI {pins : List (Addr × Obj)} {σ : St} {H : Hp} {s : Shared} {a dx : Addr} {fs : List (Str × V)} {y : V} {u : Value} {T id : String} {E : Value → Shared → Prop} {Q : Value → Shared → Prop} {N : NQ} (I : Inv X pins σ H s) (ha : H a = some (.ins C dx fs)) (ry : RelV y u)
    (hop : compareOp .Eq (.ref a) u = richCompare .Eq (.ref a) u) (hs : PySem.W.findIn X.K (.ref C) "__eq__" = some (some (.ref g))) (hf : PySem.W.isFn X.K (.ref g) = true) (F : FnNI X.prog X.w X.K X.mg X.base n g sp) (hr : Room n X.A) (hsub : PySem.W.subIn X.K (.type T) (.ref C) = some false)
    (hT : ∀ s' : Shared, s'.TypeIs u T) (hsl : Slot T "__eq__" id) (hsame : isSame (.ref a) u = pure false) (hxe : X.xe = E)
    (hdec : ∀ (s' : Shared) (Q' : Value → Shared → Prop), s'.heap.get? a = some (PySem.W.instObj C dx) → Q' .notImplemented s' → wpAny (model X.prog X.w) X.A (call (.builtin id) [u, .ref a]) Q' E s')
    (hq : sp [.ref a, y] H N) (hN : ∀ H1, N H1 → H1 a = some (.ins C dx fs) ∧ ∀ s', Inv X pins σ H1 s' → Q (.bool false) s') : wpAny (model X.prog X.w) X.A (compareOp .Eq (.ref a) u) Q E s := by
  subst hxe
  obtain ⟨mA, J, _⟩ := ins_get I.hok ha
  obtain ⟨od, J, _⟩ := J.look
  obtain ⟨m, hF⟩ := I.fr
  have KX : X.K.In s.heap := I.kIn
  have hu := hr.units0
  have one : wpAny (model X.prog X.w) X.A (tryCompare (.ref a) (cmpInfo .Eq).2.1 u) (fun r s' => r = none ∧ ∃ H1, Inv X pins σ H1 s' ∧ H1 a = some (.ins C dx fs) ∧ ∀ s', Inv X pins σ H1 s' → Q (.bool false) s') X.xe s := by
    unfold tryCompare
    refine wpAny_bind (PySem.W.ifBound_K KX J hs hf (wpAny_mono (wpAny_call (run_fnNI (us := [.ref a, u]) (vs := [.ref a, y]) F hr I (.cons rfl (.cons ry .nil)) hq)) (fun v s1 hv => ?_) fun _ _ e => e))
    obtain ⟨rfl, H1, I1, hn⟩ := hv
    exact wpAny_pure ⟨rfl, H1, I1, hN H1 hn⟩
  rw [hop]
  unfold richCompare
  simp only [oneThing_ref]
  refine wpAny_holding (wpAny_bind (wpAny_cRoomFor hu ?_))
  refine wpAny_bind (J.type.here (wpAny_bind (wpAny_typeOf (hT s) ?_)))
  rw [if_pos (show (Value.ref C != Value.type T) = true from by simp)]
  refine wpAny_bind ((PySem.W.looks_subIn KX hsub).here ?_)
  simp only [Bool.false_eq_true, if_false]
  refine wpAny_bind (wpAny_mono one (fun r s1 z => ?_) fun _ _ e => e)
  obtain ⟨rfl, H1, I1, h1, q⟩ := z
  obtain ⟨mB, J1, _⟩ := ins_get I1.hok h1
  simp only [Bool.not_false, if_true]
  refine wpAny_bind (wpAny_tryCompare_declines (hT s1) hsl (hdec s1 _ J1.obj ⟨rfl, ?_⟩))
  refine wpAny_bind (wpAny_rule (wpAny_bind (wpAny_of_eq hsame (wpAny_pure ?_))))
  exact q s1 I1
/-- x == y, y an int, a bool, a text, None: the class's own __eq__ returns NotImplemented -/
def rEqNI (C : Addr) (sp : SpN) : R2 := fun x y H Q => ∃ a dx fs, x = .ref a ∧ H a = some (.ins C dx fs) ∧ ((∃ i, y = .int i) ∨ (∃ b, y = .bl b) ∨ (∃ t, y = .str t) ∨ y = .non) ∧ sp [x, y] H fun H1 => H1 a = some (.ins C dx fs) ∧ Q (.bl false) H1
theorem op_eqNI (hs : PySem.W.findIn X.K (.ref C) "__eq__" = some (some (.ref g))) (hf : PySem.W.isFn X.K (.ref g) = true) (F : FnNI X.prog X.w X.K X.mg X.base n g sp) (hr : Room n X.A)
    (s1 : PySem.W.subIn X.K (.type "int") (.ref C) = some false) (s2 : PySem.W.subIn X.K (.type "bool") (.ref C) = some false) (s3 : PySem.W.subIn X.K (.type "str") (.ref C) = some false) (s4 : PySem.W.subIn X.K (.type "NoneType") (.ref C) = some false) : OpR X (compareOp .Eq) (rEqNI C sp) := by
  intro pins s σ H x y v u Q I rx ry h
  obtain ⟨a, dx, fs, rfl, ha, hy, q⟩ := h
  cases (show v = Value.ref a from rx)
  have fin : ∀ H1, (H1 a = some (.ins C dx fs) ∧ Q (.bl false) H1) → H1 a = some (.ins C dx fs) ∧ ∀ s', Inv X pins σ H1 s' → EP X pins σ Q (.bool false) s' := fun H1 z => ⟨z.1, fun s' J => ⟨.bl false, H1, J, rfl, z.2⟩⟩
  rcases hy with ⟨i, rfl⟩ | ⟨b, rfl⟩ | ⟨t, rfl⟩ | rfl
  · obtain ⟨k, rfl⟩ := (show ∃ t, u = Value.int i t from ry)
    exact eq_NI (T := "int") I ha ry rfl hs hf F hr s1 (fun s' => typeIs_int s' i k) PySem.F.slot_int_eq_refl rfl rfl (fun s' Q' h1 h2 => call_meets PySem.F.slot_int_eq_refl (typeIs_int s' i k) PySem.F.entry_int_eq (PySem.F.args_int_eq_2 _ _) (int_declines_ins i k a C dx) ⟨h1, h2⟩) q fin
  · obtain rfl := (show u = Value.bool b from ry)
    exact eq_NI (T := "bool") I ha ry rfl hs hf F hr s2 (fun _ => rfl) PySem.F.slot_bool_eq_refl rfl rfl (fun s' Q' h1 h2 => call_meets PySem.F.slot_bool_eq_refl rfl PySem.F.entry_int_eq (PySem.F.args_int_eq_2 _ _) (bool_declines_ins b a C dx) ⟨h1, h2⟩) q fin
  · obtain ⟨k, rfl⟩ := (show ∃ k, u = Value.str t k from ry)
    exact eq_NI (T := "str") I ha ry rfl hs hf F hr s3 (fun s' => typeIs_str s' t k) PySem.F.slot_str_eq_refl rfl rfl (fun s' Q' h1 h2 => call_meets PySem.F.slot_str_eq_refl (typeIs_str s' t k) PySem.F.entry_str_eq (PySem.F.args_str_eq_2 _ _) (str_declines_ins t k a C dx) ⟨h1, h2⟩) q fin
  · obtain rfl := (show u = Value.none from ry)
    exact eq_NI (T := "NoneType") I ha ry rfl hs hf F hr s4 (fun _ => rfl) PySem.F.slot_NoneType_eq_refl rfl rfl (fun s' Q' h1 h2 => call_meets PySem.F.slot_NoneType_eq_refl rfl PySem.F.entry_NoneType_eq (PySem.F.args_NoneType_eq_2 _ _) (none_declines_ins a C dx) ⟨h1, h2⟩) q fin
end
end L2
set_option Elab.async false
set_option linter.all false
set_option maxRecDepth 100000
set_option maxHeartbeats 4000000
namespace L2
open PySem PySem.Spec PyProof.Rows
theorem tup_declines_ins {P : Program} {w : World} {K : PySem.W.Frag} (l t C dx : Addr) (items : Array Value) (n : Nat) (dd : Option Addr) (sl : Array (Option Value)) (hs : PySem.W.subIn K (.ref C) (.type "tuple") = some false) :
    MeetsIn P w (Builtin.«tuple.__eq__» ⟨[.ref t, .ref l], []⟩) (fun _ R s => K.In s.heap ∧ s.heap.get? t = some { cls := .type "tuple", dict := dd, data := .seq items n, slots := sl } ∧ s.heap.get? l = some (PySem.W.instObj C dx) ∧ R (.ok (.ret .notImplemented)) s) :=
  .of_wp fun A R s h => by
    obtain ⟨hp, g, d, tk, os⟩ := s
    obtain ⟨hk, ht, hl, h⟩ := h
    have ty : ∀ {Q : Bool → Shared → Prop} {E : Value → Shared → Prop}, Q false ⟨hp, g, d, tk, os⟩ → wpAny (model P w) A.in1 (isInstance (.ref l) (.type "tuple")) Q E ⟨hp, g, d, tk, os⟩ := fun q => by
      unfold isInstance
      exact wpAny_bind (wpAny_typeOf_ref hl (by exact (PySem.W.looks_subIn hk hs).here q))
    wp_walk using wpAny_loadPart' ht, ty
    exact ⟨_, rfl, h⟩
theorem lst_declines_ins {P : Program} {w : World} {K : PySem.W.Frag} (l t C dx : Addr) (items : Array Value) (n : Nat) (dd : Option Addr) (sl : Array (Option Value)) (hs : PySem.W.subIn K (.ref C) (.type "list") = some false) :
    MeetsIn P w (Builtin.«list.__eq__» ⟨[.ref t, .ref l], []⟩) (fun _ R s => K.In s.heap ∧ s.heap.get? t = some { cls := .type "list", dict := dd, data := .seq items n, slots := sl } ∧ s.heap.get? l = some (PySem.W.instObj C dx) ∧ R (.ok (.ret .notImplemented)) s) :=
  .of_wp fun A R s h => by
    obtain ⟨hp, g, d, tk, os⟩ := s
    obtain ⟨hk, ht, hl, h⟩ := h
    have ty : ∀ {Q : Bool → Shared → Prop} {E : Value → Shared → Prop}, Q false ⟨hp, g, d, tk, os⟩ → wpAny (model P w) A.in1 (isInstance (.ref l) (.type "list")) Q E ⟨hp, g, d, tk, os⟩ := fun q => by
      unfold isInstance
      exact wpAny_bind (wpAny_typeOf_ref hl (by exact (PySem.W.looks_subIn hk hs).here q))
    wp_walk using wpAny_loadPart' ht, ty
    exact ⟨_, rfl, h⟩
theorem same_ins {M : Model} {A : Around} {E : Value → Shared → Prop} {s : Shared} {a t C dx : Addr} {o : Obj} {Q : Bool → Shared → Prop} (ha : s.heap.get? a = some (PySem.W.instObj C dx)) (ht : s.heap.get? t = some o) (n : a ≠ t) (q : Q false s) : wpAny M A (isSame (.ref a) (.ref t)) Q E s := by
  unfold isSame
  dsimp only
  rw [if_neg (by simpa using n)]
  refine wpAny_bind (wpAny_load ha (wpAny_bind (wpAny_load ht ?_)))
  exact wpAny_pure q
section
variable {X : Cx} {C g : Addr} {n : Nat} {sp : SpN}
theorem SqT_same {K : PySem.W.Frag} {H H1 : Hp} {t : Addr} {xs : List V} (e : Same H H1) (h : SqT K H t xs) : SqT K H1 t xs := by
  rcases h with (h | ⟨o', h⟩) | h
  · exact .inl (.inl (e _ _ h))
  · exact .inl (.inr ⟨o', e _ _ h⟩)
  · exact .inr h
/-- as eq_NI, y an object of the heap -/
theorem eq_NIr {pins : List (Addr × Obj)} {σ : St} {H : Hp} {s : Shared} {a t dx : Addr} {fs : List (Str × V)} {T id : String} {Q : Value → Shared → Prop} {N : NQ} (I : Inv X pins σ H s) (ha : H a = some (.ins C dx fs))
    (hop : compareOp .Eq (.ref a) (.ref t) = richCompare .Eq (.ref a) (.ref t)) (hs : PySem.W.findIn X.K (.ref C) "__eq__" = some (some (.ref g))) (hf : PySem.W.isFn X.K (.ref g) = true) (F : FnNI X.prog X.w X.K X.mg X.base n g sp) (hr : Room n X.A) (hsub : PySem.W.subIn X.K (.type T) (.ref C) = some false)
    (hT : s.TypeIs (.ref t) T) (hsl : Slot T "__eq__" id) (hq : sp [.ref a, .ref t] H N)
    (hN : ∀ H1 s1, N H1 → Inv X pins σ H1 s1 → s1.TypeIs (.ref t) T ∧ wpAny (model X.prog X.w) X.A (call (.builtin id) [.ref t, .ref a]) (fun v s2 => v = .notImplemented ∧ wpAny (model X.prog X.w) X.A (isSame (.ref a) (.ref t)) (fun b s3 => Q (.bool b) s3) X.xe s2) X.xe s1) : wpAny (model X.prog X.w) X.A (compareOp .Eq (.ref a) (.ref t)) Q X.xe s := by
  obtain ⟨mA, J, _⟩ := ins_get I.hok ha
  obtain ⟨od, J, _⟩ := J.look
  obtain ⟨m, hF⟩ := I.fr
  have KX : X.K.In s.heap := I.kIn
  have hu := hr.units0
  have one : wpAny (model X.prog X.w) X.A (tryCompare (.ref a) (cmpInfo .Eq).2.1 (.ref t)) (fun r s' => r = none ∧ ∃ H1, Inv X pins σ H1 s' ∧ N H1) X.xe s := by
    unfold tryCompare
    refine wpAny_bind (PySem.W.ifBound_K KX J hs hf (wpAny_mono (wpAny_call (run_fnNI (us := [.ref a, .ref t]) (vs := [.ref a, .ref t]) F hr I (.cons rfl (.cons rfl .nil)) hq)) (fun v s1 hv => ?_) fun _ _ e => e))
    obtain ⟨rfl, H1, I1, hn⟩ := hv
    exact wpAny_pure ⟨rfl, H1, I1, hn⟩
  rw [hop]
  unfold richCompare
  simp only [oneThing_ref]
  refine wpAny_holding (wpAny_bind (wpAny_cRoomFor hu ?_))
  refine wpAny_bind (J.type.here (wpAny_bind (wpAny_typeOf hT ?_)))
  rw [if_pos (show (Value.ref C != Value.type T) = true from by simp)]
  refine wpAny_bind ((PySem.W.looks_subIn KX hsub).here ?_)
  simp only [Bool.false_eq_true, if_false]
  refine wpAny_bind (wpAny_mono one (fun r s1 z => ?_) fun _ _ e => e)
  obtain ⟨rfl, H1, I1, hn⟩ := z
  obtain ⟨hT1, hc⟩ := hN H1 s1 hn I1
  simp only [Bool.not_false, if_true]
  refine wpAny_bind (wpAny_tryCompare_declines hT1 hsl (wpAny_mono hc (fun v s2 h2 => ⟨h2.1, ?_⟩) fun _ _ e => e))
  exact wpAny_bind (wpAny_rule (wpAny_bind (wpAny_mono h2.2 (fun _ _ z => wpAny_pure z) fun _ _ e => e)))
/-- x == y, y a tuple or a list -/
def rEqNIs (K : PySem.W.Frag) (C : Addr) (sp : SpN) : R2 := fun x y H Q => ∃ a dx fs t xs, x = .ref a ∧ y = .ref t ∧ H a = some (.ins C dx fs) ∧ (SqT K H t xs ∨ SqL K H t xs) ∧ sp [x, y] H fun H1 => Same H H1 ∧ Q (.bl false) H1
theorem op_eqNIs (hs : PySem.W.findIn X.K (.ref C) "__eq__" = some (some (.ref g))) (hf : PySem.W.isFn X.K (.ref g) = true) (F : FnNI X.prog X.w X.K X.mg X.base n g sp) (hr : Room n X.A) (s1 : PySem.W.subIn X.K (.type "tuple") (.ref C) = some false) (s2 : PySem.W.subIn X.K (.type "list") (.ref C) = some false)
    (c1 : PySem.W.subIn X.K (.ref C) (.type "tuple") = some false) (c2 : PySem.W.subIn X.K (.ref C) (.type "list") = some false) : OpR X (compareOp .Eq) (rEqNIs X.K C sp) := by
  intro pins s σ H x y v u Q I rx ry h
  obtain ⟨a, dx, fs, t, xs, rfl, rfl, ha, hsq, q⟩ := h
  cases (show v = Value.ref a from rx)
  cases (show u = Value.ref t from ry)
  have mem : ∀ {H1 : Hp} {s1 : Shared}, Inv X pins σ H1 s1 → H1 a = some (.ins C dx fs) → s1.heap.get? a = some (PySem.W.instObj C dx) := fun I1 h1 => by
    obtain ⟨_, J1, _⟩ := ins_get I1.hok h1
    exact J1.obj
  rcases hsq with hS | hS
  · obtain ⟨its, _, ⟨o, ho, hc, hd⟩, _⟩ := I.tuple hS
    refine eq_NIr (T := "tuple") (N := fun H1 => Same H H1 ∧ Q (.bl false) H1) I ha rfl hs hf F hr s1 ⟨o, ho, hc⟩ PySem.F.slot_tuple_eq q fun H1 s1' hn I1 => ?_
    obtain ⟨its1, _, ⟨⟨cls, dd, data, sl⟩, ho1, hc1, n1, hd1⟩, _⟩ := I1.tuple (SqT_same hn.1 hS)
    simp only at hc1 hd1
    subst hc1 hd1
    have h1 := mem I1 (hn.1 _ _ ha)
    have ne : a ≠ t := fun z => by rw [z, ho1] at h1; cases h1
    exact ⟨⟨_, ho1, rfl⟩, call_meetsIn PySem.F.slot_tuple_eq ⟨_, ho1, rfl⟩ PySem.F.entry_tuple_eq (PySem.F.args_tuple_eq_2 _ _) (tup_declines_ins a t C dx _ _ _ _ c1) ⟨I1.kIn, ho1, h1, rfl, same_ins h1 ho1 ne ⟨.bl false, H1, I1, rfl, hn.2⟩⟩⟩
  · obtain ⟨its, _, pl, _⟩ := I.list hS
    obtain ⟨o, ho, hc, hd⟩ := pl.isList
    refine eq_NIr (T := "list") (N := fun H1 => Same H H1 ∧ Q (.bl false) H1) I ha rfl hs hf F hr s2 ⟨o, ho, hc⟩ PySem.F.slot_list_eq q fun H1 s1' hn I1 => ?_
    obtain ⟨its1, _, pl1, _⟩ := I1.list (Same.seq hn.1 hS)
    obtain ⟨⟨cls, dd, data, sl⟩, ho1, hc1, n1, hd1⟩ := pl1.isList
    simp only at hc1 hd1
    subst hc1 hd1
    have h1 := mem I1 (hn.1 _ _ ha)
    have ne : a ≠ t := fun z => by rw [z, ho1] at h1; cases h1
    exact ⟨⟨_, ho1, rfl⟩, call_meetsIn PySem.F.slot_list_eq ⟨_, ho1, rfl⟩ PySem.F.entry_list_eq (PySem.F.args_list_eq_2 _ _) (lst_declines_ins a t C dx _ _ _ _ c2) ⟨I1.kIn, ho1, h1, rfl, same_ins h1 ho1 ne ⟨.bl false, H1, I1, rfl, hn.2⟩⟩⟩
end
end L2
set_option Elab.async false
set_option linter.all false
set_option maxRecDepth 100000
set_option maxHeartbeats 4000000
namespace K01
open PySem PySem.Spec PyProof.Rows L2
section
variable {P : Program} {w : World} {K : PySem.W.Frag} {mg : Str → Option Value} {base : Heap}
/-! ### Ratio == what is no ratio: NotImplemented -/
def spNeqR (K : PySem.W.Frag) (C : Addr) : SpN := fun vs H Q => ∃ (x y : V) (t : Value), vs = [x, y] ∧ TyX K H y t ∧ PySem.W.kitOne K t (.ref C) = some false ∧ Q H
theorem ok_neqR {f : Addr} {fd : FuncData} {C CI : Addr} (F : FnM K "__eq__" "Ratio.__eq__" (methOf (top 13) 6) f fd) (c_Ratio : RatioC P w K mg base C CI) (m_isinstance : mg "isinstance" = none) (m_NI : mg "NotImplemented" = none) : FnNI P w K mg base 1 f (spNeqR K C) := by
  have sc := sc_eqR
  have bd := F.bindsN (ps := ["self", "other"]) fun _ _ _ _ _ _ us hl => match us, hl with | [_, _], _ => rfl
  obtain ⟨oc, od, dV, kV, doc, pm, an, cdv, ct, osl, rfl, lk, hcd, _, _⟩ := F.ex
  refine fnN_of lk hcd sc bd (fun vs H Q h => ?_) (fun A outer s H vs Q hr h => ?_)
  · obtain ⟨x, y, t, rfl, _⟩ := h
    rfl
  · obtain ⟨x, y, t, rfl, hy, hk, q⟩ := h
    refine ⟨_, psns_head (psn_if (pt_not (pt_val (pe_callB call_isi (by rfl) m_isinstance (by decide +kernel) (pa_cons (pv 1) (pa_cons (pe_glob (v := .ref C) rfl c_Ratio.gC rfl) pa_nil))))) (psns_head (psn_ret rfl m_NI)) psns_never), ?_⟩
    exact ⟨_, rfl, _, _, _, _, _, rfl, .own _, hy, hk, _, rfl, iteT q⟩
end
end K01
set_option Elab.async false
set_option linter.all false
set_option maxRecDepth 100000
set_option maxHeartbeats 4000000
namespace K01
open PySem PySem.Spec PyProof.Rows L2
section
variable {P : Program} {w : World} {K : PySem.W.Frag} {mg : Str → Option Value} {base : Heap}
def spOf : Sp := fun vs H Q _ => ∃ (g : Bg) (t : Addr) (xs : List V), vs = [.ref g.b, .ref t] ∧ Bag g H ∧ H t = some (.lst xs) ∧ t ≠ g.b ∧ 1 ≤ xs.length ∧ xs.length < 1000 ∧ ∀ v H', v ∈ xs → Drew g H H' → Q v H'
theorem sc_of : FnScope ["_law_bag_here", "_law_things"] ["_law_bag_here", "_law_things"] (defScope (top 29)) := ⟨rfl, rfl, rfl, by decide +kernel, rfl, by decide +kernel, by decide +kernel⟩
theorem ok_of {f : Addr} {fd : FuncData} (F : FnP K "_law_of" (top 29) f fd) (m_len : mg "len" = none) (c__law_draw : Cal P w K mg base CX0 "_law_draw" 1 ["_law_bag_here", "_law_many"] spDraw) : FnOk P w K mg base CX0 2 f fd ["_law_bag_here", "_law_things"] spOf := by
  have sc := sc_of
  refine F.ok sc (fun vs H Q E h => ?_) (fun cdv A outer s H vs Q E hr__law_draw h => ?_)
  · obtain ⟨g, t, xs, rfl, _⟩ := h
    rfl
  · obtain ⟨g, t, xs, rfl, hB, ht, ntb, h1, h2, k⟩ := h
    refine ⟨_, PSs.nox (pss_one (ps_ret (pe_ix ix_list (pv 1) (pe_cal c__law_draw hr__law_draw rfl (pa_cons (pv 0) (pa_cons (pe_callB call_len_seq (by rfl) m_len (by decide +kernel) (pa_cons (pv 1) pa_nil)) pa_nil))) (fun _ _ => rfl)))), ?_⟩
    refine ⟨_, rfl, _, rfl, _, rfl, t, _, rfl, .inl (SqL.of ht), g, _, rfl, hB, (by omega), (by omega), fun d H' hD h0 hd => ?_⟩
    obtain ⟨j, rfl⟩ : ∃ j : Nat, d = (j : Int) := ⟨d.toNat, by omega⟩
    have hlt : j < xs.length := by omega
    have hat : atI xs (j : Int) = some xs[j] := atI_nat (List.getElem?_eq_getElem hlt)
    exact ⟨t, xs, _, _, rfl, rfl, SqL.of (hD.1 _ _ ntb ht), hat, k _ _ (List.getElem_mem hlt) hD⟩
end
end K01
set_option Elab.async false
set_option linter.all false
set_option maxRecDepth 100000
set_option maxHeartbeats 4000000
namespace K01
open PySem PySem.Spec PyProof.Rows L2
section
variable {P : Program} {w : World} {K : PySem.W.Frag} {mg : Str → Option Value} {base : Heap}
def spBag (K : PySem.W.Frag) : Sp := fun vs H Q _ => ∃ (a : Addr) (ns : List Int), vs = [.ref a] ∧ SqL K H a (ns.map V.int) ∧ ns.length ≤ 63 ∧ ∀ g H', Same H H' → H g.b = none → Bag g H' → Q (.ref g.b) H'
theorem sc_bag : FnScope ["_law_script", "_law_seed", "_law_item"] ["_law_script"] (defScope (top 27)) := ⟨rfl, rfl, rfl, by decide +kernel, rfl, by decide +kernel, by decide +kernel⟩
theorem cut63 {ns : List Int} (h : ns.length ≤ 63) : cutV (ns.map V.int) none (some 63) = ns.map V.int := by
  unfold cutV
  have e0 : HT.sIx (ns.map V.int).length 0 none = 0 := HT.sIx_none _ _
  have e1 : HT.sIx (ns.map V.int).length (ns.map V.int).length (some 63) = min 63 (ns.map V.int).length := HT.sIx_nat _ _ 63
  rw [e0, e1, List.drop_zero, List.length_map, Nat.min_eq_right h, Nat.sub_zero]
  exact List.take_of_length_le (by rw [List.length_map]; exact Nat.le_refl _)
theorem ok_bag {f : Addr} {fd : FuncData} (F : FnP K "_law_bag" (top 27) f fd) (m_int : mg "int" = none) (m_list : mg "list" = none) : FnOk P w K mg base CX0 1 f fd ["_law_script"] (spBag K) := by
  have sc := sc_bag
  refine F.ok sc (fun vs H Q E h => ?_) (fun cdv A outer s H vs Q E hr h => ?_)
  · obtain ⟨a, ns, rfl, _⟩ := h
    rfl
  · obtain ⟨a, ns, rfl, hS, hl, k⟩ := h
    refine ⟨_, PSs.nox (pss_cons (ps_set (i := 1) sc.nd rfl (Or.inl rfl) pe_int)
      (pss_cons (ps_for PassesOwn.never rfl (pi_list (pe_slice sl_list (pv 0) po_none (po_some pe_int))) (pg_name (i := 2) sc.nd rfl (Or.inl rfl)) (pss_one (ps_set (i := 1) sc.nd rfl (Or.inl rfl) (pe_op op_mod (pe_callTy call_int1 (by rfl) m_int (by decide +kernel) (pa_cons (pe_op op_add (pe_op op_add (pe_op op_mul (pv 1) pe_int) (pe_op op_mod (pe_callTy call_int1 (by rfl) m_int (by decide +kernel) (pa_cons (pv 2) pa_nil)) pe_int)) pe_int) pa_nil)) pe_int))))
      (pss_one (ps_ret (pe_lst (pa_cons (pe_callTy call_list_of (by rfl) m_list (by decide +kernel) (pa_cons (pe_slice sl_list (pv 0) po_none (po_some pe_int)) pa_nil)) (pa_cons pe_int (pa_cons pe_int (pa_cons (pv 1) (pa_cons pe_int pa_nil)))))))))), ?_⟩
    refine ⟨_, rfl, 63, rfl, _, _, rfl, hS, fun p hp => ?_⟩
    have s1 : Same H (upd H p (.lst (cutV (ns.map V.int) none (some 63)))) := Same.new hp
    rw [cut63 hl] at s1 ⊢
    refine ⟨p, rfl, ⟨_, SqL.of upd_same⟩, for_list (K := K) (a := p) (xs := ns.map V.int) (fun i σ H' => ∃ (z : Int) (v : Option V), σ = [some (.ref a), some (.int z), v] ∧ H' = upd H p (.lst (ns.map V.int)) ∧ 0 ≤ z ∧ z < 2147483629) ⟨12046, none, rfl, rfl, by decide, by decide⟩ (fun i σ H' _ ⟨_, _, _, e, _⟩ => by rw [e]; exact SqL.of upd_same) ?_ ?_⟩
    · rintro i y σ H' hi ⟨z, v, rfl, rfl, h0, h1⟩
      obtain ⟨u, rfl⟩ : ∃ u, y = V.int u := by
        rw [List.getElem?_map] at hi
        cases e : ns[i]? with
        | none =>
          rw [e] at hi
          cases hi
        | some u =>
          rw [e] at hi
          exact ⟨u, (Option.some.inj hi).symm⟩
      refine ⟨_, rfl, _, _, rfl, rfl, .inr ⟨by decide, by decide⟩, _, rfl, .inl ⟨_, rfl, _, _, rfl, rfl, (by show (0 : Int) < 2147483587; decide), _, _, rfl, rfl, _, _, rfl, rfl, .inl ⟨_, rfl, _, _, rfl, rfl, (by show (0 : Int) < 2147483629; decide), ?_⟩⟩⟩
      exact ⟨_, _, rfl, rfl, Int.emod_nonneg _ (by decide), Int.emod_lt_of_pos _ (by decide)⟩
    · rintro σ H' ⟨z, v, rfl, rfl, h0, h1⟩
      refine ⟨_, rfl, 63, rfl, _, _, rfl, s1.seq hS, fun q hq => ?_⟩
      rw [cut63 hl]
      have s2 : Same H (upd (upd H p (.lst (ns.map V.int))) q (.lst (ns.map V.int))) := s1.trans (Same.new hq)
      refine ⟨q, _, rfl, .inl (SqL.of upd_same), fun l hL => ?_⟩
      refine ⟨_, rfl, (by show 5 ≤ sizeLine; decide), fun b hb => ?_⟩
      have s3 := s2.trans (Same.new (o := .lst (ns.map V.int)) hL)
      refine k ⟨b, l, ns⟩ _ (s3.trans (Same.new hb)) (s3.free hb) ⟨0, 0, z, 0, upd_same, ?_, ?_, hl, Nat.zero_le _, Int.le_refl _, h0, h1⟩
      · show upd _ b _ l = _
        rw [upd_ne (ne_of_none upd_same hb)]
        exact upd_same
      · exact ne_of_none upd_same hb
end
end K01
set_option Elab.async false
set_option linter.all false
set_option maxRecDepth 100000
set_option maxHeartbeats 4000000
/-! a lambda of one parameter with a default, called without arguments -/
namespace LamX
open PySem PySem.Spec PySem.W PyProof.Rows L2
/-- its function, the defaults at dV -/
abbrev fnT (qual : Str) (params : Arguments) (body : Expr) (scope : Scope) (cl : List (Str × Addr)) (pm cdv ct dV : Value) : FuncData := { kla_fn "<lambda>" qual params body scope cl pm cdv ct with defaults := dV }
abbrev objT (qual : Str) (params : Arguments) (body : Expr) (scope : Scope) (cl : List (Str × Addr)) (pm cdv ct dV : Value) : Obj := { cls := .type "function", data := .func (fnT qual params body scope cl pm cdv ct dV) }
section
variable {M : Model} {A : Around} {E : Value → Shared → Prop} {s : Shared} {qual : Str} {params : Arguments} {body : Expr} {scope : Scope} {env : Env} {c P : Addr} {ps : Array Value} {pos : Pos} {line : Nat} {mg : Str → Option Value} {clos : List (Str × Addr)} {Q : Value → Shared → Prop} {dV : Value}
theorem tailD (e1 : closureFor scope env = pure clos) (e2 : env.globals = mainGlobals) (g : s.heap.Ns mainGlobals mg) (e3 : env.code = .ref c) (C : CodeHd s.heap c P) (tP : s.heap.get? P = some (tabObj ps)) (t3 : TriplesOk ps.toList) (gP : mainGlobals ≠ P) (B : s.heap.BuiltinsAt mg P)
    (knew : codeAmong pos ps.toList = none → ∀ (c' : Addr) (ct : Value) (h' : Heap) (tk : Tok), Heap.ExtBut P s.heap h' → s.heap.objs.size ≤ c' → c' < h'.objs.size → h'.CodeRec (.ref c') qual → h'.get? P = some (tabObj (ps ++ #[rawInt pos.line, rawInt pos.col, .ref c'])) →
      Q (.ref h'.objs.size) { s with heap := h'.push (objT qual params body scope clos ((mg "__name__").getD .none) (.ref c') ct dV), toks := tk })
    (kold : ∀ cv, codeAmong pos ps.toList = some cv → ∀ (ct : Value) (h' : Heap) (tk : Tok), (∀ b o, s.heap.get? b = some o → h'.get? b = some o) → s.heap.objs.size ≤ h'.objs.size →
      Q (.ref h'.objs.size) { s with heap := h'.push (objT qual params body scope clos ((mg "__name__").getD .none) cv ct dV), toks := tk }) :
    wpAny M A (makeTail "<lambda>" qual params (.expr body) scope env dV .none none pos line) Q E s := by
  obtain ⟨bm, ob, m1, m2, _, m3, m4, m5, m6, m7⟩ := B
  unfold makeTail
  rw [e1, e2]
  refine wpAny_bind (wpAny_pure ?_)
  cases clos with
  | nil =>
    simp only [List.isEmpty_nil, if_true]
    refine wpAny_bind (wpAny_pure ?_)
    cases hc : codeAmong pos ps.toList with
    | none =>
      refine wpAny_bind (wpAny_functionCodeX e3 (C.code tP t3) (C.tab tP) hc fun c' h' tk x ge lt _ cr tb _ => ?_)
      have g' := g.extBut x gP
      refine wpAny_bind (wpAny_builtinsFor g' m1 m2 (x _ _ m3 m4) m5 m6 m7 (wpAny_bind (wpAny_nsGet g' (wpAny_bind (wpAny_pure (wpAny_newObj_type ?_ (by size_fits)))))))
      exact knew hc c' .none h' tk x ge lt cr tb.2
    | some cv =>
      refine wpAny_bind (wpAny_functionCode_hit e3 (C.code tP t3) hc ?_)
      refine wpAny_bind (wpAny_builtinsFor g m1 m2 m4 m5 m6 m7 (wpAny_bind (wpAny_nsGet g (wpAny_bind (wpAny_pure (wpAny_newObj_type ?_ (by size_fits)))))))
      exact kold cv hc .none s.heap s.toks (fun _ _ e => e) (Nat.le_refl _)
  | cons q r =>
    simp only [List.isEmpty_cons, Bool.false_eq_true, if_false]
    refine wpAny_bind (wpAny_newTextTuple ?_)
    have up : ∀ {b : Addr} {o oT : Obj}, s.heap.get? b = some o → (s.heap.push oT).get? b = some o := fun e => Heap.get?_push_of_some _ e
    have sz : ∀ oT : Obj, s.heap.objs.size ≤ (s.heap.push oT).objs.size := fun oT => by rw [Heap.size_push]; exact Nat.le_succ _
    have C' : ∀ oT : Obj, CodeHd (s.heap.push oT) c P := fun oT => C.keeps fun _ _ e => up e
    cases hc : codeAmong pos ps.toList with
    | none =>
      refine wpAny_bind (wpAny_functionCodeX e3 ((C' _).code (up tP) t3) ((C' _).tab (up tP)) hc fun c' h' tk x ge lt _ cr tb _ => ?_)
      have g' := (g.push _).extBut x gP
      have x' : Heap.ExtBut P s.heap h' := fun b o nb e => x b o nb (up e)
      refine wpAny_bind (wpAny_builtinsFor g' m1 m2 (x' _ _ m3 m4) m5 m6 m7 (wpAny_bind (wpAny_nsGet g' (wpAny_bind (wpAny_pure (wpAny_newObj_type ?_ (by size_fits)))))))
      exact knew hc c' _ h' tk x' (Nat.le_trans (sz _) ge) lt cr tb.2
    | some cv =>
      refine wpAny_bind (wpAny_functionCode_hit e3 ((C' _).code (up tP) t3) hc ?_)
      refine wpAny_bind (wpAny_builtinsFor (g.push _) m1 m2 (up m4) m5 m6 m7 (wpAny_bind (wpAny_nsGet (g.push _) (wpAny_bind (wpAny_pure (wpAny_newObj_type ?_ (by size_fits)))))))
      exact kold cv hc _ _ s.toks (fun _ _ e => up e) (sz _)
end
section
variable {X : Cx} {pins : List (Addr × Obj)} {σ : L2.St} {H : Hp} {s : Shared}
/-- the lambda is made; its defaults stand in the tuple at T, which nobody tracks -/
theorem lam_makeD {T : List (Addr × Str)} {c P : Addr} {params : Arguments} {body : Expr} {scope : Scope} {pos dp : Pos} {z : Int} {jz : Nat} {E : Value → Shared → Prop} {Q : Value → Shared → Prop} (I : Inv X pins σ H s) (TB : TabB X.base X.mg c P) (hcode : X.env.code = .ref c)
    (hm : (P, X.env.qual ++ "<lambda>") ∈ T) (hu : ∀ p ∈ T, p.1 = P → p.2 = X.env.qual ++ "<lambda>") (hT : Tabs T H) (hdef : defaultsOf params X.env = ([eval (.Constant (.int z) jz dp) X.env], [])) (hkw : params.kwonlyargs = []) (hfree : ∀ y ∈ scope.names, y.2 = .free → ∃ c, X.env.cells.lookup y.1 = some c)
    (h : ∀ (f c' D : Addr) (pm ct : Value) (u : Tok) (H1 : Hp) (s' : Shared), Inv X pins σ H1 s' → ExtN H H1 → Tabs T H1 →
      s'.heap.get? f = some (objT (X.env.qual ++ "<lambda>") params body scope (cloFrom X.env.cells scope.names []) pm (.ref c') ct (.ref D)) → H1 f = none → f ∉ frs X.stack → s'.heap.get? D = some { cls := .type "tuple", data := .seq #[.int z u] } → H1 D = none → D ∉ frs X.stack → H1 c' = some (CodeO c' (X.env.qual ++ "<lambda>")) → Q (.ref f) s') :
    wpAny (model X.prog X.w) X.A (eval (.Lambda params body scope pos) X.env) Q E s := by
  obtain ⟨ps, hP, h3, ha⟩ := hT _ hm
  rw [arm_eval_Lambda, hdef]
  show wpAny _ _ (do let dv ← evalAll [eval (.Constant (.int z) jz dp) X.env]; let kdv ← holding dv (evalAllOpt []); makeFunction "<lambda>" (X.env.qual ++ "<lambda>") params (.expr body) scope X.env dv kdv [] pos pos.line) Q E s
  refine wpAny_bind (PySem.wpAny_evalAll_cons (wpAny_Constant_int ?_))
  refine wpAny_evalAll_nil (wpAny_bind (wpAny_holding (wpAny_pure ?_)))
  rw [makeFunction_eq]
  simp only [hkw, List.zip_nil_right, List.filterMap_nil, List.isEmpty_nil, List.isEmpty_cons, Bool.false_eq_true, if_true, if_false, pure_bind]
  refine wpAny_bind (wpAny_newTextTuple ?_)
  have I2 : Inv X pins σ H { s with heap := s.heap.push { cls := .type "tuple", data := .seq #[.int z s.toks] }, toks := s.toks + 1 } := I.kept fun b o e => Heap.get?_push_of_some _ e
  have nD : H s.heap.objs.size = none := I.hok.fresh (Nat.le_refl _)
  have gD : (s.heap.push { cls := .type "tuple", data := .seq #[.int z s.toks] }).get? s.heap.objs.size = some { cls := .type "tuple", data := .seq #[.int z s.toks] } := Heap.get?_push_size _ rfl
  generalize hh : s.heap.push { cls := .type "tuple", data := .seq #[.int z s.toks] } = h2 at I2 gD
  have hsz : s.heap.objs.size < h2.objs.size := by
    rw [← hh, Heap.size_push]
    exact Nat.lt_succ_self _
  have young : ∀ b, s.heap.objs.size ≤ b → b ∉ frs X.stack := fun b hb y => by
    rcases List.mem_cons.mp (I.stkSub _ y) with e | e
    · have := I.lt
      rw [← e] at this
      exact Nat.lt_irrefl _ (Nat.lt_of_lt_of_le this hb)
    · exact I.nofs hb e
  have tP : h2.get? P = some { cls := .none, data := .fields ps } := I2.hok P _ hP
  refine tailD (mg := X.mg) (c := c) (P := P) (ps := ps) (closure_ok hfree) I.ok.glob (I2.mod.glob.keeps I2.bk) hcode (TB.code.keeps I2.bk) tP h3 TB.gP (TB.bm.keeps I2.bk) (fun _ c' ct h' tk x ge lt cr tb => ?_) (fun cv hc ct h' tk x sz => ?_)
  · obtain ⟨c2, oc, vs, t, ec, o1, o2, o3⟩ := cr
    cases ec
    have ge' : s.heap.objs.size ≤ c' := Nat.le_trans (Nat.le_of_lt hsz) ge
    have nC : H c' = none := I2.hok.fresh ge
    have nPD : s.heap.objs.size ≠ P := fun e => by
      rw [e, hP] at nD
      cases nD
    have I3 := inv_table (t' := tk) (more := #[rawInt pos.line, rawInt pos.col, .ref c']) (h' := h'.push (objT (X.env.qual ++ "<lambda>") params body scope (cloFrom X.env.cells scope.names []) ((X.mg "__name__").getD .none) (.ref c') ct (.ref s.heap.objs.size))) I2 hP
      (fun b o nb e => Heap.get?_push_of_some _ (x b o nb e)) (Heap.get?_push_of_some _ tb) ge ⟨oc, vs, t, Heap.get?_push_of_some _ o1, o2, o3⟩
    have ext : ExtN H (upd (upd H P (.tbl (ps ++ #[rawInt pos.line, rawInt pos.col, .ref c']))) c' (CodeO c' (X.env.qual ++ "<lambda>"))) := fun b o e n => by
      rw [upd_ne (ne_of_none e nC), upd_ne (fun y => n ps (Option.some.inj (e.symm.trans (by rw [y]; exact hP))))]
      exact e
    have app : (ps ++ #[rawInt pos.line, rawInt pos.col, .ref c']).toList = ps.toList ++ [rawInt pos.line, rawInt pos.col, .ref c'] := by simp
    have lt2 : h2.objs.size ≤ h'.objs.size := Nat.le_trans ge (Nat.le_of_lt lt)
    have none_ : ∀ b, s.heap.objs.size ≤ b → b ≠ c' → upd (upd H P (.tbl (ps ++ #[rawInt pos.line, rawInt pos.col, .ref c']))) c' (CodeO c' (X.env.qual ++ "<lambda>")) b = none := fun b hb n => by
      have nb : H b = none := I.hok.fresh hb
      rw [upd_ne n, upd_ne (fun y => by rw [y, hP] at nb; cases nb)]
      exact nb
    refine h h'.objs.size c' s.heap.objs.size ((X.mg "__name__").getD .none) ct s.toks _ _ I3 ext (fun p hp => ?_) (Heap.get?_push_size _ rfl) (none_ _ (Nat.le_trans (Nat.le_of_lt hsz) lt2) (Nat.ne_of_gt lt)) (young _ (Nat.le_trans (Nat.le_of_lt hsz) lt2)) (Heap.get?_push_of_some _ (x _ _ nPD gD)) (none_ _ (Nat.le_refl _) (Nat.ne_of_lt (Nat.lt_of_lt_of_le hsz ge))) (young _ (Nat.le_refl _)) upd_same
    by_cases hb : p.1 = P
    · rw [hu p hp hb, hb]
      refine ⟨_, by rw [upd_ne (ne_of_none hP nC), upd_same], by rw [app]; exact PySem.TriplesOk_snoc _ _ _ _ h3, fun p' cv hcv => ?_⟩
      rw [app] at hcv
      exact (among_app _ h3 hcv).elim (fun y => (ha p' cv y).imp fun c0 w => ⟨w.1, ext _ _ w.2 codeO_ne⟩) fun y => ⟨c', y, upd_same⟩
    · obtain ⟨qs, a1, a2, a3⟩ := hT p hp
      exact ⟨qs, by rw [upd_ne (ne_of_none a1 nC), upd_ne hb]; exact a1, a2, fun p' cv hcv => (a3 p' cv hcv).imp fun c0 w => ⟨w.1, ext _ _ w.2 codeO_ne⟩⟩
  · obtain ⟨c', e, hco⟩ := ha pos cv hc
    subst e
    have I3 : Inv X pins σ H { s with heap := h'.push (objT (X.env.qual ++ "<lambda>") params body scope (cloFrom X.env.cells scope.names []) ((X.mg "__name__").getD .none) (.ref c') ct (.ref s.heap.objs.size)), toks := tk } := I2.kept fun b o e => Heap.get?_push_of_some _ (x b o e)
    exact h h'.objs.size c' s.heap.objs.size ((X.mg "__name__").getD .none) ct s.toks H _ I3 (ExtN.refl H) hT (Heap.get?_push_size _ rfl) (I2.hok.fresh sz) (young _ (Nat.le_trans (Nat.le_of_lt hsz) sz)) (Heap.get?_push_of_some _ (x _ _ gD)) nD (young _ (Nat.le_refl _)) hco
end
/-- one own name, the parameter a, which the def around does not have -/
structure LamSD (N : List Str) (a : Str) (sc scope : Scope) : Prop where
  kind : scope.kind = .function
  co : scope.isCoroutine = false
  gen : scope.isGenerator = false
  own : ∀ y ∈ scope.names, (y.2 = .local → y.1 = a) ∧ y.2 ≠ .cell
  par : scope.names.lookup a = some .local
  out : a ∉ N
  free : ∀ y ∈ scope.names, y.2 = .free → sc.names.lookup y.1 = some .cell ∨ sc.names.lookup y.1 = some .free
def lamSDB (N : List Str) (a : Str) (sc scope : Scope) : Bool :=
  decide (scope.kind = .function) && (!scope.isCoroutine && (!scope.isGenerator && ((scope.names.all fun y => (!decide (y.2 = .local) || decide (y.1 = a)) && (!decide (y.2 = .cell) && (!decide (y.2 = .free) || (decide (sc.names.lookup y.1 = some .cell) || decide (sc.names.lookup y.1 = some .free))))) && (decide (scope.names.lookup a = some .local) && decide (a ∉ N)))))
theorem lamSD_by {N : List Str} {a : Str} {sc scope : Scope} (h : lamSDB N a sc scope = true) : LamSD N a sc scope := by
  unfold lamSDB at h
  simp only [Bool.and_eq_true, Bool.or_eq_true, Bool.not_eq_true', decide_eq_true_eq, decide_eq_false_iff_not, List.all_eq_true] at h
  obtain ⟨h1, h2, h3, h4, h5, h6⟩ := h
  exact ⟨h1, h2, h3, fun y hy => ⟨fun e => (h4 y hy).1.elim (fun n => absurd e n) id, (h4 y hy).2.1⟩, h5, h6, fun y hy e => (h4 y hy).2.2.elim (fun n => absurd e n) id⟩
section
variable {X : Cx} {pins : List (Addr × Obj)} {σ : L2.St} {H HZ : Hp} {s s1 : Shared} {N : List Str} {a : Str}
theorem LamSD.has {scope : Scope} (L : LamSD N a X.env.scope scope) (ok : X.Ok) : ∀ y ∈ scope.names, y.2 = .free → ∃ c, X.env.cells.lookup y.1 = some c := fun y hy e => ok.has _ (L.free y hy e)
theorem start_lamD {A : Around} {outer : List Env} {E : XK} {scope : Scope} {f c' : Addr} {h1 : Heap} {tk : Nat} {m : Str → Option Value} (I : Inv X pins σ H s) (L : LamSD X.N a X.env.scope scope) (e0 : Env0 X.prog X.w X.K X.mg X.base A outer s1 HZ) (hd : A.handled = none)
    (un : Un (frs X.stack) [] H HZ s.heap s1.heap) (hns : h1.Ns s1.heap.objs.size m) (kp : ∀ b o, s1.heap.get? b = some o → h1.get? b = some o) : Inv (lamCx X A outer s1 HZ E scope f c') [] σ HZ { s1 with heap := h1, toks := tk } := by
  have hfree := L.has I.ok
  -- what the lambda captures is what the def holds
  have same : ∀ {y : Str} {c : Addr}, (cloFrom X.env.cells scope.names []).lookup y = some c → X.env.cells.lookup y = some c := fun {y c} e => by
    rcases cloFrom_mem (PySem.mem_of_lookup e) with z | ⟨z1, z2⟩
    · cases z
    · obtain ⟨c1, hc⟩ := hfree _ z1 rfl
      have hc : X.env.cells.lookup y = some c1 := hc
      rw [z2, hc]
      rfl
  have has : ∀ {y : Str}, scope.names.lookup y = some .free → ∃ c, (cloFrom X.env.cells scope.names []).lookup y = some c := fun {y} e => mem_lookup (cloFrom_has (cells := X.env.cells) (acc := []) (PySem.mem_of_lookup e))
  have cellUp : ∀ {c : Addr} {v : Option Value}, H c = none → s.heap.IsCell c v → h1.IsCell c v := fun n z => by
    obtain ⟨o, ho, hd⟩ := z
    obtain ⟨sl, q⟩ := un.any ho n List.not_mem_nil
    exact ⟨_, kp _ _ q, hd⟩
  have none_ : ∀ b : Addr, b ∉ (lamCx X A outer s1 HZ E scope f c').ex := fun b z => absurd (show b ∈ ([] : List Addr) from z) List.not_mem_nil
  have capt : ∀ {y : Str}, scope.names.lookup y = some .cell ∨ scope.names.lookup y = some .free → ∃ c, (cloFrom X.env.cells scope.names []).lookup y = some c := fun {y} z => z.elim (fun z => absurd rfl (L.own _ (PySem.mem_of_lookup z)).2) has
  refine ⟨⟨e0.mod, L.kind, rfl, rfl, Nat.le_refl _, fun y w c z1 z2 => I.ok.inj y w c (same z1) (same z2), fun y z => capt z, fun y c z _ => ?_, fun _ => hd, Around.frames_deeper e0.frames, .inr ⟨rfl, rfl⟩, fun b z => absurd z (none_ b), e0.bs, e0.bsz, fun b _ _ => none_ b, fun b z => absurd z (none_ b), e0.funs, e0.frf⟩,
    rfl, e0.bare, Un.kept kp, ⟨_, hns, fun i y v z1 z2 z3 => ?_⟩, fun y c z => ?_, e0.hok.fresh (Nat.le_refl _), fun y c z => ?_, fun q z => absurd (show q ∈ ([] : List (Addr × Obj)) ++ [] from z) (by simp), e0.hok.kept kp, I.len⟩
  · cases (show false = true from z)
  · rcases (show Vis scope y from z3) with k | k | k
    · have ya := (L.own _ (PySem.mem_of_lookup k)).1 rfl
      exact absurd (List.mem_of_getElem? z1) (by rw [show y = a from ya]; exact L.out)
    · exact absurd rfl (L.own _ (PySem.mem_of_lookup k)).2
    · obtain ⟨_, _, hl⟩ := I.loc
      have fr := L.free _ (PySem.mem_of_lookup k) rfl
      obtain ⟨v', r, q⟩ := hl i y v z1 z2 (fr.elim (fun z => .inr (.inl z)) fun z => .inr (.inr z))
      obtain ⟨c2, h2⟩ := has k
      refine ⟨v', r, .inr ⟨.inr k, c2, h2, ?_⟩⟩
      have c1 := same h2
      rcases q with ⟨k', _⟩ | ⟨_, c3, e', w⟩
      · have k' : X.env.scope.names.lookup y = some .local := k'
        rcases fr with z | z <;> rw [show X.env.scope.names.lookup y = _ from z] at k' <;> cases k'
      · rw [c1] at e'
        cases e'
        exact cellUp (I.freeC y _ c1) w
  · obtain ⟨v', w⟩ := I.cell y c (same z)
    exact ⟨v', cellUp (I.freeC y c (same z)) w⟩
  · obtain ⟨_, o, ho, _⟩ := I.cell y c (same z)
    exact un.free c o ho (I.freeC y c (same z)) List.not_mem_nil
/-- x(), in the def that got the lambda -/
theorem act_lamD {CXg : CXT} {Eg : XK} {Ng : List Str} {qg : Str} {sg : Scope} {g f c' D : Addr} {cdg pm ct : Value} {u : Tok} {z : Int} {params : Arguments} {body : Expr} {scope : Scope} {k i : Nat} {x : Str} {pn : List (Addr × Obj)} {xe : Value → Shared → Prop} {W : WX} {E : XK} {tb : TE} {p1 p2 : Pos}
    (I : Inv X pins σ H s) (L : LamSD X.N a X.env.scope scope) (hf : s.heap.get? f = some (objT (X.env.qual ++ "<lambda>") params body scope (cloFrom X.env.cells scope.names []) pm (.ref c') ct (.ref D))) (hfn : H f = none) (hfr : f ∉ frs X.stack) (hD : s.heap.get? D = some { cls := .type "tuple", data := .seq #[.int z u] }) (hDn : H D = none) (hDf : D ∉ frs X.stack)
    (hbind : ∃ k, bindArgs (fnT (X.env.qual ++ "<lambda>") params body scope (cloFrom X.env.cells scope.names []) pm (.ref c') ct (.ref D)) ⟨[], []⟩ = seqItems? (.ref D) >>= k ∧ k (some #[.int z u]) = pure [(a, .int z u)])
    (tk : Takes ((cxOf CXg X.prog X.w X.K X.mg X.base Ng qg sg g cdg X.A X.stack s H Eg).tr pn xe) W) (hW : ∀ cls d σ' H', E cls d H' → W cls d σ' H') (hr : Room (k + 1) (X.A.deeper (envOfC qg sg s.heap.objs.size g cdg)))
    (hbody : ∀ (A : Around) (outer : List Env) (s : Shared) (H : Hp), Room k (A.deeper (lamEnv X scope s.heap.objs.size f c')) → PE (lamCx X A outer s H E scope f c') body tb)
    (hN : Ng[i]? = some x) (hv : Vis sg x) (hd : (x == ("__debug__" : Str)) = false := by decide) (hcd : (x == ("__classdict__" : Str)) = false := by decide) :
    PE ((cxOf CXg X.prog X.w X.K X.mg X.base Ng qg sg g cdg X.A X.stack s H Eg).tr pn xe) (.Call (.Name x p1) [] [] p2) (fun σZ HZ Q => σZ[i]? = some (some (.ref f)) ∧ HZ c' = some (CodeO c' (X.env.qual ++ "<lambda>")) ∧ tb σ HZ Q) := by
  refine ⟨fun pinsZ sZ σZ HZ Q IZ h => ?_⟩
  obtain ⟨hs, hc, ht⟩ := h
  refine wpAny_Call_Name_kw (thn ((pe_var (pos := p1) (i := i) hN hv hd hcd).run pinsZ sZ σZ HZ (fun v H1 => v = .ref f ∧ H1 = HZ) IZ ⟨.ref f, hs, rfl, rfl⟩) fun y s1 ⟨v, H1, I1, r1, ev, eH⟩ => ?_)
  subst ev eH
  cases (show y = Value.ref f from r1)
  have un : Un (frs X.stack) [] H H1 s.heap s1.heap := I1.base
  have of1 := un.keep f _ hf hfn hfr List.not_mem_nil
  have oD1 := un.keep D _ hD hDn hDf List.not_mem_nil
  refine PySem.W.callWith_F0 ⟨_, _, _, _, of1⟩ ?_
  refine wpAny_call (codeAny_mono (R := CR (L2.CX X.prog X.w) (envOfC qg sg s.heap.objs.size g cdg :: X.stack) X.prog X.w H1 s1 Q E) ?_ fun r s' hq => ?_)
  · obtain ⟨⟨oc, vs, t, o1, o2, o3⟩, _, _⟩ := I1.hok c' _ hc
    show codeAny _ _ (.call (.ref f) ⟨[], []⟩) _ _
    refine PySem.W.kla_callFunE hr.depth of1 rfl L.co L.gen rfl ⟨c', oc, vs, t, rfl, o1, o2, o3⟩ ?_
    obtain ⟨kb, b1, b2⟩ := hbind
    rw [b1]
    refine wpAny_bind (wpAny_seqItems oD1 rfl ?_)
    rw [b2]
    refine wpAny_pure (wpAny_newFunctionEnv (fun y hy => (L.own y hy).2) (fun y hy => ?_) (fun h1 hns hsb => ⟨I1.nolimit.fresh _ hsb, ?_⟩) L.kind)
    · rw [List.mem_singleton.mp hy]
      exact L.par
    have kp : ∀ b o, s1.heap.get? b = some o → h1.get? b = some o := fun b o e => hsb.extBut b o (Nat.ne_of_lt (Heap.lt_size e)) (Heap.get?_push_of_some _ e)
    have J := start_lamD (A := X.A.deeper (envOfC qg sg s.heap.objs.size g cdg)) (E := E) (f := f) (c' := c') (tk := s1.toks + 1) I L I1.env0 hr.hd un hns kp
    refine PySem.W.kla_codeExpr (wpAny_mono ((hbody _ _ s1 H1 (hr.deeper _)).run [] _ _ H1 Q J ht) (fun v s' q => ?_) fun _ _ q => q)
    obtain ⟨w', H', J', rv, q⟩ := q
    exact ⟨w', H', J'.os, J'.bare, J'.base, J'.hok, rv, q⟩
  · have hx : Passes (L2.CX X.prog X.w) ((cxOf CXg X.prog X.w X.K X.mg X.base Ng qg sg g cdg X.A X.stack s H Eg).tr pn xe) E := passes_call tk hW
    cases r with
    | error e => exact hx pinsZ σZ H1 s1 e s' I1 hq
    | ok fl =>
      cases fl with
      | ret u => exact I1.after hq
      | next => exact (show False from hq).elim
      | brk => exact (show False from hq).elim
      | cont => exact (show False from hq).elim
/-- x(lambda a=z: body) -/
theorem pe_lamcallD {T : List (Addr × Str)} {TT : (XK → Hp → VK → Prop) → Hp → VK → Prop} {x b : Str} {g c P : Addr} {k : Nat} {pg : Arguments} {bg : List Stmt} {sg : Scope} {dV kV doc pm cdv ct oc : Value} {an od : Option Addr} {osl : Array (Option Value)} {Ng : List Str} {params : Arguments} {body : Expr} {scope : Scope} {t : XK → TE} {z : Int} {jz : Nat} {dp p lpos pos : Pos}
    (hg : Gl X x) (hm : X.mg x = some (.ref g)) (hk : PySem.W.keepIn X.K (.ref g) = true) (lk : X.K.lookup g = some ⟨oc, od, .func (PySem.W.fnOf x x pg bg sg dV kV doc pm an cdv ct), osl⟩) (hcg : PySem.W.codeIn X.K cdv x = true) (hb : L2.Binds X.K (PySem.W.fnOf x x pg bg sg dV kV doc pm an cdv ct) [b] []) (Sg : FnScope Ng [b] sg) (h0 : Ng[0]? = some b) (hva : Vis sg b)
    (hG : GivesTo X Ng x sg g cdv bg b (X.env.qual ++ "<lambda>") TT) (TB : TabB X.base X.mg c P) (hcode : X.env.code = .ref c) (hmT : (P, X.env.qual ++ "<lambda>") ∈ T) (hu : ∀ p ∈ T, p.1 = P → p.2 = X.env.qual ++ "<lambda>") (hr : Room (k + 2) X.A) (L : LamSD X.N a X.env.scope scope) (hdef : defaultsOf params X.env = ([eval (.Constant (.int z) jz dp) X.env], [])) (hkw : params.kwonlyargs = [])
    (hbind : ∀ (q : Str) (cl : List (Str × Addr)) (pm cv ct : Value) (D : Addr) (u : Tok), ∃ k, bindArgs (fnT q params body scope cl pm cv ct (.ref D)) ⟨[], []⟩ = seqItems? (.ref D) >>= k ∧ k (some #[.int z u]) = pure [(a, .int z u)])
    (hbody : ∀ (A : Around) (outer : List Env) (s : Shared) (H : Hp) (E : XK) (f c' : Addr), Room k (A.deeper (lamEnv X scope s.heap.objs.size f c')) → PE (lamCx X A outer s H E scope f c') body (t E))
    (hdb : (x == ("__debug__" : Str)) = false := by decide) (hd : (b == ("__debug__" : Str)) = false := by decide) (hcd : (b == ("__classdict__" : Str)) = false := by decide) :
    PE X (.Call (.Name x p) [.Lambda params body scope lpos] [] pos) (tLam T TT t) := by
  refine ⟨fun pins s σ H Q I h => ?_⟩
  obtain ⟨hT, h⟩ := h
  refine wpAny_Call_Name_kw (ld_glob I hg hm (PySem.W.callWith_K (h₀ := X.base) I.ok.mod.kin hk ?_ (by rfl) (by rfl)) hdb)
  show wpAny _ _ (spliced ((false, eval (.Lambda params body scope lpos) X.env) :: backTo pos (starEach [] X.env))) _ _ s
  refine Calls.spliced_cons (lam_makeD I TB hcode hmT hu hT hdef hkw (L.has I.ok) fun f c' D pm' ct' u H1 s' I1 eN T1 g1 g2 g3 g4 g5 g6 hco => Calls.spliced_nil ⟨I1.kIn, wpAny_call (codeAny_mono (R := CR C8.CX0 X.stack X.prog X.w H1 s' Q C8.E0) ?_ fun r s2 hq => ?_)⟩)
  · refine run_ofS (N := Ng) (ps := [b]) (us := [.ref f]) (vs := [.ref f]) lk hcg Sg hr I1.env0 (hb s' [.ref f] I1.kIn rfl) (.cons rfl .nil) rfl fun hr' => ?_
    obtain ⟨t', ht', hq'⟩ := hG f c' s' H1 Q (fun E H' Q' => t E σ H' Q') (fun W pn xe E p1 p2 tk hW => act_lamD (i := 0) I1 L g1 g2 g3 g4 g5 g6 (hbind _ _ _ _ _ _ _) tk hW hr' (fun A outer s H hr2 => hbody A outer s H E f c' hr2) h0 hva hd hcd) hco (h H1 eN T1)
    exact ⟨t', ht'.nox, hq'⟩
  · cases r with
    | error e => exact (show False from hq).elim
    | ok fl =>
      cases fl with
      | ret u => exact I1.after hq
      | next => exact (show False from hq).elim
      | brk => exact (show False from hq).elim
      | cont => exact (show False from hq).elim
end
end LamX
set_option Elab.async false
set_option linter.all false
set_option maxRecDepth 100000
set_option maxHeartbeats 4000000
namespace K01
open PySem PySem.Spec PyProof.Rows L2 L2H LamX
section
variable {P : Program} {w : World} {K : PySem.W.Frag} {mg : Str → Option Value} {base : Heap}
/-! ### _law_fault -/
/-- what is told of a caught exception -/
def rFau (CI CT : Addr) (C dd : Addr) (H : Hp) (Q : VK) : Prop :=
  (C = CI ∧ ∃ x, H dd = some (.xd (fsOf "InvalidNumber" ["value"] [x])) ∧ ∀ l, H l = none → Q (.ref l) (upd H l (.lst [.str "InvalidNumber", .str "InvalidNumber", x]))) ∨
  (C = CT ∧ ∃ x y, H dd = some (.xd (fsOf "TooMany" ["what", "count"] [x, y])) ∧ ∀ l, H l = none → Q (.ref l) (upd H l (.lst [.str "TooMany", .str "TooMany", x, y])))
def spFau (CI CT : Addr) : Addr × Obj → List V → Hp → VK → Prop := fun p vs H Q => vs = [.ref p.1] ∧ ∃ C dd, ExcP (.ref C) (some dd) p ∧ rFau CI CT C dd H Q
theorem sc_fau : FnScope ["_law_error"] ["_law_error"] (defScope (top 31)) := ⟨rfl, rfl, rfl, by decide +kernel, rfl, by decide +kernel, by decide +kernel⟩
structure ExF (P : Program) (w : World) (K : PySem.W.Frag) (mg : Str → Option Value) (base : Heap) (CB CI CT : Addr) : Prop where
  cI : ∃ b n, Ecl P w K mg base "InvalidNumber" CI b n ["value"]
  cT : ∃ b n, Ecl P w K mg base "TooMany" CT b n ["what", "count"]
  gB : mg "BorderError" = some (.ref CB)
  eI : PySem.W.exmOne K (.ref CI) (.ref CB) = some true
  eT : PySem.W.exmOne K (.ref CT) (.ref CB) = some true
  kII : PySem.W.kitOne K (.ref CI) (.ref CI) = some true
  kTI : PySem.W.kitOne K (.ref CT) (.ref CI) = some false
  kTT : PySem.W.kitOne K (.ref CT) (.ref CT) = some true
theorem ok_fau {f : Addr} {fd : FuncData} {CB CI CT : Addr} (F : FnP K "_law_fault" (top 31) f fd) (x : ExF P w K mg base CB CI CT) (m_isinstance : mg "isinstance" = none) : FnE P w K mg base 1 f fd ["_law_error"] (spFau CI CT) := by
  have sc := sc_fau
  obtain ⟨bI, nI, cI⟩ := x.cI
  obtain ⟨bT, nT, cT⟩ := x.cT
  have g_CI := cI.gC
  have g_CT := cT.gC
  refine fnE_of F sc (fun p vs H Q h => ?_) (fun cdv p A outer s H vs Q hr h => ?_)
  · rw [h.1]
    rfl
  · obtain ⟨rfl, C, dd, hz, h⟩ := h
    have hp : p ∈ (cxH CX0 P w K mg base ["_law_error"] "_law_fault" (defScope (top 31)) f cdv A outer s H E0 p).pn := List.mem_cons_self
    refine ⟨_, (pss_cons (ps_if (pt_val (pe_callB (call_isP hp) (by rfl) m_isinstance (by decide +kernel) (pa_cons (pv 0) (pa_cons (pe_glob (v := .ref CI) rfl g_CI rfl) pa_nil)))) (pss_one (ps_ret (pe_lst (pa_cons pe_str (pa_cons (pe_xfP hp hz (pv 0)) (pa_cons (pe_xfP hp hz (pv 0)) pa_nil)))))) pss_nil)
      (pss_cons (ps_if (pt_val (pe_callB (call_isP hp) (by rfl) m_isinstance (by decide +kernel) (pa_cons (pv 0) (pa_cons (pe_glob (v := .ref CT) rfl g_CT rfl) pa_nil)))) (pss_one (ps_ret (pe_lst (pa_cons pe_str (pa_cons (pe_xfP hp hz (pv 0)) (pa_cons (pe_xfP hp hz (pv 0)) (pa_cons (pe_xfP hp hz (pv 0)) pa_nil))))))) pss_nil)
      (pss_one (ps_ret (pe_lst (pa_cons pe_str pa_nil)))))), ?_⟩
    rcases h with ⟨rfl, x1, h1, q⟩ | ⟨rfl, x1, x2, h1, q⟩
    · refine ⟨_, rfl, bI, nI, _, dd, _, _, _, true, rfl, .own _, cI.ox, hz, h1, x.kII, _, rfl, iteT ?_⟩
      refine ⟨_, rfl, rfl, _, dd, bI, nI, _, _, rfl, cI.ox, cI.no "code" (by simp), rfl, h1, rfl, ?_⟩
      exact ⟨_, rfl, rfl, _, dd, bI, nI, _, _, rfl, cI.ox, cI.no "value" (by simp), rfl, h1, rfl, (by show 3 ≤ sizeLine; decide), q⟩
    · refine ⟨_, rfl, bT, nT, _, dd, _, _, _, false, rfl, .own _, cT.ox, hz, h1, x.kTI, _, rfl, iteF ?_⟩
      refine ⟨_, rfl, bT, nT, _, dd, _, _, _, true, rfl, .own _, cT.ox, hz, h1, x.kTT, _, rfl, iteT ?_⟩
      refine ⟨_, rfl, rfl, _, dd, bT, nT, _, _, rfl, cT.ox, cT.no "code" (by simp), rfl, h1, rfl, ?_⟩
      refine ⟨_, rfl, rfl, _, dd, bT, nT, _, _, rfl, cT.ox, cT.no "what" (by simp), rfl, h1, rfl, ?_⟩
      exact ⟨_, rfl, rfl, _, dd, bT, nT, _, _, rfl, cT.ox, cT.no "count" (by simp), rfl, h1, rfl, (by show 4 ≤ sizeLine; decide), q⟩
end
theorem PE.impA {X : Cx} {e : Expr} {t t' : TE} (p : PE X e t) (h : ∀ σ H Q, t' σ H Q → t σ H Q) : PE X e t' := ⟨fun pins s σ H Q I q => p.run pins s σ H Q I (h _ _ _ q)⟩
/-! ### _law_ask(lambda: ..) -/
/-- what the ask hands back, of what its lambda hands back -/
def askQ (Q : VK) : VK := fun v H' => 2 ≤ sizeLine ∧ ∀ t, H' t = none → Q (.ref t) (upd H' t (.lst [.str "told", v]))
/-- and of what leaves its lambda -/
def askE (CI CT : Addr) (Q : VK) : XK := fun cls d H' => ∃ C dd, cls = .ref C ∧ d = some dd ∧ rFau CI CT C dd H' Q
def TTask (CI CT : Addr) : (XK → Hp → VK → Prop) → Hp → VK → Prop := fun tl H Q => tl (askE CI CT Q) H (askQ Q)
structure AskF (P : Program) (w : World) (K : PySem.W.Frag) (mg : Str → Option Value) (base : Heap) (CB CI CT : Addr) : Prop where
  F : ∃ fd, FnP K "_law_ask" (top 32) (He.ga K "_law_ask") fd
  g : mg "_law_ask" = some (.ref (He.ga K "_law_ask"))
  x : ExF P w K mg base CB CI CT
  fau : CalE P w K mg base "_law_fault" 1 ["_law_error"] (spFau CI CT)
theorem sc_ask : FnScope ["_law_deed", "_law_error"] ["_law_deed"] (defScope (top 32)) := ⟨rfl, rfl, rfl, by decide +kernel, rfl, by decide +kernel, by decide +kernel⟩
def tFau (CI CT : Addr) (a : Addr) (cls : Value) (d : Option Addr) : TE := fun σ H Q => (σ.length = 2 → σ[1]? = some (some (.ref a))) ∧ ∃ C dd, cls = .ref C ∧ d = some dd ∧ rFau CI CT C dd H Q
theorem slot1 {σ : L2.St} {v : Option V} (h : σ.length = 2) : (σ.set 1 v)[1]? = some v := by
  match σ, h with
  | [_, _], _ => rfl
theorem ask_suite {Y : Cx} {P : Program} {w : World} {K : PySem.W.Frag} {mg : Str → Option Value} {base : Heap} {CI CT a : Addr} {oe : Obj} {q p2 pos : Pos} (fau : CalE P w K mg base "_law_fault" 1 ["_law_error"] (spFau CI CT)) (e1 : Y.prog = P) (e2 : Y.w = w) (e3 : Y.K = K) (e4 : Y.mg = mg) (e5 : Y.base = base) (hp : (a, oe) ∈ Y.pn) (hr : RoomH 1 Y.A) (hg : Gl Y "_law_fault") (hN : Y.N = (["_law_deed", "_law_error"] : List Str)) (hv : Vis Y.env.scope "_law_error") :
    PE Y (.Call (.Name "_law_fault" q) [.Name "_law_error" p2] [] pos) (fun σ H Q => (σ.length = 2 → σ[1]? = some (some (.ref a))) ∧ spFau CI CT (a, oe) [.ref a] H Q) := by
  subst e1 e2 e3 e4 e5
  have v := pe_varL (X := Y) (v := .ref a) (i := 1) (x := "_law_error") (pos := p2) (by rw [hN]; rfl) hv
  rw [hN] at v
  exact pe_calE (p := (a, oe)) fau hp hr hg (pa_cons v pa_nil)
theorem ask_gives {X : Cx} {CB CI CT g : Addr} {cdg : Value} {q : Str} (t : AskF X.prog X.w X.K X.mg X.base CB CI CT) (hr : Room 2 X.A) : GivesTo X ["_law_deed", "_law_error"] "_law_ask" (defScope (top 32)) g cdg (defBody (top 32)) "_law_deed" q (TTask CI CT) := by
  intro f c' s H Q tl act hc h
  have sc := sc_ask
  refine ⟨_, pss_one (ps_try_manyAs (X := (cxOf C8.CX0 X.prog X.w X.K X.mg X.base ["_law_deed", "_law_error"] "_law_ask" (defScope (top 32)) g cdg X.A X.stack s H C8.E0).nox) (Wout := fun _ _ _ _ => False)
      (tb := fun W D σ H => ∃ Ech : XK, (∀ cls d σ' H', Ech cls d H' → W cls d σ' H') ∧ σ[0]? = some (some (.ref f)) ∧ H c' = some (CodeO c' q) ∧ tl Ech H (askQ D.rt))
      rfl rfl sc.nd L2.takes0 (fun W pn xe tk _ => ?_)
      (HdsAs.cons (q := ⟨.ref CB, 1, fun a cls d => tRet (tFau CI CT a cls d)⟩) ⟨rfl, by decide, Or.inl t.x.gB⟩ rfl rfl (fun a oe cls d pn hz hf => ?_)
      HdsAs.nil)), ?_⟩
  · refine ⟨fun pins s' σ H' D I h' => ?_⟩
    obtain ⟨Ech, hW, h1, h2, h3⟩ := h'
    refine PSs.run (t := _) (pss_one (ps_ret (pe_lst (pa_cons pe_str (pa_cons (act W pn xe Ech _ _ tk hW) pa_nil))))) pins s' σ H' D I ?_
    exact ⟨h1, h2, h3⟩
  · show PSs _ _ (tRet (tFau CI CT a cls d))
    refine pss_one (ps_ret (PE.impA (t := fun σ H Q => (σ.length = 2 → σ[1]? = some (some (.ref a))) ∧ spFau CI CT (a, oe) [.ref a] H Q) ?_ fun σ H Q h => ?_))
    · have hr' := hr.deeper (envOfC "_law_ask" (defScope (top 32)) s.heap.objs.size g cdg)
      refine ask_suite (a := a) (oe := oe) t.fau ?_ ?_ ?_ ?_ ?_ ?_ ?_ ?_ ?_ ?_
      · rfl
      · rfl
      · rfl
      · rfl
      · rfl
      · exact List.mem_cons_self
      · exact ⟨hr'.dp, hr'.un⟩
      · rfl
      · rfl
      · exact Or.inl rfl
    · obtain ⟨h1, C, dd, rfl, rfl, h2⟩ := h
      exact ⟨h1, rfl, C, dd, ⟨hz, hf⟩, h2⟩
  · refine ⟨askE CI CT Q, fun cls d σ' H' hE => ?_, rfl, hc, h⟩
    obtain ⟨C, dd, rfl, rfl, hF⟩ := hE
    have e1 : PySem.W.exmOne X.K (.ref C) (.ref CB) = some true := by
      rcases hF with ⟨rfl, _⟩ | ⟨rfl, _⟩
      · exact t.x.eI
      · exact t.x.eT
    refine ⟨true, e1, fun _ a ha => ?_, fun z => Bool.noConfusion z⟩
    exact ⟨fun hl => slot1 (by rw [List.length_set] at hl; exact hl), C, dd, rfl, rfl, hF⟩
theorem pe_lawask {X : Cx} {T : List (Addr × Str)} {CB CI CT c P : Addr} {k : Nat} {params : Arguments} {body : Expr} {scope : Scope} {tb : XK → TE} {p lpos pos : Pos} (t : AskF X.prog X.w X.K X.mg X.base CB CI CT) (hg : Gl X "_law_ask") (TB : TabB X.base X.mg c P) (hcode : X.env.code = .ref c) (hmT : (P, X.env.qual ++ "<lambda>") ∈ T) (hu : ∀ p ∈ T, p.1 = P → p.2 = X.env.qual ++ "<lambda>") (hr : Room (k + 2) X.A) (L : LamS X.env.scope scope) (hdef : defaultsOf params X.env = ([], []))
    (hbind : ∀ (q : Str) (cl : List (Str × Addr)) (pm cv ctv : Value), bindArgs (PySem.W.kla_fn "<lambda>" q params body scope cl pm cv ctv) ⟨[], []⟩ = pure [])
    (hbody : ∀ (A : Around) (outer : List Env) (s : Shared) (H : Hp) (E : XK) (f c' : Addr), Room k (A.deeper (lamEnv X scope s.heap.objs.size f c')) → PE (lamCx X A outer s H E scope f c') body (tb E)) :
    PE X (.Call (.Name "_law_ask" p) [.Lambda params body scope lpos] [] pos) (tLam T (TTask CI CT) tb) := by
  obtain ⟨fd, F⟩ := t.F
  have b := F.bindsN (ps := ["_law_deed"]) fun _ _ _ _ _ _ us hl => match us, hl with | [_], _ => rfl
  obtain ⟨oc, od, dV, kV, doc, pm, an, cdv, ct, osl, rfl, lk, hcd, hD, hK⟩ := F.ex
  exact pe_lamcall hg t.g F.kp lk hcd b sc_ask rfl (Or.inl rfl) (ask_gives t (hr.mono (by omega))) TB hcode hmT hu hr L hdef hbind hbody
theorem pe_lawaskD {X : Cx} {T : List (Addr × Str)} {CB CI CT c P : Addr} {k : Nat} {a : Str} {z : Int} {jz : Nat} {dp : Pos} {params : Arguments} {body : Expr} {scope : Scope} {tb : XK → TE} {p lpos pos : Pos} (t : AskF X.prog X.w X.K X.mg X.base CB CI CT) (hg : Gl X "_law_ask") (TB : TabB X.base X.mg c P) (hcode : X.env.code = .ref c) (hmT : (P, X.env.qual ++ "<lambda>") ∈ T) (hu : ∀ p ∈ T, p.1 = P → p.2 = X.env.qual ++ "<lambda>") (hr : Room (k + 2) X.A) (L : LamSD X.N a X.env.scope scope) (hdef : defaultsOf params X.env = ([eval (.Constant (.int z) jz dp) X.env], [])) (hkw : params.kwonlyargs = [])
    (hbind : ∀ (q : Str) (cl : List (Str × Addr)) (pm cv ct : Value) (D : Addr) (u : Tok), ∃ k, bindArgs (fnT q params body scope cl pm cv ct (.ref D)) ⟨[], []⟩ = seqItems? (.ref D) >>= k ∧ k (some #[.int z u]) = pure [(a, .int z u)])
    (hbody : ∀ (A : Around) (outer : List Env) (s : Shared) (H : Hp) (E : XK) (f c' : Addr), Room k (A.deeper (lamEnv X scope s.heap.objs.size f c')) → PE (lamCx X A outer s H E scope f c') body (tb E)) :
    PE X (.Call (.Name "_law_ask" p) [.Lambda params body scope lpos] [] pos) (tLam T (TTask CI CT) tb) := by
  obtain ⟨fd, F⟩ := t.F
  have b := F.bindsN (ps := ["_law_deed"]) fun _ _ _ _ _ _ us hl => match us, hl with | [_], _ => rfl
  obtain ⟨oc, od, dV, kV, doc, pm, an, cdv, ct, osl, rfl, lk, hcd, hD, hK⟩ := F.ex
  exact pe_lamcallD hg t.g F.kp lk hcd b sc_ask rfl (Or.inl rfl) (ask_gives t (hr.mono (by omega))) TB hcode hmT hu hr L hdef hkw hbind hbody
theorem passL {X : Cx} {A : Around} {outer : List Env} {s : Shared} {H : Hp} {E : XK} {scope : Scope} {f c' : Addr} : Passes (L2.CX X.prog X.w) (lamCx X A outer s H E scope f c') E :=
  passes_call (E := E) (takes_of (X := lamCx X A outer s H E scope f c') rfl rfl rfl rfl) fun _ _ _ _ h => h
end K01
set_option Elab.async false
set_option linter.all false
set_option maxRecDepth 100000
set_option maxHeartbeats 4000000
namespace K01
/-! ### products of powers of the first primes -/
def prN : List Nat := [2, 3, 5, 7, 11, 13, 17, 19, 23, 29, 31, 37, 41, 43, 47, 53, 59, 61]
def pr (i : Nat) : Nat := prN.getD i 1
def pwn : Nat → (Nat → Nat) → Nat
  | 0, _ => 1
  | n + 1, a => pwn n a * pr n ^ a n
def sm : Nat → (Nat → Nat) → Nat
  | 0, _ => 0
  | n + 1, a => sm n a + a n
abbrev pw (a : Nat → Nat) : Nat := pwn 18 a
theorem pr_ge {i : Nat} (h : i < 18) : 2 ≤ pr i := by
  have : ∀ i : Fin 18, 2 ≤ pr i.1 := by decide +kernel
  exact this ⟨i, h⟩
theorem pr_le {i : Nat} (h : i < 18) : pr i ≤ 61 := by
  have : ∀ i : Fin 18, pr i.1 ≤ 61 := by decide +kernel
  exact this ⟨i, h⟩
theorem pr_lt {i j : Nat} (h : j < 18) (hij : i < j) : pr i < pr j := by
  have : ∀ j : Fin 18, ∀ i : Fin 18, i.1 < j.1 → pr i.1 < pr j.1 := by decide +kernel
  exact this ⟨j, h⟩ ⟨i, Nat.lt_trans hij h⟩ hij
theorem pr_cop {i j : Nat} (hi : i < 18) (hj : j < 18) (n : i ≠ j) : Nat.Coprime (pr i) (pr j) := by
  have : ∀ i j : Fin 18, i.1 ≠ j.1 → Nat.gcd (pr i.1) (pr j.1) = 1 := by decide +kernel
  exact this ⟨i, hi⟩ ⟨j, hj⟩ n
theorem pwn_congr {n : Nat} {a b : Nat → Nat} (h : ∀ i, i < n → a i = b i) : pwn n a = pwn n b := by
  induction n with
  | zero => rfl
  | succ n ih =>
    show pwn n a * pr n ^ a n = pwn n b * pr n ^ b n
    rw [ih fun i hi => h i (by omega), h n (by omega)]
theorem sm_congr {n : Nat} {a b : Nat → Nat} (h : ∀ i, i < n → a i = b i) : sm n a = sm n b := by
  induction n with
  | zero => rfl
  | succ n ih =>
    show sm n a + a n = sm n b + b n
    rw [ih fun i hi => h i (by omega), h n (by omega)]
theorem sm_mono {n : Nat} {a b : Nat → Nat} (h : ∀ i, i < n → a i ≤ b i) : sm n a ≤ sm n b := by
  induction n with
  | zero => exact Nat.le_refl _
  | succ n ih =>
    have h1 := ih fun i hi => h i (by omega)
    have h2 := h n (by omega)
    show sm n a + a n ≤ sm n b + b n
    omega
theorem sm_add (n : Nat) (a b : Nat → Nat) : sm n (fun i => a i + b i) = sm n a + sm n b := by
  induction n with
  | zero => rfl
  | succ n ih =>
    show sm n _ + (a n + b n) = (sm n a + a n) + (sm n b + b n)
    rw [ih]
    omega
theorem sm_mul (n k : Nat) (a : Nat → Nat) : sm n (fun i => k * a i) = k * sm n a := by
  induction n with
  | zero => rfl
  | succ n ih =>
    show sm n _ + k * a n = k * (sm n a + a n)
    rw [ih, Nat.mul_add]
theorem sm_zero (n : Nat) : sm n (fun _ => 0) = 0 := by
  induction n with
  | zero => rfl
  | succ n ih =>
    show sm n _ + 0 = 0
    rw [ih]
theorem sm_one (n k x : Nat) : sm n (fun i => if i = k then x else 0) ≤ x := by
  have h : ∀ n, sm n (fun i => if i = k then x else 0) = if k < n then x else 0 := fun n => by
    induction n with
    | zero => rfl
    | succ n ih =>
      show sm n _ + (if n = k then x else 0) = _
      rw [ih]
      split <;> split <;> split <;> omega
  rw [h]
  split <;> omega
theorem sm_get {n k : Nat} (a : Nat → Nat) (h : k < n) : a k ≤ sm n a := by
  induction n with
  | zero => exact absurd h (by omega)
  | succ n ih =>
    show a k ≤ sm n a + a n
    by_cases e : k = n
    · rw [e]
      omega
    · have := ih (by omega)
      omega
theorem pwn_add (n : Nat) (a b : Nat → Nat) : pwn n (fun i => a i + b i) = pwn n a * pwn n b := by
  induction n with
  | zero => rfl
  | succ n ih =>
    show pwn n _ * pr n ^ (a n + b n) = (pwn n a * pr n ^ a n) * (pwn n b * pr n ^ b n)
    rw [ih, Nat.pow_add, Nat.mul_mul_mul_comm]
theorem pwn_mul (n k : Nat) (a : Nat → Nat) : pwn n (fun i => k * a i) = pwn n a ^ k := by
  induction n with
  | zero => exact (Nat.one_pow k).symm
  | succ n ih =>
    show pwn n _ * pr n ^ (k * a n) = (pwn n a * pr n ^ a n) ^ k
    rw [ih, Nat.mul_pow, ← Nat.pow_mul, Nat.mul_comm k]
theorem pwn_zero (n : Nat) : pwn n (fun _ => 0) = 1 := by
  induction n with
  | zero => rfl
  | succ n ih =>
    show pwn n _ * pr n ^ 0 = 1
    rw [ih]
    rfl
theorem pwn_one {n k : Nat} (x : Nat) (h : k < n) : pwn n (fun i => if i = k then x else 0) = pr k ^ x := by
  have z : ∀ n, n ≤ k → pwn n (fun i => if i = k then x else 0) = 1 := fun n hn => by
    rw [pwn_congr (b := fun _ => 0) fun i hi => if_neg (by omega)]
    exact pwn_zero n
  induction n with
  | zero => exact absurd h (by omega)
  | succ n ih =>
    show pwn n _ * pr n ^ (if n = k then x else 0) = _
    by_cases e : n = k
    · rw [z n (by omega), if_pos e, e, Nat.one_mul]
    · rw [ih (by omega), if_neg e, Nat.pow_zero, Nat.mul_one]
theorem pwn_pos {n : Nat} (a : Nat → Nat) (h : n ≤ 18) : 1 ≤ pwn n a := by
  induction n with
  | zero => exact Nat.le_refl _
  | succ n ih => exact Nat.mul_pos (ih (by omega)) (Nat.pow_pos (by have := pr_ge (i := n) (by omega); omega))
theorem pwn_lt {n : Nat} (a : Nat → Nat) (h : n ≤ 18) : pwn n a ≤ 2 ^ (6 * sm n a) := by
  induction n with
  | zero => exact Nat.le_refl _
  | succ n ih =>
    show pwn n a * pr n ^ a n ≤ 2 ^ (6 * (sm n a + a n))
    rw [Nat.mul_add, Nat.pow_add]
    refine Nat.mul_le_mul (ih (by omega)) ?_
    rw [Nat.pow_mul]
    exact Nat.pow_le_pow_left (by have := pr_le (i := n) (by omega); omega) _
theorem cop1 {n k : Nat} {x : Nat} (a : Nat → Nat) (hn : n ≤ 18) (hk : k < 18) (h : k < n → a k = 0 ∨ x = 0) : Nat.Coprime (pwn n a) (pr k ^ x) := by
  induction n with
  | zero => exact Nat.coprime_one_left _
  | succ n ih =>
    refine Nat.Coprime.mul_left (ih (by omega) fun hk2 => h (by omega)) ?_
    by_cases e : n = k
    · rw [e]
      rcases h (by omega) with z | z
      · rw [z, Nat.pow_zero]
        exact Nat.coprime_one_left _
      · rw [z, Nat.pow_zero]
        exact Nat.coprime_one_right _
    · exact Nat.Coprime.pow _ _ (pr_cop (by omega) hk e)
theorem cop {n m : Nat} (a b : Nat → Nat) (hn : n ≤ 18) (hm : m ≤ 18) (h : ∀ i, i < n → i < m → a i = 0 ∨ b i = 0) : Nat.Coprime (pwn n a) (pwn m b) := by
  induction m with
  | zero => exact Nat.coprime_one_right _
  | succ m ih => exact Nat.Coprime.mul_right (ih (by omega) fun i h1 h2 => h i h1 (by omega)) (cop1 a hn (by omega) fun h1 => h m h1 (by omega))
/-- a prime's part, and the rest -/
theorem pw_split {k : Nat} (a : Nat → Nat) (hk : k < 18) : pw a = pr k ^ a k * pw (fun i => if i = k then 0 else a i) := by
  rw [← pwn_one (n := 18) (a k) hk, ← pwn_add]
  refine pwn_congr fun i hi => ?_
  by_cases e : i = k
  · rw [if_pos e, if_pos e, e]
    rfl
  · rw [if_neg e, if_neg e, Nat.zero_add]
theorem rest_mod {k : Nat} (a : Nat → Nat) (hk : k < 18) : (((pw (fun i => if i = k then 0 else a i) : Nat) : Int)) % ((pr k : Nat) : Int) ≠ 0 := by
  have c := cop1 (n := 18) (k := k) (x := 1) (fun i => if i = k then 0 else a i) (Nat.le_refl _) hk fun _ => .inl (if_pos rfl)
  rw [Nat.pow_one] at c
  intro z
  have z2 : pr k ∣ pw (fun i => if i = k then 0 else a i) := Int.ofNat_dvd.mp (Int.dvd_of_emod_eq_zero z)
  have g : Nat.gcd (pw (fun i => if i = k then 0 else a i)) (pr k) = 1 := c
  have := Nat.dvd_gcd z2 (Nat.dvd_refl (pr k))
  rw [g] at this
  have h2 := pr_ge hk
  have h3 := Nat.le_of_dvd (by decide) this
  omega
theorem val_unique {p : Int} (hp : 2 ≤ p) : ∀ (t s : Nat) (r r' : Int), p ^ t * r = p ^ s * r' → r % p ≠ 0 → r' % p ≠ 0 → t = s
  | 0, 0, _, _, _, _, _ => rfl
  | 0, s + 1, r, r', e, h, _ => by
    rw [Int.pow_zero, Int.one_mul, Int.pow_succ, Int.mul_comm (p ^ s), Int.mul_assoc] at e
    exact absurd (by rw [e]; exact Int.mul_emod_right _ _) h
  | t + 1, 0, r, r', e, _, h => by
    rw [Int.pow_zero, Int.one_mul, Int.pow_succ, Int.mul_comm (p ^ t), Int.mul_assoc] at e
    exact absurd (by rw [← e]; exact Int.mul_emod_right _ _) h
  | t + 1, s + 1, r, r', e, h, h' => by
    rw [Int.pow_succ, Int.pow_succ, Int.mul_comm (p ^ t), Int.mul_comm (p ^ s), Int.mul_assoc, Int.mul_assoc] at e
    exact congrArg (· + 1) (val_unique hp t s r r' (Int.eq_of_mul_eq_mul_left (by omega) e) h h')
theorem pw_val {k t : Nat} {r : Int} (a : Nat → Nat) (hk : k < 18) (e : ((pw a : Nat) : Int) = ((pr k : Nat) : Int) ^ t * r) (h : r % ((pr k : Nat) : Int) ≠ 0) : t = a k := by
  refine val_unique (p := ((pr k : Nat) : Int)) (by have := pr_ge hk; omega) t (a k) r _ ?_ h (rest_mod a hk)
  rw [← e, pw_split a hk, Int.natCast_mul, ← natPow]
theorem pw_inj {a b : Nat → Nat} (h : pw a = pw b) {k : Nat} (hk : k < 18) : a k = b k := by
  refine (pw_val (t := a k) (r := ((pw (fun i => if i = k then 0 else a i) : Nat) : Int)) b hk ?_ (rest_mod a hk))
  rw [← h, pw_split a hk, Int.natCast_mul, ← natPow]
/-! ### a ratio of two products in its least form -/
theorem gcd_pw (a b : Nat → Nat) : Nat.gcd (pw a) (pw b) = pw (fun i => min (a i) (b i)) := by
  have ea : pw a = pw (fun i => min (a i) (b i)) * pw (fun i => a i - b i) := by
    rw [← pwn_add]
    exact pwn_congr fun i _ => by omega
  have eb : pw b = pw (fun i => min (a i) (b i)) * pw (fun i => b i - a i) := by
    rw [← pwn_add]
    exact pwn_congr fun i _ => by omega
  rw [ea, eb, Nat.gcd_mul_left]
  have c : Nat.gcd (pw (fun i => a i - b i)) (pw (fun i => b i - a i)) = 1 := cop (n := 18) (m := 18) _ _ (Nat.le_refl _) (Nat.le_refl _) fun i _ _ => by omega
  rw [c, Nat.mul_one]
theorem tp_pw (a b : Nat → Nat) : tp (pw a) (pw b) = pw (fun i => a i - b i) := by
  show pw a / Nat.gcd (pw a) (pw b) = _
  rw [gcd_pw]
  refine Nat.div_eq_of_eq_mul_right (pwn_pos _ (Nat.le_refl _)) ?_
  rw [← pwn_add]
  exact pwn_congr fun i _ => by omega
theorem bt_pw (a b : Nat → Nat) : bt (pw a) (pw b) = pw (fun i => b i - a i) := by
  show pw b / Nat.gcd (pw a) (pw b) = _
  rw [gcd_pw]
  refine Nat.div_eq_of_eq_mul_right (pwn_pos _ (Nat.le_refl _)) ?_
  rw [← pwn_add]
  exact pwn_congr fun i _ => by omega
/-! ### exponents of a ratio -/
abbrev Ex := Nat → Int
def ps (e : Ex) (i : Nat) : Nat := (e i).toNat
def ng (e : Ex) (i : Nat) : Nat := (-(e i)).toNat
def wt (e : Ex) : Nat := sm 18 fun i => (e i).natAbs
theorem wt_add (e f : Ex) : wt (fun i => e i + f i) ≤ wt e + wt f := by
  unfold wt
  rw [← sm_add]
  exact sm_mono fun i _ => by
    show (e i + f i).natAbs ≤ _
    omega
theorem wt_sub (e f : Ex) : wt (fun i => e i - f i) ≤ wt e + wt f := by
  unfold wt
  rw [← sm_add]
  exact sm_mono fun i _ => by
    show (e i - f i).natAbs ≤ _
    omega
theorem wt_mul (k : Int) (e : Ex) : wt (fun i => k * e i) = k.natAbs * wt e := by
  unfold wt
  rw [← sm_mul]
  exact sm_congr fun i _ => Int.natAbs_mul _ _
theorem wt_neg (e : Ex) : wt (fun i => -(e i)) = wt e := sm_congr fun i _ => by
  show (-(e i)).natAbs = _
  omega
theorem wt_congr {e f : Ex} (h : ∀ i, i < 18 → e i = f i) : wt e = wt f := sm_congr fun i hi => by rw [h i hi]
theorem ps_le (e : Ex) : sm 18 (ps e) ≤ wt e := sm_mono fun i _ => by unfold ps; omega
theorem ng_le (e : Ex) : sm 18 (ng e) ≤ wt e := sm_mono fun i _ => by unfold ng; omega
theorem pw_bd {a : Nat → Nat} {n : Nat} (h : sm 18 a ≤ n) : pw a < 2 ^ (6 * n + 1) :=
  Nat.lt_of_le_of_lt (pwn_lt a (Nat.le_refl _)) (Nat.pow_lt_pow_right (by decide) (by omega))
end K01
set_option Elab.async false
set_option linter.all false
set_option maxRecDepth 100000
set_option maxHeartbeats 4000000
namespace HN
open PySem PySem.Spec PyProof.Rows L2
section
variable {prog : Program} {w : World} {A : Around} {E : Value → Shared → Prop} {s : Shared} {K : PySem.W.Frag} {x C f : Addr} {ox : Obj} {od : Option Obj} {b : Value}
def NeB (Q : Value → Shared → Prop) (v : Value) (s' : Shared) : Prop := ∃ c, v = .bool c ∧ Q (.bool (!c)) s'
/-- object.__ne__ where the class has its own __eq__ -/
theorem entry_ne {Q : Fin → Shared → Prop} (X : K.In s.heap) (I : PySem.W.InstAt s.heap x ox C od) (hs : PySem.W.findIn K (.ref C) "__eq__" = some (some (.ref f))) (hf : PySem.W.isFn K (.ref f) = true) (hu : A.units < cLine)
    (h : wpAny (model prog w) A (call (.ref f) [.ref x, b]) (NeB fun v s' => Q (.done (.ret v)) s') E s) : wpAny (model prog w) A (Builtin.«object.__ne__» ⟨[.ref x, b], []⟩) Q E s := by
  unfold Builtin.«object.__ne__»
  have key : wpAny (model prog w) A (callSpecialIfBound? (.ref x) "__eq__" [b]) (fun r s' => ∃ c, r = some (.bool c) ∧ Q (.done (.ret (.bool (!c)))) s') E s := PySem.W.ifBound_K X I hs hf (wpAny_mono h (fun v s' z => by
    obtain ⟨c, rfl, q⟩ := z
    exact ⟨c, rfl, q⟩) fun _ _ e => e)
  repeat (first | with_reducible refine wpAny_cRoomFor hu ?_ | (with_reducible refine wpAny_bind (wpAny_mono key ?_ fun _ _ e => e)) | (with_reducible refine wpAny_mono key ?_ fun _ _ e => e) | wp_step)
  intro r s' z
  obtain ⟨c, rfl, q⟩ := z
  dsimp only
  repeat (first | exact q | with_reducible refine wpAny_truthy_bool ?_ | wp_step)
theorem call_objNe {Q : Value → Shared → Prop} (X : K.In s.heap) (I : PySem.W.InstAt s.heap x ox C od) (hm : PySem.W.mroIn K C (.type "object") = some true) (hs : PySem.W.findIn K (.ref C) "__eq__" = some (some (.ref f))) (hf : PySem.W.isFn K (.ref f) = true) (hu : A.in1.units < cLine)
    (h : wpAny (model prog w) A.in1 (call (.ref f) [.ref x, b]) (NeB Q) E s) : wpAny (model prog w) A (call (.builtin "object.__ne__") [.ref x, b]) Q E s :=
  wpAny_call (codeAny_call_builtin F.cmp_object.ne.plain F.cmpEntry_ne (PySem.W.check_slot F.cmpKind_ne F.cmpSplit_ne (I.type.andThen (PySem.W.looks_mroIn X hm)) (F.cmpArgs_ne _ _) (entry_ne X I hs hf hu h)))
theorem ifBound_objNe {M : Model} {args : List Value} {Q : Option Value → Shared → Prop} (X : K.In s.heap) (I : PySem.W.InstAt s.heap x ox C od) (hs : PySem.W.findIn K (.ref C) "__ne__" = some (some (.builtin "object.__ne__")))
    (h : wpAny M A (call (.builtin "object.__ne__") (.ref x :: args)) (fun v => Q (some v)) E s) : wpAny M A (callSpecialIfBound? (.ref x) "__ne__" args) Q E s := by
  simp only [callSpecialIfBound?, bindSpecialIfBound?]
  refine wpAny_holding (wpAny_bind (wpAny_bind (wpAny_bind (I.type.here ((PySem.W.looks_findIn X hs).here ?_)))))
  refine wpAny_bind (wpAny_askSetting (wpAny_ite ?_))
  have fin : wpAny M A (call (.builtin "object.__ne__") ([.ref x] ++ args) >>= fun v => pure (some v)) Q E s := wpAny_bind (wpAny_mono h (fun v s' h' => wpAny_pure h') fun _ _ h' => h')
  split
  · exact wpAny_bind (wpAny_of_eq (F.cmp_object.ne.bind _) (wpAny_pure (by exact fin)))
  · exact wpAny_tryCatch (wpAny_bind (wpAny_of_eq (F.cmp_object.ne.bind _) (wpAny_pure (by exact fin))))
end
end HN
namespace L2
open PySem PySem.Spec PyProof.Rows
theorem run_fnRS {X : Cx} {A : Around} {pins : List (Addr × Obj)} {σ : St} {H : Hp} {s : Shared} {CX : CXT} {k : Nat} {f : Addr} {sp : Sp} {E : XK} {Q : VK} {us : List Value} {vs : List V} (F : FnR X.prog X.w X.K X.mg X.base CX k f sp) (sb : Sub X k A) (hx : Passes CX X E) (I : Inv X pins σ H s) (r : Vals vs us) (h : sp vs H Q E) :
    codeAny (model X.prog X.w) A (.call (.ref f) ⟨us, []⟩) (fun r s' => match r with | .ok (.ret v) => EP X pins σ Q v s' | .ok _ => False | .error e => X.xe e s') s := by
  have e0 : Env0 X.prog X.w X.K X.mg X.base A X.stack s H := by
    have e := I.env0
    exact ⟨by rw [sb.fr]; exact e.frames, e.mod, e.bs, e.bsz, e.funs, e.frf, e.hok, e.bare⟩
  refine codeAny_mono (F A X.stack s H us vs Q E sb.room e0 r h) fun r s' hq => ?_
  cases r with
  | error e => exact hx pins σ H s e s' I hq
  | ok fl =>
    cases fl with
    | ret u => exact I.after hq
    | next => exact False.elim hq
    | brk => exact False.elim hq
    | cont => exact False.elim hq
section
variable {X : Cx} {C g : Addr} {n : Nat} {sp : Sp} {CX : CXT} {E : XK}
def rNeO (C : Addr) (sp : Sp) (E : XK) : R2 := fun x y H Q => ∃ a b dx dy fs gs, x = .ref a ∧ y = .ref b ∧ H a = some (.ins C dx fs) ∧ H b = some (.ins C dy gs) ∧ sp [x, y] H (fun v H2 => ∃ c, v = .bl c ∧ Q (.bl (!c)) H2) E
/-- x != y, both of the class at C, by object.__ne__ over its own __eq__ -/
theorem op_neO (hs : PySem.W.findIn X.K (.ref C) "__eq__" = some (some (.ref g))) (hn : PySem.W.findIn X.K (.ref C) "__ne__" = some (some (.builtin "object.__ne__"))) (hm : PySem.W.mroIn X.K C (.type "object") = some true) (hf : PySem.W.isFn X.K (.ref g) = true) (F : FnR X.prog X.w X.K X.mg X.base CX n g sp) (hr : Room (n + 1) X.A) (hx : Passes CX X E) :
    OpR X (compareOp .NotEq) (rNeO C sp E) := by
  intro pins s σ H x y v u Q I rx ry h
  obtain ⟨a, b, dx, dy, fs, gs, rfl, rfl, ha, hb, q⟩ := h
  cases (show v = Value.ref a from rx)
  cases (show u = Value.ref b from ry)
  obtain ⟨mA, J, _⟩ := ins_get I.hok ha
  obtain ⟨mB, J2, _⟩ := ins_get I.hok hb
  obtain ⟨od, J, _⟩ := J.look
  obtain ⟨od2, J2, _⟩ := J2.look
  have sb : Sub X n X.A.in1 := Sub.in1 ⟨hr, rfl⟩
  have one : wpAny (model X.prog X.w) X.A (tryCompare (.ref a) "__ne__" (.ref b)) (fun r s' => ∃ v, r = some v ∧ EP X pins σ Q v s') X.xe s := by
    unfold tryCompare
    refine wpAny_bind (HN.ifBound_objNe I.kIn J hn (HN.call_objNe I.kIn J hm hs hf sb.room.units0 ?_))
    refine wpAny_call (codeAny_mono (run_fnRS (us := [.ref a, .ref b]) (vs := [.ref a, .ref b]) F sb hx I (.cons rfl (.cons rfl .nil)) q) fun r s' z => ?_)
    cases r with
    | error e => exact z
    | ok fl =>
      cases fl with
      | ret u =>
        obtain ⟨z2, H2, I2, rz, c, ez, qz⟩ := z
        subst ez
        obtain rfl : u = Value.bool c := rz
        exact ⟨c, rfl, wpAny_pure ⟨_, rfl, .bl (!c), H2, I2, rfl, qz⟩⟩
      | next => exact False.elim z
      | brk => exact False.elim z
      | cont => exact False.elim z
  show wpAny _ _ (richCompare .NotEq _ _) _ _ _
  simp only [richCompare, cmpInfo_NotEq, oneThing_ref]
  refine wpAny_holding (wpAny_bind (wpAny_cRoomFor hr.units0 ?_))
  refine wpAny_bind (J.type.here (wpAny_bind (J2.type.here ?_)))
  rw [if_neg (by simp)]
  refine wpAny_bind (wpAny_pure ?_)
  simp only [Bool.false_eq_true, if_false, Bool.not_false, if_true]
  refine wpAny_bind (m := tryCompare (.ref a) _ (.ref b)) (wpAny_mono one (fun r s' z => ?_) fun _ _ e => e)
  obtain ⟨v, rfl, hq⟩ := z
  exact wpAny_pure hq
end
end L2
set_option Elab.async false
set_option linter.all false
set_option maxRecDepth 100000
set_option maxHeartbeats 4000000
namespace K01
open PySem PySem.Spec PyProof.Rows L2
/-! ### ratios by their exponents -/
/-- a ratio with these exponents at v -/
def Rx (C : Addr) (H : Hp) (v : V) (e : Ex) : Prop := Rt C H v (pw (ps e)) (pw (ng e))
theorem Rx.same {C : Addr} {H H2 : Hp} {v : V} {e : Ex} (h : Rx C H v e) (s : Same H H2) : Rx C H2 v e := Rt.same h s
theorem Rx.keep {C : Addr} {H H2 : Hp} {v : V} {e : Ex} (h : Rx C H v e) (s : ∀ a C dx fs, H a = some (.ins C dx fs) → H2 a = some (.ins C dx fs)) : Rx C H2 v e := by
  obtain ⟨a, dx, e1, h⟩ := h
  exact ⟨a, dx, e1, s _ _ _ _ h⟩
theorem tp_ex (e : Ex) : tp (pw (ps e)) (pw (ng e)) = pw (ps e) := by
  rw [tp_pw]
  exact pwn_congr fun i _ => by unfold ps ng; omega
theorem bt_ex (e : Ex) : bt (pw (ps e)) (pw (ng e)) = pw (ng e) := by
  rw [bt_pw]
  exact pwn_congr fun i _ => by unfold ps ng; omega
theorem rx_of {C : Addr} {H : Hp} {v : V} {a b : Nat → Nat} {e : Ex} (h : Rt C H v (pw a) (pw b)) (he : ∀ i, i < 18 → e i = (a i : Int) - (b i : Int)) : Rx C H v e := by
  obtain ⟨p, dx, e1, h⟩ := h
  refine ⟨p, dx, e1, ?_⟩
  rw [h]
  have e2 : rat (pw a) (pw b) = rat (pw (ps e)) (pw (ng e)) := by
    show [(("top" : Str), V.int ((tp (pw a) (pw b) : Nat) : Int)), (("bottom" : Str), V.int ((bt (pw a) (pw b) : Nat) : Int))] = [(("top" : Str), V.int ((tp (pw (ps e)) (pw (ng e)) : Nat) : Int)), (("bottom" : Str), V.int ((bt (pw (ps e)) (pw (ng e)) : Nat) : Int))]
    rw [tp_ex, bt_ex, tp_pw, bt_pw]
    have q1 : pw (fun i => a i - b i) = pw (ps e) := pwn_congr fun i hi => by have := he i hi; unfold ps; omega
    have q2 : pw (fun i => b i - a i) = pw (ng e) := pwn_congr fun i hi => by have := he i hi; unfold ng; omega
    rw [q1, q2]
  rw [e2]
theorem Rx.congr {C : Addr} {H : Hp} {v : V} {e f : Ex} (h : Rx C H v e) (he : ∀ i, i < 18 → f i = e i) : Rx C H v f :=
  rx_of h fun i hi => by rw [he i hi]; unfold ps ng; omega
/-- equal exponents -/
def EqE (e f : Ex) : Prop := ∀ i, i < 18 → e i = f i
theorem eq_pw {e f : Ex} (h1 : pw (ps e) = pw (ps f)) (h2 : pw (ng e) = pw (ng f)) : EqE e f := fun i hi => by
  have a := pw_inj h1 hi
  have b := pw_inj h2 hi
  unfold ps at a
  unfold ng at b
  omega
theorem bd1 {e : Ex} {n : Nat} (h : wt e ≤ n) : pw (ps e) < 2 ^ (6 * n + 1) ∧ pw (ng e) < 2 ^ (6 * n + 1) :=
  ⟨pw_bd (Nat.le_trans (ps_le e) h), pw_bd (Nat.le_trans (ng_le e) h)⟩
theorem two_le {a b x : Nat} (h : x < 2 ^ a) (le : a ≤ b) : x < 2 ^ b := Nat.lt_of_lt_of_le h (Nat.pow_le_pow_right (by decide) le)
/-- the class Ratio and its own operators -/
structure RatioO (P : Program) (w : World) (K : PySem.W.Frag) (mg : Str → Option Value) (base : Heap) (C CI : Addr) : Prop where
  c : RatioC P w K mg base C CI
  ini1 : ∃ f fd t, Mk K C f ∧ FnOk P w K mg base (L2.CX P w) 3 f fd ["self", "top", "bottom"] (spRatio C CI) ∧ Binds K fd ["self", "top", "bottom"] [.int 1 t]
  sf : PySem.W.selfFirst K C = true
  mul : ∃ g, PySem.W.findIn K (.ref C) "__mul__" = some (some (.ref g)) ∧ PySem.W.isFn K (.ref g) = true ∧ FnR P w K mg base CX0 5 g (spMul C)
  inv : ∃ g, PySem.W.findIn K (.ref C) "__invert__" = some (some (.ref g)) ∧ PySem.W.isFn K (.ref g) = true ∧ FnR P w K mg base (L2.CX P w) 5 g (spNeg C CI)
  eq : ∃ g, PySem.W.findIn K (.ref C) "__eq__" = some (some (.ref g)) ∧ PySem.W.isFn K (.ref g) = true ∧ FnR P w K mg base CX0 1 g (spEqR C)
  ne : PySem.W.findIn K (.ref C) "__ne__" = some (some (.builtin "object.__ne__"))
  raised : ∃ f fd, Meth K C "raised" f ∧ FnOk P w K mg base (L2.CX P w) 5 f fd ["self", "k"] (spRaised C CI) ∧ Binds K fd ["self", "k"] []
  power : ∃ f fd, Meth K C "power" f ∧ FnOk P w K mg base (L2.CX P w) 3 f fd ["self", "prime"] (spPower C CI) ∧ Binds K fd ["self", "prime"] []
theorem OpR.imp {X : Cx} {f : Value → Value → Sem Value} {r r' : R2} (o : OpR X f r) (h : ∀ x y H Q, r' x y H Q → r x y H Q) : OpR X f r' := fun pins s σ H x y v u Q I rx ry q => o pins s σ H x y v u Q I rx ry (h _ _ _ _ q)
theorem PE.imp {X : Cx} {e : Expr} {t t' : TE} (p : PE X e t) (h : ∀ σ H Q, t' σ H Q → t σ H Q) : PE X e t' := ⟨fun pins s σ H Q I q => p.run pins s σ H Q I (h _ _ _ q)⟩
section
variable {X : Cx} {C CI : Addr}
abbrev ROx (X : Cx) (C CI : Addr) : Prop := RatioO X.prog X.w X.K X.mg X.base C CI
def rMulR (C : Addr) : R2 := fun x y H Q => ∃ e f : Ex, Rx C H x e ∧ Rx C H y f ∧ wt e + wt f ≤ 1490 ∧ ∀ v H2, Same H H2 → Rx C H2 v (fun i => e i + f i) → Q v H2
theorem op_mulR (o : ROx X C CI) (hr : Room 5 X.A) : OpR X (binaryOp .Mult) (rMulR C) := by
  obtain ⟨g, h1, h2, F⟩ := o.mul
  refine OpR.imp (op_binO (E := E0) o.sf h1 h2 F hr pass0) fun x y H Q h => ?_
  obtain ⟨e, f, hx, hy, hw, k⟩ := h
  obtain ⟨a, dx, rfl, ha⟩ := id hx
  obtain ⟨b, dy, rfl, hb⟩ := id hy
  have b1 := bd1 (e := e) (n := 1490) (by omega)
  have b2 := bd1 (e := f) (n := 1490) (by omega)
  refine ⟨a, b, dx, dy, _, _, rfl, rfl, ha, hb, _, _, _, _, _, _, rfl, hx, hy, pwn_pos _ (Nat.le_refl _), pwn_pos _ (Nat.le_refl _), two_le b1.1 (by decide), two_le b1.2 (by decide), two_le b2.1 (by decide), two_le b2.2 (by decide), ?_, fun v H2 s2 h2 => k v H2 s2 ?_⟩
  · rw [bt_ex, bt_ex, ← pwn_add]
    refine two_le (pw_bd (n := 1490) ?_) (by decide)
    rw [sm_add]
    have := ng_le e
    have := ng_le f
    omega
  · rw [tp_ex, bt_ex, tp_ex, bt_ex, ← pwn_add, ← pwn_add] at h2
    exact rx_of h2 fun i _ => by unfold ps ng; omega
theorem un_invR (o : ROx X C CI) (hr : Room 5 X.A) (hx : Passes (L2.CX X.prog X.w) X E0) : UnR X (unaryOp .Invert) (fun x H Q => ∃ e : Ex, Rx C H x e ∧ wt e ≤ 1490 ∧ ∀ v H2, Same H H2 → Rx C H2 v (fun i => -(e i)) → Q v H2) := by
  obtain ⟨g, h1, h2, F⟩ := o.inv
  intro pins s σ H x v Q I rx h
  refine un_invO (E := E0) h1 h2 F hr hx pins s σ H x v Q I rx ?_
  obtain ⟨e, hxe, hw, k⟩ := h
  obtain ⟨a, dx, rfl, ha⟩ := id hxe
  have b1 := bd1 (e := e) (n := 1490) hw
  refine ⟨a, dx, _, rfl, ha, _, _, _, rfl, hxe, pwn_pos _ (Nat.le_refl _), two_le b1.1 (by decide), .inr ⟨pwn_pos _ (Nat.le_refl _), fun v H2 s2 h2 => k v H2 s2 ?_⟩⟩
  rw [tp_ex, bt_ex] at h2
  exact rx_of h2 fun i _ => by unfold ps ng; omega
def rEqR (C : Addr) (r : Bool) : R2 := fun x y H Q => ∃ e f : Ex, Rx C H x e ∧ Rx C H y f ∧ (EqE e f → Q (.bl r) H) ∧ (¬ EqE e f → Q (.bl (!r)) H)
theorem eqR_case {e f : Ex} {Q : Bool → Prop} (h1 : EqE e f → Q true) (h2 : ¬ EqE e f → Q false) : Q (decide (tp (pw (ps e)) (pw (ng e)) = tp (pw (ps f)) (pw (ng f))) && decide (bt (pw (ps e)) (pw (ng e)) = bt (pw (ps f)) (pw (ng f)))) := by
  rw [tp_ex, tp_ex, bt_ex, bt_ex]
  by_cases z : EqE e f
  · have q1 : pw (ps e) = pw (ps f) := pwn_congr fun i hi => by unfold ps; rw [z i hi]
    have q2 : pw (ng e) = pw (ng f) := pwn_congr fun i hi => by unfold ng; rw [z i hi]
    rw [q1, q2, decide_eq_true rfl, decide_eq_true rfl]
    exact h1 z
  · have n : (decide (pw (ps e) = pw (ps f)) && decide (pw (ng e) = pw (ng f))) = false := by
      rw [← Bool.decide_and]
      exact decide_eq_false fun q => z (eq_pw q.1 q.2)
    rw [n]
    exact h2 z
theorem op_eqR (o : ROx X C CI) (hr : Room 1 X.A) : OpR X (compareOp .Eq) (rEqR C true) := by
  obtain ⟨g, h1, h2, F⟩ := o.eq
  refine OpR.imp (op_eqO (E := E0) (fun _ _ => rfl) h1 h2 F hr pass0) fun x y H Q h => ?_
  obtain ⟨e, f, hx, hy, k1, k2⟩ := h
  obtain ⟨a, dx, rfl, ha⟩ := id hx
  obtain ⟨b, dy, rfl, hb⟩ := id hy
  exact ⟨a, b, dx, dy, _, _, rfl, rfl, ha, hb, _, _, _, _, _, _, rfl, hx, hy, eqR_case (Q := fun c => Q (.bl c) H) k1 k2⟩
theorem op_neR (o : ROx X C CI) (hr : Room 2 X.A) : OpR X (compareOp .NotEq) (rEqR C false) := by
  obtain ⟨g, h1, h2, F⟩ := o.eq
  refine OpR.imp (op_neO (E := E0) h1 o.ne o.c.hm h2 F hr pass0) fun x y H Q h => ?_
  obtain ⟨e, f, hx, hy, k1, k2⟩ := h
  obtain ⟨a, dx, rfl, ha⟩ := id hx
  obtain ⟨b, dy, rfl, hb⟩ := id hy
  refine ⟨a, b, dx, dy, _, _, rfl, rfl, ha, hb, _, _, _, _, _, _, rfl, hx, hy, ?_⟩
  exact eqR_case (Q := fun c => ∃ c', V.bl c = .bl c' ∧ Q (.bl (!c')) H) (fun z => ⟨true, rfl, k1 z⟩) fun z => ⟨false, rfl, k2 z⟩
/-- r.raised(k) -/
abbrev tRaisedR (C CI : Addr) (ta : TE) (t : TA) : TE := fun σ H Q => ta σ H fun x H1 => ∃ a dx fs, x = .ref a ∧ H1 a = some (.ins C dx fs) ∧ fs.lookup ("raised" : Str) = none ∧ t σ H1 fun vs H2 => spRaised C CI (x :: (vs ++ [])) H2 Q E0
/-- how its reading is answered -/
theorem raisedR_ok {CI : Addr} {H : Hp} {Q : VK} {x : V} {k : Int} {e : Ex} {E : XK} (hx : Rx C H x e) (hw : (6 * wt e + 1) * (k.natAbs + 1) ≤ 8900) (q : ∀ v H3, Same H H3 → Rx C H3 v (fun i => k * e i) → Q v H3) : spRaised C CI [x, .int k] H Q E := by
  have hb := bd1 (e := e) (n := wt e) (Nat.le_refl _)
  refine ⟨x, k, _, _, 6 * wt e + 1, rfl, hx, pwn_pos _ (Nat.le_refl _), by omega, hb.1, hb.2, hw, ?_⟩
  rw [tp_ex, bt_ex]
  by_cases n0 : 0 ≤ k
  · refine .inl ⟨n0, fun v H2 s2 h2 => q v H2 s2 ?_⟩
    rw [← pwn_mul, ← pwn_mul] at h2
    refine rx_of h2 fun i _ => ?_
    rw [Int.natCast_mul, Int.natCast_mul, ← Int.mul_sub, Int.natAbs_of_nonneg n0]
    congr 1
    unfold ps ng
    omega
  · refine .inr (.inr ⟨by omega, pwn_pos _ (Nat.le_refl _), fun v H2 s2 h2 => q v H2 s2 ?_⟩)
    rw [← pwn_mul, ← pwn_mul] at h2
    refine rx_of h2 fun i _ => ?_
    rw [Int.natCast_mul, Int.natCast_mul, ← Int.mul_sub, show ((k.natAbs : Nat) : Int) = -k by omega, Int.neg_mul, ← Int.mul_neg]
    congr 1
    unfold ps ng
    omega
theorem rat_no {t b : Nat} {m : Str} (h1 : (m == ("top" : Str)) = false) (h2 : (m == ("bottom" : Str)) = false) : (rat t b).lookup m = none := by
  unfold rat
  simp [List.lookup, h1, h2]
theorem pe_raisedR {pl : Sem Bool} {o e : Expr} {es : List Expr} {apos pos : Pos} {ta : TE} {t : TA} (r : ROx X C CI) (hr : Room 5 X.A) (hx : Passes (L2.CX X.prog X.w) X E0) (ho : PE X o ta) (ha : PA X (e :: es) t)
    (hst : starEach (e :: es) X.env = (false, eval e X.env) :: starEach es X.env := by rfl) (hpl : (backTo pos (starEach es X.env)).any (·.1) = false := by rfl)
    (ht : eval (.Call (.Attribute o "raised" apos) (e :: es) [] pos) X.env = (do
      let ov ← eval o X.env
      standAt apos.atName
      let (f, first) ← holding [ov] (getMethod ov "raised" pl)
      callWith pos f first (backTo pos (starEach (e :: es) X.env)) (backToKw pos (keywordEach [] X.env))) := by rfl) :
    PE X (.Call (.Attribute o "raised" apos) (e :: es) [] pos) (tRaisedR C CI ta t) := by
  obtain ⟨f, fd, M, F, b⟩ := r.raised
  refine PE.imp (pe_meth (E := E0) ho r.c.cls M F hr b .nil hx ha hst hpl ht) fun σ H Q h => ?_
  exact h
end
end K01
set_option Elab.async false
set_option linter.all false
set_option maxRecDepth 100000
set_option maxHeartbeats 4000000
namespace K01
open PySem PySem.Spec PyProof.Rows L2 LamX
section
variable {H H' : Hp} {g : Bg}
theorem tabs_same {T : List (Addr × Str)} {H1 : Hp} (t : Tabs T H) (s : Same H H1) : Tabs T H1 := t.ext fun b o e => s b o e
theorem tabs_drew {T : List (Addr × Str)} {H1 : Hp} (t : Tabs T H) (B : Bag g H) (d : Drew g H H1) : Tabs T H1 := fun p hp => by
  obtain ⟨i, u, sd, c, hb, _⟩ := B
  obtain ⟨ps, h1, h2, h3⟩ := t p hp
  refine ⟨ps, d.1 _ _ (fun z => by rw [z, hb] at h1; cases h1) h1, h2, fun pos cv hc => ?_⟩
  obtain ⟨c0, e1, e2⟩ := h3 pos cv hc
  refine ⟨c0, e1, d.1 _ _ (fun z => ?_) e2⟩
  rw [z, hb] at e2
  unfold CodeO at e2
  cases e2
end
/-- what stood but the bag and the tables stands; the bag is a bag; the tables are -/
structure Dx (g : Bg) (T : List (Addr × Str)) (H H' : Hp) : Prop where
  k : ∀ a o, a ≠ g.b → (∀ ps, o ≠ .tbl ps) → H a = some o → H' a = some o
  b : Bag g H'
  t : Tabs T H'
section
variable {K : PySem.W.Frag} {H H' H2 : Hp} {g : Bg} {TT : List (Addr × Str)} {a : Addr} {xs : List V} {v : V}
theorem Dx.trans (x : Dx g TT H H') (y : Dx g TT H' H2) : Dx g TT H H2 := ⟨fun a o n nt e => y.k a o n nt (x.k a o n nt e), y.b, y.t⟩
theorem Dx.refl (B : Bag g H) (t : Tabs TT H) : Dx g TT H H := ⟨fun _ _ _ _ e => e, B, t⟩
theorem Dx.drew (B : Bag g H) (t : Tabs TT H) (d : Drew g H H') : Dx g TT H H' := ⟨fun a o n _ e => d.1 a o n e, d.2, tabs_drew t B d⟩
theorem Dx.same (B : Bag g H) (t : Tabs TT H) (s : Same H H') : Dx g TT H H' := ⟨fun a o _ _ e => s a o e, B.same s, tabs_same t s⟩
theorem Dx.ext (B : Bag g H) (e : ExtN H H') (t : Tabs TT H') : Dx g TT H H' := ⟨fun a o _ nt z => e a o z nt, by
  obtain ⟨i, u, sd, c, h1, h2, r⟩ := B
  exact ⟨i, u, sd, c, e _ _ h1 (fun ps z => nomatch z), e _ _ h2 (fun ps z => nomatch z), r⟩, t⟩
theorem Dx.at_ (B : Bag g H) (d : Dx g TT H H') {o : HO} (h : H a = some o) (n1 : ∀ ps, o ≠ .tbl ps) (n2 : ∀ ys, o ≠ .lst ys) : H' a = some o := d.k a o (fun z => by
  obtain ⟨i, u, sd, c, hb, _⟩ := B
  rw [z, hb] at h
  exact n2 _ (Option.some.inj h).symm) n1 h
theorem Dx.sqT (B : Bag g H) (d : Dx g TT H H') (h : SqT K H a xs) : SqT K H' a xs := by
  rcases h with (h | ⟨o, h⟩) | h
  · exact .inl (.inl (d.at_ B h (fun ps z => nomatch z) (fun ps z => nomatch z)))
  · exact .inl (.inr ⟨o, d.at_ B h (fun ps z => nomatch z) (fun ps z => nomatch z)⟩)
  · exact .inr h
theorem Dx.lst (B : Bag g H) (d : Dx g TT H H') {ys : List V} (n : a ≠ g.b) (h : H a = some (.lst ys)) : H' a = some (.lst ys) := d.k a _ n (fun ps z => nomatch z) h
theorem Dx.tup (B : Bag g H) (d : Dx g TT H H') {ys : List V} (h : H a = some (.tup ys)) : H' a = some (.tup ys) := d.at_ B h (fun ps z => nomatch z) (fun ps z => nomatch z)
theorem Dx.ins (B : Bag g H) (d : Dx g TT H H') {C dx : Addr} {fs : List (Str × V)} (h : H a = some (.ins C dx fs)) : H' a = some (.ins C dx fs) := d.at_ B h (fun ps z => nomatch z) (fun ps z => nomatch z)
theorem bag_tup {ys : List V} (B : Bag g H) (h : H a = some (.tup ys)) : a ≠ g.b := fun z => by
  obtain ⟨i, u, sd, c, hb, _⟩ := B
  rw [z, hb] at h
  cases h
theorem Rt.dx {C : Addr} {t b : Nat} (B : Bag g H) (d : Dx g TT H H') (h : Rt C H v t b) : Rt C H' v t b := by
  obtain ⟨a, dx, e, h⟩ := h
  exact ⟨a, dx, e, d.ins B h⟩
end
/-- a def that makes lambdas: its code object is known -/
theorem okC {P : Program} {w : World} {K : PySem.W.Frag} {mg : Str → Option Value} {base : Heap} {CX : CXT} {N ps : List Str} {k : Nat} {sp : Sp} {x qual : Str} {params : Arguments} {body : List Stmt} {scope : Scope} {p : He.Defn} {fd : FuncData} (F : FunD K x qual params body scope [] [] (He.fAd K p) fd) (S : FnScope N ps scope) (len : ∀ vs H Q E, sp vs H Q E → vs.length = ps.length)
    (hbody : ∀ (A : Around) (outer : List Env) (s : Shared) (H : Hp) (vs : List V) (Q : VK) (E : XK), Room k (A.deeper (envOfC qual scope s.heap.objs.size (He.fAd K p) (.ref (He.codeOf K p)))) → sp vs H Q E →
      ∃ t, PSs (cxOf CX P w K mg base N qual scope (He.fAd K p) (.ref (He.codeOf K p)) A outer s H E) body t ∧ t { nx := fun _ H' => Q .non H', rt := Q } (L2.start N vs) H) : FnOk P w K mg base CX (k + 1) (He.fAd K p) fd ps sp := by
  obtain ⟨oc, od, dV, kV, doc, pm, an, cdv, ct, osl, rfl, lk, hcd, _, _⟩ := F.ex
  obtain ⟨c, rfl⟩ := He.codeIn_ref hcd
  have e := He.codeOf_eq lk rfl
  rw [e] at hbody
  exact fn_of lk hcd S len fun A outer s H vs Q E hr hsp => hbody A outer s H vs Q E hr hsp
inductive AlkAll (K : PySem.W.Frag) (H : Hp) (n : Nat) : List V → List V → Prop
  | nil : AlkAll K H n [] []
  | cons {x y : V} {xs ys : List V} (h : Alk K NoA H n x y) (t : AlkAll K H n xs ys) : AlkAll K H n (x :: xs) (y :: ys)
theorem AlkAll.len {K : PySem.W.Frag} {H : Hp} {n : Nat} {xs ys : List V} (h : AlkAll K H n xs ys) : xs.length = ys.length := by
  induction h with
  | nil => rfl
  | cons h t ih => rw [List.length_cons, List.length_cons, ih]
theorem AlkAll.at_ {K : PySem.W.Frag} {H : Hp} {n : Nat} {xs ys : List V} (h : AlkAll K H n xs ys) : ∀ (i : Nat) (u v : V), xs[i]? = some u → ys[i]? = some v → Alk K NoA H n u v := by
  induction h with
  | nil => intro i u v h; simp at h
  | cons h t ih =>
    intro i u v h1 h2
    match i with
    | 0 =>
      cases h1
      cases h2
      exact h
    | i + 1 => exact ih i u v h1 h2
theorem alk_lst {K : PySem.W.Frag} {H : Hp} {p q : Addr} {xs ys : List V} {n : Nat} (hp : H p = some (.lst xs)) (hq : H q = some (.lst ys)) (l : xs.length ≤ 1000) (h : AlkAll K H n xs ys) : Alk K NoA H (n + 1) (.ref p) (.ref q) :=
  .inr ⟨p, q, _, _, rfl, rfl, fun z => z, fun z => z, .inl ⟨hp, hq⟩, h.len, l, h.at_⟩
theorem pe_calX {X : Cx} {k : Nat} {ps : List Str} {sp : Sp} {x : Str} {p pos : Pos} {e : Expr} {es : List Expr} {t : TA} {CX : CXT} {E : XK} (c : Cal X.prog X.w X.K X.mg X.base CX x k ps sp) (hr : Room k X.A) (hg : Gl X x) (hx : Passes CX X E) (ha : PA X (e :: es) t)
    (hdb : (x == ("__debug__" : Str)) = false := by decide) (he : starEach (e :: es) X.env = (false, eval e X.env) :: starEach es X.env := by rfl) (hpl : (backTo pos (starEach es X.env)).any (·.1) = false := by rfl) :
    PE X (.Call (.Name x p) (e :: es) [] pos) (tCall sp [] E t) := by
  obtain ⟨f, fd, F, hm, hk, hb⟩ := c
  exact pe_call F hr hg hm hk hb .nil hx ha hdb he hpl
theorem bag_keep {g : Bg} {H H' : Hp} {a : Addr} {o : HO} (B : Bag g H) (d : Drew g H H') (h : H a = some o) (n : ∀ ys, o ≠ .lst ys) : H' a = some o := d.1 _ _ (fun z => by
  obtain ⟨i, u, sd, c, hb, _⟩ := B
  rw [z, hb] at h
  exact n _ (Option.some.inj h).symm) h
theorem Rt.drew {C : Addr} {g : Bg} {H H' : Hp} {v : V} {t b : Nat} (B : Bag g H) (d : Drew g H H') (h : Rt C H v t b) : Rt C H' v t b := by
  obtain ⟨a, dx, e, h⟩ := h
  exact ⟨a, dx, e, bag_keep B d h (fun ys z => nomatch z)⟩
theorem bag_keepT {g : Bg} {H H' : Hp} {a : Addr} {ys : List V} (B : Bag g H) (d : Drew g H H') (h : H a = some (.tup ys)) : H' a = some (.tup ys) := d.1 _ _ (fun z => by
  obtain ⟨i, u, sd, c, hb, _⟩ := B
  rw [z, hb] at h
  cases h) h
/-! ### what an ask tells -/
theorem ask_inv {CI CT : Addr} {x : V} {H : Hp} {Q : VK} (q : ∀ l H2, H l = none → Same H H2 → H2 l = some (.lst [.str "InvalidNumber", .str "InvalidNumber", x]) → Q (.ref l) H2) : Inv1 CI x H (askE CI CT Q) := fun d H2 hd s h => ⟨CI, d, rfl, rfl, .inl ⟨rfl, x, h, fun l hl => q l _ (s.free hl) (s.trans (Same.new hl)) upd_same⟩⟩
theorem ask_tm {CI CT : Addr} {c : Int} {H : Hp} {Q : VK} (q : ∀ l H2, H l = none → Same H H2 → H2 l = some (.lst [.str "TooMany", .str "TooMany", .str "words", .int c]) → Q (.ref l) H2) : Tm CT c H (askE CI CT Q) := fun d H2 hd s h => ⟨CT, d, rfl, rfl, .inr ⟨rfl, _, _, h, fun l hl => q l _ (s.free hl) (s.trans (Same.new hl)) upd_same⟩⟩
theorem ask_told {v : V} {H : Hp} {Q : VK} (q : ∀ l H2, H l = none → Same H H2 → H2 l = some (.lst [.str "told", v]) → Q (.ref l) H2) : askQ Q v H := ⟨(by show 2 ≤ sizeLine; decide), fun t ht => q t _ ht (Same.new ht) upd_same⟩
/-! ### odd values: no int, and no more than one level -/
def OV (g : Bg) (H : Hp) (x : V) : Prop := x = .non ∨ (∃ b, x = .bl b) ∨ (∃ s, x = .str s) ∨ ∃ (a : Addr) (xs : List V), x = .ref a ∧ a ≠ g.b ∧ (H a = some (.lst xs) ∨ H a = some (.tup xs)) ∧ (∀ y ∈ xs, Sc y) ∧ xs.length ≤ 900
section
variable {K : PySem.W.Frag} {H H' : Hp} {g : Bg} {TT : List (Addr × Str)} {x : V}
theorem OV.odd (h : OV g H x) : Odd H x := by
  rcases h with h | h | h | ⟨a, xs, h, _, h2, _⟩
  · exact .inl h
  · exact .inr (.inl h)
  · exact .inr (.inr (.inl h))
  · exact .inr (.inr (.inr ⟨a, xs, h, h2⟩))
theorem OV.same (h : OV g H x) (s : Same H H') : OV g H' x := by
  rcases h with h | h | h | ⟨a, xs, h, n, h2, h3⟩
  · exact .inl h
  · exact .inr (.inl h)
  · exact .inr (.inr (.inl h))
  · exact .inr (.inr (.inr ⟨a, xs, h, n, h2.imp (s _ _) (s _ _), h3⟩))
theorem OV.dx (B : Bag g H) (d : Dx g TT H H') (h : OV g H x) : OV g H' x := by
  rcases h with h | h | h | ⟨a, xs, h, n, h2, h3⟩
  · exact .inl h
  · exact .inr (.inl h)
  · exact .inr (.inr (.inl h))
  · exact .inr (.inr (.inr ⟨a, xs, h, n, h2.imp (d.lst B n) (d.tup B), h3⟩))
theorem OV.alk (h : OV g H x) : Alk K NoA H 1 x x := by
  rcases h with rfl | ⟨b, rfl⟩ | ⟨s, rfl⟩ | ⟨a, xs, rfl, n, h2, h3, h4⟩
  · exact Alk.sc .non
  · exact Alk.sc (.bl _)
  · exact Alk.sc (.str _)
  · refine .inr ⟨a, a, xs, xs, rfl, rfl, fun z => z, fun z => z, h2.imp (fun z => ⟨z, z⟩) (fun z => ⟨SqT.of z, SqT.of z⟩), rfl, by omega, fun i u v hu hv => ?_⟩
    rw [hu] at hv
    cases hv
    exact ⟨h3 _ (List.mem_of_getElem? hu), rfl⟩
theorem sc_all {n : Nat} {b : Addr} : ∀ {xs : List V}, (∀ y ∈ xs, Sc y) → RpA K b H n (xs.map D.sc) xs
  | [], _ => .nil
  | y :: ys, h => .cons (Rp.sc (h y List.mem_cons_self)) (sc_all fun z hz => h z (List.mem_cons_of_mem _ hz))
theorem OV.rp (h : OV g H x) : ∃ d, Rp K g.b H 1 d x ∧ isI d = false := by
  rcases h with rfl | ⟨b, rfl⟩ | ⟨s, rfl⟩ | ⟨a, xs, rfl, n, h2 | h2, h3, h4⟩
  · exact ⟨_, Rp.sc .non, rfl⟩
  · exact ⟨_, Rp.sc (.bl _), rfl⟩
  · exact ⟨_, Rp.sc (.str _), rfl⟩
  · exact ⟨_, Rp.lst h2 n (sc_all h3) h4, rfl⟩
  · exact ⟨_, Rp.tup (SqT.of h2) (sc_all h3) h4, rfl⟩
/-- an int, or an odd value -/
def SV (g : Bg) (H : Hp) (x : V) : Prop := (∃ i, x = .int i) ∨ OV g H x
theorem SV.alk (h : SV g H x) : Alk K NoA H 1 x x := by
  rcases h with ⟨i, rfl⟩ | h
  · exact Alk.sc (.int _)
  · exact h.alk
theorem SV.same (h : SV g H x) (s : Same H H') : SV g H' x := h.imp id fun z => z.same s
theorem SV.dx (B : Bag g H) (d : Dx g TT H H') (h : SV g H x) : SV g H' x := h.imp id fun z => z.dx B d
end
/-! ### the law's powers -/
def ofL (es : List Int) : Ex := fun i => match i with
  | 0 => es.getD 0 0 | 1 => es.getD 1 0 | 2 => es.getD 2 0 | 3 => es.getD 3 0 | 4 => es.getD 4 0 | 5 => es.getD 5 0 | 6 => es.getD 6 0
  | 12 => es.getD 7 0 | 16 => es.getD 8 0 | 17 => es.getD 9 0 | _ => 0
theorem ten {es : List Int} (h : es.length = 10) : ∃ a b c d e f i j k l, es = [a, b, c, d, e, f, i, j, k, l] := by
  match es, h with
  | [a, b, c, d, e, f, i, j, k, l], _ => exact ⟨a, b, c, d, e, f, i, j, k, l, rfl⟩
theorem worth_pw {es : List Int} (h : es.length = 10) : worth es = ((pw (ps (ofL es)) : Nat) : Int) := by
  obtain ⟨a, b, c, d, e, f, i, j, k, l, rfl⟩ := ten h
  show 1 * 2 ^ a.toNat * 3 ^ b.toNat * 5 ^ c.toNat * 7 ^ d.toNat * 11 ^ e.toNat * 13 ^ f.toNat * 17 ^ i.toNat * 41 ^ j.toNat * 59 ^ k.toNat * 61 ^ l.toNat = ((1 * 2 ^ a.toNat * 3 ^ b.toNat * 5 ^ c.toNat * 7 ^ d.toNat * 11 ^ e.toNat * 13 ^ f.toNat * 17 ^ i.toNat * 19 ^ 0 * 23 ^ 0 * 29 ^ 0 * 31 ^ 0 * 37 ^ 0 * 41 ^ j.toNat * 43 ^ 0 * 47 ^ 0 * 53 ^ 0 * 59 ^ k.toNat * 61 ^ l.toNat : Nat) : Int)
  simp only [Nat.pow_zero, Nat.mul_one, Int.natCast_mul, Int.natCast_pow]
  rfl
theorem cs18 {n : Nat} (h : n < 18) : n = 0 ∨ n = 1 ∨ n = 2 ∨ n = 3 ∨ n = 4 ∨ n = 5 ∨ n = 6 ∨ n = 7 ∨ n = 8 ∨ n = 9 ∨ n = 10 ∨ n = 11 ∨ n = 12 ∨ n = 13 ∨ n = 14 ∨ n = 15 ∨ n = 16 ∨ n = 17 := by omega
theorem ofL_map (f : Int → Int) (f0 : f 0 = 0) {es : List Int} (h : es.length = 10) : EqE (ofL (es.map f)) fun i => f (ofL es i) := by
  obtain ⟨a, b, c, d, e, f', i, j, k, l, rfl⟩ := ten h
  intro n hn
  rcases cs18 hn with rfl | rfl | rfl | rfl | rfl | rfl | rfl | rfl | rfl | rfl | rfl | rfl | rfl | rfl | rfl | rfl | rfl | rfl <;> first | rfl | exact f0.symm
theorem worth_ng {es : List Int} (h : es.length = 10) : worth (es.map fun e => 0 - e) = ((pw (ng (ofL es)) : Nat) : Int) := by
  rw [worth_pw (by rw [List.length_map]; exact h)]
  have key : pw (ps (ofL (es.map fun e => 0 - e))) = pw (ng (ofL es)) := pwn_congr fun i hi => by
    have := ofL_map (fun e => 0 - e) rfl h i hi
    have this : ofL (es.map fun e => 0 - e) i = 0 - ofL es i := this
    unfold ps ng
    rw [this]
    omega
  rw [key]
theorem ofL_sums {es fs : List Int} (h : es.length = 10) (h2 : fs.length = 10) : EqE (ofL (sums es fs)) fun i => ofL es i + ofL fs i := by
  obtain ⟨a, b, c, d, e, f', i, j, k, l, rfl⟩ := ten h
  obtain ⟨a2, b2, c2, d2, e2, f2, i2, j2, k2, l2, rfl⟩ := ten h2
  intro n hn
  rcases cs18 hn with rfl | rfl | rfl | rfl | rfl | rfl | rfl | rfl | rfl | rfl | rfl | rfl | rfl | rfl | rfl | rfl | rfl | rfl <;> rfl
theorem ofL_inj {es fs : List Int} (h : es.length = 10) (h2 : fs.length = 10) (q : EqE (ofL es) (ofL fs)) : es = fs := by
  obtain ⟨a, b, c, d, e, f', i, j, k, l, rfl⟩ := ten h
  obtain ⟨a2, b2, c2, d2, e2, f2, i2, j2, k2, l2, rfl⟩ := ten h2
  have q0 : a = a2 := q 0 (by decide)
  have q1 : b = b2 := q 1 (by decide)
  have q2 : c = c2 := q 2 (by decide)
  have q3 : d = d2 := q 3 (by decide)
  have q4 : e = e2 := q 4 (by decide)
  have q5 : f' = f2 := q 5 (by decide)
  have q6 : i = i2 := q 6 (by decide)
  have q7 : j = j2 := q 12 (by decide)
  have q8 : k = k2 := q 16 (by decide)
  have q9 : l = l2 := q 17 (by decide)
  rw [q0, q1, q2, q3, q4, q5, q6, q7, q8, q9]
/-- a ratio with these powers; none: 0 -/
def RzV (C : Addr) (H : Hp) (v : V) : Option (List Int) → Prop
  | none => ∃ b, 1 ≤ b ∧ b < 2 ^ 8900 ∧ Rt C H v 0 b
  | some es => Rx C H v (ofL es)
/-- the list of the powers, or None -/
def PwV (g : Bg) (H : Hp) (v : V) : Option (List Int) → Prop
  | none => v = .non
  | some es => ∃ a, v = .ref a ∧ a ≠ g.b ∧ H a = some (.lst (es.map V.int))
/-- ten powers, of so many bits -/
def BdO (m : Nat) : Option (List Int) → Prop
  | none => True
  | some es => es.length = 10 ∧ pw (ps (ofL es)) < 2 ^ m ∧ pw (ng (ofL es)) < 2 ^ m
section
variable {H H' : Hp} {g : Bg} {TT : List (Addr × Str)} {v : V} {C : Addr} {o : Option (List Int)} {m n : Nat}
theorem RzV.same (h : RzV C H v o) (s : Same H H') : RzV C H' v o := by
  cases o with
  | none =>
    obtain ⟨b, b1, b2, h⟩ := h
    exact ⟨b, b1, b2, h.same s⟩
  | some es => exact Rx.same h s
theorem RzV.dx (B : Bag g H) (d : Dx g TT H H') (h : RzV C H v o) : RzV C H' v o := by
  cases o with
  | none =>
    obtain ⟨b, b1, b2, h⟩ := h
    exact ⟨b, b1, b2, h.dx B d⟩
  | some es => exact Rt.dx B d h
theorem PwV.same (h : PwV g H v o) (s : Same H H') : PwV g H' v o := by
  cases o with
  | none => exact h
  | some es =>
    obtain ⟨a, e, n, h⟩ := h
    exact ⟨a, e, n, s _ _ h⟩
theorem PwV.dx (B : Bag g H) (d : Dx g TT H H') (h : PwV g H v o) : PwV g H' v o := by
  cases o with
  | none => exact h
  | some es =>
    obtain ⟨a, e, n, h⟩ := h
    exact ⟨a, e, n, d.lst B n h⟩
theorem BdO.mono (h : BdO m o) (le : m ≤ n) : BdO n o := by
  cases o with
  | none => exact h
  | some es => exact ⟨h.1, two_le h.2.1 le, two_le h.2.2 le⟩
end
end K01
set_option Elab.async false
set_option linter.all false
set_option maxRecDepth 100000
set_option maxHeartbeats 4000000
namespace K01
open PySem PySem.Spec PyProof.Rows L2
section
variable {P : Program} {w : World} {K : PySem.W.Frag} {mg : Str → Option Value} {base : Heap}
/-! ### Ratio ** -/
theorem sc_powR : FnScope ["self", "other"] ["self", "other"] (defScope (methOf (top 13) 4)) := ⟨rfl, rfl, rfl, by decide +kernel, rfl, by decide +kernel, by decide +kernel⟩
theorem ok_powR {f fR : Addr} {fd fdR : FuncData} {C CI : Addr} (F : FnM K "__pow__" "Ratio.__pow__" (methOf (top 13) 4) f fd) (c_Ratio : RatioC P w K mg base C CI) (M_raised : Meth K C "raised" fR) (F_raised : FnOk P w K mg base (L2.CX P w) 5 fR fdR ["self", "k"] (spRaised C CI)) (b_raised : Binds K fdR ["self", "k"] []) : FnOk P w K mg base (L2.CX P w) 6 f fd ["self", "other"] (spRaised C CI) := by
  have sc := sc_powR
  refine F.ok sc (fun vs H Q E h => ?_) (fun cdv A outer s H vs Q E hr h => ?_)
  · obtain ⟨x, n, t, b, m, rfl, _⟩ := h
    rfl
  · have hr_raised : Room 5 _ := hr
    obtain ⟨x, n, t, b, m, rfl, ⟨a, dx, rfl, ha⟩, h⟩ := h
    have px := passes_call (E := E) (takes_of (X := cxOf (L2.CX P w) P w K mg base ["self", "other"] "Ratio.__pow__" (defScope (methOf (top 13) 4)) f cdv A outer s H E) rfl rfl rfl rfl) fun _ _ _ _ h => h
    refine ⟨_, (pss_one (ps_ret (pe_meth (pv 0) c_Ratio.cls M_raised F_raised hr_raised b_raised .nil px (pa_cons (pv 1) pa_nil)))), ?_⟩
    exact ⟨_, rfl, a, dx, _, rfl, ha, rfl, _, rfl, _, n, t, b, m, rfl, ⟨a, dx, rfl, ha⟩, h⟩
end
end K01
set_option Elab.async false
set_option linter.all false
set_option maxRecDepth 100000
set_option maxHeartbeats 4000000
namespace K01
open PySem PySem.Spec PyProof.Rows L2
section
variable {P : Program} {w : World} {K : PySem.W.Frag} {mg : Str → Option Value} {base : Heap}
/-! ### count_ratio -/
def spCount (C CI : Addr) : Sp := fun vs H Q E => rMkRat C CI E vs H Q
theorem sc_count : FnScope ["part", "whole"] ["part", "whole"] (defScope (top 15)) := ⟨rfl, rfl, rfl, by decide +kernel, rfl, by decide +kernel, by decide +kernel⟩
theorem ok_count {f : Addr} {fd : FuncData} {C CI : Addr} (F : FnP K "count_ratio" (top 15) f fd) (c_Ratio : RatioC P w K mg base C CI) : FnOk P w K mg base (L2.CX P w) 5 f fd ["part", "whole"] (spCount C CI) := by
  have sc := sc_count
  refine F.ok sc (fun vs H Q E h => ?_) (fun cdv A outer s H vs Q E hr h => ?_)
  · obtain ⟨x, y, rfl, _⟩ := h
    rfl
  · have hr_ratio : Room 4 _ := hr
    obtain ⟨x, y, rfl, h⟩ := h
    have px := passes_call (E := E) (takes_of (X := cxOf (L2.CX P w) P w K mg base ["part", "whole"] "count_ratio" (defScope (top 15)) f cdv A outer s H E) rfl rfl rfl rfl) fun _ _ _ _ h => h
    exact ⟨_, (pss_one (ps_ret (pe_ratio c_Ratio hr_ratio rfl px (pa_cons (pv 0) (pa_cons (pv 1) pa_nil))))), _, rfl, _, rfl, x, y, rfl, h⟩
end
end K01
set_option Elab.async false
set_option linter.all false
set_option maxRecDepth 100000
set_option maxHeartbeats 4000000
/-! bool(x) of an instance that has neither __bool__ nor __len__ -/
namespace GBI
open PySem PySem.Spec PyProof.Rows
open PySem.Sem (wp)
structure NoTruth (K : PySem.W.Frag) (C : Addr) : Prop where
  b : PySem.W.findIn K (.ref C) "__bool__" = some none
  l : PySem.W.findIn K (.ref C) "__len__" = some none
theorem truthy_inst {M : Model} {A : Around} {E : Value → Shared → Prop} {s : Shared} {K : PySem.W.Frag} {a C : Addr} {ox : Obj} {od : Option Obj} {Q : Bool → Shared → Prop} (X : K.In s.heap) (I : PySem.W.InstAt s.heap a ox C od) (n : NoTruth K C) (h : Q true s) : wpAny M A (truthy (.ref a)) Q E s := by
  unfold truthy
  refine wpAny_bind (m := callSpecial? (.ref a) (Str.ofString "__bool__")) (wpAny_bind (wpAny_bind (I.type.here ((PySem.W.looks_findIn X n.b).here (wpAny_pure ?_)))))
  refine wpAny_bind (wpAny_bind (I.type.here ((PySem.W.looks_findIn X n.l).here ?_)))
  exact wpAny_pure h
theorem meets_bool_inst (K : PySem.W.Frag) (a C : Addr) (ox : Obj) (od : Option Obj) (n : NoTruth K C) :
    Meets (Builtin.«bool.__new__» ⟨[.type "bool", .ref a], []⟩) (fun _ R s => (K.In s.heap ∧ PySem.W.InstAt s.heap a ox C od) ∧ R (.ok (.ret (.bool true))) s) :=
  Meets.of_wp fun prog w A R s hs => by
    obtain ⟨⟨hl, hI⟩, hs⟩ := hs
    obtain ⟨hp, g, d, tk, os⟩ := s
    have f1 := F.conv_sub_bool
    repeat (any_goals (first | assumption | (with_reducible refine wpAny_bind (truthy_inst hl hI n ?_)) | (with_reducible refine truthy_inst hl hI n ?_) | wp_step))
    all_goals first | exact ⟨_, rfl, hs⟩ | exact hs | skip
end GBI
namespace L2
open PySem PySem.Spec PyProof.Rows
section
variable {X : Cx} {C : Addr}
/-- bool(x) -/
theorem call_boolO (n : GBI.NoTruth X.K C) : CallR X (.type "bool") (fun xs H Q => ∃ a dx fs, xs = [.ref a] ∧ H a = some (.ins C dx fs) ∧ Q (.bl true) H) := by
  intro pins s σ H xs us Q I r h
  obtain ⟨a, dx, fs, rfl, ha, q⟩ := h
  obtain rfl := Vals.ref1 r
  obtain ⟨mA, J, _⟩ := ins_get I.hok ha
  obtain ⟨od, J, _⟩ := J.look
  exact PySem.call_bool_1 (GBI.meets_bool_inst X.K a C _ _ n) ⟨⟨I.kIn, J⟩, ⟨PySem.typeIs_bool _ _, .bl true, H, I, rfl, q⟩⟩
end
end L2
set_option Elab.async false
set_option linter.all false
set_option maxRecDepth 100000
set_option maxHeartbeats 4000000
namespace K01
open PySem PySem.Spec PyProof.Rows L2 LamX
/-! ### what ratios give, by their powers -/
def sumO : Option (List Int) → Option (List Int) → Option (List Int)
  | some es, some fs => some (sums es fs)
  | _, _ => none
section
variable {K : PySem.W.Frag} {C CI : Addr} {H : Hp} {Q : VK} {E : XK} {x y v : V} {o o' : Option (List Int)} {es : List Int} {m : Nat} {k : Int}
theorem pwp (a : Nat → Nat) : 1 ≤ pw a := pwn_pos a (Nat.le_refl _)
theorem pow_prod {a b m n : Nat} (h1 : a < 2 ^ m) (h2 : b < 2 ^ n) : a * b < 2 ^ (m + n) := by
  rw [Nat.pow_add]
  exact Nat.mul_lt_mul'' h1 h2
theorem sums_len {es fs : List Int} (h1 : es.length = 10) (h2 : fs.length = 10) : (sums es fs).length = 10 := by
  unfold sums
  rw [List.length_map, List.length_zip, h1, h2]
  rfl
theorem zero_gcd (b : Nat) : tp 0 b = 0 ∧ (1 ≤ b → bt 0 b = 1) := by
  refine ⟨Nat.zero_div _, fun h => ?_⟩
  show b / Nat.gcd 0 b = 1
  rw [Nat.gcd_zero_left]
  exact Nat.div_self (by omega)
theorem sum_at {es fs : List Int} (h1 : es.length = 10) (h2 : fs.length = 10) {i : Nat} (hi : i < 18) : ofL (sums es fs) i = ofL es i + ofL fs i := ofL_sums h1 h2 i hi
theorem neg_at {es : List Int} (h1 : es.length = 10) {i : Nat} (hi : i < 18) : ofL (es.map fun e => 0 - e) i = 0 - ofL es i := ofL_map (fun e => 0 - e) rfl h1 i hi
theorem mul_at {es : List Int} (k : Int) (h1 : es.length = 10) {i : Nat} (hi : i < 18) : ofL (es.map fun e => e * k) i = ofL es i * k := ofL_map (fun e => e * k) (Int.zero_mul k) h1 i hi
theorem pw_mono {a b : Nat → Nat} (h : ∀ i, i < 18 → a i ≤ b i) : pw a ≤ pw b := by
  have key : ∀ n, n ≤ 18 → pwn n a ≤ pwn n b := fun n => by
    induction n with
    | zero => exact fun _ => Nat.le_refl _
    | succ n ih => exact fun hn => Nat.mul_le_mul (ih (by omega)) (Nat.pow_le_pow_right (by have := pr_ge (i := n) (by omega); omega) (h n (by omega)))
  exact key 18 (Nat.le_refl _)
theorem pow_bits {a m k : Nat} (m0 : 0 < m) (h : a < 2 ^ m) : a ^ k < 2 ^ (m * (k + 1)) := by
  refine Nat.lt_of_le_of_lt (Nat.pow_le_pow_left (Nat.le_of_lt h) k) ?_
  rw [← Nat.pow_mul]
  exact Nat.pow_lt_pow_right (by decide) (by rw [Nat.mul_succ]; omega)
theorem bdO_sum {es fs : List Int} (h1 : BdO m (some es)) (h2 : BdO m (some fs)) : BdO (m + m) (some (sums es fs)) := by
  obtain ⟨l1, a1, b1⟩ := h1
  obtain ⟨l2, a2, b2⟩ := h2
  have e1 : pw (ps (ofL (sums es fs))) ≤ pw (ps (ofL es)) * pw (ps (ofL fs)) := by
    rw [← pwn_add]
    exact pw_mono fun i hi => by have := sum_at l1 l2 hi; unfold ps; rw [this]; omega
  have e2 : pw (ng (ofL (sums es fs))) ≤ pw (ng (ofL es)) * pw (ng (ofL fs)) := by
    rw [← pwn_add]
    exact pw_mono fun i hi => by have := sum_at l1 l2 hi; unfold ng; rw [this]; omega
  exact ⟨sums_len l1 l2, Nat.lt_of_le_of_lt e1 (pow_prod a1 a2), Nat.lt_of_le_of_lt e2 (pow_prod b1 b2)⟩
theorem mulZ (hx : RzV C H x o) (hy : RzV C H y o') (bx : BdO m o) (b_y : BdO m o') (hm : m ≤ 4000) (k : ∀ v H2, Same H H2 → RzV C H2 v (sumO o o') → Q v H2) : spMul C [x, y] H Q E := by
  have w1 : (2 : Nat) ^ 8900 ≤ 2 ^ 20000 := Nat.pow_le_pow_right (by decide) (by decide)
  have w2 : (2 : Nat) ^ m ≤ 2 ^ 20000 := Nat.pow_le_pow_right (by decide) (by omega)
  have w3 : (2 : Nat) ^ m ≤ 2 ^ 4000 := Nat.pow_le_pow_right (by decide) hm
  cases o with
  | none =>
    obtain ⟨b, b1, b2, hx⟩ := hx
    obtain ⟨e1, e2⟩ := zero_gcd b
    cases o' with
    | none =>
      obtain ⟨d, d1, d2, hy⟩ := hy
      obtain ⟨f1, f2⟩ := zero_gcd d
      refine ⟨x, y, 0, b, 0, d, rfl, hx, hy, b1, d1, Nat.pow_pos (by decide), Nat.lt_of_lt_of_le b2 w1, Nat.pow_pos (by decide), Nat.lt_of_lt_of_le d2 w1, ?_, fun v H2 s2 h2 => k v H2 s2 ?_⟩
      · rw [e2 b1, f2 d1]
        exact Nat.lt_of_lt_of_le (by decide) (Nat.pow_le_pow_right (n := 2) (by decide) (show 1 ≤ 8990 by decide))
      · rw [e1, e2 b1, f2 d1, Nat.zero_mul] at h2
        exact ⟨1, Nat.le_refl _, Nat.lt_of_lt_of_le (by decide) (Nat.pow_le_pow_right (n := 2) (by decide) (show 1 ≤ 8900 by decide)), h2⟩
    | some fs =>
      obtain ⟨l, a2, b3⟩ := b_y
      refine ⟨x, y, 0, b, _, _, rfl, hx, hy, b1, pwp _, Nat.pow_pos (by decide), Nat.lt_of_lt_of_le b2 w1, Nat.lt_of_lt_of_le a2 w2, Nat.lt_of_lt_of_le b3 w2, ?_, fun v H2 s2 h2 => k v H2 s2 ?_⟩
      · rw [e2 b1, bt_ex, Nat.one_mul]
        exact Nat.lt_of_lt_of_le b3 (Nat.pow_le_pow_right (by decide) (by omega))
      · rw [e1, e2 b1, bt_ex, Nat.zero_mul, Nat.one_mul] at h2
        exact ⟨_, pwp _, Nat.lt_of_lt_of_le b3 (Nat.pow_le_pow_right (by decide) (by omega)), h2⟩
  | some es =>
    obtain ⟨l0, a0, b0⟩ := bx
    cases o' with
    | none =>
      obtain ⟨d, d1, d2, hy⟩ := hy
      obtain ⟨f1, f2⟩ := zero_gcd d
      refine ⟨x, y, _, _, 0, d, rfl, hx, hy, pwp _, d1, Nat.lt_of_lt_of_le a0 w2, Nat.lt_of_lt_of_le b0 w2, Nat.pow_pos (by decide), Nat.lt_of_lt_of_le d2 w1, ?_, fun v H2 s2 h2 => k v H2 s2 ?_⟩
      · rw [bt_ex, f2 d1, Nat.mul_one]
        exact Nat.lt_of_lt_of_le b0 (Nat.pow_le_pow_right (by decide) (by omega))
      · rw [f1, bt_ex, f2 d1, Nat.mul_zero, Nat.mul_one] at h2
        exact ⟨_, pwp _, Nat.lt_of_lt_of_le b0 (Nat.pow_le_pow_right (by decide) (by omega)), h2⟩
    | some fs =>
      obtain ⟨l1, a1, b1⟩ := b_y
      refine ⟨x, y, _, _, _, _, rfl, hx, hy, pwp _, pwp _, Nat.lt_of_lt_of_le a0 w2, Nat.lt_of_lt_of_le b0 w2, Nat.lt_of_lt_of_le a1 w2, Nat.lt_of_lt_of_le b1 w2, ?_, fun v H2 s2 h2 => k v H2 s2 ?_⟩
      · rw [bt_ex, bt_ex]
        exact Nat.lt_of_lt_of_le (pow_prod b0 b1) (Nat.pow_le_pow_right (by decide) (by omega))
      · rw [tp_ex, bt_ex, tp_ex, bt_ex, ← pwn_add, ← pwn_add] at h2
        refine rx_of h2 fun i hi => ?_
        rw [sum_at l0 l1 hi]
        clear a0 b0 a1 b1 w1 w2 w3
        unfold ps ng
        omega
theorem negZ (hx : RzV C H x (some es)) (bx : BdO m (some es)) (hm : m ≤ 8900) (k : ∀ v H2, Same H H2 → RzV C H2 v (some (es.map fun e => 0 - e)) → Q v H2) : spNeg C CI [x] H Q E := by
  obtain ⟨l0, a0, b0⟩ := bx
  refine ⟨x, _, _, rfl, hx, pwp _, Nat.lt_of_lt_of_le a0 (Nat.pow_le_pow_right (by decide) (by omega)), .inr ⟨pwp _, fun v H2 s2 h2 => k v H2 s2 ?_⟩⟩
  rw [tp_ex, bt_ex] at h2
  refine rx_of h2 fun i hi => ?_
  rw [neg_at l0 hi]
  clear a0 b0
  unfold ps ng
  omega
theorem negZ0 (hx : RzV C H x none) (k : Inv1 CI (.int 0) H E) : spNeg C CI [x] H Q E := by
  obtain ⟨b, b1, b2, hx⟩ := hx
  exact ⟨x, 0, b, rfl, hx, b1, Nat.pow_pos (by decide), .inl ⟨rfl, k⟩⟩
theorem raisedZ (hx : RzV C H x (some es)) (bx : BdO m (some es)) (m0 : 0 < m) (hm : m * (k.natAbs + 1) ≤ 8900) (q : ∀ v H3, Same H H3 → RzV C H3 v (some (es.map fun e => e * k)) → Q v H3) : spRaised C CI [x, .int k] H Q E := by
  obtain ⟨l0, a0, b0⟩ := bx
  refine ⟨x, k, _, _, m, rfl, hx, pwp _, m0, a0, b0, hm, ?_⟩
  rw [tp_ex, bt_ex]
  have key : ∀ i, i < 18 → ofL (es.map fun e => e * k) i = ofL es i * k := fun i hi => mul_at k l0 hi
  by_cases n0 : 0 ≤ k
  · refine .inl ⟨n0, fun v H2 s2 h2 => q v H2 s2 ?_⟩
    rw [← pwn_mul, ← pwn_mul] at h2
    refine rx_of h2 fun i hi => ?_
    rw [key i hi, Int.natCast_mul, Int.natCast_mul, ← Int.mul_sub, Int.natAbs_of_nonneg n0, Int.mul_comm]
    congr 1
    clear a0 b0 h2
    unfold ps ng
    omega
  · refine .inr (.inr ⟨by omega, pwp _, fun v H2 s2 h2 => q v H2 s2 ?_⟩)
    rw [← pwn_mul, ← pwn_mul] at h2
    refine rx_of h2 fun i hi => ?_
    rw [key i hi, Int.natCast_mul, Int.natCast_mul, ← Int.mul_sub, show ((k.natAbs : Nat) : Int) = -k by omega, Int.neg_mul, ← Int.mul_neg, Int.mul_comm]
    congr 1
    clear a0 b0 h2
    unfold ps ng
    omega
theorem bdO_raised (bx : BdO m (some es)) (m0 : 0 < m) (k : Int) : BdO (m * (k.natAbs + 1)) (some (es.map fun e => e * k)) := by
  obtain ⟨l0, a0, b0⟩ := bx
  have key : ∀ i, i < 18 → ofL (es.map fun e => e * k) i = ofL es i * k := fun i hi => mul_at k l0 hi
  have e1 : pw (ps (ofL es)) ^ k.natAbs < 2 ^ (m * (k.natAbs + 1)) := pow_bits m0 a0
  have e2 : pw (ng (ofL es)) ^ k.natAbs < 2 ^ (m * (k.natAbs + 1)) := pow_bits m0 b0
  rw [← pwn_mul] at e1 e2
  refine ⟨by rw [List.length_map]; exact l0, ?_⟩
  by_cases n0 : 0 ≤ k
  · have f : ∀ (a : Int), (a * k).toNat = k.natAbs * a.toNat := fun a => by
      obtain ⟨n, rfl⟩ := Int.eq_ofNat_of_zero_le n0
      rw [Int.natAbs_natCast, Int.mul_comm]
      cases Int.le_total 0 a with
      | inl h =>
        obtain ⟨b, rfl⟩ := Int.eq_ofNat_of_zero_le h
        rw [← Int.natCast_mul, Int.toNat_natCast, Int.toNat_natCast]
      | inr h =>
        rw [Int.toNat_of_nonpos h, Int.toNat_of_nonpos (Int.mul_nonpos_of_nonneg_of_nonpos (by omega) h), Nat.mul_zero]
    refine ⟨Nat.lt_of_le_of_lt (pw_mono fun i hi => ?_) e1, Nat.lt_of_le_of_lt (pw_mono fun i hi => ?_) e2⟩
    · unfold ps
      rw [key i hi, f]
      exact Nat.le_refl _
    · unfold ng
      rw [key i hi, ← Int.neg_mul, f]
      exact Nat.le_refl _
  · have f : ∀ (a : Int), (a * k).toNat = k.natAbs * (-a).toNat := fun a => by
      obtain ⟨n, hn⟩ := Int.eq_ofNat_of_zero_le (show 0 ≤ -k by omega)
      have e : k = -(n : Int) := by omega
      subst e
      rw [Int.natAbs_neg, Int.natAbs_natCast, Int.mul_neg, ← Int.neg_mul, Int.mul_comm]
      cases Int.le_total 0 (-a) with
      | inl h =>
        obtain ⟨b, hb⟩ := Int.eq_ofNat_of_zero_le h
        rw [hb, ← Int.natCast_mul, Int.toNat_natCast, Int.toNat_natCast]
      | inr h =>
        rw [Int.toNat_of_nonpos h, Int.toNat_of_nonpos (Int.mul_nonpos_of_nonneg_of_nonpos (by omega) h), Nat.mul_zero]
    refine ⟨Nat.lt_of_le_of_lt (pw_mono fun i hi => ?_) e2, Nat.lt_of_le_of_lt (pw_mono fun i hi => ?_) e1⟩
    · unfold ps ng
      rw [key i hi, f]
      exact Nat.le_refl _
    · unfold ps ng
      rw [key i hi, ← Int.neg_mul, f, Int.neg_neg]
      exact Nat.le_refl _
end
end K01
set_option Elab.async false
set_option linter.all false
set_option maxRecDepth 100000
set_option maxHeartbeats 4000000
namespace K01
open PySem PySem.Spec PyProof.Rows L2 LamX
section
variable {K : PySem.W.Frag} {C CI : Addr} {H : Hp} {Q : VK} {E : XK} {x y v : V} {o o' : Option (List Int)} {es : List Int} {m : Nat} {k : Int}
def zeros : List Int := List.replicate 10 0
theorem ofL_zeros (i : Nat) (hi : i < 18) : ofL zeros i = 0 := by
  rcases cs18 hi with rfl | rfl | rfl | rfl | rfl | rfl | rfl | rfl | rfl | rfl | rfl | rfl | rfl | rfl | rfl | rfl | rfl | rfl <;> rfl
theorem pw_ps_zeros : pw (ps (ofL zeros)) = 1 := by
  rw [show pw (ps (ofL zeros)) = pw (fun _ => 0) from pwn_congr fun i hi => by unfold ps; rw [ofL_zeros i hi]; rfl]
  exact pwn_zero 18
theorem pw_ng_zeros : pw (ng (ofL zeros)) = 1 := by
  rw [show pw (ng (ofL zeros)) = pw (fun _ => 0) from pwn_congr fun i hi => by unfold ng; rw [ofL_zeros i hi]; rfl]
  exact pwn_zero 18
theorem one_lt {m : Nat} (h : 0 < m) : 1 < 2 ^ m := Nat.one_lt_two_pow (by omega)
theorem bdO_zeros (h : 0 < m) : BdO m (some zeros) := ⟨rfl, by rw [pw_ps_zeros]; exact one_lt h, by rw [pw_ng_zeros]; exact one_lt h⟩
theorem raisedZ0 (hx : RzV C H x none) (k0 : 0 < k) (hk : k ≤ 100) (hb : ∃ b, 1 ≤ b ∧ b < 2 ^ 70 ∧ Rt C H x 0 b) (q : ∀ v H3, Same H H3 → RzV C H3 v none → Q v H3) : spRaised C CI [x, .int k] H Q E := by
  obtain ⟨b, b1, b2, hx⟩ := hb
  obtain ⟨e1, e2⟩ := zero_gcd b
  refine ⟨x, k, 0, b, 70, rfl, hx, b1, by decide, by decide, b2, by omega, .inl ⟨by omega, fun v H2 s2 h2 => q v H2 s2 ?_⟩⟩
  rw [e1, e2 b1, Nat.one_pow, Nat.zero_pow (by omega)] at h2
  exact ⟨1, Nat.le_refl _, one_lt (by decide), h2⟩
theorem raisedZ1 (hb : ∃ b, 1 ≤ b ∧ b < 2 ^ 70 ∧ Rt C H x 0 b) (q : ∀ v H3, Same H H3 → RzV C H3 v (some zeros) → Q v H3) : spRaised C CI [x, .int 0] H Q E := by
  obtain ⟨b, b1, b2, hx⟩ := hb
  refine ⟨x, 0, 0, b, 70, rfl, hx, b1, by decide, by decide, b2, by decide, .inl ⟨by decide, fun v H2 s2 h2 => q v H2 s2 ?_⟩⟩
  show Rt C H2 v (pw (ps (ofL zeros))) (pw (ng (ofL zeros)))
  rw [pw_ps_zeros, pw_ng_zeros]
  exact h2
theorem raisedZN (hb : ∃ b, 1 ≤ b ∧ b < 2 ^ 70 ∧ Rt C H x 0 b) (k0 : k < 0) (hk : -100 ≤ k) (q : Inv1 CI (.int 0) H E) : spRaised C CI [x, .int k] H Q E := by
  obtain ⟨b, b1, b2, hx⟩ := hb
  exact ⟨x, k, 0, b, 70, rfl, hx, b1, by decide, by decide, b2, by omega, .inr (.inl ⟨k0, rfl, q⟩)⟩
/-- where the law's primes stand among the primes -/
def lp (k : Nat) : Nat := [0, 1, 2, 3, 4, 5, 6, 12, 16, 17].getD k 0
theorem lp_ok {k : Nat} (h : k < 10) : lp k < 18 ∧ lprimes.getD k 0 = ((pr (lp k) : Nat) : Int) ∧ ((pr (lp k) : Nat) : Int) ∈ primes := by
  have : ∀ k : Fin 10, lp k.1 < 18 ∧ lprimes.getD k.1 0 = ((pr (lp k.1) : Nat) : Int) ∧ ((pr (lp k.1) : Nat) : Int) ∈ primes := by decide +kernel
  exact this ⟨k, h⟩
theorem ofL_lp {es : List Int} (l : es.length = 10) {k : Nat} (h : k < 10) : ofL es (lp k) = es.getD k 0 := by
  obtain ⟨a, b, c, d, e, f, i, j, k', l', rfl⟩ := ten l
  match k, h with
  | 0, _ | 1, _ | 2, _ | 3, _ | 4, _ | 5, _ | 6, _ | 7, _ | 8, _ | 9, _ => rfl
theorem powerZ {j : Nat} (hx : RzV C H x (some es)) (l : es.length = 10) (hj : j < 10) (q : Q (.int (es.getD j 0)) H) : spPower C CI [x, .int (lprimes.getD j 0)] H Q E := by
  obtain ⟨h1, h2, h3⟩ := lp_ok hj
  rw [h2]
  refine ⟨x, _, _, _, rfl, hx, pwp _, .inr (.inr ⟨pwp _, _, rfl, h3, fun i j2 r q2 p1 p2 p3 p4 => ?_⟩)⟩
  rw [tp_ex] at p1
  rw [bt_ex] at p3
  have e1 := pw_val _ h1 p1 p2
  have e2 := pw_val _ h1 p3 p4
  have e3 : (i : Int) - (j2 : Int) = ofL es (lp j) := by
    unfold ps at e1
    unfold ng at e2
    omega
  rw [e3, ofL_lp l hj]
  exact q
theorem powerZ0 {j : Nat} (hx : RzV C H x none) (hj : j < 10) (k : Inv1 CI (.int 0) H E) : spPower C CI [x, .int (lprimes.getD j 0)] H Q E := by
  obtain ⟨h1, h2, h3⟩ := lp_ok hj
  obtain ⟨b, b1, b2, hx⟩ := hx
  rw [h2]
  exact ⟨x, _, 0, b, rfl, hx, b1, .inr (.inl ⟨rfl, ⟨_, rfl, h3⟩, k⟩)⟩
theorem powerZB (hx : RzV C H x o) (hy : (∃ p, y = .int p ∧ ¬ p ∈ primes) ∨ Odd H y) (k : Inv1 CI y H E) : spPower C CI [x, y] H Q E := by
  cases o with
  | none =>
    obtain ⟨b, b1, b2, hx⟩ := hx
    exact ⟨x, y, 0, b, rfl, hx, b1, .inl ⟨hy, k⟩⟩
  | some es => exact ⟨x, y, _, _, rfl, hx, pwp _, .inl ⟨hy, k⟩⟩
/-- top and bottom -/
def upO : Option (List Int) → Nat
  | none => 0
  | some es => pw (ps (ofL es))
def dnO : Option (List Int) → Nat
  | none => 1
  | some es => pw (ng (ofL es))
/-- its fields -/
theorem RzV.rt (hx : RzV C H x o) (hb : BdO 8900 o) : ∃ t b, Rt C H x t b ∧ 1 ≤ b ∧ t < 2 ^ 8900 ∧ b < 2 ^ 8900 ∧ tp t b = upO o ∧ bt t b = dnO o := by
  cases o with
  | none =>
    obtain ⟨b, b1, b2, hx⟩ := hx
    obtain ⟨e1, e2⟩ := zero_gcd b
    exact ⟨0, b, hx, b1, Nat.pow_pos (by decide), b2, e1, e2 b1⟩
  | some es => exact ⟨_, _, hx, pwp _, hb.2.1, hb.2.2, tp_ex _, bt_ex _⟩
theorem up_inj (h1 : o = none ∨ BdO m o) (h2 : o' = none ∨ BdO m o') (e1 : upO o = upO o') (e2 : dnO o = dnO o') : o = o' := by
  cases o with
  | none =>
    cases o' with
    | none => rfl
    | some fs =>
      have : (0 : Nat) = pw (ps (ofL fs)) := e1
      have := pwp (ps (ofL fs))
      omega
  | some es =>
    cases o' with
    | none =>
      have : pw (ps (ofL es)) = 0 := e1
      have := pwp (ps (ofL es))
      omega
    | some fs =>
      have l1 : es.length = 10 := by
        rcases h1 with h | h
        · cases h
        · exact h.1
      have l2 : fs.length = 10 := by
        rcases h2 with h | h
        · cases h
        · exact h.1
      rw [ofL_inj l1 l2 (eq_pw e1 e2)]
theorem eqZ (hx : RzV C H x o) (hy : RzV C H y o') (bx : BdO 8900 o) (b_y : BdO 8900 o') (q : Q (.bl (decide (o = o'))) H) : spEqR C [x, y] H Q E := by
  obtain ⟨t, b, h1, _, _, _, e1, e2⟩ := hx.rt bx
  obtain ⟨u, d, h2, _, _, _, f1, f2⟩ := hy.rt b_y
  refine ⟨x, y, t, b, u, d, rfl, h1, h2, ?_⟩
  rw [e1, e2, f1, f2, ← Bool.decide_and]
  have e : decide (upO o = upO o' ∧ dnO o = dnO o') = decide (o = o') := decide_eq_decide.mpr ⟨fun z => up_inj (.inr bx) (.inr b_y) z.1 z.2, fun z => by rw [z]; exact ⟨rfl, rfl⟩⟩
  rw [e]
  exact q
theorem strZ (hx : RzV C H x o) (bx : BdO 8900 o) (q : ∀ H2, Same H H2 → Q (.str (rtx (upO o) (dnO o))) H2) : spRStr C [x] H Q E := by
  obtain ⟨t, b, h1, _, ht, hb, e1, e2⟩ := hx.rt bx
  have w : (2 : Nat) ^ 8900 ≤ 2 ^ 9000 := Nat.pow_le_pow_right (by decide) (by decide)
  refine ⟨x, t, b, rfl, h1, Nat.lt_of_lt_of_le ht w, Nat.lt_of_lt_of_le hb w, fun H2 s2 => ?_⟩
  rw [e1, e2]
  exact q H2 s2
theorem reprZ (hx : RzV C H x o) (bx : BdO 8900 o) (q : ∀ H2, Same H H2 → Q (.str (rrx (upO o) (dnO o))) H2) : spRRep C [x] H Q E := by
  obtain ⟨t, b, h1, _, ht, hb, e1, e2⟩ := hx.rt bx
  have w : (2 : Nat) ^ 8900 ≤ 2 ^ 9000 := Nat.pow_le_pow_right (by decide) (by decide)
  refine ⟨x, t, b, rfl, h1, Nat.lt_of_lt_of_le ht w, Nat.lt_of_lt_of_le hb w, fun H2 s2 => ?_⟩
  rw [e1, e2]
  exact q H2 s2
end
/-! ### the class Ratio and its own operators -/
abbrev PSR : List Str := ["self", "top", "bottom"]
def gBT {α : Type} : List α → List α → List α := fun us ws => us ++ ws.reverse
structure RatZ (P : Program) (w : World) (K : PySem.W.Frag) (mg : Str → Option Value) (base : Heap) (C CI : Addr) : Prop where
  c : RatioC P w K mg base C CI
  ini1 : ∃ f fd t, Mk K C f ∧ FnOk P w K mg base (L2.CX P w) 3 f fd PSR (spRatio C CI) ∧ Binds K fd PSR [.int 1 t]
  iniK : ∃ f fd g, Mk K C f ∧ FnOk P w K mg base (L2.CX P w) 3 f fd PSR (spRatio C CI) ∧ KBn K fd PSR 1 ["bottom", "top"] g (fun vs zs => gBT vs zs)
  sf : PySem.W.selfFirst K C = true
  mul : ∃ g, PySem.W.findIn K (.ref C) "__mul__" = some (some (.ref g)) ∧ PySem.W.isFn K (.ref g) = true ∧ FnR P w K mg base CX0 5 g (spMul C)
  inv : ∃ g, PySem.W.findIn K (.ref C) "__invert__" = some (some (.ref g)) ∧ PySem.W.isFn K (.ref g) = true ∧ FnR P w K mg base (L2.CX P w) 5 g (spNeg C CI)
  eq : ∃ g, PySem.W.findIn K (.ref C) "__eq__" = some (some (.ref g)) ∧ PySem.W.isFn K (.ref g) = true ∧ FnR P w K mg base CX0 1 g (spEqR C) ∧ FnNI P w K mg base 1 g (spNeqR K C)
  pow : ∃ g, PySem.W.findIn K (.ref C) "__pow__" = some (some (.ref g)) ∧ PySem.W.isFn K (.ref g) = true ∧ FnR P w K mg base (L2.CX P w) 6 g (spRaised C CI)
  str : ∃ g, PySem.W.findIn K (.ref C) "__str__" = some (some (.ref g)) ∧ PySem.W.isFn K (.ref g) = true ∧ FnR P w K mg base CX0 2 g (spRStr C)
  rep : ∃ g, PySem.W.findIn K (.ref C) "__repr__" = some (some (.ref g)) ∧ PySem.W.isFn K (.ref g) = true ∧ FnR P w K mg base CX0 2 g (spRRep C)
  raised : ∃ f fd, Meth K C "raised" f ∧ FnOk P w K mg base (L2.CX P w) 5 f fd ["self", "k"] (spRaised C CI) ∧ Binds K fd ["self", "k"] []
  power : ∃ f fd, Meth K C "power" f ∧ FnOk P w K mg base (L2.CX P w) 3 f fd ["self", "prime"] (spPower C CI) ∧ Binds K fd ["self", "prime"] []
  rpw : PySem.W.findIn K (.ref C) "__rpow__" = some none
  ip : ∃ o, PySem.W.findIn K (.type "int") "__pow__" = some o
  irp : ∃ o, PySem.W.findIn K (.type "int") "__rpow__" = some o
  si : PySem.W.subIn K (.type "int") (.ref C) = some false
  sb : PySem.W.subIn K (.type "bool") (.ref C) = some false
  ss : PySem.W.subIn K (.type "str") (.ref C) = some false
  sn : PySem.W.subIn K (.type "NoneType") (.ref C) = some false
  st : PySem.W.subIn K (.type "tuple") (.ref C) = some false
  sl : PySem.W.subIn K (.type "list") (.ref C) = some false
  ct : PySem.W.subIn K (.ref C) (.type "tuple") = some false
  cl : PySem.W.subIn K (.ref C) (.type "list") = some false
  kt : PySem.W.kitOne K (.type "tuple") (.ref C) = some false
  ks : PySem.W.kitOne K (.type "str") (.ref C) = some false
  ki : PySem.W.kitOne K (.type "int") (.ref C) = some false
  nt : GBI.NoTruth K C
section
variable {X : Cx} {C CI : Addr} {E : XK}
abbrev RZx (X : Cx) (C CI : Addr) : Prop := RatZ X.prog X.w X.K X.mg X.base C CI
theorem isRt {C : Addr} {H : Hp} {x : V} {o : Option (List Int)} (h : RzV C H x o) : ∃ a dx fs, x = .ref a ∧ H a = some (.ins C dx fs) ∧ ∃ t b, fs = rat t b := by
  cases o with
  | none =>
    obtain ⟨b, _, _, a, dx, e, h⟩ := h
    exact ⟨a, dx, _, e, h, _, _, rfl⟩
  | some es =>
    obtain ⟨a, dx, e, h⟩ := h
    exact ⟨a, dx, _, e, h, _, _, rfl⟩
theorem op_mulZ (o : RZx X C CI) (hr : Room 5 X.A) : OpR X (binaryOp .Mult) (fun x y H Q => ∃ o o' m, RzV C H x o ∧ RzV C H y o' ∧ BdO m o ∧ BdO m o' ∧ m ≤ 4000 ∧ ∀ v H2, Same H H2 → RzV C H2 v (sumO o o') → Q v H2) := by
  obtain ⟨g, h1, h2, F⟩ := o.mul
  refine OpR.imp (op_binO (E := E0) o.sf h1 h2 F hr pass0) fun x y H Q h => ?_
  obtain ⟨o1, o2, m, hx, hy, b1, b2, hm, k⟩ := h
  obtain ⟨a, dx, fs, rfl, ha, _⟩ := isRt hx
  obtain ⟨b, dy, gs, rfl, hb, _⟩ := isRt hy
  exact ⟨a, b, dx, dy, _, _, rfl, rfl, ha, hb, mulZ hx hy b1 b2 hm k⟩
theorem un_invZ (o : RZx X C CI) (hr : Room 5 X.A) (hx : Passes (L2.CX X.prog X.w) X E) : UnR X (unaryOp .Invert) (fun x H Q => ∃ a dx fs, x = .ref a ∧ H a = some (.ins C dx fs) ∧ spNeg C CI [x] H Q E) := by
  obtain ⟨g, h1, h2, F⟩ := o.inv
  exact un_invO (E := E) h1 h2 F hr hx
def rPowZ (C CI : Addr) (E : XK) : R2 := fun x y H Q => ∃ (i : Int) (o : Option (List Int)), y = .int i ∧ RzV C H x o ∧ spRaised C CI [x, .int i] H Q E
theorem op_powZ (o : RZx X C CI) (hr : Room 6 X.A) (hx : Passes (L2.CX X.prog X.w) X E) : OpR X (binaryOp .Pow) (rPowZ C CI E) := by
  obtain ⟨g, h1, h2, F⟩ := o.pow
  obtain ⟨_, i1⟩ := o.ip
  obtain ⟨_, i2⟩ := o.irp
  refine OpR.imp (op_binI (op := .Pow) (E := E) o.sf h1 h2 o.rpw (.inl rfl) i1 i2 o.si F hr hx) fun x y H Q h => ?_
  obtain ⟨i, oo, rfl, hz, q⟩ := h
  obtain ⟨a, dx, fs, rfl, ha, _⟩ := isRt hz
  exact ⟨a, dx, fs, i, rfl, rfl, ha, q⟩
def rEqZ (K : PySem.W.Frag) (C : Addr) : R2 := fun x y H Q => (∃ o o', RzV C H x o ∧ RzV C H y o' ∧ BdO 8900 o ∧ BdO 8900 o' ∧ Q (.bl (decide (o = o'))) H) ∨ (∃ o, RzV C H x o ∧ ((∃ t xs, y = .ref t ∧ SqT K H t xs) ∨ (∃ t, y = .str t) ∨ ∃ i, y = .int i) ∧ Q (.bl false) H)
theorem op_eqZ (o : RZx X C CI) (hr : Room 1 X.A) : OpR X (compareOp .Eq) (rEqZ X.K C) := by
  obtain ⟨g, h1, h2, F, N⟩ := o.eq
  have A := op_eqO (E := E0) (fun _ _ => rfl) h1 h2 F hr pass0
  have B := op_eqNI h1 h2 N hr o.si o.sb o.ss o.sn
  have D := op_eqNIs h1 h2 N hr o.st o.sl o.ct o.cl
  refine OpR.imp (A.or (B.or D)) fun x y H Q h => ?_
  rcases h with ⟨o1, o2, hx, hy, b1, b2, q⟩ | ⟨o1, hx, hy, q⟩
  · obtain ⟨a, dx, fs, rfl, ha, _⟩ := isRt hx
    obtain ⟨b, dy, gs, rfl, hb, _⟩ := isRt hy
    exact .inl ⟨a, b, dx, dy, _, _, rfl, rfl, ha, hb, eqZ hx hy b1 b2 q⟩
  · obtain ⟨a, dx, fs, rfl, ha, _⟩ := isRt hx
    rcases hy with ⟨t, xs, rfl, ht⟩ | ⟨t, rfl⟩ | ⟨i, rfl⟩
    · exact .inr (.inr ⟨a, dx, _, t, xs, rfl, rfl, ha, .inl ht, _, _, .type "tuple", rfl, tyT ht, o.kt, Same.refl _, q⟩)
    · exact .inr (.inl ⟨a, dx, _, rfl, ha, .inr (.inr (.inl ⟨t, rfl⟩)), _, _, .type "str", rfl, .base (.str t), o.ks, ha, q⟩)
    · exact .inr (.inl ⟨a, dx, _, rfl, ha, .inl ⟨i, rfl⟩, _, _, .type "int", rfl, .base (.int i), o.ki, ha, q⟩)
end
end K01
set_option Elab.async false
set_option linter.all false
set_option maxRecDepth 100000
set_option maxHeartbeats 4000000
namespace L2
open PySem PySem.Spec PyProof.Rows
/-! ### str(x), repr(x) of an own class's plain instance -/
section
variable {X : Cx} {C g : Addr} {n : Nat} {sp : Sp} {CX : CXT} {E : XK}
def rTextO (C : Addr) (sp : Sp) (E : XK) : List V → Hp → VK → Prop := fun xs H Q => ∃ a dx fs, xs = [V.ref a] ∧ H a = some (.ins C dx fs) ∧ sp [.ref a] H (fun z H2 => ∃ y, z = .str y ∧ Q z H2) E
theorem call_strO (hs : PySem.W.findIn X.K (.ref C) "__str__" = some (some (.ref g))) (hf : PySem.W.isFn X.K (.ref g) = true) (F : FnR X.prog X.w X.K X.mg X.base CX n g sp) (hr : Room (n + 2) X.A) (hx : Passes CX X E) : CallR X (.type "str") (rTextO C sp E) := by
  intro pins s σ H xs us Q I r h
  obtain ⟨a, dx, fs, rfl, ha, q⟩ := h
  obtain ⟨u, rfl, ru⟩ := r.one
  cases (show u = Value.ref a from ru)
  obtain ⟨mA, J, _⟩ := ins_get I.hok ha
  obtain ⟨od, J, _⟩ := J.look
  have hr2 : Room n X.A.in1.in1 := (show Room (n + 1) X.A.in1 from Room.in1 hr).in1
  refine PySem.W.kso_call hr2.units0 I.kIn J hs hf (wpAny_mono (wpAny_call (SlX.run_at (us := [.ref a]) (ws := [.ref a]) F hr2 I.env0.in1.in1 hx I (.cons rfl .nil) q)) (fun w z hz => ?_) fun _ _ x => x)
  obtain ⟨z2, H2, I2, rz, y, ey, qz⟩ := hz
  subst ey
  obtain ⟨t, e⟩ := (show ∃ t, w = Value.str y t from rz)
  cases e
  exact ⟨.str y, H2, I2, ⟨t, rfl⟩, qz⟩
theorem call_reprO (hs : PySem.W.findIn X.K (.ref C) "__repr__" = some (some (.ref g))) (hf : PySem.W.isFn X.K (.ref g) = true) (F : FnR X.prog X.w X.K X.mg X.base CX n g sp) (hr : Room (n + 1) X.A) (hx : Passes CX X E) : CallR X (.builtin "repr") (rTextO C sp E) := by
  intro pins s σ H xs us Q I r h
  obtain ⟨a, dx, fs, rfl, ha, q⟩ := h
  obtain ⟨u, rfl, ru⟩ := r.one
  cases (show u = Value.ref a from ru)
  obtain ⟨mA, J, _⟩ := ins_get I.hok ha
  obtain ⟨od, J, _⟩ := J.look
  obtain ⟨m, hF⟩ := I.fr
  have hr2 : Room n X.A.in1 := hr.in1
  refine PySem.W.repr_K hr2.units0 hF I.ok.mod.kin J hs hf (wpAny_mono (wpAny_call (SlX.run_at (us := [.ref a]) (ws := [.ref a]) F hr2 I.env0.in1 hx I (.cons rfl .nil) q)) (fun w z hz => ?_) fun _ _ x => x)
  obtain ⟨z2, H2, I2, rz, y, ey, qz⟩ := hz
  subst ey
  obtain ⟨t, e⟩ := (show ∃ t, w = Value.str y t from rz)
  cases e
  exact ⟨.str y, H2, I2, ⟨t, rfl⟩, qz⟩
end
end L2
set_option Elab.async false
set_option linter.all false
set_option maxRecDepth 100000
set_option maxHeartbeats 4000000
namespace K01
open PySem PySem.Spec PyProof.Rows L2 L2H LamX NumT
abbrev qS : Str := "_law_ratio_so.<locals>.<lambda>"
theorem exp_bd {es : List Int} (h : BdO 8900 (some es)) : ∀ e ∈ es, e.natAbs < 8900 := fun e he => by
  obtain ⟨l, h1, h2⟩ := h
  obtain ⟨j, hj, rfl⟩ := List.mem_iff_getElem.mp he
  have j10 : j < 10 := by omega
  obtain ⟨k18, _, _⟩ := lp_ok j10
  have e1 : ofL es (lp j) = es[j] := by rw [ofL_lp l j10, List.getD_eq_getElem?_getD, List.getElem?_eq_getElem hj]; rfl
  have key : ∀ a : Nat → Nat, pw a < 2 ^ 8900 → a (lp j) < 8900 := fun a ha => by
    have s := pw_split (k := lp j) a k18
    have p1 := pwp fun i => if i = lp j then 0 else a i
    have p2 : 2 ^ a (lp j) ≤ pr (lp j) ^ a (lp j) := Nat.pow_le_pow_left (pr_ge k18) _
    have p3 : 2 ^ a (lp j) ≤ pw a := by
      rw [s]
      exact Nat.le_trans p2 (Nat.le_mul_of_pos_right _ p1)
    exact (Nat.pow_lt_pow_iff_right (by decide)).mp (Nat.lt_of_le_of_lt p3 ha)
  have a1 := key _ h1
  have a2 := key _ h2
  unfold ps at a1
  unfold ng at a2
  rw [e1] at a1 a2
  omega
theorem nt43 {n : Nat} (h : n < 10 ^ 4300) : (nt n).length ≤ 4300 := by
  rw [tx_len]
  exact dig_len (by decide) h
theorem sz2 {a b : Nat} (h1 : a ≤ 40000) (h2 : b ≤ 40000) : a + b ≤ sizeLine := sz _ (by omega)
section
variable {P : Program} {w : World} {K : PySem.W.Frag} {mg : Str → Option Value} {base : Heap}
def spRSo (C : Addr) (T : List (Addr × Str)) : Sp := fun vs H Q _ => ∃ (g : Bg) (v xp : V) (o : Option (List Int)), vs = [.ref g.b, v, xp] ∧ Bag g H ∧ Tabs T H ∧ RzV C H v o ∧ PwV g H xp o ∧ BdO 8900 o ∧ ∀ H2, Dx g T H H2 → Q (.bl true) H2
theorem sc_rso : FnScope ["_law_bag_here", "_law_ratio", "_law_powers", "_law_up", "_law_down", "_law_text", "_law_told", "_law_k", "_law_odd", "_law_prime", "_law_due", "_law_power"] ["_law_bag_here", "_law_ratio", "_law_powers"] (defScope (top 37)) := ⟨rfl, rfl, rfl, by decide +kernel, rfl, by decide +kernel, by decide +kernel⟩
theorem ok_rso {fd : FuncData} {C CB CI CT : Addr} {T : List (Addr × Str)} {PR : Addr} (F : FnP K "_law_ratio_so" (top 37) (He.fAd K ("_law_ratio_so", none)) fd) (nd : base.NoDigits) (t_A : AskF P w K mg base CB CI CT) (t_B : TabB base mg (He.codeOf K ("_law_ratio_so", none)) PR) (t_m : (PR, qS) ∈ T) (t_u : ∀ p ∈ T, p.1 = PR → p.2 = qS) (o_R : RatZ P w K mg base C CI)
    (m_str : mg "str" = none) (m_repr : mg "repr" = none) (c__law_draw : Cal P w K mg base CX0 "_law_draw" 1 ["_law_bag_here", "_law_many"] spDraw) (c__law_of : Cal P w K mg base CX0 "_law_of" 2 ["_law_bag_here", "_law_things"] spOf) (c__law_like : Cal P w K mg base CX0 "_law_like" 6 ["_law_found", "_law_due"] (spLike K NoA 5)) (c__law_primes : Cal P w K mg base CX0 "_law_primes" 1 [] spPrimes) (c__law_worth : Cal P w K mg base CX0 "_law_worth" 2 ["_law_powers"] (spWorth K)) : FnOk P w K mg base CX0 9 (He.fAd K ("_law_ratio_so", none)) fd ["_law_bag_here", "_law_ratio", "_law_powers"] (spRSo C T) := by
  have sc := sc_rso
  refine okC F sc (fun vs H Q E h => ?_) (fun A outer s H vs Q E hr h => ?_)
  · obtain ⟨g, v, xp, o, rfl, _⟩ := h
    rfl
  · obtain ⟨g, v, xp, o, rfl, hB, hT, hv, hp, hb, q⟩ := h
    have hr_ask : Room 7 _ := hr.mono (by decide)
    have hr__law_like : Room 6 _ := hr.mono (by decide)
    have hr_str : Room 4 _ := hr.mono (by decide)
    have hr_rp : Room 3 _ := hr.mono (by decide)
    have hr__law_of : Room 2 _ := hr.mono (by decide)
    have hr__law_worth : Room 2 _ := hr.mono (by decide)
    have hr__law_draw : Room 1 _ := hr.mono (by decide)
    have hr__law_primes : Room 1 _ := hr.mono (by decide)
    have px : ∀ {X : Cx}, Passes CX0 X E0 := pass0
    obtain ⟨f_pow, fd_pow, M_power, F_power, b_power⟩ := o_R.power
    obtain ⟨gs, ro1, ro2, F_str⟩ := o_R.str
    obtain ⟨gr, rp1, rp2, F_rp⟩ := o_R.rep
    refine ⟨_, PSs.nox (Evl.pss_cut (ps_set (i := 3) sc.nd rfl (Or.inl rfl) (pe_ifExp (pt_cmp (pc_isN (pv 2))) pe_int (pe_cal c__law_worth hr__law_worth rfl (pa_cons (pv 2) pa_nil))))
      (Evl.pss_cut (ps_set (i := 4) sc.nd rfl (Or.inl rfl) (pe_ifExp (pt_cmp (pc_isN (pv 2))) pe_int (pe_cal c__law_worth hr__law_worth rfl (pa_cons (pe_lc (own := [("_law_power", 11)]) (g := gName 11) rfl sc.nd (pi_list (pv 2)) (blkOk_by (N := ["_law_bag_here", "_law_ratio", "_law_powers", "_law_up", "_law_down", "_law_text", "_law_told", "_law_k", "_law_odd", "_law_prime", "_law_due", "_law_power"]) (sc := defScope (top 37)) (by decide +kernel)) (fun _ _ _ _ _ => (pg_name (i := 11) sc.nd rfl (Or.inl rfl))) (fun _ _ _ _ _ => pts_nil) (fun _ _ _ _ _ => (pe_op op_sub pe_int (pv 11)))) pa_nil))))
      (Evl.pss_cut (ps_set (i := 5) sc.nd rfl (Or.inl rfl) (pe_ifExp (pt_cmpR op_eq (pv 4) pe_int (nomark _)) (pe_callTy (call_str_big nd hr) (by rfl) m_str (by decide +kernel) (pa_cons (pv 3) pa_nil)) (pe_op op_add_str (pe_op op_add_str (pe_callTy (call_str_big nd hr) (by rfl) m_str (by decide +kernel) (pa_cons (pv 3) pa_nil)) pe_str) (pe_callTy (call_str_big nd hr) (by rfl) m_str (by decide +kernel) (pa_cons (pv 4) pa_nil)))))
      (pss_cons (ps_set (i := 6) sc.nd rfl (Or.inl rfl) (pe_lst (pa_cons (pe_fld (pv 1) rfl) (pa_cons (pe_fld (pv 1) rfl) (pa_cons (pe_callTy (call_strO ro1 ro2 F_str hr_str px) (by rfl) m_str (by decide +kernel) (pa_cons (pv 1) pa_nil)) (pa_cons (pe_callB (call_reprO rp1 rp2 F_rp hr_rp px) (by rfl) m_repr (by decide +kernel) (pa_cons (pv 1) pa_nil)) pa_nil))))))
      (pss_cons (ps_if (pt_not (pt_val (pe_cal c__law_like hr__law_like rfl (pa_cons (pv 6) (pa_cons (pe_lst (pa_cons (pv 3) (pa_cons (pv 4) (pa_cons (pv 5) (pa_cons (pe_op op_add_str (pe_op op_add_str (pe_op op_add_str (pe_op op_add_str pe_str (pe_callTy (call_str_big nd hr) (by rfl) m_str (by decide +kernel) (pa_cons (pv 3) pa_nil))) pe_str) (pe_callTy (call_str_big nd hr) (by rfl) m_str (by decide +kernel) (pa_cons (pv 4) pa_nil))) pe_str) pa_nil))))) pa_nil))))) (pss_one (ps_ret pe_bl)) pss_nil)
      (pss_cons (ps_asg (pe_tup (pa_cons (pe_cal c__law_draw hr__law_draw rfl (pa_cons (pv 0) (pa_cons pe_int pa_nil))) (pa_cons (pe_cal c__law_of hr__law_of rfl (pa_cons (pv 0) (pa_cons (pe_lst (pa_cons pe_int (pa_cons pe_int (pa_cons pe_int (pa_cons pe_int (pa_cons pe_int (pa_cons pe_int (pa_cons (pe_op op_add pe_int (pe_op op_mul pe_int pe_int)) (pa_cons pe_bl (pa_cons pe_non (pa_cons pe_str (pa_cons (pe_op op_sub pe_int pe_int) (pa_cons (pe_tup (pa_cons pe_int pa_nil)) (pa_cons pe_int pa_nil)))))))))))))) pa_nil))) pa_nil))) (pg_tup rfl (pgs_cons (pg_name (i := 7) sc.nd rfl (Or.inl rfl)) (pgs_cons (pg_name (i := 8) sc.nd rfl (Or.inr rfl)) pgs_nil))))
      (pss_cons (ps_set (i := 9) sc.nd rfl (Or.inr rfl) (pe_ix (show IxR _ (rIxL K) from ix_list) (pe_cal0 c__law_primes hr__law_primes rfl) (pv 7) (fun _ _ => rfl)))
      (pss_cons (ps_set (i := 10) sc.nd rfl (Or.inl rfl) (pe_ifExp (pt_cmp (pc_isN (pv 2))) (pe_lst (pa_cons pe_str (pa_cons pe_str (pa_cons pe_int pa_nil)))) (pe_lst (pa_cons pe_str (pa_cons (pe_ix (show IxR _ (rIxL K) from ix_list) (pv 2) (pv 7) (fun _ _ => rfl)) pa_nil)))))
      (pss_cons (ps_if (pt_not (pt_val (pe_cal c__law_like hr__law_like rfl (pa_cons (pe_lawask (k := 5) (tb := fun E2 => tMeth C "power" (spPower C CI) [] E2 (tVar 1) (tCons (tVar 9) tNil)) t_A rfl t_B rfl t_m t_u hr_ask (lamS_by (show lamSB (defScope (top 37)) _ = true by decide +kernel)) rfl (fun _ _ _ _ _ => by rfl) (fun A2 o2 s2 H2 E2 f2 c2 hr2 => ?lam2)) (pa_cons (pv 10) pa_nil))))) (pss_one (ps_ret pe_bl)) pss_nil)
      (pss_one (ps_ret (pe_cal c__law_like hr__law_like rfl (pa_cons (pe_lawask (k := 5) (tb := fun E2 => tMeth C "power" (spPower C CI) [] E2 (tVar 1) (tCons (tVar 8) tNil)) t_A rfl t_B rfl t_m t_u hr_ask (lamS_by (show lamSB (defScope (top 37)) _ = true by decide +kernel)) rfl (fun _ _ _ _ _ => by rfl) (fun A2 o2 s2 H2 E2 f2 c2 hr2 => ?lam1)) (pa_cons (pe_lst (pa_cons pe_str (pa_cons pe_str (pa_cons (pv 8) pa_nil)))) pa_nil)))))))))))))), ?_⟩
    case lam1 =>
      refine pe_meth (E := E2) ?_ o_R.c.cls M_power F_power (hr2.mono (by decide)) b_power .nil ?_ ?_
      · exact pv 1
      · exact passL
      · refine pa_cons ?_ pa_nil
        exact pv 8
    case lam2 =>
      refine pe_meth (E := E2) ?_ o_R.c.cls M_power F_power (hr2.mono (by decide)) b_power .nil ?_ ?_
      · exact pv 1
      · exact passL
      · refine pa_cons ?_ pa_nil
        exact pv 9
    refine ⟨fun σ' H' => σ' = [some (.ref g.b), some v, some xp, some (.int ((upO o : Nat) : Int)), none, none, none, none, none, none, none, none] ∧ Same H H', ?_, ?_⟩
    · cases o with
      | none =>
        obtain rfl : xp = .non := hp
        refine ⟨_, rfl, _, rfl, ite2 (fun _ => ?_) (fun e => absurd (decide_eq_true rfl) e)⟩
        exact ⟨rfl, Same.refl _⟩
      | some es =>
        obtain ⟨a, rfl, na, ha⟩ := hp
        have eb := exp_bd hb
        refine ⟨_, rfl, _, rfl, ite2 (fun e => absurd (of_decide_eq_true e) (fun z => nomatch z)) (fun _ => ?_)⟩
        refine ⟨_, rfl, a, es, rfl, SqL.of ha, hb.1, fun e he => by have := eb e he; omega, fun H1 s1 => ?_⟩
        rw [worth_pw hb.1]
        exact ⟨rfl, s1⟩
    rintro σ1 H1 ⟨rfl, s1⟩
    refine ⟨fun σ' H' => σ' = [some (.ref g.b), some v, some xp, some (.int ((upO o : Nat) : Int)), some (.int ((dnO o : Nat) : Int)), none, none, none, none, none, none, none] ∧ Same H H', ?_, ?_⟩
    · cases o with
      | none =>
        obtain rfl : xp = .non := hp
        refine ⟨_, rfl, _, rfl, ite2 (fun _ => ?_) (fun e => absurd (decide_eq_true rfl) e)⟩
        exact ⟨rfl, s1⟩
      | some es =>
        obtain ⟨a, rfl, na, ha⟩ := hp
        have eb := exp_bd hb
        refine ⟨_, rfl, _, rfl, ite2 (fun e => absurd (of_decide_eq_true e) (fun z => nomatch z)) (fun _ => ?_)⟩
        refine ⟨_, rfl, a, rfl, ⟨_, SqL.of (s1 _ _ ha)⟩, fun D hD => ?_⟩
        refine lc_all (walk_list (K := K) (a := a) (xs := es.map V.int)) (fun i => .int (0 - es.getD i 0)) (by rw [List.length_map, hb.1]; decide) hD (fun H' kp => SqL.of (kp _ _ (ne_of_none (s1 _ _ ha) hD) (s1 _ _ ha))) ?_ ?_
        · rintro i x H' H'' Kc Z hi kp ⟨rfl, hx⟩ kk
          obtain ⟨e, he, rfl⟩ := map_at hx
          refine ⟨rfl, yes_of (iteT ?_)⟩
          refine ⟨_, rfl, _, _, rfl, rfl, ?_⟩
          have := kk _ (Same.refl _)
          rw [List.getD_eq_getElem?_getD, he] at this
          exact this
        · intro H5 kp hm5
          have s5 := s1.trans (keep_same hD kp)
          have e5 : H5 D = some (.lst ((es.map fun e => 0 - e).map V.int)) := by
            rw [hm5, List.length_map, List.map_map, map_range_getD es (V.int ∘ fun e => 0 - e) 0]
            rfl
          refine ⟨D, es.map fun e => 0 - e, rfl, SqL.of e5, by rw [List.length_map]; exact hb.1, fun e he => ?_, fun H6 s6 => ?_⟩
          · obtain ⟨e', he', rfl⟩ := List.mem_map.mp he
            have := eb e' he'
            omega
          · rw [worth_ng hb.1]
            exact ⟨rfl, s5.trans s6⟩
    clear s1
    rintro σ1 H1 ⟨rfl, s1⟩
    obtain ⟨t, b, hrt, b1, tb1, bb1, et, eb⟩ := hv.rt hb
    have w43 : (2 : Nat) ^ 8900 ≤ 10 ^ 4300 := by decide +kernel
    have hu43 : upO o < 10 ^ 4300 := by
      rw [← et]
      exact Nat.lt_of_le_of_lt tp_le (Nat.lt_of_lt_of_le tb1 w43)
    have hd43 : dnO o < 10 ^ 4300 := by
      rw [← eb]
      exact Nat.lt_of_le_of_lt bt_le (Nat.lt_of_lt_of_le bb1 w43)
    have nat43 : ∀ {n : Nat}, n < 10 ^ 4300 → ((n : Int)).natAbs < 10 ^ 4300 := fun h => by
      rw [Int.natAbs_natCast]
      exact h
    clear tb1 bb1 w43
    refine ⟨fun σ' H' => σ' = [some (.ref g.b), some v, some xp, some (.int ((upO o : Nat) : Int)), some (.int ((dnO o : Nat) : Int)), some (.str (rtx (upO o) (dnO o))), none, none, none, none, none, none] ∧ Same H H', ?_, ?_⟩
    · generalize upO o = u at *
      generalize dnO o = d at *
      unfold rtx
      by_cases c : d = 1
      · refine ⟨_, rfl, rfl, _, rfl, iteT_of (decide_eq_true (by rw [c]; rfl)) ?_⟩
        refine ⟨_, rfl, _, rfl, nat43 hu43, ?_⟩
        rw [text_nat, if_pos c]
        exact ⟨rfl, s1⟩
      · refine ⟨_, rfl, rfl, _, rfl, iteF_of (decide_eq_false (fun z => c (by injection z with z; exact Int.ofNat.inj z))) ?_⟩
        refine ⟨_, rfl, _, rfl, nat43 hu43, ?_⟩
        rw [text_nat]
        refine ⟨_, _, rfl, rfl, sz2 (Nat.le_trans (nt43 hu43) (by decide)) (by decide +kernel), ?_⟩
        refine ⟨_, rfl, _, rfl, nat43 hd43, ?_⟩
        rw [text_nat]
        refine ⟨_, _, rfl, rfl, sz2 (by rw [app_len]; exact Nat.le_trans (Nat.add_le_add (nt43 hu43) (show (("/" : Str)).length ≤ 1 by decide +kernel)) (by decide)) (Nat.le_trans (nt43 hd43) (by decide)), ?_⟩
        rw [if_neg c]
        exact ⟨rfl, s1⟩
    clear s1
    rintro σ1 H1 ⟨rfl, s1⟩
    obtain ⟨va, dx, rfl, hva⟩ := id hrt
    have hva1 := s1 _ _ hva
    have hv1 := hv.same s1
    have eT : (rat t b).lookup ("top" : Str) = some (.int ((upO o : Nat) : Int)) := by rw [← et]; rfl
    have eB : (rat t b).lookup ("bottom" : Str) = some (.int ((dnO o : Nat) : Int)) := by rw [← eb]; rfl
    have u43 := nt43 hu43
    have d43 := nt43 hd43
    have n43u := nat43 hu43
    have n43d := nat43 hd43
    clear hu43 hd43 nat43
    refine ⟨_, rfl, va, C, dx, _, _, rfl, hva1, o_R.c.cls, o_R.c.n1, eT, _, rfl, va, C, dx, _, _, rfl, hva1, o_R.c.cls, o_R.c.n2, eB, ?_⟩
    refine ⟨_, rfl, va, dx, _, rfl, hva1, strZ hv1 hb fun H2 s2 => ⟨_, rfl, ?_⟩⟩
    refine ⟨_, rfl, va, dx, _, rfl, s2 _ _ hva1, reprZ (hv1.same s2) hb fun H3 s3 => ⟨_, rfl, (by show 4 ≤ sizeLine; decide), fun L1 hL1 => ?_⟩⟩
    have s4 := (s1.trans s2).trans (s3.trans (Same.new (o := .lst [.int ((upO o : Nat) : Int), .int ((dnO o : Nat) : Int), .str (rtx (upO o) (dnO o)), .str (rrx (upO o) (dnO o))]) hL1))
    have k4 : upd H3 L1 (.lst [.int ((upO o : Nat) : Int), .int ((dnO o : Nat) : Int), .str (rtx (upO o) (dnO o)), .str (rrx (upO o) (dnO o))]) L1 = _ := upd_same
    generalize upd H3 L1 (.lst [.int ((upO o : Nat) : Int), .int ((dnO o : Nat) : Int), .str (rtx (upO o) (dnO o)), .str (rrx (upO o) (dnO o))]) = H4 at s4 k4
    clear s2 s3 hL1 hv1 hva1 s1
    have c6 : (("Ratio(" : Str)).length = 6 := by decide +kernel
    have c2 : ((", " : Str)).length = 2 := by decide +kernel
    have c1 : ((")" : Str)).length = 1 := by decide +kernel
    refine ⟨_, rfl, _, rfl, _, rfl, _, rfl, _, rfl, _, rfl, n43u, ?_⟩
    rw [text_nat]
    refine ⟨_, _, rfl, rfl, sz2 (by rw [c6]; decide) (Nat.le_trans u43 (by decide)), ?_⟩
    refine ⟨_, _, rfl, rfl, sz2 (by rw [app_len, c6]; exact Nat.le_trans (Nat.add_le_add_left u43 6) (by decide)) (by rw [c2]; decide), ?_⟩
    refine ⟨_, rfl, _, rfl, n43d, ?_⟩
    rw [text_nat]
    refine ⟨_, _, rfl, rfl, sz2 (by rw [app_len, app_len, c6, c2]; exact Nat.le_trans (Nat.add_le_add_right (Nat.add_le_add_left u43 6) 2) (by decide)) (Nat.le_trans d43 (by decide)), ?_⟩
    refine ⟨_, _, rfl, rfl, sz2 (by rw [app_len, app_len, app_len, c6, c2]; exact Nat.le_trans (Nat.add_le_add (Nat.add_le_add_right (Nat.add_le_add_left u43 6) 2) d43) (by decide)) (by rw [c1]; decide), ?_⟩
    refine ⟨(by show 4 ≤ sizeLine; decide), fun L2 hL2 => ?_⟩
    refine ⟨_, _, rfl, alk_lst (n := 4) (Same.new hL2 _ _ k4) upd_same (by show 4 ≤ 1000; decide) (.cons (Alk.sc (.int _)) (.cons (Alk.sc (.int _)) (.cons (Alk.sc (.str _)) (.cons (Alk.sc (.str _)) .nil)))), fun H5 s5 => ⟨_, rfl, iteF ?_⟩⟩
    have s6 := s4.trans ((Same.new hL2).trans s5)
    have hB6 := hB.same s6
    have hT6 := tabs_same hT s6
    have d6 : Dx g T H H5 := Dx.same hB hT s6
    clear s4 k4 s5 hL2 s6 hrt u43 d43 n43u n43d c6 c2 c1 eT eB et eb
    refine ⟨_, rfl, g, 10, rfl, hB6, by decide, by decide, fun j H6 dr1 j0 j1 => ?_⟩
    refine ⟨_, rfl, _, _, rfl, rfl, .inl ⟨by decide, by decide⟩, _, _, rfl, rfl, _, _, rfl, rfl, (by show 1 ≤ sizeLine; decide), fun t2 ht2 => ⟨(by show 13 ≤ sizeLine; decide), fun L3 hL3 => ?_⟩⟩
    have e7 : Same H6 (upd H6 t2 (.tup [.int 2])) := Same.new ht2
    have d7 := d6.trans ((Dx.drew d6.b d6.t dr1).trans (Dx.same dr1.2 (tabs_drew d6.t d6.b dr1) e7))
    have k7 : upd H6 t2 (.tup [.int 2]) t2 = some (.tup [.int 2]) := upd_same
    generalize upd H6 t2 (.tup [.int 2]) = H7 at *
    have s8 := Same.new (o := .lst [.int 1, .int 0, .int 4, .int 60, .int 62, .int 67, .int (2 + 59 * 2), .bl true, .non, .str "2", .int (0 - 2), .ref t2, .int 49]) hL3
    refine ⟨g, L3, _, rfl, d7.b.same s8, upd_same, d7.b.ne hL3, (by show 1 ≤ 13; decide), (by show 13 < 1000; decide), fun vo H8 hvo dr2 => ?_⟩
    have d8 := d7.trans ((Dx.same d7.b d7.t s8).trans (Dx.drew (d7.b.same s8) (tabs_same d7.t s8) dr2))
    have k8 : H8 t2 = some (.tup [.int 2]) := by
      have := Dx.tup d7.b ((Dx.same d7.b d7.t s8).trans (Dx.drew (d7.b.same s8) (tabs_same d7.t s8) dr2)) k7
      exact this
    have hod : ((∃ p, vo = .int p ∧ ¬ p ∈ primes) ∨ OV g H8 vo) := by
      simp only [List.mem_cons, List.not_mem_nil, or_false] at hvo
      rcases hvo with rfl | rfl | rfl | rfl | rfl | rfl | rfl | rfl | rfl | rfl | rfl | rfl | rfl
      · exact .inl ⟨_, rfl, by decide⟩
      · exact .inl ⟨_, rfl, by decide⟩
      · exact .inl ⟨_, rfl, by decide⟩
      · exact .inl ⟨_, rfl, by decide⟩
      · exact .inl ⟨_, rfl, by decide⟩
      · exact .inl ⟨_, rfl, by decide⟩
      · exact .inl ⟨_, rfl, by decide⟩
      · exact .inr (.inr (.inl ⟨_, rfl⟩))
      · exact .inr (.inl rfl)
      · exact .inr (.inr (.inr (.inl ⟨_, rfl⟩)))
      · exact .inl ⟨_, rfl, by decide⟩
      · exact .inr (.inr (.inr (.inr ⟨t2, _, rfl, bag_tup d8.b k8, .inr k8, fun y hy => by rw [List.mem_singleton.mp hy]; exact .int _, by decide⟩)))
      · exact .inl ⟨_, rfl, by decide⟩
    clear e7 s8 dr1 dr2 k7 hvo ht2 hL3 d7 hB6 hT6 k8
    refine ⟨(by show 2 ≤ sizeLine; decide), fun t3 hT3 => ?_⟩
    have s9 : Same H8 (upd H8 t3 (.tup [.int j, vo])) := Same.new hT3
    refine ⟨t3, _, rfl, SqT.of upd_same, rfl, _, _, rfl, _, _, rfl, rfl, ?_⟩
    refine ⟨rfl, fun t H9 ht s10 h10 => ?_⟩
    have d9 := d8.trans (Dx.same d8.b d8.t (s9.trans s10))
    obtain ⟨jn, rfl⟩ : ∃ jn : Nat, j = (jn : Int) := ⟨j.toNat, (Int.toNat_of_nonneg j0).symm⟩
    have j10 : jn < 10 := by omega
    have hod9 : ((∃ p, vo = .int p ∧ ¬ p ∈ primes) ∨ OV g H9 vo) := hod.imp id fun z => z.same (s9.trans s10)
    have ej : (lprimes.map V.int)[jn]? = some (.int (lprimes.getD jn 0)) := by
      rw [List.getElem?_map, List.getD_eq_getElem?_getD, List.getElem?_eq_getElem (show jn < lprimes.length from j10)]
      rfl
    refine ⟨_, rfl, t, _, _, _, rfl, rfl, SqL.of h10, atI_nat ej, ?_⟩
    clear d6 d8 hod s9 s10 h10 hT3 ht ej
    have rn : (rat t b).lookup ("power" : Str) = none := rat_no (by decide) (by decide)
    -- the second ask
    have fin : ∀ (H10 : Hp) (lk : V), Dx g T H9 H10 → tCall (spLike K NoA 5) [] E0 (tCons (tLam T (TTask CI CT) fun E2 => tMeth C "power" (spPower C CI) [] E2 (tVar 1) (tCons (tVar 8) tNil)) (tCons (tLst (tCons (tC (.str "InvalidNumber")) (tCons (tC (.str "InvalidNumber")) (tCons (tVar 8) tNil)))) tNil)) [some (.ref g.b), some (.ref va), some xp, some (.int ((upO o : Nat) : Int)), some (.int ((dnO o : Nat) : Int)), some (.str (rtx (upO o) (dnO o))), some (.ref L1), some (.int (jn : Int)), some vo, some (.int (lprimes.getD jn 0)), some lk, none] H10 Q := fun H10 lk d10 => by
      refine ⟨d10.t, fun H1 e1 t1 => ?_⟩
      have d1 := d10.trans (Dx.ext d10.b e1 t1)
      have hv1 := hv.dx hB (d9.trans d1)
      have hva1 := (d9.trans d1).ins hB hva
      have hod1 : (∃ p, vo = .int p ∧ ¬ p ∈ primes) ∨ OV g H1 vo := hod9.imp id fun z => z.dx d9.b d1
      refine ⟨_, rfl, va, dx, _, rfl, hva1, rn, _, rfl, powerZB hv1 (hod1.imp id fun z => z.odd) (ask_inv fun l H2 hl s2 h2 => ?_)⟩
      refine ⟨_, rfl, (by show 3 ≤ sizeLine; decide), fun L4 hL4 => ?_⟩
      have sv : SV g H1 vo := hod1.imp (fun ⟨p, e, _⟩ => ⟨p, e⟩) id
      have s4 := Same.new (o := .lst [.str "InvalidNumber", .str "InvalidNumber", vo]) hL4
      refine ⟨_, _, rfl, (alk_lst (n := 1) (s4 _ _ h2) upd_same (by show 3 ≤ 1000; decide) (.cons (Alk.sc (.str _)) (.cons (Alk.sc (.str _)) (.cons (sv.same (s2.trans s4)).alk .nil)))).mono (by decide), fun H5 s5 => ?_⟩
      exact q _ (d9.trans (d1.trans (Dx.same d1.b d1.t (s2.trans (s4.trans s5)))))
    -- the first ask
    cases o with
    | none =>
      obtain rfl : xp = .non := hp
      refine ⟨_, rfl, _, rfl, ite2 (fun _ => ?_) (fun e => absurd (decide_eq_true rfl) e)⟩
      refine ⟨(by show 3 ≤ sizeLine; decide), fun L4 hL4 => ?_⟩
      have s4 := Same.new (o := .lst [.str "InvalidNumber", .str "InvalidNumber", .int 0]) hL4
      have d4 := Dx.same d9.b d9.t s4
      refine ⟨d4.t, fun H1 e1 t1 => ?_⟩
      have d1 := d4.trans (Dx.ext d4.b e1 t1)
      have k4 := e1 _ _ upd_same (fun ps z => nomatch z)
      refine ⟨_, rfl, va, dx, _, rfl, (d9.trans d1).ins hB hva, rn, _, rfl, powerZ0 (hv.dx hB (d9.trans d1)) j10 (ask_inv fun l H2 hl s2 h2 => ?_)⟩
      refine ⟨_, rfl, _, _, rfl, (alk_lst (n := 0) h2 (s2 _ _ k4) (by show 3 ≤ 1000; decide) (.cons (Alk.sc (.str _)) (.cons (Alk.sc (.str _)) (.cons (Alk.sc (.int _)) .nil)))).mono (by decide), fun H5 s5 => ⟨_, rfl, iteF ?_⟩⟩
      exact fin _ _ (d1.trans (Dx.same d1.b d1.t (s2.trans s5)))
    | some es =>
      obtain ⟨a, rfl, na, ha⟩ := hp
      have ha9 := d9.lst hB na ha
      have ej : (es.map V.int)[jn]? = some (.int (es.getD jn 0)) := by
        rw [List.getElem?_map, List.getD_eq_getElem?_getD, List.getElem?_eq_getElem (show jn < es.length by rw [hb.1]; exact j10)]
        rfl
      refine ⟨_, rfl, _, rfl, ite2 (fun e => absurd (of_decide_eq_true e) (fun z => nomatch z)) (fun _ => ?_)⟩
      refine ⟨_, rfl, _, rfl, a, _, _, _, rfl, rfl, SqL.of ha9, atI_nat ej, (by show 2 ≤ sizeLine; decide), fun L4 hL4 => ?_⟩
      have s4 := Same.new (o := .lst [.str "told", .int (es.getD jn 0)]) hL4
      have d4 := Dx.same d9.b d9.t s4
      refine ⟨d4.t, fun H1 e1 t1 => ?_⟩
      have d1 := d4.trans (Dx.ext d4.b e1 t1)
      have k4 := e1 _ _ upd_same (fun ps z => nomatch z)
      refine ⟨_, rfl, va, dx, _, rfl, (d9.trans d1).ins hB hva, rn, _, rfl, powerZ (hv.dx hB (d9.trans d1)) hb.1 j10 (ask_told fun l H2 hl s2 h2 => ?_)⟩
      refine ⟨_, rfl, _, _, rfl, (alk_lst (n := 0) h2 (s2 _ _ k4) (by show 2 ≤ 1000; decide) (.cons (Alk.sc (.str _)) (.cons (Alk.sc (.int _)) .nil))).mono (by decide), fun H5 s5 => ⟨_, rfl, iteF ?_⟩⟩
      exact fin _ _ (d1.trans (Dx.same d1.b d1.t (s2.trans s5)))
end
end K01
set_option Elab.async false
set_option linter.all false
set_option maxRecDepth 100000
set_option maxHeartbeats 4000000
namespace K01
open PySem PySem.Spec PyProof.Rows L2
/-- a slot that holds nothing under another name -/
abbrev renX (X : Cx) (i : Nat) (y : Str) : Cx := { X with N := X.N.set i y }
section
variable {X : Cx} {pins : List (Addr × Obj)} {σ : L2.St} {H : Hp} {s : Shared} {i : Nat} {y : Str}
theorem inv_ren (I : Inv X pins σ H s) (h : σ[i]? = some none) : Inv (renX X i y) pins σ H s :=
  { ok := { I.ok with }, os := I.os, bare := I.bare, base := I.base, cell := I.cell, free := I.free, freeC := I.freeC, pin := I.pin, hok := I.hok
    len := by
      show σ.length = (X.N.set i y).length
      rw [List.length_set]
      exact I.len
    loc := by
      obtain ⟨m, h1, h2⟩ := I.loc
      refine ⟨m, h1, fun j x v hj hv hs => ?_⟩
      have n : i ≠ j := fun e => by
        rw [← e, h] at hv
        cases hv
      have hj : (X.N.set i y)[j]? = some x := hj
      rw [List.getElem?_set_ne n] at hj
      exact h2 j x v hj hv hs }
theorem ren_inv (I : Inv (renX X i y) pins σ H s) (h : σ[i]? = some none) : Inv X pins σ H s :=
  { ok := { I.ok with }, os := I.os, bare := I.bare, base := I.base, cell := I.cell, free := I.free, freeC := I.freeC, pin := I.pin, hok := I.hok
    len := by
      have := I.len
      have this : σ.length = (X.N.set i y).length := this
      rw [List.length_set] at this
      exact this
    loc := by
      obtain ⟨m, h1, h2⟩ := I.loc
      refine ⟨m, h1, fun j x v hj hv hs => ?_⟩
      have n : i ≠ j := fun e => by
        rw [← e, h] at hv
        cases hv
      refine h2 j x v ?_ hv hs
      show (X.N.set i y)[j]? = some x
      rw [List.getElem?_set_ne n]
      exact hj }
theorem pe_ren {e : Expr} {t : TE} (p : PE (renX X i y) e t) : PE X e (fun σ H Q => σ[i]? = some none ∧ t σ H Q) := by
  refine ⟨fun pins s σ H Q I h => ?_⟩
  refine wpAny_mono (p.run pins s σ H Q (inv_ren I h.1) h.2) (fun v s' q => ?_) fun e s' q => ?_
  · obtain ⟨w, H', J, r, q⟩ := q
    exact ⟨w, H', ren_inv J h.1, r, q⟩
  · exact q
end
end K01
set_option Elab.async false
set_option linter.all false
set_option maxRecDepth 100000
set_option maxHeartbeats 4000000
namespace K01
open PySem PySem.Spec PyProof.Rows L2 LamX
section
variable {X : Cx} {C CI : Addr} {E : XK} {p pos : Pos} {e : Expr} {es : List Expr} {kws : List Keyword} {t tk : TA}
theorem mk_init {C CI : Addr} {E : XK} {vs : List V} {H : Hp} {Q : VK} {a dx : Addr} (q : rMkRat C CI E vs H Q) (ha : H a = none) (hdx : H dx = none) : spRatio C CI (.ref a :: vs) (upd (upd H dx (.own a)) a (.ins C dx [])) (fun v H2 => v = .non ∧ Q (.ref a) H2) E := by
  obtain ⟨x, y, rfl, q⟩ := q
  have s1 : Same H (upd (upd H dx (.own a)) a (.ins C dx [])) := fun c o z => by
    rw [upd_ne (ne_of_none z ha), upd_ne (ne_of_none z hdx)]
    exact z
  refine ⟨a, dx, x, y, rfl, upd_same, ?_⟩
  rcases q with ⟨t, b, rfl, rfl, b1, b2, q⟩ | ⟨hl, k⟩ | ⟨hx, hl, k⟩
  · refine .inl ⟨t, b, rfl, rfl, b1, b2, rfl, ?_⟩
    rw [upd_upd]
    refine q _ _ (fun c o z => ?_) ⟨a, dx, rfl, upd_same⟩
    rw [upd_ne (ne_of_none z ha), upd_ne (ne_of_none z hdx)]
    exact z
  · exact .inr (.inl ⟨hl.same s1, k.same s1⟩)
  · exact .inr (.inr ⟨hx, hl.same s1, k.same s1⟩)
/-- Ratio(x) -/
theorem pe_ratio1Z (c : RZx X C CI) (hr : Room 4 X.A) (hg : Gl X "Ratio") (hx : Passes (L2.CX X.prog X.w) X E) (ha : PA X (e :: es) t)
    (he : starEach (e :: es) X.env = (false, eval e X.env) :: starEach es X.env := by rfl) (hpl : (backTo pos (starEach es X.env)).any (·.1) = false := by rfl) :
    PE X (.Call (.Name "Ratio" p) (e :: es) [] pos) (fun σ H Q => t σ H fun vs H1 => rMkRat C CI E (vs ++ [.int 1]) H1 Q) := by
  obtain ⟨f, fd, tk, M, F, b⟩ := c.ini1
  refine ⟨fun pins s σ H Q I hq => ?_⟩
  refine wpAny_Call_Name_kw (ld_glob I hg c.c.gC ?_ (by decide))
  refine PySem.W.callWith_K (h₀ := X.base) I.ok.mod.kin M.kp (thn (ha.run pos pins s σ H _ I hq) fun us s1 ⟨vs, H1, I1, r, q⟩ => ⟨I1.kIn, ?_⟩) he hpl
  exact run_make M F hr b (dvs := [.int 1]) (.cons ⟨tk, rfl⟩ .nil) hx I1 r fun a dx ha hdx nda => mk_init q ha hdx
/-- Ratio(bottom=y, top=x) -/
theorem pe_ratioK (c : RZx X C CI) (hr : Room 4 X.A) (hg : Gl X "Ratio") (hx : Passes (L2.CX X.prog X.w) X E) (hk : PK X kws tk)
    (hall : (backToKw pos (keywordEach kws X.env)).all (·.1.isSome) = true := by rfl) (hks : (backToKw pos (keywordEach kws X.env)).filterMap (·.1) = [("bottom" : Str), "top"] := by rfl)
    (hpl : ((backTo pos (starEach [] X.env)).any (·.1) || (backToKw pos (keywordEach kws X.env)).any (·.1.isNone)) = false := by rfl) :
    PE X (.Call (.Name "Ratio" p) [] kws pos) (fun σ H Q => tk σ H fun zs H2 => ∃ x y, zs = [y, x] ∧ rMkRat C CI E [x, y] H2 Q) := by
  obtain ⟨f, fd, g, M, F, kb⟩ := c.iniK
  refine ⟨fun pins s σ H Q I hq => wpAny_Call_Name_kw (ld_glob I hg c.c.gC (PySem.W.callWith_KW0 (h₀ := X.base) I.ok.mod.kin M.kp hall (thn (hk.run pos pins s σ H _ I hq) fun ws s2 ⟨zs, H2, I2, rz, q2⟩ => ⟨I2.kIn, ?_⟩) hpl) (by decide))⟩
  obtain ⟨x, y, rfl, q⟩ := q2
  rw [hks]
  exact run_makeK (n := 0) (us := []) (vs := []) M F hr kb hx I2 .nil rz rfl rfl fun a dx na ndx ne => mk_init q na ndx
end
/-! ### differences of powers -/
def diffs (es fs : List Int) : List Int := (es.zip fs).map fun q => q.1 - q.2
theorem diffs_len {es fs : List Int} (h1 : es.length = 10) (h2 : fs.length = 10) : (diffs es fs).length = 10 := by
  unfold diffs
  rw [List.length_map, List.length_zip, h1, h2]
  rfl
theorem diff_at {es fs : List Int} (h : es.length = 10) (h2 : fs.length = 10) {n : Nat} (hn : n < 18) : ofL (diffs es fs) n = ofL es n - ofL fs n := by
  obtain ⟨a, b, c, d, e, f', i, j, k, l, rfl⟩ := ten h
  obtain ⟨a2, b2, c2, d2, e2, f2, i2, j2, k2, l2, rfl⟩ := ten h2
  rcases cs18 hn with rfl | rfl | rfl | rfl | rfl | rfl | rfl | rfl | rfl | rfl | rfl | rfl | rfl | rfl | rfl | rfl | rfl | rfl <;> rfl
theorem ofL_nn {es : List Int} (l : es.length = 10) (h : ∀ e ∈ es, 0 ≤ e) {n : Nat} (hn : n < 18) : 0 ≤ ofL es n := by
  obtain ⟨a, b, c, d, e, f', i, j, k, l', rfl⟩ := ten l
  rcases cs18 hn with rfl | rfl | rfl | rfl | rfl | rfl | rfl | rfl | rfl | rfl | rfl | rfl | rfl | rfl | rfl | rfl | rfl | rfl <;> first | exact Int.le_refl 0 | exact h a (by simp) | exact h b (by simp) | exact h c (by simp) | exact h d (by simp) | exact h e (by simp) | exact h f' (by simp) | exact h i (by simp) | exact h j (by simp) | exact h k (by simp) | exact h l' (by simp)
theorem ng_nn {es : List Int} (l : es.length = 10) (h : ∀ e ∈ es, 0 ≤ e) : pw (ng (ofL es)) = 1 := by
  rw [show pw (ng (ofL es)) = pw (fun _ => 0) from pwn_congr fun i hi => by have := ofL_nn l h hi; unfold ng; omega]
  exact pwn_zero 18
section
variable {C CI : Addr} {H : Hp} {Q : VK} {E : XK} {es fs : List Int} {m : Nat}
theorem bdO_nn (l : es.length = 10) (h : ∀ e ∈ es, 0 ≤ e) (m0 : 0 < m) (hw : worth es < ((2 ^ m : Nat) : Int)) : BdO m (some es) := by
  rw [worth_pw l] at hw
  exact ⟨l, Int.ofNat_lt.mp hw, by rw [ng_nn l h]; exact one_lt m0⟩
theorem bdO_diffs (h1 : BdO m (some es)) (h2 : BdO m (some fs)) (n1 : ∀ e ∈ es, 0 ≤ e) (n2 : ∀ e ∈ fs, 0 ≤ e) : BdO m (some (diffs es fs)) := by
  obtain ⟨l1, a1, _⟩ := h1
  obtain ⟨l2, a2, _⟩ := h2
  have e1 : pw (ps (ofL (diffs es fs))) ≤ pw (ps (ofL es)) := pw_mono fun i hi => by have := diff_at l1 l2 hi; have := ofL_nn l1 n1 hi; have := ofL_nn l2 n2 hi; unfold ps; omega
  have e2 : pw (ng (ofL (diffs es fs))) ≤ pw (ps (ofL fs)) := pw_mono fun i hi => by have := diff_at l1 l2 hi; have := ofL_nn l1 n1 hi; have := ofL_nn l2 n2 hi; unfold ps ng; omega
  exact ⟨diffs_len l1 l2, Nat.lt_of_le_of_lt e1 a1, Nat.lt_of_le_of_lt e2 a2⟩
/-- Ratio(worth es, worth fs) -/
theorem mkZ (h1 : BdO m (some es)) (h2 : BdO m (some fs)) (n1 : ∀ e ∈ es, 0 ≤ e) (n2 : ∀ e ∈ fs, 0 ≤ e) (hm : m ≤ 8900) (k : ∀ v H2, Same H H2 → RzV C H2 v (some (diffs es fs)) → Q v H2) : rMkRat C CI E [.int (worth es), .int (worth fs)] H Q := by
  obtain ⟨l1, a1, _⟩ := h1
  obtain ⟨l2, a2, _⟩ := h2
  refine ⟨_, _, rfl, .inl ⟨pw (ps (ofL es)), pw (ps (ofL fs)), by rw [worth_pw l1], by rw [worth_pw l2], pwp _, Nat.lt_of_lt_of_le a2 (Nat.pow_le_pow_right (by decide) (by omega)), fun v H2 s2 h2 => k v H2 s2 (rx_of h2 fun i hi => ?_)⟩⟩
  rw [diff_at l1 l2 hi]
  have := ofL_nn l1 n1 hi
  have := ofL_nn l2 n2 hi
  unfold ps
  omega
theorem mkZ1 (h1 : BdO m (some es)) (n1 : ∀ e ∈ es, 0 ≤ e) (k : ∀ v H2, Same H H2 → RzV C H2 v (some es) → Q v H2) : rMkRat C CI E [.int (worth es), .int 1] H Q := by
  obtain ⟨l1, a1, _⟩ := h1
  refine ⟨_, _, rfl, .inl ⟨pw (ps (ofL es)), 1, by rw [worth_pw l1], rfl, Nat.le_refl _, one_lt (by decide), fun v H2 s2 h2 => k v H2 s2 ?_⟩⟩
  rw [show (1 : Nat) = pw (fun _ => 0) from (pwn_zero 18).symm] at h2
  refine rx_of h2 fun i hi => ?_
  have := ofL_nn l1 n1 hi
  unfold ps
  omega
theorem mkZ0 {b : Nat} (b1 : 1 ≤ b) (b2 : b < 2 ^ 70) (k : ∀ v H2, Same H H2 → Rt C H2 v 0 b → Q v H2) : rMkRat C CI E [.int 0, .int (b : Int)] H Q :=
  ⟨_, _, rfl, .inl ⟨0, b, rfl, rfl, b1, Nat.lt_of_lt_of_le b2 (Nat.pow_le_pow_right (by decide) (by decide)), k⟩⟩
end
end K01
set_option Elab.async false
set_option linter.all false
set_option maxRecDepth 100000
set_option maxHeartbeats 4000000
namespace K01
open PySem PySem.Spec PyProof.Rows L2 LamX
section
variable {P : Program} {w : World} {K : PySem.W.Frag} {mg : Str → Option Value} {base : Heap}
/-- what a drawn ratio is: the ratio, its powers -/
structure DRat (C : Addr) (g : Bg) (H : Hp) (t : Addr) (o : Option (List Int)) : Prop where
  ex : ∃ rv xp, H t = some (.tup [rv, xp]) ∧ RzV C H rv o ∧ PwV g H xp o ∧ (o = none → ∃ b, 1 ≤ b ∧ b < 2 ^ 70 ∧ Rt C H rv 0 b)
  bd : BdO 140 o
def spDR (C : Addr) : Sp := fun vs H Q _ => ∃ g : Bg, vs = [.ref g.b] ∧ Bag g H ∧ ∀ t o H2, Drew g H H2 → DRat C g H2 t o → Q (.ref t) H2
theorem sc_dr : FnScope ["_law_bag_here", "_law_room", "_law_up", "_law_down", "_law_way", "_law_powers", "_law_a", "_law_b"] ["_law_bag_here"] (defScope (top 39)) := ⟨rfl, rfl, rfl, by decide +kernel, rfl, by decide +kernel, by decide +kernel⟩
theorem b29 {z room : Int} {es : List Int} (l : es.length = 10) (h : ∀ e ∈ es, 0 ≤ e ∧ e ≤ z) (w : worth es ≤ room) (r : room ≤ 999999999) : BdO 70 (some es) := bdO_nn l (fun e he => (h e he).1) (by decide) (Int.lt_of_le_of_lt (Int.le_trans w r) (by decide +kernel))
theorem ok_dr {f : Addr} {fd : FuncData} {C CI : Addr} (F : FnP K "_law_drawn_ratio" (top 39) f fd) (o_R : RatZ P w K mg base C CI) (m_zip : mg "zip" = none)
    (c__law_draw : Cal P w K mg base CX0 "_law_draw" 1 ["_law_bag_here", "_law_many"] spDraw) (c__law_of : Cal P w K mg base CX0 "_law_of" 2 ["_law_bag_here", "_law_things"] spOf) (c__law_number : Cal P w K mg base CX0 "_law_number" 2 ["_law_bag_here", "_law_room", "_law_most_primes"] spNum) (c_count_ratio : Cal P w K mg base (L2.CX P w) "count_ratio" 5 ["part", "whole"] (spCount C CI)) : FnOk P w K mg base CX0 6 f fd ["_law_bag_here"] (spDR C) := by
  have sc := sc_dr
  refine F.ok sc (fun vs H Q E h => ?_) (fun cdv A outer s H vs Q E hr h => ?_)
  · obtain ⟨g, rfl, _⟩ := h
    rfl
  · obtain ⟨g, rfl, hB, q⟩ := h
    have hr_count_ratio : Room 5 _ := hr
    have hr_ratio : Room 4 _ := hr.mono (by decide)
    have hr__law_of : Room 2 _ := hr.mono (by decide)
    have hr__law_number : Room 2 _ := hr.mono (by decide)
    have hr__law_draw : Room 1 _ := hr.mono (by decide)
    refine ⟨_, PSs.nox (pss_cons (ps_set (i := 1) sc.nd rfl (Or.inl rfl) (pe_cal c__law_of hr__law_of rfl (pa_cons (pv 0) (pa_cons (pe_lst (pa_cons pe_int (pa_cons pe_int (pa_cons pe_int pa_nil)))) pa_nil))))
      (pss_cons (ps_par3 (i := 2) (j := 3) (l := 4) rfl sc.nd rfl rfl rfl (by decide) (by decide) (by decide) rfl rfl rfl (pa_cons (pe_cal c__law_number hr__law_number rfl (pa_cons (pv 0) (pa_cons (pv 1) (pa_cons pe_int pa_nil)))) (pa_cons (pe_cal c__law_number hr__law_number rfl (pa_cons (pv 0) (pa_cons (pv 1) (pa_cons pe_int pa_nil)))) (pa_cons (pe_cal c__law_draw hr__law_draw rfl (pa_cons (pv 0) (pa_cons pe_int pa_nil))) pa_nil))) (by rfl))
      (pss_cons (ps_setLc (i := 5) (own := [("_law_a", 6), ("_law_b", 7)]) (g := gTup _ 2 (gCons (gName 6) (gCons (gName 7) gNil))) rfl sc.nd rfl rfl (sw_true rfl rfl rfl (by decide +kernel)) (RZ.pi_zipA rfl m_zip (pa_cons (pe_ix (show IxR _ (rIxT K) from ix_tup) (pv 2) pe_int (fun _ _ => rfl)) (pa_cons (pe_ix (show IxR _ (rIxT K) from ix_tup) (pv 3) pe_int (fun _ _ => rfl)) pa_nil))) (blkOk_by (N := ["_law_bag_here", "_law_room", "_law_up", "_law_down", "_law_way", "_law_powers", "_law_a", "_law_b"]) (sc := defScope (top 39)) (by decide +kernel)) (fun _ _ _ _ _ => (pg_tup rfl (pgs_cons (pg_name (i := 6) sc.nd rfl (Or.inl rfl)) (pgs_cons (pg_name (i := 7) sc.nd rfl (Or.inl rfl)) pgs_nil)))) (fun _ _ _ _ _ => pts_nil) (fun _ _ _ _ _ => (pe_op op_sub (pv 6) (pv 7))))
      (pss_cons (ps_if (pt_cmpR op_eq (pv 4) pe_int (nomark _)) (pss_one (ps_ret (pe_tup (pa_cons (pe_cal c__law_of hr__law_of rfl (pa_cons (pv 0) (pa_cons (pe_lst (pa_cons (pe_ratio o_R.c hr_ratio rfl (passN rfl rfl) (pa_cons pe_int (pa_cons (pe_ix (show IxR _ (rIxT K) from ix_tup) (pv 3) pe_int (fun _ _ => rfl)) pa_nil))) (pa_cons (pe_calX c_count_ratio hr_count_ratio rfl (passN rfl rfl) (pa_cons pe_int (pa_cons (pe_ix (show IxR _ (rIxT K) from ix_tup) (pv 3) pe_int (fun _ _ => rfl)) pa_nil))) (pa_cons (pe_ratio1Z o_R hr_ratio rfl (passN rfl rfl) (pa_cons pe_int pa_nil)) pa_nil)))) pa_nil))) (pa_cons pe_non pa_nil))))) pss_nil)
      (pss_cons (ps_if (pt_cmpR op_eq (pv 4) pe_int (nomark _)) (pss_one (ps_ret (pe_tup (pa_cons (pe_ratio1Z o_R hr_ratio rfl (passN rfl rfl) (pa_cons (pe_ix (show IxR _ (rIxT K) from ix_tup) (pv 2) pe_int (fun _ _ => rfl)) pa_nil)) (pa_cons (pe_ix (show IxR _ (rIxT K) from ix_tup) (pv 2) pe_int (fun _ _ => rfl)) pa_nil))))) pss_nil)
      (pss_cons (ps_if (pt_cmpR op_eq (pv 4) pe_int (nomark _)) (pss_cons (ps_par (i := 2) (j := 3) rfl sc.nd rfl rfl (by decide) rfl rfl (pa_cons (pe_cal c__law_number hr__law_number rfl (pa_cons (pv 0) (pa_cons (pe_op op_pow pe_int pe_int) (pa_cons pe_int pa_nil)))) (pa_cons (pe_cal c__law_number hr__law_number rfl (pa_cons (pv 0) (pa_cons (pe_op op_pow pe_int pe_int) (pa_cons pe_int pa_nil)))) pa_nil)) (by rfl))
      (pss_one (ps_ret (pe_tup (pa_cons (pe_calX c_count_ratio hr_count_ratio rfl (passN rfl rfl) (pa_cons (pe_ix (show IxR _ (rIxT K) from ix_tup) (pv 2) pe_int (fun _ _ => rfl)) (pa_cons (pe_ix (show IxR _ (rIxT K) from ix_tup) (pv 3) pe_int (fun _ _ => rfl)) pa_nil))) (pa_cons (pe_lc (own := [("_law_a", 6), ("_law_b", 7)]) (g := gTup _ 2 (gCons (gName 6) (gCons (gName 7) gNil))) rfl sc.nd (RZ.pi_zipA rfl m_zip (pa_cons (pe_ix (show IxR _ (rIxT K) from ix_tup) (pv 2) pe_int (fun _ _ => rfl)) (pa_cons (pe_ix (show IxR _ (rIxT K) from ix_tup) (pv 3) pe_int (fun _ _ => rfl)) pa_nil))) (blkOk_by (N := ["_law_bag_here", "_law_room", "_law_up", "_law_down", "_law_way", "_law_powers", "_law_a", "_law_b"]) (sc := defScope (top 39)) (by decide +kernel)) (fun _ _ _ _ _ => (pg_tup rfl (pgs_cons (pg_name (i := 6) sc.nd rfl (Or.inl rfl)) (pgs_cons (pg_name (i := 7) sc.nd rfl (Or.inl rfl)) pgs_nil)))) (fun _ _ _ _ _ => pts_nil) (fun _ _ _ _ _ => (pe_op op_sub (pv 6) (pv 7)))) pa_nil)))))) pss_nil)
      (pss_one (ps_ret (pe_tup (pa_cons (pe_ifExp (pt_cmpR op_lt (pv 4) pe_int (nomark _)) (pe_ratio o_R.c hr_ratio rfl (passN rfl rfl) (pa_cons (pe_ix (show IxR _ (rIxT K) from ix_tup) (pv 2) pe_int (fun _ _ => rfl)) (pa_cons (pe_ix (show IxR _ (rIxT K) from ix_tup) (pv 3) pe_int (fun _ _ => rfl)) pa_nil))) (pe_ratioK o_R hr_ratio rfl (passN rfl rfl) (pk_cons (pe_ix (show IxR _ (rIxT K) from ix_tup) (pv 3) pe_int (fun _ _ => rfl)) (pk_cons (pe_ix (show IxR _ (rIxT K) from ix_tup) (pv 2) pe_int (fun _ _ => rfl)) pk_nil)))) (pa_cons (pv 5) pa_nil))))))))))), ?_⟩
    refine ⟨_, rfl, (by show 3 ≤ sizeLine; decide), fun L0 h0 => ?_⟩
    have s0 := Same.new (o := .lst [.int 30, .int 1000, .int 999999999]) h0
    refine ⟨g, L0, _, rfl, hB.same s0, upd_same, hB.ne h0, (by show 1 ≤ 3; decide), (by show 3 < 1000; decide), fun v H1 hv dr1 => ?_⟩
    obtain ⟨room, rfl, rm1, rm2⟩ : ∃ room : Int, v = .int room ∧ 1 ≤ room ∧ room ≤ 999999999 := by
      simp only [List.mem_cons, List.not_mem_nil, or_false] at hv
      rcases hv with rfl | rfl | rfl <;> exact ⟨_, rfl, by decide, by decide⟩
    have d1 : Drew g H H1 := (Drew.same hB s0).trans dr1
    clear s0 dr1 hv h0
    refine ⟨_, rfl, _, rfl, g, room, 12, rfl, d1.2, rm1, by decide, by decide, fun t1 l1 es H2 dr2 _ hn1 ht1 hl1 n1 nn1 w1 wr1 => ?_⟩
    refine ⟨_, rfl, _, rfl, g, room, 12, rfl, dr2.2, rm1, by decide, by decide, fun t2 l2 fs H3 dr3 _ hn2 ht2 hl2 n2 nn2 w2 wr2 => ?_⟩
    refine ⟨_, rfl, g, 6, rfl, dr3.2, by decide, by decide, fun way H4 dr4 wy0 wy6 => ⟨_, _, _, rfl, ?_⟩⟩
    have b1 := b29 n1 nn1 wr1 rm2
    have b2 := b29 n2 nn2 wr2 rm2
    have p1 : ∀ e ∈ es, 0 ≤ e := fun e he => (nn1 e he).1
    have p2 : ∀ e ∈ fs, 0 ≤ e := fun e he => (nn2 e he).1
    have tt1 : H4 t1 = some (.tup [.int (worth es), .ref l1]) := bag_keepT dr2.2 (dr3.trans dr4) ht1
    have tt2 : H4 t2 = some (.tup [.int (worth fs), .ref l2]) := bag_keepT dr3.2 dr4 ht2
    have nb1 : l1 ≠ g.b := d1.2.ne hn1
    have nb2 : l2 ≠ g.b := dr2.2.ne hn2
    have ll1 : H4 l1 = some (.lst (es.map V.int)) := (dr3.trans dr4).1 _ _ nb1 hl1
    have ll2 : H4 l2 = some (.lst (fs.map V.int)) := dr4.1 _ _ nb2 hl2
    have d4 := ((d1.trans dr2).trans dr3).trans dr4
    clear ht1 ht2 hl1 hl2 wr1 wr2
    refine ⟨_, rfl, t1, _, _, _, rfl, rfl, SqT.of tt1, rfl, _, rfl, t2, _, _, _, rfl, rfl, SqT.of tt2, rfl, l1, l2, _, _, rfl, .inl ⟨SqL.of ll1, SqL.of ll2, fun D hD => ?_⟩⟩
    refine lc_it (walk_zip (xs := es.map V.int) (ys := fs.map V.int) (n := es.length) (by rw [List.length_map, List.length_map, n1, n2, Nat.min_self])) (fun i H2 => (∀ a o, a ≠ D → H4 a = some o → H2 a = some o) ∧ H2 D = some (.lst (((diffs es fs).take i).map V.int))) ⟨fun a o n e => by rw [upd_ne n]; exact e, upd_same⟩ (fun i H2 _ h => ?_) ?_ ?_
    · exact ⟨SqL.of (h.1 _ _ (ne_of_none ll1 hD) ll1), SqL.of (h.1 _ _ (ne_of_none ll2 hD) ll2)⟩
    · rintro i x H2 Hn hi ⟨h1, h2⟩ ⟨T, u, v, rfl, hT, rfl, hu, hv⟩
      obtain ⟨d, ed, rfl⟩ := map_at hu
      obtain ⟨e, ee, rfl⟩ := map_at hv
      have s2 : Same H2 (upd H2 T (.tup [.int d, .int e])) := Same.new hT
      refine ⟨T, [.int d, .int e], rfl, SqT.of upd_same, rfl, _, [.int e], rfl, _, [], rfl, rfl, rfl, ?_⟩
      refine yes_of (iteT ?_)
      refine ⟨_, rfl, _, rfl, _, _, rfl, rfl, _, s2 _ _ h2, ?_, ?_, ?_⟩
      · rw [List.length_map, List.length_take]
        exact small1000 (by omega)
      · intro a o n z
        rw [upd_ne n]
        exact s2 _ _ (h1 a o n z)
      · have ez : (diffs es fs)[i]? = some (d - e) := by
          unfold diffs
          rw [List.getElem?_map, show (es.zip fs)[i]? = some (d, e) from List.getElem?_zip_eq_some.mpr ⟨ed, ee⟩]
          rfl
        rw [upd_same, List.take_succ, ez, List.map_append]
        rfl
    · rintro H5 ⟨h1, h2⟩
      rw [List.take_of_length_le (by rw [diffs_len n1 n2, n1]; decide)] at h2
      have s5 : Same H4 H5 := fun c o z => h1 c o (ne_of_none z hD) z
      have d5 := d4.trans (Drew.same d4.2 s5)
      have nbD : D ≠ g.b := d4.2.ne hD
      have u1 := s5 _ _ tt1
      have u2 := s5 _ _ tt2
      have k1 := s5 _ _ ll1
      have k2 := s5 _ _ ll2
      have b3 := b1.mono (n := 140) (by decide)
      have b4 := b2.mono (n := 140) (by decide)
      clear h1 hD s5 tt1 tt2 ll1 ll2
      by_cases c0 : way = 0
      · subst c0
        refine ⟨_, rfl, rfl, _, rfl, iteT ?_⟩
        obtain ⟨wn, hwn, wn1, wn2⟩ : ∃ wn : Nat, worth fs = (wn : Int) ∧ 1 ≤ wn ∧ wn < 2 ^ 70 := ⟨_, worth_pw n2, pwp _, b2.2.1⟩
        rw [hwn] at u2
        refine ⟨_, rfl, _, rfl, t2, _, _, _, rfl, rfl, SqT.of u2, rfl, mkZ0 wn1 wn2 fun r1 H6 s6 h6 => ?_⟩
        refine ⟨_, rfl, t2, _, _, _, rfl, rfl, SqT.of (s6 _ _ u2), rfl, mkZ0 wn1 wn2 fun r2 H7 s7 h7 => ?_⟩
        refine mkZ0 (b := 1) (by decide) (by decide) fun r3 H8 s8 h8 => ?_
        refine ⟨(by show 3 ≤ sizeLine; decide), fun L hL => ?_⟩
        have s9 := Same.new (o := .lst [r1, r2, r3]) hL
        have d8 := d5.trans (Drew.same d5.2 (s6.trans (s7.trans (s8.trans s9))))
        refine ⟨g, L, _, rfl, d8.2, upd_same, (d5.2.same (s6.trans (s7.trans s8))).ne hL, (by show 1 ≤ 3; decide), (by show 3 < 1000; decide), fun v H9 hv dr => ?_⟩
        have hvr : ∃ b, 1 ≤ b ∧ b < 2 ^ 70 ∧ Rt C H9 v 0 b := by
          simp only [List.mem_cons, List.not_mem_nil, or_false] at hv
          rcases hv with rfl | rfl | rfl
          · exact ⟨wn, wn1, wn2, (h6.same (s7.trans (s8.trans s9))).drew d8.2 dr⟩
          · exact ⟨wn, wn1, wn2, (h7.same (s8.trans s9)).drew d8.2 dr⟩
          · exact ⟨1, by decide, by decide, (h8.same s9).drew d8.2 dr⟩
        refine ⟨(by show 2 ≤ sizeLine; decide), fun t ht => ?_⟩
        have s10 := Same.new (o := .tup [v, .non]) ht
        obtain ⟨b, q1, q2, q3⟩ := hvr
        exact q t none _ ((d8.trans dr).trans (Drew.same dr.2 s10)) ⟨⟨v, .non, upd_same, ⟨b, q1, Nat.lt_of_lt_of_le q2 (Nat.pow_le_pow_right (by decide) (by decide)), q3.same s10⟩, rfl, fun _ => ⟨b, q1, q2, q3.same s10⟩⟩, trivial⟩
      refine ⟨_, rfl, rfl, _, rfl, iteF_of (decide_eq_false fun z => c0 (by injection z)) ?_⟩
      by_cases c1 : way = 1
      · subst c1
        refine ⟨_, rfl, rfl, _, rfl, iteT ?_⟩
        refine ⟨_, rfl, t1, _, _, _, rfl, rfl, SqT.of u1, rfl, mkZ1 b1 p1 fun r1 H6 s6 h6 => ?_⟩
        refine ⟨_, rfl, t1, _, _, _, rfl, rfl, SqT.of (s6 _ _ u1), rfl, (by show 2 ≤ sizeLine; decide), fun t ht => ?_⟩
        have s7 := Same.new (o := .tup [r1, .ref l1]) ht
        exact q t (some es) _ (d5.trans (Drew.same d5.2 (s6.trans s7))) ⟨⟨r1, .ref l1, upd_same, h6.same s7, ⟨l1, rfl, nb1, s7 _ _ (s6 _ _ k1)⟩, fun z => nomatch z⟩, b3⟩
      refine ⟨_, rfl, rfl, _, rfl, iteF_of (decide_eq_false fun z => c1 (by injection z)) ?_⟩
      by_cases c2 : way = 2
      · subst c2
        refine ⟨_, rfl, rfl, _, rfl, iteT ?_⟩
        clear u1 u2 k1 k2 b3 b4 b1 b2 p1 p2 n1 n2 nn1 nn2 h2 nb1 nb2 w1 w2
        have big : ((10 : Int) ^ (40 : Int).toNat) < ((2 ^ 140 : Nat) : Int) := by decide +kernel
        refine ⟨_, rfl, _, _, rfl, rfl, ⟨by decide, by decide, by decide⟩, g, _, 30, rfl, d5.2, by decide +kernel, by decide, by decide, fun t3 l3 es' H6 dr6 _ hn3 ht3 hl3 n3 nn3 w3 wr3 => ?_⟩
        refine ⟨_, rfl, _, _, rfl, rfl, ⟨by decide, by decide, by decide⟩, g, _, 30, rfl, dr6.2, by decide +kernel, by decide, by decide, fun t4 l4 fs' H7 dr7 _ hn4 ht4 hl4 n4 nn4 w4 wr4 => ?_⟩
        refine ⟨_, _, rfl, ?_⟩
        have b3 : BdO 140 (some es') := bdO_nn n3 (fun e he => (nn3 e he).1) (by decide) (Int.lt_of_le_of_lt wr3 big)
        have b4 : BdO 140 (some fs') := bdO_nn n4 (fun e he => (nn4 e he).1) (by decide) (Int.lt_of_le_of_lt wr4 big)
        have p3 : ∀ e ∈ es', 0 ≤ e := fun e he => (nn3 e he).1
        have p4 : ∀ e ∈ fs', 0 ≤ e := fun e he => (nn4 e he).1
        have nb3 : l3 ≠ g.b := d5.2.ne hn3
        have nb4 : l4 ≠ g.b := dr6.2.ne hn4
        have tt3 : H7 t3 = some (.tup [.int (worth es'), .ref l3]) := bag_keepT dr6.2 dr7 ht3
        have ll3 : H7 l3 = some (.lst (es'.map V.int)) := dr7.1 _ _ nb3 hl3
        have d7 := (d5.trans dr6).trans dr7
        clear ht3 hl3 wr3 wr4 big
        refine ⟨_, rfl, t3, _, _, _, rfl, rfl, SqT.of tt3, rfl, _, rfl, t4, _, _, _, rfl, rfl, SqT.of ht4, rfl, mkZ b3 b4 p3 p4 (by decide) fun rv H11 s8 hrv => ?_⟩
        have d11 := d7.trans (Drew.same d7.2 s8)
        have tt3 := s8 _ _ tt3
        have tt4 := s8 _ _ ht4
        have ll3 := s8 _ _ ll3
        have ll4 := s8 _ _ hl4
        refine ⟨_, rfl, t3, _, _, _, rfl, rfl, SqT.of tt3, rfl, _, rfl, t4, _, _, _, rfl, rfl, SqT.of tt4, rfl, l3, l4, _, _, rfl, .inl ⟨SqL.of ll3, SqL.of ll4, fun D hD => ?_⟩⟩
        refine lc_it (walk_zip (xs := es'.map V.int) (ys := fs'.map V.int) (n := es'.length) (by rw [List.length_map, List.length_map, n3, n4, Nat.min_self])) (fun i H2 => (∀ a o, a ≠ D → H11 a = some o → H2 a = some o) ∧ H2 D = some (.lst (((diffs es' fs').take i).map V.int))) ⟨fun a o n e => by rw [upd_ne n]; exact e, upd_same⟩ (fun i H2 _ h => ?_) ?_ ?_
        · exact ⟨SqL.of (h.1 _ _ (ne_of_none ll3 hD) ll3), SqL.of (h.1 _ _ (ne_of_none ll4 hD) ll4)⟩
        · rintro i x H2 Hn hi ⟨h1, h2⟩ ⟨T, u, v, rfl, hT, rfl, hu, hv⟩
          obtain ⟨d, ed, rfl⟩ := map_at hu
          obtain ⟨e, ee, rfl⟩ := map_at hv
          have s2 : Same H2 (upd H2 T (.tup [.int d, .int e])) := Same.new hT
          refine ⟨T, [.int d, .int e], rfl, SqT.of upd_same, rfl, _, [.int e], rfl, _, [], rfl, rfl, rfl, ?_⟩
          refine yes_of (iteT ?_)
          refine ⟨_, rfl, _, rfl, _, _, rfl, rfl, _, s2 _ _ h2, ?_, ?_, ?_⟩
          · rw [List.length_map, List.length_take]
            exact small1000 (by omega)
          · intro a o n z
            rw [upd_ne n]
            exact s2 _ _ (h1 a o n z)
          · have ez : (diffs es' fs')[i]? = some (d - e) := by
              unfold diffs
              rw [List.getElem?_map, show (es'.zip fs')[i]? = some (d, e) from List.getElem?_zip_eq_some.mpr ⟨ed, ee⟩]
              rfl
            rw [upd_same, List.take_succ, ez, List.map_append]
            rfl
        · rintro H5 ⟨h1, h2⟩
          rw [List.take_of_length_le (by rw [diffs_len n3 n4, n3]; decide)] at h2
          have s5 : Same H11 H5 := fun c o z => h1 c o (ne_of_none z hD) z
          have d12 := d11.trans (Drew.same d11.2 s5)
          have nbD : D ≠ g.b := d11.2.ne hD
          refine ⟨(by show 2 ≤ sizeLine; decide), fun t ht => ?_⟩
          have s13 := Same.new (o := .tup [rv, .ref D]) ht
          exact q t (some (diffs es' fs')) _ (d12.trans (Drew.same d12.2 s13)) ⟨⟨rv, .ref D, upd_same, hrv.same (s5.trans s13), ⟨D, rfl, nbD, s13 _ _ h2⟩, fun z => nomatch z⟩, bdO_diffs b3 b4 p3 p4⟩
      refine ⟨_, rfl, rfl, _, rfl, iteF_of (decide_eq_false fun z => c2 (by injection z)) ?_⟩
      have fin : ∀ rv H6, Same H5 H6 → RzV C H6 rv (some (diffs es fs)) → (tCons (tVar 5) tNil) [some (.ref g.b), some (.int room), some (.ref t1), some (.ref t2), some (.int way), some (.ref D), none, none] H6 (fun vs H7 => 1 + vs.length ≤ sizeLine ∧ ∀ t, H7 t = none → Q (.ref t) (upd H7 t (.tup (rv :: vs)))) := fun rv H6 s6 h6 => by
        refine ⟨_, rfl, (by show 2 ≤ sizeLine; decide), fun t ht => ?_⟩
        have s7 := Same.new (o := .tup [rv, .ref D]) ht
        exact q t (some (diffs es fs)) _ (d5.trans (Drew.same d5.2 (s6.trans s7))) ⟨⟨rv, .ref D, upd_same, h6.same s7, ⟨D, rfl, nbD, s7 _ _ (s6 _ _ h2)⟩, fun z => nomatch z⟩, bdO_diffs b3 b4 p1 p2⟩
      refine ⟨_, rfl, _, _, rfl, rfl, _, rfl, ?_⟩
      by_cases c5 : way < 5
      · refine iteT_of (decide_eq_true c5) ?_
        refine ⟨_, rfl, t1, _, _, _, rfl, rfl, SqT.of u1, rfl, _, rfl, t2, _, _, _, rfl, rfl, SqT.of u2, rfl, mkZ b1 b2 p1 p2 (by decide) fun rv H6 s6 h6 => ?_⟩
        obtain ⟨v, e, l, k⟩ := fin rv H6 s6 h6
        exact ⟨v, e, (by show 2 ≤ sizeLine; decide), k⟩
      · refine iteF_of (decide_eq_false c5) ?_
        refine ⟨_, rfl, t2, _, _, _, rfl, rfl, SqT.of u2, rfl, _, rfl, t1, _, _, _, rfl, rfl, SqT.of u1, rfl, _, _, rfl, mkZ b1 b2 p1 p2 (by decide) fun rv H6 s6 h6 => ?_⟩
        obtain ⟨v, e, l, k⟩ := fin rv H6 s6 h6
        exact ⟨v, e, (by show 2 ≤ sizeLine; decide), k⟩
end
end K01
set_option Elab.async false
set_option linter.all false
set_option maxRecDepth 100000
set_option maxHeartbeats 4000000
namespace K01
open PySem PySem.Spec PyProof.Rows L2 L2H LamX NumT
/-- the scope of the comprehension over j -/
def scJ : Scope := { kind := .function, names := [(".0", .local), ("_law_j", .cell), ("_law_ratio_so", .globalImplicit), ("_law_bag_here", .cell), ("_law_one", .cell), ("_law_powers", .cell)], isGenerator := false, isCoroutine := false }
/-- its list of products -/
abbrev teI (K : PySem.W.Frag) : TE := tLc (iList K (tOp (rIxT K) (tVar 1) (tC (.int 1)))) (gName 10) tYes (tOp (rI CMul fun i j => .int (i * j)) (tVar 10) (tOp (rIxL K) (tLst (tCons (tC (.int 0)) (tCons (tC (.int 1)) (tCons (tC (.int 3)) tNil)))) (tVar 9))) [10]
abbrev qR : Str := "_law_ratios.<locals>.<lambda>"
def dO : Option (List Int) → PyData
  | none => .none
  | some es => .list (es.map PyData.int)
theorem PwV.dp {K : PySem.W.Frag} {H : Hp} {g : Bg} {v : V} {o : Option (List Int)} (h : PwV g H v o) : Dp K H v (dO o) := by
  cases o with
  | none =>
    obtain rfl : v = .non := h
    exact .non
  | some es =>
    obtain ⟨a, rfl, _, h⟩ := h
    exact .lst (SqL.of h) (dp_ints _)
theorem shaped_dO (o : Option (List Int)) : SeqAt.shaped (dO o) = true := by
  cases o with
  | none => rfl
  | some ns =>
    show SeqAt.shaped (.list (ns.map PyData.int)) = true
    unfold SeqAt.shaped PyData.canLay0 PyData.depth
    rw [canLay_ints, depth_ints]
    rfl
theorem eqv_dO (o o' : Option (List Int)) : PyData.eqv (dO o) (dO o') = decide (o = o') := by
  cases o with
  | none =>
    cases o' with
    | none => rfl
    | some es => rw [decide_eq_false (fun z => nomatch z)]; rfl
  | some es =>
    cases o' with
    | none => rw [decide_eq_false (fun z => nomatch z)]; rfl
    | some fs =>
      show PyData.eqvAll _ _ = _
      rw [eqvAll_ints]
      by_cases c : es = fs
      · rw [c, decide_eq_true rfl, decide_eq_true rfl]
      · rw [decide_eq_false c, decide_eq_false fun z => c (Option.some.inj z)]
theorem DRat.dx {C : Addr} {g : Bg} {TT : List (Addr × Str)} {H H2 : Hp} {t : Addr} {o : Option (List Int)} (B : Bag g H) (h : DRat C g H t o) (d : Dx g TT H H2) : DRat C g H2 t o := by
  obtain ⟨⟨rv, xp, h1, h2, h3, h4⟩, b⟩ := h
  refine ⟨⟨rv, xp, d.tup B h1, h2.dx B d, h3.dx B d, fun e => ?_⟩, b⟩
  obtain ⟨b, b1, b2, b3⟩ := h4 e
  exact ⟨b, b1, b2, b3.dx B d⟩
/-- a power that stays small -/
def KB (o : Option (List Int)) (k : Int) : Prop := k.natAbs ≤ 99 ∧ ∃ m, 0 < m ∧ BdO m o ∧ m * (k.natAbs + 1) ≤ 8900
theorem kb_12 {o : Option (List Int)} {k : Int} (b : BdO 140 o) (h : k.natAbs ≤ 12) : KB o k := ⟨by omega, 140, by decide, b, by omega⟩
theorem nt_lt {n j : Nat} (hj : 1 ≤ j) (h : (nt n).length ≤ j) : n < 10 ^ j := by
  rw [tx_len] at h
  exact (Nat.length_toDigits_le_iff (by decide) (by omega)).mp h
theorem kb_99 {o : Option (List Int)} {k : Int} (b : BdO 140 o) (h : k.natAbs = 99) (l : (nt (upO o)).length + (nt (dnO o)).length < 15) : KB o k := by
  refine ⟨by omega, 50, by decide, ?_, by omega⟩
  cases o with
  | none => trivial
  | some es =>
    have w : (10 : Nat) ^ 14 < 2 ^ 50 := by decide
    have a1 := nt_lt (n := upO (some es)) (j := 14) (by decide) (by omega)
    have a2 := nt_lt (n := dnO (some es)) (j := 14) (by decide) (by omega)
    exact ⟨b.1, Nat.lt_trans a1 w, Nat.lt_trans a2 w⟩
theorem repl_one {α : Type} (x : α) : ∀ n : Nat, (List.replicate n [x]).flatten = List.replicate n x
  | 0 => rfl
  | n + 1 => by
    rw [List.replicate_succ, List.flatten_cons, repl_one x n]
    rfl
theorem sum_of {K : PySem.W.Frag} {H : Hp} {g : Bg} {x y : V} {o o' : Option (List Int)} {m : Nat} {Q : VK} {E : XK} (B : Bag g H) (hx : PwV g H x o) (hy : PwV g H y o') (b1 : BdO m o) (b2 : BdO m o') (q : ∀ v H2, Same H H2 → PwV g H2 v (sumO o o') → Q v H2) : spSum K [x, y] H Q E := by
  refine ⟨x, y, rfl, ?_⟩
  cases o with
  | none =>
    obtain rfl : x = .non := hx
    exact .inl ⟨rfl, q _ _ (Same.refl _) (by cases o' <;> exact rfl)⟩
  | some es =>
    obtain ⟨a, rfl, na, ha⟩ := hx
    cases o' with
    | none =>
      obtain rfl : y = .non := hy
      exact .inr (.inl ⟨⟨a, rfl⟩, rfl, q _ _ (Same.refl _) rfl⟩)
    | some fs =>
      obtain ⟨b, rfl, nb, hb⟩ := hy
      exact .inr (.inr ⟨a, b, es, fs, rfl, rfl, ha, hb, by rw [b1.1, b2.1], by rw [b1.1]; decide, fun t H2 ht s h2 => q _ _ s ⟨t, rfl, B.ne ht, h2⟩⟩)
theorem tabs_upd {H : Hp} {D : Addr} {o : HO} {ys : List V} {T : List (Addr × Str)} (hD : H D = some (.lst ys)) (t : Tabs T H) : Tabs T (L2.upd H D o) := fun p hp => by
  obtain ⟨ps, h1, h2, h3⟩ := t p hp
  refine ⟨ps, by rw [upd_ne (fun z => by rw [z, hD] at h1; cases h1)]; exact h1, h2, fun pos cv hc => ?_⟩
  obtain ⟨c0, e1, e2⟩ := h3 pos cv hc
  refine ⟨c0, e1, ?_⟩
  rw [upd_ne (fun z => by rw [z, hD] at e2; unfold CodeO at e2; cases e2)]
  exact e2
/-- what a list comprehension appends to keeps all that stood before it -/
theorem Dx.app {g : Bg} {H H4 : Hp} {D : Addr} {o : HO} {ys : List V} {T : List (Addr × Str)} (B : Bag g H) (d : Dx g T H H4) (hD : H D = none) (h4 : H4 D = some (.lst ys)) : Dx g T H (L2.upd H4 D o) := ⟨fun a o' n nt e => by
  rw [upd_ne (ne_of_none e hD)]
  exact d.k a o' n nt e, d.b.upd (B.ne hD) (B.nl hD), tabs_upd h4 d.t⟩
theorem bdO_neg {m : Nat} {es : List Int} (h : BdO m (some es)) : BdO m (some (es.map fun e => 0 - e)) := by
  have e1 : pw (ps (ofL (es.map fun e => 0 - e))) = pw (ng (ofL es)) := pwn_congr fun i hi => by
    have := neg_at h.1 hi
    unfold ps ng
    rw [this]
    omega
  have e2 : pw (ng (ofL (es.map fun e => 0 - e))) = pw (ps (ofL es)) := pwn_congr fun i hi => by
    have := neg_at h.1 hi
    unfold ps ng
    rw [this]
    omega
  exact ⟨by rw [List.length_map]; exact h.1, by rw [e1]; exact h.2.2, by rw [e2]; exact h.2.1⟩
theorem zeros_pw {g : Bg} {H : Hp} {l : Addr} (n : l ≠ g.b) (h : H l = some (.lst (List.replicate (Int.toNat 10) [V.int 0]).flatten)) : PwV g H (.ref l) (some zeros) := ⟨l, rfl, n, h⟩
theorem bdO_sumO {m : Nat} {o o' : Option (List Int)} (b1 : BdO m o) (b2 : BdO m o') : BdO (m + m) (sumO o o') := by
  cases o with
  | none => cases o' <;> trivial
  | some es =>
    cases o' with
    | none => trivial
    | some fs => exact bdO_sum b1 b2
section
variable {P : Program} {w : World} {K : PySem.W.Frag} {mg : Str → Option Value} {base : Heap}
def spLR (T : List (Addr × Str)) : Sp := fun vs H Q _ => ∃ g : Bg, vs = [.ref g.b] ∧ Bag g H ∧ Tabs T H ∧ ∀ H2, Dx g T H H2 → Q (.bl true) H2
theorem sc_lr : FnScope ["_law_bag_here", "_law_one", "_law_two", "_law_k", "_law_ratio", "_law_powers", "_law_refused", "_law_above", "_law_asks", "_law_j", "_law_a"] ["_law_bag_here"] (defScope (top 40)) := ⟨rfl, rfl, rfl, by decide +kernel, rfl, by decide +kernel, by decide +kernel⟩
/-- a ratio told of, before what follows -/
theorem so_of {C : Addr} {T : List (Addr × Str)} {g : Bg} {H : Hp} {v xp : V} {o : Option (List Int)} {Q : VK} {E : XK} (hB : Bag g H) (hT : Tabs T H) (hv : RzV C H v o) (hx : PwV g H xp o) (hb : BdO 8900 o) (q : ∀ H2, Dx g T H H2 → Q (.bl true) H2) : spRSo C T [.ref g.b, v, xp] H Q E := ⟨g, v, xp, o, rfl, hB, hT, hv, hx, hb, q⟩
theorem ok_lr {fd : FuncData} {C CB CI CT : Addr} {T : List (Addr × Str)} {PR : Addr} (F : FnP K "_law_ratios" (top 40) (He.fAd K ("_law_ratios", none)) fd) (nd : base.NoDigits) (t_A : AskF P w K mg base CB CI CT) (t_B : TabB base mg (He.codeOf K ("_law_ratios", none)) PR) (t_m : (PR, qR) ∈ T) (t_u : ∀ p ∈ T, p.1 = PR → p.2 = qR) (o_R : RatZ P w K mg base C CI)
    (m_str : mg "str" = none) (m_len : mg "len" = none) (m_max : mg "max" = none) (m_abs : mg "abs" = none) (m_all : mg "all" = none) (m_range : mg "range" = none) (c__law_draw : Cal P w K mg base CX0 "_law_draw" 1 ["_law_bag_here", "_law_many"] spDraw) (c__law_of : Cal P w K mg base CX0 "_law_of" 2 ["_law_bag_here", "_law_things"] spOf) (c__law_like : Cal P w K mg base CX0 "_law_like" 6 ["_law_found", "_law_due"] (spLike K NoA 5)) (c__law_sum : Cal P w K mg base CX0 "_law_sum" 1 ["_law_one", "_law_two"] (spSum K)) (c__law_drawn_ratio : Cal P w K mg base CX0 "_law_drawn_ratio" 6 ["_law_bag_here"] (spDR C)) (c__law_ratio_so : Cal P w K mg base CX0 "_law_ratio_so" 9 ["_law_bag_here", "_law_ratio", "_law_powers"] (spRSo C T)) : FnOk P w K mg base CX0 10 (He.fAd K ("_law_ratios", none)) fd ["_law_bag_here"] (spLR T) := by
  have sc := sc_lr
  refine okC F sc (fun vs H Q E h => ?_) (fun A outer s H vs Q E hr h => ?_)
  · obtain ⟨g, rfl, _⟩ := h
    rfl
  · obtain ⟨g, rfl, hB, hT, q⟩ := h
    have hr__law_ratio_so : Room 9 _ := hr.mono (by decide)
    have hr_ask : Room 7 _ := hr.mono (by decide)
    have hr__law_drawn_ratio : Room 6 _ := hr.mono (by decide)
    have hr__law_like : Room 6 _ := hr.mono (by decide)
    have hr_pow : Room 6 _ := hr.mono (by decide)
    have hr_op : Room 5 _ := hr.mono (by decide)
    have hr_raised : Room 5 _ := hr.mono (by decide)
    have hr_str : Room 4 _ := hr.mono (by decide)
    have hr__law_of : Room 2 _ := hr.mono (by decide)
    have hr__law_sum : Room 1 _ := hr.mono (by decide)
    have hr__law_draw : Room 1 _ := hr.mono (by decide)
    have hr_eq : Room 1 _ := hr.mono (by decide)
    have px : ∀ {X : Cx}, Passes CX0 X E0 := pass0
    obtain ⟨f_raised, fd_raised, M_raised, F_raised, b_raised⟩ := o_R.raised
    obtain ⟨gs, ro1, ro2, F_str⟩ := o_R.str
    refine ⟨_, PSs.nox (pss_cons (ps_asg (pe_tup (pa_cons (pe_cal c__law_drawn_ratio hr__law_drawn_ratio rfl (pa_cons (pv 0) pa_nil)) (pa_cons (pe_cal c__law_drawn_ratio hr__law_drawn_ratio rfl (pa_cons (pv 0) pa_nil)) pa_nil))) (pg_tup rfl (pgs_cons (pg_name (i := 1) sc.nd rfl (Or.inr rfl)) (pgs_cons (pg_name (i := 2) sc.nd rfl (Or.inl rfl)) pgs_nil))))
      (pss_cons (ps_set (i := 3) sc.nd rfl (Or.inr rfl) (pe_cal c__law_of hr__law_of rfl (pa_cons (pv 0) (pa_cons (pe_lst (pa_cons pe_int (pa_cons pe_int (pa_cons (pe_op op_sub pe_int pe_int) (pa_cons pe_int (pa_cons (pe_op op_sub pe_int pe_int) (pa_cons (pe_op op_sub (pe_cal c__law_draw hr__law_draw rfl (pa_cons (pv 0) (pa_cons pe_int pa_nil))) pe_int) (pa_cons (pe_op op_sub (pe_cal c__law_draw hr__law_draw rfl (pa_cons (pv 0) (pa_cons pe_int pa_nil))) pe_int) pa_nil)))))))) pa_nil))))
      (Evl.pss_cut (ps_set (i := 3) sc.nd rfl (Or.inr rfl) (pe_ifExp (pt_cmpR op_lt (pe_op op_add (pe_callB call_len_str (by rfl) m_len (by decide +kernel) (pa_cons (pe_callTy (call_str_big nd hr) (by rfl) m_str (by decide +kernel) (pa_cons (pe_fld (pe_ix (show IxR _ (rIxT K) from ix_tup) (pv 1) pe_int (fun _ _ => rfl)) rfl) pa_nil)) pa_nil)) (pe_callB call_len_str (by rfl) m_len (by decide +kernel) (pa_cons (pe_callTy (call_str_big nd hr) (by rfl) m_str (by decide +kernel) (pa_cons (pe_fld (pe_ix (show IxR _ (rIxT K) from ix_tup) (pv 1) pe_int (fun _ _ => rfl)) rfl) pa_nil)) pa_nil))) pe_int (nomark _)) (pe_cal c__law_of hr__law_of rfl (pa_cons (pv 0) (pa_cons (pe_lst (pa_cons pe_int (pa_cons (pe_op op_sub pe_int pe_int) (pa_cons (pv 3) pa_nil)))) pa_nil))) (pv 3)))
      (pss_cons (ps_for PassesOwn.never rfl (pi_list (pe_lst (pa_cons (pv 1) (pa_cons (pv 2) (pa_cons (pv 1) pa_nil))))) (pg_tup rfl (pgs_cons (pg_name (i := 4) sc.nd rfl (Or.inl rfl)) (pgs_cons (pg_name (i := 5) sc.nd rfl (Or.inr rfl)) pgs_nil))) (pss_one (ps_if (pt_not (pt_val (pe_cal c__law_ratio_so hr__law_ratio_so rfl (pa_cons (pv 0) (pa_cons (pv 4) (pa_cons (pv 5) pa_nil)))))) (pss_one (ps_ret pe_bl)) pss_nil)))
      (pss_cons (ps_if (pt_not (pt_val (pe_cal c__law_ratio_so hr__law_ratio_so rfl (pa_cons (pv 0) (pa_cons (pe_op (op_mulZ o_R hr_op) (pe_ix (show IxR _ (rIxT K) from ix_tup) (pv 1) pe_int (fun _ _ => rfl)) (pe_ix (show IxR _ (rIxT K) from ix_tup) (pv 2) pe_int (fun _ _ => rfl))) (pa_cons (pe_cal c__law_sum hr__law_sum rfl (pa_cons (pe_ix (show IxR _ (rIxT K) from ix_tup) (pv 1) pe_int (fun _ _ => rfl)) (pa_cons (pe_ix (show IxR _ (rIxT K) from ix_tup) (pv 2) pe_int (fun _ _ => rfl)) pa_nil))) pa_nil)))))) (pss_one (ps_ret pe_bl)) pss_nil)
      (pss_cons (ps_if (pt_not (pt_val (pe_cal c__law_like hr__law_like rfl (pa_cons (pe_lst (pa_cons (pe_cmpR (op_eqZ o_R hr_eq) (pe_ix (show IxR _ (rIxT K) from ix_tup) (pv 1) pe_int (fun _ _ => rfl)) (pe_ix (show IxR _ (rIxT K) from ix_tup) (pv 2) pe_int (fun _ _ => rfl)) (nomark _)) (pa_cons (pe_cmpR (op_eqZ o_R hr_eq) (pe_ix (show IxR _ (rIxT K) from ix_tup) (pv 2) pe_int (fun _ _ => rfl)) (pe_ix (show IxR _ (rIxT K) from ix_tup) (pv 1) pe_int (fun _ _ => rfl)) (nomark _)) (pa_cons (pe_cmpR (op_eqZ o_R hr_eq) (pe_ix (show IxR _ (rIxT K) from ix_tup) (pv 1) pe_int (fun _ _ => rfl)) (pe_ix (show IxR _ (rIxT K) from ix_tup) (pv 1) pe_int (fun _ _ => rfl)) (nomark _)) pa_nil)))) (pa_cons (pe_lst (pa_cons (pe_cmpR (show OpR _ _ (rEqD K) from op_eqD hr.units) (pe_ix (show IxR _ (rIxT K) from ix_tup) (pv 1) pe_int (fun _ _ => rfl)) (pe_ix (show IxR _ (rIxT K) from ix_tup) (pv 2) pe_int (fun _ _ => rfl)) (nomark _)) (pa_cons (pe_cmpR (show OpR _ _ (rEqD K) from op_eqD hr.units) (pe_ix (show IxR _ (rIxT K) from ix_tup) (pv 1) pe_int (fun _ _ => rfl)) (pe_ix (show IxR _ (rIxT K) from ix_tup) (pv 2) pe_int (fun _ _ => rfl)) (nomark _)) (pa_cons pe_bl pa_nil)))) pa_nil))))) (pss_one (ps_ret pe_bl)) pss_nil)
      (pss_cons (ps_if (pt_not (pt_val (pe_cal c__law_like hr__law_like rfl (pa_cons (pe_lst (pa_cons (pe_cmpR (op_eqZ o_R hr_eq) (pe_ix (show IxR _ (rIxT K) from ix_tup) (pv 1) pe_int (fun _ _ => rfl)) (pe_fld (pe_ix (show IxR _ (rIxT K) from ix_tup) (pv 1) pe_int (fun _ _ => rfl)) rfl) (nomark _)) (pa_cons (pe_cmpR (op_eqZ o_R hr_eq) (pe_ix (show IxR _ (rIxT K) from ix_tup) (pv 1) pe_int (fun _ _ => rfl)) (pe_callTy (call_strO ro1 ro2 F_str hr_str px) (by rfl) m_str (by decide +kernel) (pa_cons (pe_ix (show IxR _ (rIxT K) from ix_tup) (pv 1) pe_int (fun _ _ => rfl)) pa_nil)) (nomark _)) (pa_cons (pe_cmpR (op_eqZ o_R hr_eq) (pe_ix (show IxR _ (rIxT K) from ix_tup) (pv 1) pe_int (fun _ _ => rfl)) (pe_tup (pa_cons (pe_fld (pe_ix (show IxR _ (rIxT K) from ix_tup) (pv 1) pe_int (fun _ _ => rfl)) rfl) (pa_cons (pe_fld (pe_ix (show IxR _ (rIxT K) from ix_tup) (pv 1) pe_int (fun _ _ => rfl)) rfl) pa_nil))) (nomark _)) pa_nil)))) (pa_cons (pe_op op_rep (pe_lst (pa_cons pe_bl pa_nil)) pe_int) pa_nil))))) (pss_one (ps_ret pe_bl)) pss_nil)
      (pss_cons (ps_set (i := 6) sc.nd rfl (Or.inl rfl) (pe_lst (pa_cons pe_str (pa_cons pe_str (pa_cons pe_int pa_nil)))))
      (pss_cons (ps_if (pt_cmp (pc_isN (pe_ix (show IxR _ (rIxT K) from ix_tup) (pv 1) pe_int (fun _ _ => rfl)))) (pss_cons (ps_set (i := 7) sc.nd rfl (Or.inr rfl) (pe_callB (call_max2 rfl) (by rfl) m_max (by decide +kernel) (pa_cons pe_int (pa_cons (pe_callB call_abs (by rfl) m_abs (by decide +kernel) (pa_cons (pv 3) pa_nil)) pa_nil))))
      (pss_cons (ps_set (i := 8) sc.nd rfl (Or.inl rfl) (pe_lst (pa_cons (pe_lawask (k := 5) (tb := fun E2 => tUn (fun x H Q => ∃ a dx fs, x = .ref a ∧ H a = some (.ins C dx fs) ∧ spNeg C CI [x] H Q E2) (tOp (rIxT K) (tVar 1) (tC (.int 0)))) t_A rfl t_B rfl t_m t_u hr_ask (lamS_by (show lamSB (defScope (top 40)) _ = true by decide +kernel)) rfl (fun _ _ _ _ _ => by rfl) (fun A2 o2 s2 H2 E2 f2 c2 hr2 => ?lam2)) (pa_cons (pe_ren (i := 10) (y := "-") (pe_lawaskD (k := 5) (tb := fun E2 => tMeth C "raised" (spRaised C CI) [] E2 (tOp (rIxT K) (tVar 1) (tC (.int 0))) (tCons (tOp (rI0 fun i j => .int (i - j)) (tC (.int 0)) (tVar 7)) tNil)) t_A rfl t_B rfl t_m t_u hr_ask (lamSD_by (a := "_law_a") (show lamSDB ["_law_bag_here", "_law_one", "_law_two", "_law_k", "_law_ratio", "_law_powers", "_law_refused", "_law_above", "_law_asks", "_law_j", "-"] "_law_a" (defScope (top 40)) _ = true by decide +kernel)) rfl rfl (fun _ _ _ _ _ _ _ => ⟨_, rfl, rfl⟩) (fun A2 o2 s2 H2 E2 f2 c2 hr2 => ?lam1))) pa_nil))))
      (pss_cons (ps_if (PW.pt (pw_or (pt_not (pt_val (pe_cal c__law_like hr__law_like rfl (pa_cons (pv 8) (pa_cons (pe_op op_rep (pe_lst (pa_cons (pv 6) pa_nil)) pe_int) pa_nil))))) (pw_or1 (pt_not (pt_val (pe_cal c__law_ratio_so hr__law_ratio_so rfl (pa_cons (pv 0) (pa_cons (pe_op (op_powZ o_R hr_pow (passN rfl rfl)) (pe_ix (show IxR _ (rIxT K) from ix_tup) (pv 1) pe_int (fun _ _ => rfl)) pe_int) (pa_cons (pe_op op_rep (pe_lst (pa_cons pe_int pa_nil)) pe_int) pa_nil))))))))) (pss_one (ps_ret pe_bl)) pss_nil)
      (pss_one (ps_ret (pe_and (pe_cal c__law_ratio_so hr__law_ratio_so rfl (pa_cons (pv 0) (pa_cons (pe_meth (E := E0) (pe_ix (show IxR _ (rIxT K) from ix_tup) (pv 1) pe_int (fun _ _ => rfl)) o_R.c.cls M_raised F_raised hr_raised b_raised .nil (passN rfl rfl) (pa_cons (pv 7) pa_nil)) (pa_cons pe_non pa_nil)))) (pe_one (pe_cal c__law_ratio_so hr__law_ratio_so rfl (pa_cons (pv 0) (pa_cons (pe_meth (E := E0) (pe_ix (show IxR _ (rIxT K) from ix_tup) (pv 1) pe_int (fun _ _ => rfl)) o_R.c.cls M_raised F_raised hr_raised b_raised .nil (passN rfl rfl) (pa_cons pe_int pa_nil)) (pa_cons (pe_op op_rep (pe_lst (pa_cons pe_int pa_nil)) pe_int) pa_nil))))))))))) pss_nil)
      (pss_cons (ps_if (pt_not (pt_val (pe_cal c__law_ratio_so hr__law_ratio_so rfl (pa_cons (pv 0) (pa_cons (pe_un (un_invZ o_R hr_op (passN rfl rfl)) (pe_ix (show IxR _ (rIxT K) from ix_tup) (pv 1) pe_int (fun _ _ => rfl))) (pa_cons (pe_lc (own := [("_law_a", 10)]) (g := gName 10) rfl sc.nd (pi_list (pe_ix (show IxR _ (rIxT K) from ix_tup) (pv 1) pe_int (fun _ _ => rfl))) (blkOk_by (N := ["_law_bag_here", "_law_one", "_law_two", "_law_k", "_law_ratio", "_law_powers", "_law_refused", "_law_above", "_law_asks", "_law_j", "_law_a"]) (sc := defScope (top 40)) (by decide +kernel)) (fun _ _ _ _ _ => (pg_name (i := 10) sc.nd rfl (Or.inl rfl))) (fun _ _ _ _ _ => pts_nil) (fun _ _ _ _ _ => (pe_op op_sub pe_int (pv 10)))) pa_nil)))))) (pss_one (ps_ret pe_bl)) pss_nil)
      (pss_cons (ps_if (pt_not (pt_val (pe_cal c__law_ratio_so hr__law_ratio_so rfl (pa_cons (pv 0) (pa_cons (pe_meth (E := E0) (pe_ix (show IxR _ (rIxT K) from ix_tup) (pv 1) pe_int (fun _ _ => rfl)) o_R.c.cls M_raised F_raised hr_raised b_raised .nil (passN rfl rfl) (pa_cons (pv 3) pa_nil)) (pa_cons (pe_lc (own := [("_law_a", 10)]) (g := gName 10) rfl sc.nd (pi_list (pe_ix (show IxR _ (rIxT K) from ix_tup) (pv 1) pe_int (fun _ _ => rfl))) (blkOk_by (N := ["_law_bag_here", "_law_one", "_law_two", "_law_k", "_law_ratio", "_law_powers", "_law_refused", "_law_above", "_law_asks", "_law_j", "_law_a"]) (sc := defScope (top 40)) (by decide +kernel)) (fun _ _ _ _ _ => (pg_name (i := 10) sc.nd rfl (Or.inl rfl))) (fun _ _ _ _ _ => pts_nil) (fun _ _ _ _ _ => (pe_op op_mul (pv 10) (pv 3)))) pa_nil)))))) (pss_one (ps_ret pe_bl)) pss_nil)
      (pss_cons (ps_set (i := 5) sc.nd rfl (Or.inr rfl) (pe_lst (pa_cons (pe_op (op_powZ o_R hr_pow (passN rfl rfl)) (pe_ix (show IxR _ (rIxT K) from ix_tup) (pv 1) pe_int (fun _ _ => rfl)) pe_int) (pa_cons (pe_op (op_powZ o_R hr_pow (passN rfl rfl)) (pe_ix (show IxR _ (rIxT K) from ix_tup) (pv 1) pe_int (fun _ _ => rfl)) pe_int) (pa_cons (pe_op (op_powZ o_R hr_pow (passN rfl rfl)) (pe_ix (show IxR _ (rIxT K) from ix_tup) (pv 1) pe_int (fun _ _ => rfl)) pe_int) pa_nil)))))
      (pss_one (ps_ret (pe_callB (cr_all rfl) (by rfl) m_all (by decide +kernel) (pa_cons (pe_lc (own := [("_law_j", 9)]) (g := gName 9) rfl sc.nd (pi_range1 rfl m_range (pa_cons pe_int pa_nil)) (blkOk_by (N := ["_law_bag_here", "_law_one", "_law_two", "_law_k", "_law_ratio", "_law_powers", "_law_refused", "_law_above", "_law_asks", "_law_j", "_law_a"]) (sc := defScope (top 40)) (by decide +kernel)) (fun _ _ _ _ _ => (pg_name (i := 9) sc.nd rfl (Or.inr rfl))) (fun _ _ _ _ _ => pts_nil) (fun _ _ _ _ _ => (pe_cal c__law_ratio_so hr__law_ratio_so rfl (pa_cons (pv 0) (pa_cons (pe_ix (show IxR _ (rIxL K) from ix_list) (pv 5) (pv 9) (fun _ _ => rfl)) (pa_cons (show PE _ _ (teI K) from ?inner) pa_nil)))))) pa_nil)))))))))))))))), ?_⟩
    case inner =>
      refine pe_lc (own := [("_law_a", 10)]) (g := gName 10) rfl sc.nd (pi_list ?_) (blkOk_by (N := ["_law_bag_here", "_law_one", "_law_two", "_law_k", "_law_ratio", "_law_powers", "_law_refused", "_law_above", "_law_asks", "_law_j", "_law_a"]) (sc := scJ) (by decide +kernel)) (fun _ _ _ _ _ => ?_) (fun _ _ _ _ _ => pts_nil) (fun _ _ _ _ _ => ?_)
      · exact pe_ix (show IxR _ (rIxT K) from ix_tup) (pv 1) pe_int (fun _ _ => rfl)
      · exact pg_name (i := 10) sc.nd rfl (Or.inl rfl)
      · exact pe_op op_mul (pv 10) (pe_ix (show IxR _ (rIxL K) from ix_list) (pe_lst (pa_cons pe_int (pa_cons pe_int (pa_cons pe_int pa_nil)))) (pv 9) (fun _ _ => rfl))
    case lam1 =>
      refine pe_meth (E := E2) ?_ o_R.c.cls M_raised F_raised (hr2.mono (by decide)) b_raised .nil ?_ ?_
      · exact pe_ix (show IxR _ (rIxT K) from ix_tup) (pv 1) pe_int (fun _ _ => rfl)
      · exact passL
      · refine pa_cons ?_ pa_nil
        exact pe_op op_sub pe_int (pv 7)
    case lam2 =>
      refine pe_un (un_invZ (E := E2) o_R (hr2.mono (by decide)) ?_) ?_
      · show Passes (L2.CX P w) _ E2
        exact passL
      exact pe_ix (show IxR _ (rIxT K) from ix_tup) (pv 1) pe_int (fun _ _ => rfl)
    refine ⟨_, rfl, g, rfl, hB, fun t1 o1 H1 dr1 r1 => ?_⟩
    refine ⟨_, rfl, g, rfl, dr1.2, fun t2 o2 H2 dr2 r2 => ?_⟩
    refine ⟨(by show 2 ≤ sizeLine; decide), fun tt htt => ?_⟩
    have s3 := Same.new (o := .tup [.ref t1, .ref t2]) htt
    refine ⟨tt, _, rfl, SqT.of upd_same, rfl, _, _, rfl, _, _, rfl, rfl, ?_⟩
    have d1 : Dx g T H H1 := Dx.drew hB hT dr1
    have d2 : Dx g T H1 H2 := Dx.drew d1.b d1.t dr2
    have d3 := (d1.trans d2).trans (Dx.same d2.b d2.t s3)
    have r1 := r1.dx d1.b (d2.trans (Dx.same d2.b d2.t s3))
    have r2 := r2.dx d2.b (Dx.same d2.b d2.t s3)
    generalize upd H2 tt (.tup [.ref t1, .ref t2]) = H3 at *
    clear s3 htt dr1 dr2 d1 d2
    refine ⟨_, rfl, _, _, rfl, rfl, _, _, rfl, rfl, _, rfl, g, 25, rfl, d3.b, by decide, by decide, fun j1 H4 dr4 j10 j11 => ?_⟩
    refine ⟨_, _, rfl, rfl, _, rfl, g, 25, rfl, dr4.2, by decide, by decide, fun j2 H5 dr5 j20 j21 => ?_⟩
    refine ⟨_, _, rfl, rfl, (by show 7 ≤ sizeLine; decide), fun L1 hL1 => ?_⟩
    have d4 := Dx.drew d3.b d3.t (dr4.trans dr5)
    have s5 := Same.new (o := .lst [.int 0, .int 1, .int (0 - 1), .int 2, .int (0 - 2), .int (j1 - 12), .int (j2 - 12)]) hL1
    refine ⟨g, L1, _, rfl, d4.b.same s5, upd_same, d4.b.ne hL1, (by show 1 ≤ 7; decide), (by show 7 < 1000; decide), fun vk H6 hvk dr6 => ?_⟩
    obtain ⟨k, rfl, hk⟩ : ∃ k : Int, vk = .int k ∧ k.natAbs ≤ 12 := by
      simp only [List.mem_cons, List.not_mem_nil, or_false] at hvk
      rcases hvk with rfl | rfl | rfl | rfl | rfl | rfl | rfl
      · exact ⟨_, rfl, by decide⟩
      · exact ⟨_, rfl, by decide⟩
      · exact ⟨_, rfl, by decide⟩
      · exact ⟨_, rfl, by decide⟩
      · exact ⟨_, rfl, by decide⟩
      · exact ⟨_, rfl, by omega⟩
      · exact ⟨_, rfl, by omega⟩
    have d5 := d4.trans ((Dx.same d4.b d4.t s5).trans (Dx.drew (d4.b.same s5) (tabs_same d4.t s5) dr6))
    have r1 := r1.dx d3.b d5
    have r2 := r2.dx d3.b d5
    have d6 := d3.trans d5
    clear s5 hvk hL1 dr4 dr5 dr6 d3 d4 d5 j10 j11 j20 j21
    refine ⟨fun σ' H' => ∃ k, σ' = [some (.ref g.b), some (.ref t1), some (.ref t2), some (.int k), none, none, none, none, none, none, none] ∧ Dx g T H6 H' ∧ KB o1 k, ?_, ?_⟩
    · obtain ⟨⟨rv, xp, tt1, hz, _, _⟩, bd⟩ := id r1
      obtain ⟨t, b, hrt, b1, tb1, bb1, et, eb⟩ := hz.rt (bd.mono (by decide))
      obtain ⟨va, dx, rfl, hva⟩ := hrt
      have w43 : (2 : Nat) ^ 8900 ≤ 10 ^ 4300 := by decide +kernel
      have hu43 : upO o1 < 10 ^ 4300 := by
        rw [← et]
        exact Nat.lt_of_le_of_lt tp_le (Nat.lt_of_lt_of_le tb1 w43)
      have hd43 : dnO o1 < 10 ^ 4300 := by
        rw [← eb]
        exact Nat.lt_of_le_of_lt bt_le (Nat.lt_of_lt_of_le bb1 w43)
      have nat43 : ∀ {n : Nat}, n < 10 ^ 4300 → ((n : Int)).natAbs < 10 ^ 4300 := fun h => by
        rw [Int.natAbs_natCast]
        exact h
      have eT : (rat t b).lookup ("top" : Str) = some (.int ((upO o1 : Nat) : Int)) := by rw [← et]; rfl
      have eB : (rat t b).lookup ("bottom" : Str) = some (.int ((dnO o1 : Nat) : Int)) := by rw [← eb]; rfl
      have u43 := nt43 hu43
      have d43 := nt43 hd43
      have n43u := nat43 hu43
      have n43d := nat43 hd43
      clear hu43 hd43 nat43 tb1 bb1 w43 et eb
      refine ⟨_, rfl, t1, _, _, _, rfl, rfl, SqT.of tt1, rfl, va, C, dx, _, _, rfl, hva, o_R.c.cls, o_R.c.n1, eT, _, rfl, n43u, ?_⟩
      rw [text_nat]
      refine ⟨_, rfl, sz _ (Nat.le_trans u43 (by decide)), ?_⟩
      refine ⟨_, rfl, t1, _, _, _, rfl, rfl, SqT.of tt1, rfl, va, C, dx, _, _, rfl, hva, o_R.c.cls, o_R.c.n2, eB, _, rfl, n43d, ?_⟩
      rw [text_nat]
      refine ⟨_, rfl, sz _ (Nat.le_trans d43 (by decide)), _, _, rfl, rfl, _, _, rfl, rfl, _, rfl, ?_⟩
      by_cases c : (nt (upO o1)).length + (nt (dnO o1)).length < 15
      · refine iteT_of (decide_eq_true (Int.ofNat_lt.mpr c)) ?_
        refine ⟨_, rfl, _, _, rfl, rfl, _, rfl, (by show 3 ≤ sizeLine; decide), fun L2 hL2 => ?_⟩
        have s6 := Same.new (o := .lst [.int 99, .int (0 - 99), .int k]) hL2
        refine ⟨g, L2, _, rfl, d6.b.same s6, upd_same, d6.b.ne hL2, (by show 1 ≤ 3; decide), (by show 3 < 1000; decide), fun v H7 hv dr7 => ?_⟩
        have d7 := (Dx.same d6.b d6.t s6).trans (Dx.drew (d6.b.same s6) (tabs_same d6.t s6) dr7)
        simp only [List.mem_cons, List.not_mem_nil, or_false] at hv
        rcases hv with rfl | rfl | rfl
        · exact ⟨_, rfl, d7, kb_99 bd (by decide) c⟩
        · exact ⟨_, rfl, d7, kb_99 bd (by decide) c⟩
        · exact ⟨_, rfl, d7, kb_12 bd hk⟩
      · refine iteF_of (decide_eq_false fun z => c (Int.ofNat_lt.mp z)) ?_
        exact ⟨_, rfl, _, rfl, Dx.refl d6.b d6.t, kb_12 bd hk⟩
    clear hk k
    rintro σ1 H7 ⟨k, rfl, d7, kb⟩
    have r1 := r1.dx d6.b d7
    have r2 := r2.dx d6.b d7
    have d7 := d6.trans d7
    clear d6
    refine ⟨_, rfl, _, rfl, _, rfl, (by show 3 ≤ sizeLine; decide), fun L2 hL2 => ?_⟩
    have s8 := Same.new (o := .lst [.ref t1, .ref t2, .ref t1]) hL2
    have k8 : upd H7 L2 (.lst [.ref t1, .ref t2, .ref t1]) L2 = _ := upd_same
    have n8 := d7.b.ne hL2
    have d8 := Dx.same d7.b d7.t s8
    have r1 := r1.dx d7.b d8
    have r2 := r2.dx d7.b d8
    have d8 := d7.trans d8
    generalize upd H7 L2 (.lst [.ref t1, .ref t2, .ref t1]) = H8 at *
    clear s8 d7 hL2
    refine ⟨L2, rfl, ⟨_, SqL.of k8⟩, for_list (K := K) (a := L2) (D := { nx := _, rt := Q, bk := fun _ _ => False, ct := fun _ _ => False }) (xs := [.ref t1, .ref t2, .ref t1]) (fun i σ H' => ∃ x4 x5, σ = [some (.ref g.b), some (.ref t1), some (.ref t2), some (.int k), x4, x5, none, none, none, none, none] ∧ Dx g T H8 H') ⟨none, none, rfl, Dx.refl d8.b d8.t⟩ (fun i σ H' _ ⟨_, _, _, e⟩ => SqL.of (e.k _ _ n8 (fun ps z => nomatch z) k8)) ?_ ?_⟩
    · rintro i x σ H' hx ⟨x4, x5, rfl, d9⟩
      obtain ⟨t, o, rfl, rt⟩ : ∃ t o, x = .ref t ∧ DRat C g H8 t o := by
        match i, hx with
        | 0, hx =>
          cases hx
          exact ⟨_, _, rfl, r1⟩
        | 1, hx =>
          cases hx
          exact ⟨_, _, rfl, r2⟩
        | 2, hx =>
          cases hx
          exact ⟨_, _, rfl, r1⟩
      have rt := rt.dx d8.b d9
      obtain ⟨⟨rv, xp, tt, hz, hp, _⟩, bd⟩ := rt
      refine ⟨t, _, rfl, SqT.of tt, rfl, _, _, rfl, _, _, rfl, rfl, ?_⟩
      refine ⟨_, rfl, _, rfl, _, rfl, ?_⟩
      try dsimp only [tNil, tCons, tC]
      refine so_of d9.b d9.t hz hp (bd.mono (by decide)) fun H10 d10 => ⟨_, rfl, iteF ?_⟩
      exact ⟨_, _, rfl, d9.trans d10⟩
    rintro σ9 H9 ⟨x4, x5, rfl, d9⟩
    have r1 := r1.dx d8.b d9
    have r2 := r2.dx d8.b d9
    have d9 := d8.trans d9
    clear d8 k8 n8
    obtain ⟨⟨rv1, xp1, tt1, hz1, hp1, h01⟩, bd1⟩ := id r1
    obtain ⟨⟨rv2, xp2, tt2, hz2, hp2, _⟩, bd2⟩ := id r2
    refine ⟨_, rfl, _, rfl, t1, _, _, _, rfl, rfl, SqT.of tt1, rfl, _, rfl, t2, _, _, _, rfl, rfl, SqT.of tt2, rfl, o1, o2, 140, hz1, hz2, bd1, bd2, by decide, fun v Ha sa hv => ?_⟩
    refine ⟨_, rfl, t1, _, _, _, rfl, rfl, SqT.of (sa _ _ tt1), rfl, _, rfl, t2, _, _, _, rfl, rfl, SqT.of (sa _ _ tt2), rfl, ?_⟩
    try dsimp only [tNil, tCons, tC]
    refine sum_of (d9.b.same sa) (hp1.same sa) (hp2.same sa) bd1 bd2 fun vs Hb sb hvs => ?_
    have sab := sa.trans sb
    try dsimp only [tNil, tCons, tC]
    refine so_of (d9.b.same sab) (tabs_same d9.t sab) (hv.same sb) hvs ((bdO_sumO bd1 bd2).mono (by decide)) fun H10 d10 => ⟨_, rfl, iteF ?_⟩
    have d10 := (Dx.same d9.b d9.t sab).trans d10
    clear hvs hv sab sb sa hz1 hz2 hp1 hp2 h01 tt1 tt2
    have r1 := r1.dx d9.b d10
    have r2 := r2.dx d9.b d10
    have d10 := d9.trans d10
    clear d9
    obtain ⟨⟨rv1, xp1, tt1, hz1, hp1, h01⟩, _⟩ := id r1
    obtain ⟨⟨rv2, xp2, tt2, hz2, hp2, _⟩, _⟩ := id r2
    have e1 : BdO 8900 o1 := bd1.mono (by decide)
    have e2 : BdO 8900 o2 := bd2.mono (by decide)
    have e21 : decide (o2 = o1) = decide (o1 = o2) := decide_eq_decide.mpr eq_comm
    have e11 : decide (o1 = o1) = true := decide_eq_true rfl
    refine ⟨_, rfl, t1, _, _, _, rfl, rfl, SqT.of tt1, rfl, _, rfl, t2, _, _, _, rfl, rfl, SqT.of tt2, rfl, .inl ⟨o1, o2, hz1, hz2, e1, e2, ?_⟩⟩
    refine ⟨_, rfl, t2, _, _, _, rfl, rfl, SqT.of tt2, rfl, _, rfl, t1, _, _, _, rfl, rfl, SqT.of tt1, rfl, .inl ⟨o2, o1, hz2, hz1, e2, e1, ?_⟩⟩
    rw [e21]
    refine ⟨_, rfl, t1, _, _, _, rfl, rfl, SqT.of tt1, rfl, _, rfl, t1, _, _, _, rfl, rfl, SqT.of tt1, rfl, .inl ⟨o1, o1, hz1, hz1, e1, e1, ?_⟩⟩
    rw [e11]
    refine ⟨(by show 3 ≤ sizeLine; decide), fun L3 hL3 => ?_⟩
    have s11 := Same.new (o := .lst [.bl (decide (o1 = o2)), .bl (decide (o1 = o2)), .bl true]) hL3
    refine ⟨_, rfl, t1, _, _, _, rfl, rfl, SqT.of (s11 _ _ tt1), rfl, _, rfl, t2, _, _, _, rfl, rfl, SqT.of (s11 _ _ tt2), rfl, dO o1, dO o2, (hp1.same s11).dp, (hp2.same s11).dp, shaped_dO _, shaped_dO _, ?_⟩
    rw [eqv_dO]
    refine ⟨_, rfl, t1, _, _, _, rfl, rfl, SqT.of (s11 _ _ tt1), rfl, _, rfl, t2, _, _, _, rfl, rfl, SqT.of (s11 _ _ tt2), rfl, dO o1, dO o2, (hp1.same s11).dp, (hp2.same s11).dp, shaped_dO _, shaped_dO _, ?_⟩
    rw [eqv_dO]
    refine ⟨(by show 3 ≤ sizeLine; decide), fun L4 hL4 => ?_⟩
    refine ⟨_, _, rfl, alk_lst (n := 4) (Same.new hL4 _ _ upd_same) upd_same (by show 3 ≤ 1000; decide) (.cons (Alk.sc (.bl _)) (.cons (Alk.sc (.bl _)) (.cons (Alk.sc (.bl _)) .nil))), fun H12 s12 => ⟨_, rfl, iteF ?_⟩⟩
    have s12 := s11.trans ((Same.new hL4).trans s12)
    have d12 := Dx.same d10.b d10.t s12
    have r1 := r1.dx d10.b d12
    have r2 := r2.dx d10.b d12
    have d12 := d10.trans d12
    clear s12 s11 hL4 hL3 d10 hz1 hz2 hp1 hp2 h01 tt1 tt2
    clear e21 e11 e2
    obtain ⟨⟨rv1, xp1, tt1, hz1, hp1, h01⟩, _⟩ := id r1
    obtain ⟨tA, bA, hrt, b1, tb1, bb1, et, eb⟩ := hz1.rt e1
    obtain ⟨va, dx, rfl, hva⟩ := hrt
    have eT : (rat tA bA).lookup ("top" : Str) = some (.int ((upO o1 : Nat) : Int)) := by rw [← et]; rfl
    have eB : (rat tA bA).lookup ("bottom" : Str) = some (.int ((dnO o1 : Nat) : Int)) := by rw [← eb]; rfl
    clear tb1 bb1 et eb b1
    refine ⟨_, rfl, t1, _, _, _, rfl, rfl, SqT.of tt1, rfl, _, rfl, t1, _, _, _, rfl, rfl, SqT.of tt1, rfl, va, C, dx, _, _, rfl, hva, o_R.c.cls, o_R.c.n1, eT, .inr ⟨o1, hz1, .inr (.inr ⟨_, rfl⟩), ?_⟩⟩
    refine ⟨_, rfl, t1, _, _, _, rfl, rfl, SqT.of tt1, rfl, _, rfl, t1, _, _, _, rfl, rfl, SqT.of tt1, rfl, va, dx, _, rfl, hva, strZ hz1 e1 fun H13 s13 => ⟨_, rfl, .inr ⟨o1, hz1.same s13, .inr (.inl ⟨_, rfl⟩), ?_⟩⟩⟩
    have tt13 := s13 _ _ tt1
    have hva13 := s13 _ _ hva
    refine ⟨_, rfl, t1, _, _, _, rfl, rfl, SqT.of tt13, rfl, _, rfl, t1, _, _, _, rfl, rfl, SqT.of tt13, rfl, va, C, dx, _, _, rfl, hva13, o_R.c.cls, o_R.c.n1, eT, _, rfl, t1, _, _, _, rfl, rfl, SqT.of tt13, rfl, va, C, dx, _, _, rfl, hva13, o_R.c.cls, o_R.c.n2, eB, (by show 2 ≤ sizeLine; decide), fun T5 hT5 => .inr ⟨o1, (hz1.same s13).same (Same.new hT5), .inl ⟨T5, _, rfl, SqT.of upd_same⟩, ?_⟩⟩
    have s14 := s13.trans (Same.new (o := .tup [.int ((upO o1 : Nat) : Int), .int ((dnO o1 : Nat) : Int)]) hT5)
    generalize upd H13 T5 (.tup [.int ((upO o1 : Nat) : Int), .int ((dnO o1 : Nat) : Int)]) = H14 at *
    clear hT5 s13 tt13 hva13
    refine ⟨(by show 3 ≤ sizeLine; decide), fun L3 hL3 => ?_⟩
    have s15 := s14.trans (Same.new (o := .lst [.bl false, .bl false, .bl false]) hL3)
    refine ⟨(by show 1 ≤ sizeLine; decide), fun L4 hL4 => ?_⟩
    have s16 := Same.new (o := .lst [.bl false]) hL4
    refine ⟨L4, 3, _, rfl, rfl, upd_same, by decide, by decide, (by show 3 ≤ sizeLine; decide), fun L5 hL5 => ?_⟩
    have s17 := s16.trans (Same.new (o := .lst (List.replicate (Int.toNat 3) [V.bl false]).flatten) hL5)
    refine ⟨_, _, rfl, alk_lst (n := 4) (s17 _ _ upd_same) upd_same (by show 3 ≤ 1000; decide) (.cons (Alk.sc (.bl _)) (.cons (Alk.sc (.bl _)) (.cons (Alk.sc (.bl _)) .nil))), fun H18 s18 => ⟨_, rfl, iteF ?_⟩⟩
    have s18 := s15.trans (s17.trans s18)
    have d18 := Dx.same d12.b d12.t s18
    have r1 := r1.dx d12.b d18
    have d18 := d12.trans d18
    clear s18 s17 s16 s15 s14 hL3 hL4 hL5 hz1 hp1 h01 hva eT eB d12 r2
    -- the refusal due
    refine ⟨(by show 3 ≤ sizeLine; decide), fun Lr hLr => ?_⟩
    have s19 := Same.new (o := .lst [.str "InvalidNumber", .str "InvalidNumber", .int 0]) hLr
    have kr : upd H18 Lr (.lst [.str "InvalidNumber", .str "InvalidNumber", .int 0]) Lr = _ := upd_same
    have nr := d18.b.ne hLr
    have d19 := Dx.same d18.b d18.t s19
    have r1 := r1.dx d18.b d19
    have d19 := d18.trans d19
    generalize upd H18 Lr (.lst [.str "InvalidNumber", .str "InvalidNumber", .int 0]) = H19 at *
    clear s19 d18 hLr
    obtain ⟨⟨rv1, xp1, tt1, hz1, hp1, h01⟩, _⟩ := id r1
    refine ⟨_, rfl, t1, _, _, _, rfl, rfl, SqT.of tt1, rfl, ?_⟩
    cases o1 with
    | none =>
      obtain rfl : xp1 = .non := hp1
      obtain ⟨va, dx, fs, rfl, hva, _, _, rfl⟩ := isRt hz1
      refine ⟨_, rfl, ite2 (fun _ => ?_) (fun e => absurd (decide_eq_true rfl) e)⟩
      refine ⟨_, rfl, _, rfl, _, _, rfl, ?_⟩
      obtain ⟨A, hA, a1, a99⟩ : ∃ A : Int, (if (if k < 0 then -k else k) > 1 then (if k < 0 then -k else k) else 1) = A ∧ 1 ≤ A ∧ A ≤ 99 := by
        refine ⟨_, rfl, ?_⟩
        have := kb.1
        constructor <;> (split <;> split <;> omega)
      rw [hA]
      clear hA kb
      refine ⟨d19.t, fun H20 e20 t20 => ?_⟩
      have d20 := Dx.ext d19.b e20 t20
      have rn : ∀ t b, (rat t b).lookup ("raised" : Str) = none := fun t b => rat_no (by decide) (by decide)
      have hz20 := hz1.dx d19.b d20
      have h020 : ∃ b, 1 ≤ b ∧ b < 2 ^ 70 ∧ Rt C H20 (.ref va) 0 b := by
        obtain ⟨b, b1, b2, h⟩ := h01 rfl
        exact ⟨b, b1, b2, h.dx d19.b d20⟩
      have tt20 := d20.tup d19.b tt1
      have hva20 := d20.ins d19.b hva
      have kr20 := d20.lst d19.b nr kr
      have d20 := d19.trans d20
      clear e20 t20 h01 hz1 tt1 hva kr d19
      refine ⟨_, rfl, t1, _, _, _, rfl, rfl, SqT.of tt20, rfl, va, dx, _, rfl, hva20, negZ0 hz20 (ask_inv fun l1 H21 hl1 s21 h21 => ?_)⟩
      have n21 := d20.b.ne hl1
      have B21 := d20.b.same s21
      have T21 := tabs_same d20.t s21
      refine ⟨rfl, T21, fun H22 e22 t22 => ?_⟩
      have d22 := (Dx.same d20.b d20.t s21).trans (Dx.ext B21 e22 t22)
      have h22 := (Dx.ext B21 e22 t22).lst B21 n21 h21
      have hz22 := hz20.dx d20.b d22
      have h022 : ∃ b, 1 ≤ b ∧ b < 2 ^ 70 ∧ Rt C H22 (.ref va) 0 b := by
        obtain ⟨b, b1, b2, h⟩ := h020
        exact ⟨b, b1, b2, h.dx d20.b d22⟩
      have tt22 := d22.tup d20.b tt20
      have hva22 := d22.ins d20.b hva20
      have kr22 := d22.lst d20.b nr kr20
      have d22 := d20.trans d22
      clear e22 t22 h020 hz20 tt20 hva20 kr20 d20 hl1 s21 h21 B21 T21
      refine ⟨_, rfl, t1, _, _, _, rfl, rfl, SqT.of tt22, rfl, va, dx, _, rfl, hva22, rn _ _, _, rfl, _, _, rfl, rfl, raisedZN h022 (by omega) (by omega) (ask_inv fun l2 H23 hl2 s23 h23 => ?_)⟩
      have n23 := d22.b.ne hl2
      refine ⟨(by show 2 ≤ sizeLine; decide), fun L6 hL6 => ?_⟩
      have s24 := s23.trans (Same.new (o := .lst [.ref l1, .ref l2]) hL6)
      have h24 := Same.new (o := .lst [.ref l1, .ref l2]) hL6 _ _ h23
      have k24 : upd H23 L6 (.lst [.ref l1, .ref l2]) L6 = _ := upd_same
      generalize upd H23 L6 (.lst [.ref l1, .ref l2]) = H24 at *
      clear hL6 s23 h23 hl2
      refine ⟨_, rfl, _, rfl, (by show 1 ≤ sizeLine; decide), fun L7 hL7 => ?_⟩
      have s25 := Same.new (o := .lst [.ref Lr]) hL7
      refine ⟨L7, 2, _, rfl, rfl, upd_same, by decide, by decide, (by show 2 ≤ sizeLine; decide), fun L8 hL8 => ?_⟩
      have s26 := s25.trans (Same.new (o := .lst (List.replicate (Int.toNat 2) [V.ref Lr]).flatten) hL8)
      have al : ∀ {l : Addr} {H : Hp}, H l = some (.lst [.str "InvalidNumber", .str "InvalidNumber", .int 0]) → H Lr = some (.lst [.str "InvalidNumber", .str "InvalidNumber", .int 0]) → Alk K NoA H 4 (.ref l) (.ref Lr) := fun h1 h2 => (alk_lst (n := 0) h1 h2 (by show 3 ≤ 1000; decide) (.cons (Alk.sc (.str _)) (.cons (Alk.sc (.str _)) (.cons (Alk.sc (.int _)) .nil)))).mono (by decide)
      have kr26 := (s24.trans s26) _ _ kr22
      refine ⟨_, _, rfl, alk_lst (n := 4) (s26 _ _ k24) upd_same (by show 2 ≤ 1000; decide) (.cons (al ((s24.trans s26) _ _ h22) kr26) (.cons (al (s26 _ _ h24) kr26) .nil)), fun H27 s27 => ?_⟩
      have s27 := s24.trans (s26.trans s27)
      have hz27 := hz22.same s27
      have h027 : ∃ b, 1 ≤ b ∧ b < 2 ^ 70 ∧ Rt C H27 (.ref va) 0 b := by
        obtain ⟨b, b1, b2, h⟩ := h022
        exact ⟨b, b1, b2, h.same s27⟩
      have tt27 := s27 _ _ tt22
      have hva27 := s27 _ _ hva22
      have d27 := d22.trans (Dx.same d22.b d22.t s27)
      clear s27 kr26 s26 s25 s24 al hL7 hL8 k24 h24 n23 h022 hz22 h22 kr22 tt22 hva22 d22
      refine ⟨_, rfl, iteF ?_⟩
      refine ⟨_, rfl, _, rfl, t1, _, _, _, rfl, rfl, SqT.of tt27, rfl, 0, none, rfl, hz27, raisedZ1 h027 fun v8 H28 s28 h28 => ?_⟩
      refine ⟨(by show 1 ≤ sizeLine; decide), fun L9 hL9 => ?_⟩
      have s29 := s28.trans (Same.new (o := .lst [.int 0]) hL9)
      have h29 := h28.same (Same.new (o := .lst [.int 0]) hL9)
      refine ⟨L9, 10, _, rfl, rfl, upd_same, by decide, by decide, (by show 10 ≤ sizeLine; decide), fun LA hLA => ?_⟩
      have sA := Same.new (o := .lst (List.replicate (Int.toNat 10) [V.int 0]).flatten) hLA
      have kA : upd (upd H28 L9 (.lst [.int 0])) LA (.lst (List.replicate (Int.toNat 10) [V.int 0]).flatten) LA = _ := upd_same
      have nA := (d27.b.same s29).ne hLA
      have hA := h29.same sA
      have sA := s29.trans sA
      generalize upd (upd H28 L9 (.lst [.int 0])) LA (.lst (List.replicate (Int.toNat 10) [V.int 0]).flatten) = HA at *
      clear s29 h29 hL9 hLA s28 h28
      try dsimp only [tNil, tCons, tC]
      refine so_of (d27.b.same sA) (tabs_same d27.t sA) hA (zeros_pw nA kA) (bdO_zeros (by decide)) fun HB dB => ⟨_, rfl, iteF ?_⟩
      have dB := (Dx.same d27.b d27.t sA).trans dB
      have hzB := hz27.dx d27.b dB
      have h0B : ∃ b, 1 ≤ b ∧ b < 2 ^ 70 ∧ Rt C HB (.ref va) 0 b := by
        obtain ⟨b, b1, b2, h⟩ := h027
        exact ⟨b, b1, b2, h.dx d27.b dB⟩
      have ttB := dB.tup d27.b tt27
      have hvaB := dB.ins d27.b hva27
      have dB := d27.trans dB
      clear sA nA kA hA h027 hz27 tt27 hva27 d27
      refine ⟨_, rfl, _, rfl, t1, _, _, _, rfl, rfl, SqT.of ttB, rfl, va, dx, _, rfl, hvaB, rn _ _, _, rfl, raisedZ0 hzB (by omega) (by omega) h0B fun v9 HC sC hC => ?_⟩
      try dsimp only [tNil, tCons, tC]
      refine so_of (dB.b.same sC) (tabs_same dB.t sC) hC rfl trivial fun HD dD => ⟨_, rfl, iteT ?_⟩
      have dD := (Dx.same dB.b dB.t sC).trans dD
      have h0D : ∃ b, 1 ≤ b ∧ b < 2 ^ 70 ∧ Rt C HD (.ref va) 0 b := by
        obtain ⟨b, b1, b2, h⟩ := h0B
        exact ⟨b, b1, b2, h.dx dB.b dD⟩
      have ttD := dD.tup dB.b ttB
      have hvaD := dD.ins dB.b hvaB
      have dD := dB.trans dD
      clear sC hC h0B hzB ttB hvaB dB
      refine ⟨_, rfl, _, rfl, t1, _, _, _, rfl, rfl, SqT.of ttD, rfl, va, dx, _, rfl, hvaD, rn _ _, raisedZ1 h0D fun v8 H28 s28 h28 => ?_⟩
      refine ⟨(by show 1 ≤ sizeLine; decide), fun L9 hL9 => ?_⟩
      have s29 := s28.trans (Same.new (o := .lst [.int 0]) hL9)
      have h29 := h28.same (Same.new (o := .lst [.int 0]) hL9)
      refine ⟨L9, 10, _, rfl, rfl, upd_same, by decide, by decide, (by show 10 ≤ sizeLine; decide), fun LA hLA => ?_⟩
      have sA := Same.new (o := .lst (List.replicate (Int.toNat 10) [V.int 0]).flatten) hLA
      have kA : upd (upd H28 L9 (.lst [.int 0])) LA (.lst (List.replicate (Int.toNat 10) [V.int 0]).flatten) LA = _ := upd_same
      have nA := (dD.b.same s29).ne hLA
      have hA := h29.same sA
      have sA := s29.trans sA
      generalize upd (upd H28 L9 (.lst [.int 0])) LA (.lst (List.replicate (Int.toNat 10) [V.int 0]).flatten) = HA at *
      try dsimp only [tNil, tCons, tC]
      exact so_of (dD.b.same sA) (tabs_same dD.t sA) hA (zeros_pw nA kA) (bdO_zeros (by decide)) fun HE dE => q HE (dD.trans ((Dx.same dD.b dD.t sA).trans dE))
    | some es =>
      obtain ⟨l1, rfl, nl, hl⟩ := hp1
      have n10 := bd1.1
      refine ⟨_, rfl, ite2 (fun e => absurd (of_decide_eq_true e) (fun z => nomatch z)) (fun _ => ?_)⟩
      obtain ⟨va, dx, fs, rfl, hva, _, _, rfl⟩ := isRt hz1
      clear h01 kr nr
      -- the reciprocal
      refine ⟨_, rfl, _, rfl, t1, _, _, _, rfl, rfl, SqT.of tt1, rfl, va, dx, _, rfl, hva, negZ hz1 bd1 (by decide) fun v20 H20 s20 h20 => ?_⟩
      refine ⟨_, rfl, t1, _, _, _, rfl, rfl, SqT.of (s20 _ _ tt1), rfl, l1, rfl, ⟨_, SqL.of (s20 _ _ hl)⟩, fun D hD => ?_⟩
      refine lc_all (walk_list (K := K) (a := l1) (xs := es.map V.int)) (fun i => .int (0 - es.getD i 0)) (by rw [List.length_map, n10]; decide) hD (fun H' kp => SqL.of (kp _ _ (ne_of_none (s20 _ _ hl) hD) (s20 _ _ hl))) ?_ ?_
      · rintro i x H' H'' Kc Z hi kp ⟨rfl, hx⟩ kk
        obtain ⟨e, he, rfl⟩ := map_at hx
        refine ⟨rfl, yes_of (iteT ?_)⟩
        refine ⟨_, rfl, _, _, rfl, rfl, ?_⟩
        have := kk _ (Same.refl _)
        rw [List.getD_eq_getElem?_getD, he] at this
        exact this
      intro H21 kp km
      have s21 := keep_same hD kp
      have k21 : H21 D = some (.lst ((es.map fun e => 0 - e).map V.int)) := by
        rw [km, List.length_map, List.map_map, map_range_getD es (V.int ∘ fun e => 0 - e) 0]
        rfl
      have n21 := (d19.b.same s20).ne hD
      have s22 := s20.trans s21
      try dsimp only [tNil, tCons, tC]
      refine so_of (d19.b.same s22) (tabs_same d19.t s22) (h20.same s21) ⟨D, rfl, n21, k21⟩ ((bdO_neg bd1).mono (by decide)) fun H23 d23 => ⟨_, rfl, iteF ?_⟩
      have d23 := (Dx.same d19.b d19.t s22).trans d23
      have hz23 := hz1.dx d19.b d23
      have tt23 := d23.tup d19.b tt1
      have hva23 := d23.ins d19.b hva
      have hl23 := d23.lst d19.b nl hl
      have d23 := d19.trans d23
      clear s22 s21 n21 k21 km kp hD h20 s20 D v20 hz1 tt1 hva hl d19
      have rn : ∀ t b, (rat t b).lookup ("raised" : Str) = none := fun t b => rat_no (by decide) (by decide)
      obtain ⟨k99, mb, mb0, bdm, hmb⟩ := kb
      -- raised to k
      refine ⟨_, rfl, _, rfl, t1, _, _, _, rfl, rfl, SqT.of tt23, rfl, va, dx, _, rfl, hva23, rn _ _, _, rfl, raisedZ hz23 bdm mb0 hmb fun v20 H20 s20 h20 => ?_⟩
      refine ⟨_, rfl, t1, _, _, _, rfl, rfl, SqT.of (s20 _ _ tt23), rfl, l1, rfl, ⟨_, SqL.of (s20 _ _ hl23)⟩, fun D hD => ?_⟩
      refine lc_all (walk_list (K := K) (a := l1) (xs := es.map V.int)) (fun i => .int (es.getD i 0 * k)) (by rw [List.length_map, n10]; decide) hD (fun H' kp => SqL.of (kp _ _ (ne_of_none (s20 _ _ hl23) hD) (s20 _ _ hl23))) ?_ ?_
      · rintro i x H' H'' Kc Z hi kp ⟨rfl, hx⟩ kk
        obtain ⟨e, he, rfl⟩ := map_at hx
        refine ⟨rfl, yes_of (iteT ?_)⟩
        refine ⟨_, rfl, _, rfl, _, _, rfl, rfl, .inr ⟨by omega, by omega⟩, ?_⟩
        have := kk _ (Same.refl _)
        rw [List.getD_eq_getElem?_getD, he] at this
        exact this
      intro H21 kp km
      have s21 := keep_same hD kp
      have k21 : H21 D = some (.lst ((es.map fun e => e * k).map V.int)) := by
        rw [km, List.length_map, List.map_map, map_range_getD es (V.int ∘ fun e => e * k) 0]
        rfl
      have n21 := (d23.b.same s20).ne hD
      have s22 := s20.trans s21
      try dsimp only [tNil, tCons, tC]
      refine so_of (d23.b.same s22) (tabs_same d23.t s22) (h20.same s21) ⟨D, rfl, n21, k21⟩ ((bdO_raised bdm mb0 k).mono hmb) fun H24 d24 => ⟨_, rfl, iteF ?_⟩
      have d24 := (Dx.same d23.b d23.t s22).trans d24
      have hz24 := hz23.dx d23.b d24
      have tt24 := d24.tup d23.b tt23
      have hva24 := d24.ins d23.b hva23
      have hl24 := d24.lst d23.b nl hl23
      have d24 := d23.trans d24
      clear s22 s21 n21 k21 km kp hD h20 s20 D v20 hz23 tt23 hva23 hl23 d23 bdm mb0 hmb mb k99
      -- the powers
      refine ⟨_, rfl, t1, _, _, _, rfl, rfl, SqT.of tt24, rfl, 0, some es, rfl, hz24, raisedZ hz24 bd1 (by decide) (by decide) fun w0 H25 s25 h25 => ?_⟩
      refine ⟨_, rfl, t1, _, _, _, rfl, rfl, SqT.of (s25 _ _ tt24), rfl, 1, some es, rfl, hz24.same s25, raisedZ (hz24.same s25) bd1 (by decide) (by decide) fun w1 H26 s26 h26 => ?_⟩
      have h25 := h25.same s26
      have s26 := s25.trans s26
      refine ⟨_, rfl, t1, _, _, _, rfl, rfl, SqT.of (s26 _ _ tt24), rfl, 3, some es, rfl, hz24.same s26, raisedZ (hz24.same s26) bd1 (by decide) (by decide) fun w2 H27 s27 h27 => ?_⟩
      have h25 := h25.same s27
      have h26 := h26.same s27
      have s27 := s26.trans s27
      refine ⟨(by show 3 ≤ sizeLine; decide), fun Lp hLp => ?_⟩
      have sp := Same.new (o := .lst [w0, w1, w2]) hLp
      have np := (d24.b.same s27).ne hLp
      have kp : upd H27 Lp (.lst [w0, w1, w2]) Lp = _ := upd_same
      have h25 := h25.same sp
      have h26 := h26.same sp
      have h27 := h27.same sp
      have sp := s27.trans sp
      have tt27 := sp _ _ tt24
      have hl27 := sp _ _ hl24
      have d27 := Dx.same d24.b d24.t sp
      have d27 := d24.trans d27
      generalize upd H27 Lp (.lst [w0, w1, w2]) = H28 at *
      clear s25 s26 s27 sp hLp tt24 hva24 hl24 hz24 d24
      have tab : ∀ i, i < 3 → ∃ (w : V) (m : Int), [w0, w1, w2][i]? = some w ∧ RzV C H28 w (some (es.map fun e => e * m)) ∧ (([0, 1, 3] : List Int).map V.int)[i]? = some (.int m) ∧ m.natAbs ≤ 3 := fun i hi => by
        match i, hi with
        | 0, _ => exact ⟨w0, 0, rfl, h25, rfl, by decide⟩
        | 1, _ => exact ⟨w1, 1, rfl, h26, rfl, by decide⟩
        | 2, _ => exact ⟨w2, 3, rfl, h27, rfl, by decide⟩
      clear h25 h26 h27
      refine ⟨3, rfl, by decide, by decide, fun D hD => ?_⟩
      have nD := d27.b.ne hD
      refine lc_it (walk_range (lo := 0) (n := (3 : Int).toNat)) (fun i H' => Dx g T H28 H' ∧ H' D = some (.lst (List.replicate i (V.bl true)))) ⟨Dx.same d27.b d27.t (Same.new hD), upd_same⟩ (fun _ _ _ _ => trivial) ?_ ?_
      · rintro i x H2 H3 hi ⟨dd, kD⟩ ⟨rfl, rfl⟩
        have hi3 : i < 3 := hi
        obtain ⟨w, m, hw, hrz, hm, m3⟩ := tab i hi3
        have hB2 := dd.b
        have kp2 := dd.lst d27.b np kp
        have tt2 := dd.tup d27.b tt27
        have hl2 := dd.lst d27.b nl hl27
        have hz2 := hrz.dx d27.b dd
        have i0 : (0 : Int) + (i : Nat) = ((i : Nat) : Int) := Int.zero_add _
        refine ⟨rfl, yes_of (iteT ?_)⟩
        refine ⟨_, rfl, _, rfl, _, rfl, Lp, _, _, _, rfl, rfl, SqL.of kp2, by rw [i0]; exact atI_nat hw, ?_⟩
        refine ⟨_, rfl, t1, _, _, _, rfl, rfl, SqT.of tt2, rfl, l1, rfl, ⟨_, SqL.of hl2⟩, fun D2 hD2 => ?_⟩
        refine lc_all (walk_list (K := K) (a := l1) (xs := es.map V.int)) (fun i => .int (es.getD i 0 * m)) (by rw [List.length_map, n10]; decide) hD2 (fun H' kp => SqL.of (kp _ _ (ne_of_none hl2 hD2) hl2)) ?_ ?_
        · rintro j y H' H'' Kc Z hj kp ⟨rfl, hx⟩ kk
          obtain ⟨e, he, rfl⟩ := map_at hx
          refine ⟨rfl, yes_of (iteT ?_)⟩
          refine ⟨_, rfl, (by show 3 ≤ sizeLine; decide), fun Lq hLq => ⟨_, rfl, Lq, _, _, _, rfl, rfl, SqL.of upd_same, by rw [i0]; exact atI_nat hm, _, _, rfl, rfl, .inr ⟨by omega, by omega⟩, ?_⟩⟩
          have := kk _ (Same.new (o := .lst [.int 0, .int 1, .int 3]) hLq)
          rw [List.getD_eq_getElem?_getD, he] at this
          exact this
        intro H21 kq km
        have s21 := keep_same hD2 kq
        have k21 : H21 D2 = some (.lst ((es.map fun e => e * m).map V.int)) := by
          rw [km, List.length_map, List.map_map, map_range_getD es (V.int ∘ fun e => e * m) 0]
          rfl
        have n21 := hB2.ne hD2
        have bm : BdO 8900 (some (es.map fun e => e * m)) := (bdO_raised bd1 (by decide) m).mono (by omega)
        try dsimp only [tNil, tCons, tC]
        refine so_of (hB2.same s21) (tabs_same dd.t s21) (hz2.same s21) ⟨D2, rfl, n21, k21⟩ bm fun H22 d22 => ?_
        have d22 := (Dx.same hB2 dd.t s21).trans d22
        have kD22 := d22.lst hB2 nD kD
        refine ⟨_, kD22, ?_, Dx.app d27.b (dd.trans d22) hD kD22, ?_⟩
        · rw [List.length_replicate]
          exact small1000 (by omega)
        · rw [upd_same, List.replicate_succ']
      · rintro H2 ⟨dd, kD⟩
        exact ⟨D, List.replicate 3 true, rfl, SqL.of kD, q _ (d27.trans dd)⟩
end
end K01
set_option Elab.async false
set_option linter.all false
set_option maxRecDepth 100000
set_option maxHeartbeats 4000000
namespace K01
open PySem PySem.Spec PyProof.Rows L2 L2H LamX NumT
abbrev qF : Str := "_law_refused_ratios.<locals>.<lambda>"
/-- no number from lo on -/
def Wo (lo : Int) (g : Bg) (H : Hp) (x : V) : Prop := (∃ i : Int, x = .int i ∧ i < lo) ∨ OV g H x
section
variable {g : Bg} {H H2 : Hp} {TT : List (Addr × Str)} {x : V} {lo : Int}
theorem Wo.same (h : Wo lo g H x) (s : Same H H2) : Wo lo g H2 x := h.imp id fun z => z.same s
theorem Wo.dx (B : Bag g H) (d : Dx g TT H H2) (h : Wo lo g H x) : Wo lo g H2 x := h.imp id fun z => z.dx B d
theorem Wo.low (h : Wo lo g H x) : Low H lo x := h.imp id fun z => z.odd
theorem Wo.sv (h : Wo lo g H x) : SV g H x := h.imp (fun ⟨i, e, _⟩ => ⟨i, e⟩) id
theorem Wo.up {hi : Int} (h : Wo lo g H x) (l : lo ≤ hi) : Wo hi g H x := h.imp (fun ⟨i, e, z⟩ => ⟨i, e, Int.lt_of_lt_of_le z l⟩) id
/-- a refusal told, at l -/
def RL (g : Bg) (H : Hp) (l : Addr) (x : V) : Prop := l ≠ g.b ∧ H l = some (.lst [.str "InvalidNumber", .str "InvalidNumber", x])
theorem RL.same {l : Addr} (h : RL g H l x) (s : Same H H2) : RL g H2 l x := ⟨h.1, s _ _ h.2⟩
theorem RL.dx {l : Addr} (B : Bag g H) (d : Dx g TT H H2) (h : RL g H l x) : RL g H2 l x := ⟨h.1, d.lst B h.1 h.2⟩
end
theorem alk_lstF {K : PySem.W.Frag} {H : Hp} {p q : Addr} {xs ys : List V} {n : Nat} (hp : H p = some (.lst xs)) (hq : H q = some (.lst ys)) (e : xs.length = ys.length) (l : xs.length ≤ 1000) (h : ∀ (i : Nat) (u v : V), xs[i]? = some u → ys[i]? = some v → Alk K NoA H n u v) : Alk K NoA H (n + 1) (.ref p) (.ref q) :=
  .inr ⟨p, q, _, _, rfl, rfl, fun z => z, fun z => z, .inl ⟨hp, hq⟩, e, l, h⟩
section
variable {P : Program} {w : World} {K : PySem.W.Frag} {mg : Str → Option Value} {base : Heap}
def spWrong : Sp := fun vs H Q _ => ∃ g : Bg, vs = [.ref g.b] ∧ Bag g H ∧ ∀ x H2, Drew g H H2 → Wo 0 g H2 x → Q x H2
theorem sc_wrong : FnScope ["_law_bag_here"] ["_law_bag_here"] (defScope (top 33)) := ⟨rfl, rfl, rfl, by decide +kernel, rfl, by decide +kernel, by decide +kernel⟩
theorem ok_wrong {f : Addr} {fd : FuncData} (F : FnP K "_law_wrong" (top 33) f fd) (c__law_draw : Cal P w K mg base CX0 "_law_draw" 1 ["_law_bag_here", "_law_many"] spDraw) (c__law_of : Cal P w K mg base CX0 "_law_of" 2 ["_law_bag_here", "_law_things"] spOf) : FnOk P w K mg base CX0 3 f fd ["_law_bag_here"] spWrong := by
  have sc := sc_wrong
  refine F.ok sc (fun vs H Q E h => ?_) (fun cdv A outer s H vs Q E hr h => ?_)
  · obtain ⟨g, rfl, _⟩ := h
    rfl
  · obtain ⟨g, rfl, hB, q⟩ := h
    have hr__law_of : Room 2 _ := hr
    have hr__law_draw : Room 1 _ := hr.mono (by decide)
    refine ⟨_, PSs.nox (pss_one (ps_ret (pe_cal c__law_of hr__law_of rfl (pa_cons (pv 0) (pa_cons (pe_lst (pa_cons (pe_op op_sub pe_int pe_int) (pa_cons pe_bl (pa_cons pe_bl (pa_cons pe_non (pa_cons pe_str (pa_cons (pe_tup (pa_cons pe_int pa_nil)) (pa_cons (pe_lst (pa_cons pe_int pa_nil)) (pa_cons pe_str (pa_cons (pe_op op_sub (pe_op op_sub pe_int pe_int) (pe_cal c__law_draw hr__law_draw rfl (pa_cons (pv 0) (pa_cons pe_int pa_nil)))) (pa_cons (pe_tup pa_nil) pa_nil))))))))))) pa_nil))))), ?_⟩
    refine ⟨_, rfl, _, _, rfl, rfl, (by show 1 ≤ sizeLine; decide), fun t1 h1 => ⟨(by show 1 ≤ sizeLine; decide), fun l1 h2 => ?_⟩⟩
    have s1 := Same.new (o := .tup [.int 1]) h1
    have k1 : upd H t1 (.tup [.int 1]) t1 = _ := upd_same
    generalize upd H t1 (.tup [.int 1]) = H1 at *
    have s2 := Same.new (o := .lst [.int 1]) h2
    have k2 : upd H1 l1 (.lst [.int 1]) l1 = _ := upd_same
    have n2 := (hB.same s1).ne h2
    have k1 := s2 _ _ k1
    generalize upd H1 l1 (.lst [.int 1]) = H2 at *
    have d2 := Drew.same hB (s1.trans s2)
    clear s1 s2 h1 h2
    refine ⟨_, _, rfl, rfl, _, rfl, g, 999999999, rfl, d2.2, by decide, by decide, fun j H3 dr3 j0 j1 => ⟨_, _, rfl, rfl, (by show 0 ≤ sizeLine; decide), fun t0 h0 => ⟨(by show 10 ≤ sizeLine; decide), fun L hL => ?_⟩⟩⟩
    have s4 := Same.new (o := .tup []) h0
    have k0 : upd H3 t0 (.tup []) t0 = _ := upd_same
    have k1 := s4 _ _ (bag_keepT d2.2 dr3 k1)
    have k2 := s4 _ _ (dr3.1 _ _ n2 k2)
    have d4 := (d2.trans dr3).trans (Drew.same dr3.2 s4)
    generalize upd H3 t0 (.tup []) = H4 at *
    have s5 := Same.new (o := .lst [.int (0 - 1), .bl true, .bl false, .non, .str "1", .ref t1, .ref l1, .str "", .int (0 - 1 - j), .ref t0]) hL
    refine ⟨g, L, _, rfl, d4.2.same s5, upd_same, d4.2.ne hL, (by show 1 ≤ 10; decide), (by show 10 < 1000; decide), fun v H6 hv dr6 => ?_⟩
    have d5 := Drew.same d4.2 s5
    have k0 := bag_keepT d5.2 dr6 (s5 _ _ k0)
    have k1 := bag_keepT d5.2 dr6 (s5 _ _ k1)
    have k2 := dr6.1 _ _ n2 (s5 _ _ k2)
    refine q v H6 ((d4.trans d5).trans dr6) ?_
    simp only [List.mem_cons, List.not_mem_nil, or_false] at hv
    rcases hv with rfl | rfl | rfl | rfl | rfl | rfl | rfl | rfl | rfl | rfl
    · exact .inl ⟨_, rfl, by decide⟩
    · exact .inr (.inr (.inl ⟨_, rfl⟩))
    · exact .inr (.inr (.inl ⟨_, rfl⟩))
    · exact .inr (.inl rfl)
    · exact .inr (.inr (.inr (.inl ⟨_, rfl⟩)))
    · exact .inr (.inr (.inr (.inr ⟨t1, _, rfl, bag_tup dr6.2 k1, .inr k1, fun y hy => by rw [List.mem_singleton.mp hy]; exact .int _, by decide⟩)))
    · exact .inr (.inr (.inr (.inr ⟨l1, _, rfl, n2, .inl k2, fun y hy => by rw [List.mem_singleton.mp hy]; exact .int _, by decide⟩)))
    · exact .inr (.inr (.inr (.inl ⟨_, rfl⟩)))
    · exact .inl ⟨_, rfl, by omega⟩
    · exact .inr (.inr (.inr (.inr ⟨t0, _, rfl, bag_tup dr6.2 k0, .inr k0, (fun y hy => absurd hy List.not_mem_nil), by decide⟩)))
end
end K01
set_option Elab.async false
set_option linter.all false
set_option maxRecDepth 100000
set_option maxHeartbeats 4000000
namespace K01
open PySem PySem.Spec PyProof.Rows L2 L2H LamX NumT
section
variable {P : Program} {w : World} {K : PySem.W.Frag} {mg : Str → Option Value} {base : Heap}
theorem sc_rr : FnScope ["_law_bag_here", "_law_bad", "_law_worse", "_law_good", "_law_asks", "_law_odd"] ["_law_bag_here"] (defScope (top 41)) := ⟨rfl, rfl, rfl, by decide +kernel, rfl, by decide +kernel, by decide +kernel⟩
/-- the refusals due, told of each value -/
theorem refusals {K : PySem.W.Frag} {H' : Hp} {D : Addr} {g : Bg} {p : Addr} {ls ts : List Addr} {xs : List V} (hp : H' p = some (.lst (ls.map V.ref))) (hD : H' D = some (.lst (ts.map V.ref))) (e1 : ls.length = xs.length) (e2 : ts.length = xs.length) (l : xs.length ≤ 900) (sv : ∀ x ∈ xs, SV g H' x) (h1 : ∀ (j : Nat) (t : Addr) (x : V), ls[j]? = some t → xs[j]? = some x → RL g H' t x) (h2 : ∀ (j : Nat) (t : Addr), ts[j]? = some t → t ≠ D ∧ ∃ x, xs[j]? = some x ∧ H' t = some (.lst [.str "InvalidNumber", .str "InvalidNumber", x])) : Alk K NoA H' 5 (.ref p) (.ref D) := by
  refine alk_lstF (n := 4) hp hD (by rw [List.length_map, List.length_map, e1, e2]) (by rw [List.length_map, e1]; omega) fun i u v hu hv => ?_
  obtain ⟨a, ha, rfl⟩ := map_at hu
  obtain ⟨b, hb, rfl⟩ := map_at hv
  obtain ⟨_, x, hx, hbx⟩ := h2 i b hb
  have h := h1 i a x ha hx
  exact (alk_lst (n := 1) h.2 hbx (by show 3 ≤ 1000; decide) (.cons (Alk.sc (.str _)) (.cons (Alk.sc (.str _)) (.cons (sv x (List.mem_of_getElem? hx)).alk .nil)))).mono (by decide)
/-- [["InvalidNumber", "InvalidNumber", x] for x in xs] -/
theorem lc_refuse {K : PySem.W.Frag} {L D : Addr} {xs : List V} {i0 : Nat} {σ : L2.St} {H1 : Hp} {Qd : Hp → Prop} (hσ : i0 < σ.length) (kL : H1 L = some (.lst xs)) (hD : H1 D = none) (hlen : xs.length ≤ 900)
    (hd : ∀ H' (ts : List Addr), Same H1 H' → H' D = some (.lst (ts.map V.ref)) → ts.length = xs.length → (∀ (j : Nat) (t : Addr), ts[j]? = some t → t ≠ D ∧ ∃ x, xs[j]? = some x ∧ H' t = some (.lst [.str "InvalidNumber", .str "InvalidNumber", x])) → Qd H') :
    ∃ W : Nat → Nat → Hp → Prop, (∃ m, W 0 m (upd H1 D (.lst []))) ∧ ∀ i m H, W i m H →
      ((Itl K L).stop i H ∧ Qd H) ∨ ((Itl K L).go i H ∧ ∃ Nx : Hp → Prop, (∀ H', Nx H' → ∃ m', m' < m ∧ W (i + 1) m' H') ∧ ∀ x H', (Itl K L).yld i H x H' → gName i0 x (wipe σ [i0]) H' fun σ2 H2 => wipe σ2 [i0] = wipe σ [i0] ∧ tYes σ2 H2 fun b H3 =>
        if b = true then (tLst (tCons (tC (.str "InvalidNumber")) (tCons (tC (.str "InvalidNumber")) (tCons (tVar i0) tNil)))) σ2 H3 fun y H4 => ∃ acc, H4 D = some (.lst acc) ∧ acc.length < sizeLine ∧ Nx (upd H4 D (.lst (acc ++ [y]))) else Nx H3) := by
  refine lc_it (walk_list (K := K) (a := L) (xs := xs)) (fun i H' => (∀ a o, a ≠ D → H1 a = some o → H' a = some o) ∧ ∃ ts : List Addr, ts.length = i ∧ H' D = some (.lst (ts.map V.ref)) ∧ ∀ (j : Nat) (t : Addr), ts[j]? = some t → t ≠ D ∧ ∃ x, xs[j]? = some x ∧ H' t = some (.lst [.str "InvalidNumber", .str "InvalidNumber", x])) ⟨fun a o n e => by rw [upd_ne n]; exact e, [], rfl, upd_same, fun j t e => by simp at e⟩ (fun i H _ h => SqL.of (h.1 _ _ (ne_of_none kL hD) kL)) ?_ ?_
  · rintro i x H H' hi ⟨h1, ts, e1, h2, h3⟩ ⟨rfl, hx⟩
    refine ⟨?_, yes_of (iteT ?_)⟩
    · show ((σ.set i0 none).set i0 (some x)).set i0 none = σ.set i0 none
      rw [List.set_set, List.set_set]
    refine ⟨x, ?_, (by show 3 ≤ sizeLine; decide), fun t ht => ?_⟩
    · show ((σ.set i0 none).set i0 (some x))[i0]? = some (some x)
      rw [List.set_set, List.getElem?_set_self hσ]
    have nt : t ≠ D := fun z => by
      rw [z, h2] at ht
      cases ht
    have s := Same.new (o := .lst [.str "InvalidNumber", .str "InvalidNumber", x]) ht
    refine ⟨_, s _ _ h2, ?_, fun a o n e => ?_, ts ++ [t], by rw [List.length_append, e1]; rfl, ?_, fun j u hu => ?_⟩
    · rw [List.length_map, e1]
      exact small1000 (by omega)
    · rw [upd_ne n]
      exact s _ _ (h1 a o n e)
    · rw [upd_same, List.map_append]
      rfl
    · by_cases c : j < ts.length
      · rw [List.getElem?_append_left c] at hu
        obtain ⟨n, y, hy, z⟩ := h3 j u hu
        exact ⟨n, y, hy, by rw [upd_ne n]; exact s _ _ z⟩
      · rw [List.getElem?_append_right (by omega)] at hu
        have j0 : j - ts.length = 0 := by
          cases e : j - ts.length with
          | zero => rfl
          | succ k =>
            rw [e] at hu
            simp at hu
        rw [j0] at hu
        have hu : some t = some u := hu
        cases hu
        have ji : j = i := by omega
        rw [ji]
        exact ⟨nt, x, hx, by rw [upd_ne nt]; exact upd_same⟩
  · rintro H ⟨h1, ts, e1, h2, h3⟩
    exact hd H ts (fun a o e => h1 a o (ne_of_none e hD) e) h2 e1 h3
theorem ok_rr {fd : FuncData} {C CB CI CT : Addr} {T : List (Addr × Str)} {PR : Addr} (F : FnP K "_law_refused_ratios" (top 41) (He.fAd K ("_law_refused_ratios", none)) fd) (t_A : AskF P w K mg base CB CI CT) (t_B : TabB base mg (He.codeOf K ("_law_refused_ratios", none)) PR) (t_m : (PR, qF) ∈ T) (t_u : ∀ p ∈ T, p.1 = PR → p.2 = qF) (o_R : RatZ P w K mg base C CI)
    (c__law_draw : Cal P w K mg base CX0 "_law_draw" 1 ["_law_bag_here", "_law_many"] spDraw) (c__law_of : Cal P w K mg base CX0 "_law_of" 2 ["_law_bag_here", "_law_things"] spOf) (c__law_like : Cal P w K mg base CX0 "_law_like" 6 ["_law_found", "_law_due"] (spLike K NoA 5)) (c__law_wrong : Cal P w K mg base CX0 "_law_wrong" 3 ["_law_bag_here"] spWrong) (c_count_ratio : Cal P w K mg base (L2.CX P w) "count_ratio" 5 ["part", "whole"] (spCount C CI)) : FnOk P w K mg base CX0 8 (He.fAd K ("_law_refused_ratios", none)) fd ["_law_bag_here"] (spLR T) := by
  have sc := sc_rr
  refine okC F sc (fun vs H Q E h => ?_) (fun A outer s H vs Q E hr h => ?_)
  · obtain ⟨g, rfl, _⟩ := h
    rfl
  · obtain ⟨g, rfl, hB, hT, q⟩ := h
    have hr_ask : Room 7 _ := hr
    have hr__law_like : Room 6 _ := hr.mono (by decide)
    have hr__law_wrong : Room 3 _ := hr.mono (by decide)
    have hr__law_of : Room 2 _ := hr.mono (by decide)
    have hr__law_draw : Room 1 _ := hr.mono (by decide)
    refine ⟨_, PSs.nox (pss_cons (ps_asg (pe_tup (pa_cons (pe_cal c__law_wrong hr__law_wrong rfl (pa_cons (pv 0) pa_nil)) (pa_cons (pe_cal c__law_of hr__law_of rfl (pa_cons (pv 0) (pa_cons (pe_lst (pa_cons pe_int (pa_cons (pe_cal c__law_wrong hr__law_wrong rfl (pa_cons (pv 0) pa_nil)) pa_nil))) pa_nil))) (pa_cons (pe_op op_add pe_int (pe_cal c__law_draw hr__law_draw rfl (pa_cons (pv 0) (pa_cons pe_int pa_nil)))) pa_nil)))) (pg_tup rfl (pgs_cons (pg_name (i := 1) sc.nd rfl (Or.inr rfl)) (pgs_cons (pg_name (i := 2) sc.nd rfl (Or.inr rfl)) (pgs_cons (pg_name (i := 3) sc.nd rfl (Or.inr rfl)) pgs_nil)))))
      (pss_cons (ps_set (i := 4) sc.nd rfl (Or.inl rfl) (pe_lst (pa_cons (pe_lawask (k := 5) (tb := fun E2 => fun σ H Q => (tCons (tVar 1) (tCons (tVar 2) tNil)) σ H fun vs H1 => rMkRat C CI E2 vs H1 Q) t_A rfl t_B rfl t_m t_u hr_ask (lamS_by (show lamSB (defScope (top 41)) _ = true by decide +kernel)) rfl (fun _ _ _ _ _ => by rfl) (fun A2 o2 s2 H2 E2 f2 c2 hr2 => ?lam5)) (pa_cons (pe_lawaskD (k := 5) (tb := fun E2 => fun σ H Q => (tCons (tVar 1) tNil) σ H fun vs H1 => rMkRat C CI E2 (vs ++ [.int 1]) H1 Q) t_A rfl t_B rfl t_m t_u hr_ask (lamSD_by (a := "_law_a") (show lamSDB ["_law_bag_here", "_law_bad", "_law_worse", "_law_good", "_law_asks", "_law_odd"] "_law_a" (defScope (top 41)) _ = true by decide +kernel)) rfl rfl (fun _ _ _ _ _ _ _ => ⟨_, rfl, rfl⟩) (fun A2 o2 s2 H2 E2 f2 c2 hr2 => ?lam4)) (pa_cons (pe_lawaskD (k := 5) (tb := fun E2 => fun σ H Q => (tCons (tVar 3) (tCons (tVar 2) tNil)) σ H fun vs H1 => rMkRat C CI E2 vs H1 Q) t_A rfl t_B rfl t_m t_u hr_ask (lamSD_by (a := "_law_b") (show lamSDB ["_law_bag_here", "_law_bad", "_law_worse", "_law_good", "_law_asks", "_law_odd"] "_law_b" (defScope (top 41)) _ = true by decide +kernel)) rfl rfl (fun _ _ _ _ _ _ _ => ⟨_, rfl, rfl⟩) (fun A2 o2 s2 H2 E2 f2 c2 hr2 => ?lam3)) pa_nil)))))
      (pss_cons (ps_set (i := 4) sc.nd rfl (Or.inl rfl) (pe_op op_cat (pv 4) (pe_lst (pa_cons (pe_lawask (k := 5) (tb := fun E2 => tCall (spCount C CI) [] E2 (tCons (tVar 1) (tCons (tVar 3) tNil))) t_A rfl t_B rfl t_m t_u hr_ask (lamS_by (show lamSB (defScope (top 41)) _ = true by decide +kernel)) rfl (fun _ _ _ _ _ => by rfl) (fun A2 o2 s2 H2 E2 f2 c2 hr2 => ?lam2)) (pa_cons (pe_lawaskD (k := 5) (tb := fun E2 => tCall (spCount C CI) [] E2 (tCons (tVar 3) (tCons (tVar 2) tNil))) t_A rfl t_B rfl t_m t_u hr_ask (lamSD_by (a := "_law_a") (show lamSDB ["_law_bag_here", "_law_bad", "_law_worse", "_law_good", "_law_asks", "_law_odd"] "_law_a" (defScope (top 41)) _ = true by decide +kernel)) rfl rfl (fun _ _ _ _ _ _ _ => ⟨_, rfl, rfl⟩) (fun A2 o2 s2 H2 E2 f2 c2 hr2 => ?lam1)) pa_nil)))))
      (pss_one (ps_ret (pe_cal c__law_like hr__law_like rfl (pa_cons (pv 4) (pa_cons (pe_lc (own := [("_law_odd", 5)]) (g := gName 5) rfl sc.nd (pi_list (pe_lst (pa_cons (pv 1) (pa_cons (pv 1) (pa_cons (pv 2) (pa_cons (pv 1) (pa_cons (pv 2) pa_nil))))))) (blkOk_by (N := ["_law_bag_here", "_law_bad", "_law_worse", "_law_good", "_law_asks", "_law_odd"]) (sc := defScope (top 41)) (by decide +kernel)) (fun _ _ _ _ _ => (pg_name (i := 5) sc.nd rfl (Or.inl rfl))) (fun _ _ _ _ _ => pts_nil) (fun _ _ _ _ _ => (pe_lst (pa_cons pe_str (pa_cons pe_str (pa_cons (pv 5) pa_nil)))))) pa_nil)))))))), ?_⟩
    case lam5 =>
      refine pe_ratio (E := E2) o_R.c (hr2.mono (by decide)) rfl ?_ ?_
      · show Passes (L2.CX P w) _ E2
        exact passL
      · exact pa_cons (pv 1) (pa_cons (pv 2) pa_nil)
    case lam4 =>
      refine pe_ratio1Z (E := E2) o_R (hr2.mono (by decide)) rfl ?_ ?_
      · show Passes (L2.CX P w) _ E2
        exact passL
      · exact pa_cons (pv 1) pa_nil
    case lam3 =>
      refine pe_ratio (E := E2) o_R.c (hr2.mono (by decide)) rfl ?_ ?_
      · show Passes (L2.CX P w) _ E2
        exact passL
      · exact pa_cons (pv 3) (pa_cons (pv 2) pa_nil)
    case lam2 =>
      refine pe_calX (E := E2) c_count_ratio hr2 rfl ?_ ?_
      · exact passL
      · exact pa_cons (pv 1) (pa_cons (pv 3) pa_nil)
    case lam1 =>
      refine pe_calX (E := E2) c_count_ratio hr2 rfl ?_ ?_
      · exact passL
      · exact pa_cons (pv 3) (pa_cons (pv 2) pa_nil)
    refine ⟨_, rfl, g, rfl, hB, fun x H1 dr1 hx => ?_⟩
    refine ⟨_, rfl, _, rfl, g, rfl, dr1.2, fun y0 H2 dr2 hy0 => ?_⟩
    have d1 := Dx.drew hB hT dr1
    have d2 := Dx.drew d1.b d1.t dr2
    have hx := hx.dx d1.b d2
    have d2 := d1.trans d2
    clear d1 dr1 dr2
    refine ⟨(by show 2 ≤ sizeLine; decide), fun L1 hL1 => ?_⟩
    have s3 := Same.new (o := .lst [.int 0, y0]) hL1
    refine ⟨g, L1, _, rfl, d2.b.same s3, upd_same, d2.b.ne hL1, (by show 1 ≤ 2; decide), (by show 2 < 1000; decide), fun y H4 hv dr4 => ?_⟩
    have d4 := (Dx.same d2.b d2.t s3).trans (Dx.drew (d2.b.same s3) (tabs_same d2.t s3) dr4)
    have hx := hx.dx d2.b d4
    have hy : Wo 1 g H4 y := by
      simp only [List.mem_cons, List.not_mem_nil, or_false] at hv
      rcases hv with rfl | rfl
      · exact .inl ⟨_, rfl, by decide⟩
      · exact (hy0.dx d2.b d4).up (by decide)
    have d4 := d2.trans d4
    clear hy0 hv s3 dr4 hL1 d2
    refine ⟨_, rfl, g, 999999999, rfl, d4.b, by decide, by decide, fun n H5 dr5 n0 n1 => ⟨_, _, rfl, rfl, (by show 3 ≤ sizeLine; decide), fun t ht => ?_⟩⟩
    have gd : ∃ N : Nat, V.int (1 + n) = .int (N : Int) := ⟨(1 + n).toNat, by rw [Int.toNat_of_nonneg (by omega)]⟩
    have gd1 : ∃ N : Nat, 1 ≤ N ∧ V.int (1 + n) = .int (N : Int) := ⟨(1 + n).toNat, by omega, by rw [Int.toNat_of_nonneg (by omega)]⟩
    have s6 := Same.new (o := .tup [x, y, .int (1 + n)]) ht
    have d5 := Dx.drew d4.b d4.t dr5
    have d6 := d5.trans (Dx.same d5.b d5.t s6)
    have hx := hx.dx d4.b d6
    have hy := hy.dx d4.b d6
    refine ⟨t, _, rfl, SqT.of upd_same, rfl, _, _, rfl, _, _, rfl, _, _, rfl, rfl, ?_⟩
    have d6 := d4.trans d6
    generalize upd H5 t (.tup [x, y, .int (1 + n)]) = H6 at *
    clear s6 d5 dr5 ht d4
    clear n0 n1
    -- Ratio(bad, worse)
    refine ⟨d6.t, fun H7 e7 t7 => ?_⟩
    have d7 := Dx.ext d6.b e7 t7
    refine ⟨_, rfl, _, rfl, _, _, rfl, .inr (.inl ⟨(hx.dx d6.b d7).low, ask_inv fun l1 H8 hl1 s8 h8 => ?_⟩)⟩
    have r1 : RL g H8 l1 x := ⟨d7.b.ne hl1, h8⟩
    have d8 := d7.trans (Dx.same d7.b d7.t s8)
    have hx := hx.dx d6.b d8
    have hy := hy.dx d6.b d8
    have d8 := d6.trans d8
    clear d7 e7 t7 s8 h8 hl1 d6
    -- Ratio(bad)
    refine ⟨d8.t, fun H7 e7 t7 => ?_⟩
    have d7 := Dx.ext d8.b e7 t7
    refine ⟨_, rfl, _, _, rfl, .inr (.inl ⟨(hx.dx d8.b d7).low, ask_inv fun l2 H9 hl2 s9 h9 => ?_⟩)⟩
    have r2 : RL g H9 l2 x := ⟨d7.b.ne hl2, h9⟩
    have d9 := d7.trans (Dx.same d7.b d7.t s9)
    have hx := hx.dx d8.b d9
    have hy := hy.dx d8.b d9
    have r1 := r1.dx d8.b d9
    have d9 := d8.trans d9
    clear d7 e7 t7 s9 h9 hl2 d8
    -- Ratio(good, worse)
    refine ⟨d9.t, fun H7 e7 t7 => ?_⟩
    have d7 := Dx.ext d9.b e7 t7
    refine ⟨_, rfl, _, rfl, _, _, rfl, .inr (.inr ⟨gd, (hy.dx d9.b d7).low, ask_inv fun l3 H10 hl3 s10 h10 => ?_⟩)⟩
    have r3 : RL g H10 l3 y := ⟨d7.b.ne hl3, h10⟩
    have d10 := d7.trans (Dx.same d7.b d7.t s10)
    have hx := hx.dx d9.b d10
    have hy := hy.dx d9.b d10
    have r1 := r1.dx d9.b d10
    have r2 := r2.dx d9.b d10
    have d10 := d9.trans d10
    clear d7 e7 t7 s10 h10 hl3 d9
    refine ⟨(by show 3 ≤ sizeLine; decide), fun L3 hL3 => ?_⟩
    have s11 := Same.new (o := .lst [.ref l1, .ref l2, .ref l3]) hL3
    have k3 : upd H10 L3 (.lst [.ref l1, .ref l2, .ref l3]) L3 = _ := upd_same
    have n3 := d10.b.ne hL3
    have d11 := Dx.same d10.b d10.t s11
    have hx := hx.dx d10.b d11
    have hy := hy.dx d10.b d11
    have r1 := r1.dx d10.b d11
    have r2 := r2.dx d10.b d11
    have r3 := r3.dx d10.b d11
    have d11 := d10.trans d11
    generalize upd H10 L3 (.lst [.ref l1, .ref l2, .ref l3]) = H11 at *
    clear s11 hL3 d10
    -- count_ratio(bad, good)
    refine ⟨_, rfl, d11.t, fun H7 e7 t7 => ?_⟩
    have d7 := Dx.ext d11.b e7 t7
    refine ⟨_, rfl, _, rfl, _, _, rfl, .inr (.inl ⟨(hx.dx d11.b d7).low, ask_inv fun l4 H12 hl4 s12 h12 => ?_⟩)⟩
    have r4 : RL g H12 l4 x := ⟨d7.b.ne hl4, h12⟩
    have d12 := d7.trans (Dx.same d7.b d7.t s12)
    have hx := hx.dx d11.b d12
    have hy := hy.dx d11.b d12
    have r1 := r1.dx d11.b d12
    have r2 := r2.dx d11.b d12
    have r3 := r3.dx d11.b d12
    have k3 := d12.lst d11.b n3 k3
    have d12 := d11.trans d12
    clear d7 e7 t7 s12 h12 hl4 d11
    -- count_ratio(good, worse)
    refine ⟨d12.t, fun H7 e7 t7 => ?_⟩
    have d7 := Dx.ext d12.b e7 t7
    refine ⟨_, rfl, _, rfl, _, _, rfl, .inr (.inr ⟨gd, (hy.dx d12.b d7).low, ask_inv fun l5 H13 hl5 s13 h13 => ?_⟩)⟩
    have r5 : RL g H13 l5 y := ⟨d7.b.ne hl5, h13⟩
    have d13 := d7.trans (Dx.same d7.b d7.t s13)
    have hx := hx.dx d12.b d13
    have hy := hy.dx d12.b d13
    have r1 := r1.dx d12.b d13
    have r2 := r2.dx d12.b d13
    have r3 := r3.dx d12.b d13
    have r4 := r4.dx d12.b d13
    have k3 := d13.lst d12.b n3 k3
    have d13 := d12.trans d13
    clear d7 e7 t7 s13 h13 hl5 d12
    refine ⟨(by show 2 ≤ sizeLine; decide), fun L4 hL4 => ?_⟩
    have s14 := Same.new (o := .lst [.ref l4, .ref l5]) hL4
    refine ⟨L3, L4, _, _, rfl, rfl, s14 _ _ k3, upd_same, (by show 5 ≤ sizeLine; decide), fun p hp => ?_⟩
    have s15 := s14.trans (Same.new (o := .lst ([.ref l1, .ref l2, .ref l3] ++ [.ref l4, .ref l5])) hp)
    have kp : upd (upd H13 L4 (.lst [.ref l4, .ref l5])) p (.lst ([.ref l1, .ref l2, .ref l3] ++ [.ref l4, .ref l5])) p = some (.lst ([l1, l2, l3, l4, l5].map V.ref)) := upd_same
    have np := (d13.b.same s14).ne hp
    have d15 := Dx.same d13.b d13.t s15
    have hx := hx.dx d13.b d15
    have hy := hy.dx d13.b d15
    have r1 := r1.dx d13.b d15
    have r2 := r2.dx d13.b d15
    have r3 := r3.dx d13.b d15
    have r4 := r4.dx d13.b d15
    have r5 := r5.dx d13.b d15
    have d15 := d13.trans d15
    generalize upd (upd H13 L4 (.lst [.ref l4, .ref l5])) p (.lst ([.ref l1, .ref l2, .ref l3] ++ [.ref l4, .ref l5])) = H15 at *
    clear s14 s15 hL4 hp k3 n3 d13
    -- what is due
    refine ⟨_, rfl, _, rfl, _, rfl, _, rfl, _, rfl, _, rfl, (by show 5 ≤ sizeLine; decide), fun L5 hL5 => ?_⟩
    have s16 := Same.new (o := .lst [x, x, y, x, y]) hL5
    have k5 : upd H15 L5 (.lst [x, x, y, x, y]) L5 = some (.lst [x, x, y, x, y]) := upd_same
    have d16 := Dx.same d15.b d15.t s16
    generalize upd H15 L5 (.lst [x, x, y, x, y]) = H16 at *
    refine ⟨L5, rfl, ⟨_, SqL.of k5⟩, fun D hD => ?_⟩
    refine lc_refuse (Nat.lt_of_lt_of_eq (by decide : 5 < 6) rfl) k5 hD (by show 5 ≤ 900; decide) fun H17 ts s17 k17 e17 h17 => ?_
    have s18 := s16.trans s17
    have hx := hx.same s18
    have hy := hy.same s18
    have r1 := r1.same s18
    have r2 := r2.same s18
    have r3 := r3.same s18
    have r4 := r4.same s18
    have r5 := r5.same s18
    refine ⟨_, _, rfl, refusals (g := g) (ls := [l1, l2, l3, l4, l5]) (xs := [x, x, y, x, y]) (s18 _ _ kp) k17 rfl e17 (by show 5 ≤ 900; decide) (fun z hz => ?_) (fun j u z hu hz => ?_) h17, fun H18 s19 => q _ (d15.trans (Dx.same d15.b d15.t (s18.trans s19)))⟩
    · simp only [List.mem_cons, List.not_mem_nil, or_false] at hz
      rcases hz with rfl | rfl | rfl | rfl | rfl
      · exact hx.sv
      · exact hx.sv
      · exact hy.sv
      · exact hx.sv
      · exact hy.sv
    · match j, hu, hz with
      | 0, hu, hz => cases hu; cases hz; exact r1
      | 1, hu, hz => cases hu; cases hz; exact r2
      | 2, hu, hz => cases hu; cases hz; exact r3
      | 3, hu, hz => cases hu; cases hz; exact r4
      | 4, hu, hz => cases hu; cases hz; exact r5
end
end K01
set_option Elab.async false
set_option linter.all false
set_option maxRecDepth 100000
set_option maxHeartbeats 4000000
/-! a generator def called with keywords -/
namespace L2
open PySem PySem.Spec PyProof.Rows
def tCallGN (n m : Nat) (sp : SpG) (gV : List V → List V → List V) (E : XK) (t tk : TA) : TGen := fun σ H cont => t σ H fun vs H1 => tk σ H1 fun zs H2 => vs.length = n ∧ zs.length = m ∧ sp (gV vs zs) H2 cont E
section
variable {X : Cx} {k n : Nat} {f : Addr} {fd : FuncData} {ps ks : List Str} {sp : SpG} {E : XK} {x : Str} {p pos : Pos} {e : Expr} {es : List Expr} {kws : List Keyword} {t tk : TA} {g : List Value → List Value → List Value} {gV : List V → List V → List V}
theorem run_gfnN {pins : List (Addr × Obj)} {σ : L2.St} {H : Hp} {s : Shared} {us ws : List Value} {vs zs : List V} {cont : List V → Hp → Prop} {E1 : Value → Shared → Prop} (F : GFn X.prog X.w X.K X.mg X.base k f fd ps sp) (hr : Room k X.A) (hb : KBn X.K fd ps n ks g gV)
    (I : Inv X pins σ H s) (r : Vals vs us) (rz : Vals zs ws) (l1 : vs.length = n) (l2 : zs.length = ks.length) (h : sp (gV vs zs) H cont E) :
    wpAny (model X.prog X.w) X.A (call (.ref f) us (ks.zip ws)) (fun u s' => ∃ H1 sc ex, Inv X pins σ H1 sc ∧ ExOk X pins ex ∧ GMade X.prog X.w k X.stack H1 sc ex cont E u s') E1 s := by
  have r2 := hb.rel r rz
  refine wpAny_call (codeAny_mono (F.run X.A X.stack s H ⟨us, ks.zip ws⟩ (g us ws) (gV vs zs) cont E hr I.env0 (hb.to s us ws I.kIn (r.length.symm.trans l1) (rz.length.symm.trans l2)) r2 h) fun r s' hq => ?_)
  cases r with
  | error e => exact False.elim hq
  | ok fl =>
    cases fl with
    | ret u => exact ⟨H, s, [], I, .nil, hq⟩
    | next => exact False.elim hq
    | brk => exact False.elim hq
    | cont => exact False.elim hq
/-- f(e, .., k = v, ..) of a generator def -/
theorem pgen_callN (F : GFn X.prog X.w X.K X.mg X.base k f fd ps sp) (hr : Room k X.A) (hg : Gl X x) (hm : X.mg x = some (.ref f)) (hk : PySem.W.keepIn X.K (.ref f) = true) (hb : KBn X.K fd ps n ks g gV)
    (ha : PA X (e :: es) t) (hkw : PK X kws tk) (hall : (backToKw pos (keywordEach kws X.env)).all (·.1.isSome) = true := by rfl) (hks : (backToKw pos (keywordEach kws X.env)).filterMap (·.1) = ks := by rfl)
    (hdb : (x == ("__debug__" : Str)) = false := by decide) (he : starEach (e :: es) X.env = (false, eval e X.env) :: starEach es X.env := by rfl)
    (hpl : ((backTo pos (starEach (e :: es) X.env)).any (·.1) || (backToKw pos (keywordEach kws X.env)).any (·.1.isNone)) = false := by rfl) :
    PGen X k (.Call (.Name x p) (e :: es) kws pos) (tCallGN n ks.length sp gV E t tk) E := by
  refine ⟨fun pins s σ H cont I h => ?_⟩
  refine wpAny_Call_Name_kw (ld_glob I hg hm ?_ hdb)
  refine PySem.W.callWith_KW (h₀ := X.base) I.ok.mod.kin hk hall (thn (ha.run pos pins s σ H _ I h) fun us s1 ⟨vs, H1, I1, r, q⟩ => ?_) hpl he
  refine thn (hkw.run pos pins s1 σ H1 _ I1 q) fun ws s2 ⟨zs, H2, I2, rz, l1, l2, q2⟩ => ⟨I2.kIn, ?_⟩
  rw [hks]
  exact run_gfnN F hr hb I2 r rz l1 l2 q2
end
end L2
set_option Elab.async false
set_option linter.all false
set_option maxRecDepth 100000
set_option maxHeartbeats 4000000
namespace K01
open PySem PySem.Spec PyProof.Rows L2 L2H LamX NumT
/-- no StopIteration -/
def nsE (K : PySem.W.Frag) (E : XK) : XK := fun cls d H => E cls d H ∧ PySem.W.subIn K cls (.type "StopIteration") = some false
theorem noStop_ns {K : PySem.W.Frag} {E : XK} : NoStop K (nsE K E) := fun _ _ _ h => h.2
theorem ns0 {K : PySem.W.Frag} : NoStop K E0 := fun _ _ _ h => False.elim h
theorem passNS {X : Cx} {A : Around} {outer : List Env} {s : Shared} {H : Hp} {E : XK} {scope : Scope} {f c' : Addr} : Passes (L2.CX X.prog X.w) (lamCx X A outer s H E scope f c') (nsE X.K E) :=
  passes_call (E := nsE X.K E) (takes_of (X := lamCx X A outer s H E scope f c') rfl rfl rfl rfl) fun _ _ _ _ h => h.1
structure AwC (P : Program) (w : World) (K : PySem.W.Frag) (mg : Str → Option Value) (base : Heap) (CI CT : Addr) : Prop where
  ex : ∃ f fd t g, GFn P w K mg base 3 f fd ["length", "signs", "most"] (spAW CI CT) ∧ mg "all_words" = some (.ref f) ∧ PySem.W.keepIn K (.ref f) = true ∧ Binds K fd ["length", "signs", "most"] [.int 4096 t] ∧ KBn K fd ["length", "signs", "most"] 2 ["most"] g (fun vs zs => vs ++ zs)
  sI : PySem.W.subIn K (.ref CI) (.type "StopIteration") = some false
  sT : PySem.W.subIn K (.ref CT) (.type "StopIteration") = some false
theorem inv_ns {K : PySem.W.Frag} {CI : Addr} {x : V} {H : Hp} {E : XK} (s : PySem.W.subIn K (.ref CI) (.type "StopIteration") = some false) (h : Inv1 CI x H E) : Inv1 CI x H (nsE K E) := fun d H2 a b c => ⟨h d H2 a b c, s⟩
theorem tm_ns {K : PySem.W.Frag} {CT : Addr} {c : Int} {H : Hp} {E : XK} (s : PySem.W.subIn K (.ref CT) (.type "StopIteration") = some false) (h : Tm CT c H E) : Tm CT c H (nsE K E) := fun d H2 a b c => ⟨h d H2 a b c, s⟩
/-- no number of this range -/
def Ov (lo hi : Int) (g : Bg) (H : Hp) (x : V) : Prop := (∃ i : Int, x = .int i ∧ ¬ (lo ≤ i ∧ i ≤ hi)) ∨ OV g H x
section
variable {g : Bg} {H H2 : Hp} {TT : List (Addr × Str)} {x : V} {lo hi : Int}
theorem Ov.same (h : Ov lo hi g H x) (s : Same H H2) : Ov lo hi g H2 x := h.imp id fun z => z.same s
theorem Ov.dx (B : Bag g H) (d : Dx g TT H H2) (h : Ov lo hi g H x) : Ov lo hi g H2 x := h.imp id fun z => z.dx B d
theorem Ov.bad (h : Ov lo hi g H x) : Bad H lo hi x := h.imp id fun z => z.odd
theorem Ov.sv (h : Ov lo hi g H x) : SV g H x := h.imp (fun ⟨i, e, _⟩ => ⟨i, e⟩) id
end
end K01
set_option Elab.async false
set_option linter.all false
set_option maxRecDepth 100000
set_option maxHeartbeats 4000000
namespace K01
open PySem PySem.Spec PyProof.Rows L2 L2H LamX NumT
/-! ### what a word is worth -/
abbrev valF (m : Int) (ns : List Int) : Int := ns.foldl (fun i d => i * m + d) 0
def valR (m : Int) : List Int → Int
  | [] => 0
  | d :: r => d + m * valR m r
theorem valF_rev (m : Int) (ns : List Int) : valF m ns = valR m ns.reverse := by
  suffices h : ∀ rs : List Int, valF m rs.reverse = valR m rs by
    have := h ns.reverse
    rwa [List.reverse_reverse] at this
  intro rs
  induction rs with
  | nil => rfl
  | cons d r ih =>
    have ih : List.foldl (fun i d => i * m + d) 0 r.reverse = valR m r := ih
    show List.foldl (fun i d => i * m + d) 0 (d :: r).reverse = d + m * valR m r
    rw [List.reverse_cons, List.foldl_append, ih]
    show valR m r * m + d = d + m * valR m r
    rw [Int.mul_comm, Int.add_comm]
theorem valR_snoc (m d : Int) : ∀ rs : List Int, valR m (rs ++ [d]) = valR m rs + d * m ^ rs.length
  | [] => by
    show d + m * 0 = 0 + d * m ^ 0
    rw [Int.mul_zero, Int.pow_zero, Int.mul_one]
    omega
  | e :: r => by
    show e + m * valR m (r ++ [d]) = e + m * valR m r + d * m ^ (r.length + 1)
    rw [valR_snoc m d r, Int.mul_add, Int.pow_succ, Int.add_assoc]
    congr 2
    rw [← Int.mul_assoc, Int.mul_comm m d, Int.mul_assoc, Int.mul_comm m]
theorem valR_bd {m : Int} (hm : 1 ≤ m) : ∀ {rs : List Int}, (∀ d ∈ rs, 0 ≤ d ∧ d < m) → 0 ≤ valR m rs ∧ valR m rs ≤ m ^ rs.length - 1
  | [], _ => ⟨Int.le_refl _, by show (0 : Int) ≤ m ^ 0 - 1; rw [Int.pow_zero]; decide⟩
  | d :: r, h => by
    obtain ⟨a, b⟩ := valR_bd hm fun e he => h e (List.mem_cons_of_mem _ he)
    obtain ⟨d0, d1⟩ := h d List.mem_cons_self
    have m0 : 0 ≤ m := by omega
    have p1 : 0 ≤ m * valR m r := Int.mul_nonneg m0 a
    have p2 : m * valR m r ≤ m * (m ^ r.length - 1) := Int.mul_le_mul_of_nonneg_left b m0
    have e : m * (m ^ r.length - 1) = m ^ (r.length + 1) - m := by rw [Int.mul_sub, Int.mul_one, Int.pow_succ, Int.mul_comm]
    rw [e] at p2
    show 0 ≤ d + m * valR m r ∧ d + m * valR m r ≤ m ^ (r.length + 1) - 1
    generalize m * valR m r = z at *
    generalize m ^ (r.length + 1) = y at *
    omega
theorem lastOf_val {m : Int} (hm : 1 ≤ m) : ∀ {rs : List Int}, (∀ d ∈ rs, 0 ≤ d ∧ d < m) → lastOf m rs.length (valR m rs) = rs
  | [], _ => rfl
  | d :: r, h => by
    obtain ⟨d0, d1⟩ := h d List.mem_cons_self
    show (d + m * valR m r) % m :: lastOf m r.length ((d + m * valR m r) / m) = d :: r
    rw [Int.add_mul_emod_self_left, Int.emod_eq_of_lt d0 d1, Int.add_mul_ediv_left _ _ (by omega), Int.ediv_eq_zero_of_lt d0 d1, Int.zero_add, lastOf_val hm fun e he => h e (List.mem_cons_of_mem _ he)]
/-! ### [draw(bag, m) for _ in range(n)] -/
theorem lc_draws {g : Bg} {TT : List (Addr × Str)} {m : Int} {n j i0 : Nat} {σ : L2.St} {H1 : Hp} {D : Addr} {Qd : Hp → Prop} (B : Bag g H1) (T : Tabs TT H1) (h0 : σ[0]? = some (some (.ref g.b))) (hj : σ[j]? = some (some (.int m))) (n0 : i0 ≠ 0) (nj : i0 ≠ j) (m1 : 1 ≤ m) (m2 : m < 1073741824) (hn : n ≤ 900) (hD : H1 D = none)
    (hd : ∀ H' (ns : List Int), Dx g TT H1 H' → ns.length = n → (∀ d ∈ ns, 0 ≤ d ∧ d < m) → H' D = some (.lst (ns.map V.int)) → Qd H') :
    ∃ W : Nat → Nat → Hp → Prop, (∃ m, W 0 m (upd H1 D (.lst []))) ∧ ∀ i k H, W i k H →
      ((Itr 0 n).stop i H ∧ Qd H) ∨ ((Itr 0 n).go i H ∧ ∃ Nx : Hp → Prop, (∀ H', Nx H' → ∃ m', m' < k ∧ W (i + 1) m' H') ∧ ∀ x H', (Itr 0 n).yld i H x H' → gName i0 x (wipe σ [i0]) H' fun σ2 H2 => wipe σ2 [i0] = wipe σ [i0] ∧ tYes σ2 H2 fun b H3 =>
        if b = true then (tCall spDraw [] E0 (tCons (tVar 0) (tCons (tVar j) tNil))) σ2 H3 fun y H4 => ∃ acc, H4 D = some (.lst acc) ∧ acc.length < sizeLine ∧ Nx (upd H4 D (.lst (acc ++ [y]))) else Nx H3) := by
  have nD := B.ne hD
  refine lc_it (walk_range (lo := 0) (n := n)) (fun i H' => Dx g TT H1 H' ∧ ∃ ns : List Int, ns.length = i ∧ (∀ d ∈ ns, 0 ≤ d ∧ d < m) ∧ H' D = some (.lst (ns.map V.int))) ⟨Dx.same B T (Same.new hD), [], rfl, (fun d hd => absurd hd List.not_mem_nil), upd_same⟩ (fun _ _ _ _ => trivial) ?_ ?_
  · rintro i x H H' hi ⟨d1, ns, e1, h1, k1⟩ ⟨rfl, rfl⟩
    have rd : ∀ {q : Nat} {v : V}, i0 ≠ q → σ[q]? = some (some v) → ((σ.set i0 none).set i0 (some (V.int (0 + (i : Nat)))))[q]? = some (some v) := fun a b => by
      rw [List.set_set, List.getElem?_set_ne a]
      exact b
    refine ⟨?_, yes_of (iteT ?_)⟩
    · show ((σ.set i0 none).set i0 (some (V.int (0 + (i : Nat))))).set i0 none = σ.set i0 none
      rw [List.set_set, List.set_set]
    refine ⟨_, rd n0 h0, _, rd nj hj, g, m, rfl, d1.b, m1, m2, fun z H2 dr z0 z1 => ?_⟩
    have k2 := dr.1 _ _ nD k1
    refine ⟨_, k2, ?_, Dx.app B (d1.trans (Dx.drew d1.b d1.t dr)) hD k2, ns ++ [z], by rw [List.length_append, e1]; rfl, fun d hd => ?_, ?_⟩
    · rw [List.length_map, e1]
      exact small1000 (by omega)
    · rcases List.mem_append.mp hd with y | y
      · exact h1 d y
      · rw [List.mem_singleton.mp y]
        exact ⟨z0, z1⟩
    · rw [upd_same, List.map_append]
      rfl
  · rintro H ⟨d1, ns, e1, h1, k1⟩
    exact hd H ns d1 e1 h1 k1
end K01
set_option Elab.async false
set_option linter.all false
set_option maxRecDepth 100000
set_option maxHeartbeats 4000000
/-! where no repr is under way: the text of a tuple of ints, told exactly -/
namespace L2
open PySem PySem.Spec PyProof.Rows
/-- no repr is under way -/
abbrev Quiet (A : Around) : Prop := A.guards = some []
def FnG (P : Program) (w : World) (K : PySem.W.Frag) (mg : Str → Option Value) (base : Heap) (CX : CXT) (k : Nat) (f : Addr) (sp : Sp) : Prop :=
  ∀ (A : Around) (outer : List Env) (s : Shared) (H : Hp) (us : List Value) (vs : List V) (Q : VK) (E : XK), Quiet A → Room k A → Env0 P w K mg base A outer s H → Vals vs us → sp vs H Q E →
    codeAny (model P w) A (.call (.ref f) ⟨us, []⟩) (CR CX outer P w H s Q E) s
section
variable {P : Program} {w : World} {K : PySem.W.Frag} {mg : Str → Option Value} {base : Heap} {CX : CXT} {k : Nat} {f : Addr} {fd : FuncData} {x qual : Str} {params : Arguments} {body : List Stmt} {scope : Scope} {N ps : List Str} {sp : Sp}
theorem fnG_of (F : FunD K x qual params body scope [] [] f fd) (S : FnScope N ps scope) (bd : Binds K fd ps []) (len : ∀ vs H Q E, sp vs H Q E → vs.length = ps.length)
    (hbody : ∀ (cdv : Value) (A : Around) (outer : List Env) (s : Shared) (H : Hp) (vs : List V) (Q : VK) (E : XK), Quiet A → Room k (A.deeper (envOfC qual scope s.heap.objs.size f cdv)) → sp vs H Q E →
      ∃ t, PSs (cxOf CX P w K mg base N qual scope f cdv A outer s H E) body t ∧ t { nx := fun _ H' => Q .non H', rt := Q } (start N vs) H) : FnG P w K mg base CX (k + 1) f sp := by
  obtain ⟨oc, od, dV, kV, doc, pm, an, cdv, ct, osl, rfl, lk, hcd, _, _⟩ := F.ex
  intro A outer s H us vs Q E hg r e0 rv hsp
  have hl := len _ _ _ _ hsp
  have KX : K.In s.heap := e0.mod.kin.keeps fun b o e => (e0.bs b o e).1
  have nl := e0.mod.nolimit.keeps fun b o e => (e0.bs b o e).1
  have b0 := bd s us KX (by rw [List.append_nil, ← rv.length]; exact hl)
  rw [List.append_nil] at b0
  refine codeAny_call_function r.depth (KX _ _ lk) rfl S.co S.gen rfl (PySem.W.codeRec_of KX hcd) (b0 _ _ _ _ ?_)
  refine wpAny_newFunctionEnv_cells S.kind (fun y hy => (S.par y.1 (List.of_mem_zip (show (y.1, y.2) ∈ _ from hy)).1).imp id fun z => ⟨z, PySem.W.cellsFrom_some _ _ _ (.inl z)⟩) fun env he s1 ic => ?_
  cases he
  refine ⟨nl.keeps ic.toInCall.keep, codeAny_func ?_⟩
  obtain ⟨t, ht, hq⟩ := hbody cdv A outer s H vs Q E hg (r.deeper _) hsp
  have I := inv_start (CX := CX) (P := P) (w := w) (K := K) (mg := mg) (base := base) (f := f) (cd := cdv) (E := E) S r.hd e0 hl rv ic
  refine wpAny_mono (ht.run [] s1 (start N vs) H _ I hq) (fun fl s' z => ?_) fun _ _ z => z
  cases fl with
  | ret u =>
    obtain ⟨v, _, H', J, rr, q⟩ := z
    exact ⟨v, H', J.os, J.bare, J.base, J.hok, rr, q⟩
  | next =>
    obtain ⟨_, H', J, q⟩ := z
    exact ⟨.non, H', J.os, J.bare, J.base, J.hok, rfl, q⟩
  | brk => exact z.choose_spec.choose_spec.2.elim
  | cont => exact z.choose_spec.choose_spec.2.elim
def CalG (P : Program) (w : World) (K : PySem.W.Frag) (mg : Str → Option Value) (base : Heap) (CX : CXT) (x : Str) (k : Nat) (ps : List Str) (sp : Sp) : Prop :=
  ∃ f : Addr, FnG P w K mg base CX k f sp ∧ mg x = some (.ref f) ∧ PySem.W.keepIn K (.ref f) = true
end
section
variable {X : Cx} {CX : CXT} {k n : Nat} {ps : List Str} {sp : Sp} {x : Str} {q pos : Pos} {e : Expr} {es : List Expr} {t : TA} {E : XK} {C g : Addr}
theorem run_fnG {A : Around} {pins : List (Addr × Obj)} {σ : St} {H : Hp} {s : Shared} {us : List Value} {vs : List V} {Q : VK} {f : Addr} (F : FnG X.prog X.w X.K X.mg X.base CX k f sp) (hg : Quiet A) (hr : Room k A) (e0 : Env0 X.prog X.w X.K X.mg X.base A X.stack s H) (hx : Passes CX X E) (I : Inv X pins σ H s) (r : Vals vs us) (h : sp vs H Q E) :
    wpAny (model X.prog X.w) A (call (.ref f) us) (EP X pins σ Q) X.xe s := by
  refine wpAny_call (codeAny_mono (F A X.stack s H us vs Q E hg hr e0 r h) fun y s' hq => ?_)
  cases y with
  | error z => exact hx pins σ H s z s' I hq
  | ok fl =>
    cases fl with
    | ret u => exact I.after hq
    | next => cases hq
    | brk => cases hq
    | cont => cases hq
/-- f(..) -/
theorem pe_calG (c : CalG X.prog X.w X.K X.mg X.base CX x k ps sp) (hq : Quiet X.A) (hr : Room k X.A) (hg : Gl X x) (hx : Passes CX X E) (ha : PA X (e :: es) t)
    (hdb : (x == ("__debug__" : Str)) = false := by decide) (he : starEach (e :: es) X.env = (false, eval e X.env) :: starEach es X.env := by rfl) (hpl : (backTo pos (starEach es X.env)).any (·.1) = false := by rfl) :
    PE X (.Call (.Name x q) (e :: es) [] pos) (tCall sp [] E t) := by
  obtain ⟨f, F, hm, hk⟩ := c
  refine ⟨fun pins s σ H Q I h => wpAny_Call_Name_kw (ld_glob I hg hm (PySem.W.callWith_K (h₀ := X.base) I.ok.mod.kin hk (thn (ha.run pos pins s σ H _ I h) fun us s1 ⟨vs, H1, I1, rv, h1⟩ => ⟨I1.kIn, ?_⟩) he hpl) hdb)⟩
  have h1 : sp (vs ++ []) H1 Q E := h1
  rw [List.append_nil] at h1
  exact run_fnG F hq hr I1.env0 hx I1 rv h1
/-- repr(o), o of an own class -/
theorem call_reprG (hs : PySem.W.findIn X.K (.ref C) "__repr__" = some (some (.ref g))) (hf : PySem.W.isFn X.K (.ref g) = true) (F : FnG X.prog X.w X.K X.mg X.base CX n g sp) (hq : Quiet X.A) (hr : Room (n + 1) X.A) (hx : Passes CX X E) : CallR X (.builtin "repr") (rTextO C sp E) := by
  intro pins s σ H xs us Q I r h
  obtain ⟨a, dx, fs, rfl, ha, q⟩ := h
  obtain ⟨u, rfl, ru⟩ := r.one
  cases (show u = Value.ref a from ru)
  obtain ⟨_, J, _⟩ := ins_get I.hok ha
  obtain ⟨_, J, _⟩ := J.look
  obtain ⟨_, hF⟩ := I.fr
  refine PySem.W.repr_K hr.in1.units0 hF I.ok.mod.kin J hs hf (wpAny_mono (run_fnG (us := [.ref a]) (vs := [.ref a]) F (A := X.A.in1) hq hr.in1 I.env0.in1 hx I (.cons rfl .nil) q) (fun v z hz => ?_) fun _ _ y => y)
  obtain ⟨_, H2, I2, rz, y, rfl, qz⟩ := hz
  obtain ⟨t, rfl⟩ := (show ∃ t, v = Value.str y t from rz)
  exact ⟨.str y, H2, I2, ⟨t, rfl⟩, qz⟩
/-! ### the text of a tuple of ints -/
def intsT (ns : List Int) : Str := tupleText (ns.map fun n => (toString n : String))
theorem reprAll_ints {prog : Program} {w : World} : ∀ {ns : List Int} {its : List Value}, Vals (ns.map V.int) its → (∀ n ∈ ns, n.natAbs.log2 < 1920) → ReprAll prog w its (ns.map fun n => ((toString n : String) : Str))
  | [], _, r, _ => by
    cases r
    exact .nil
  | n :: ns, _, r, h => by
    cases r with
    | cons r1 r2 =>
      obtain ⟨t, rfl⟩ := r1
      exact .cons (ReprIs.int t (h n List.mem_cons_self)) (reprAll_ints r2 fun m hm => h m (List.mem_cons_of_mem _ hm))
theorem run_reprT {pins : List (Addr × Obj)} {σ : St} {H : Hp} {s : Shared} {A : Around} {a : Addr} {ns : List Int} {Q : Value → Shared → Prop} (I : Inv X pins σ H s) (hg : Quiet A) (ht : SqT X.K H a (ns.map V.int)) (hn : ∀ n ∈ ns, n.natAbs.log2 < 1920) (hz : (intsT ns).length ≤ sizeLine) (q : ∀ u tk, Q (.str (intsT ns) u) { s with toks := tk }) {E : Value → Shared → Prop} (t0 : Nat) :
    wpAny (model X.prog X.w) A (call (.builtin "tuple.__repr__") [.ref a]) Q E { s with toks := t0 } := by
  obtain ⟨its, rv, ⟨o, ho, hc, n, hd⟩, _⟩ := I.tuple ht
  exact call_tuple_repr (s := { s with toks := t0 }) ⟨o, ho, hc⟩ hg (fun c hc => by cases hc) ho hd (reprAll_ints rv hn) (fun u tk => q u tk) hz
/-- {t} -/
def tFmtI (K : PySem.W.Frag) (te : TE) : TE := fun σ H Q => te σ H fun x H1 => ∃ (a : Addr) (ns : List Int), x = .ref a ∧ SqT K H1 a (ns.map V.int) ∧ (∀ n ∈ ns, n.natAbs.log2 < 1920) ∧ (intsT ns).length ≤ sizeLine ∧ Q (.str (intsT ns)) H1
theorem pe_fmtI {te : TE} (hq : Quiet X.A) (hr : Room k X.A) (he : PE X e te) : PE X (.FormattedValue e (-1) none pos) (tFmtI X.K te) := by
  refine ⟨fun pins s σ H Q I h => wpAny_FormattedValue_plain (thn (he.run pins s σ H _ I h) fun v s1 hv => ?_)⟩
  obtain ⟨x, H1, I1, r1, a, ns, rfl, ht, hn, hz, q⟩ := hv
  cases r1
  obtain ⟨its, rv, ⟨o, ho, hc, _⟩, _⟩ := I1.tuple ht
  have hu := hr.units
  exact wpAny_formatField_slot (fun _ _ => nofun) (by omega) ⟨o, ho, hc⟩ F.slot_tuple_format F.slot_tuple_str F.slot_tuple_repr (run_reprT (A := X.A.in1.in1) I1 hq ht hn hz (fun u tk => ⟨_, u, rfl, .str (intsT ns), H1, I1.tok _, ⟨u, rfl⟩, q⟩) _)
/-- repr(t) -/
theorem call_reprI (hq : Quiet X.A) (hr : Room k X.A) : CallR X (.builtin "repr") (fun xs H Q => ∃ (a : Addr) (ns : List Int), xs = [V.ref a] ∧ SqT X.K H a (ns.map V.int) ∧ (∀ n ∈ ns, n.natAbs.log2 < 1920) ∧ (intsT ns).length ≤ sizeLine ∧ Q (.str (intsT ns)) H) := by
  intro pins s σ H xs us Q I r h
  obtain ⟨a, ns, rfl, ht, hn, hz, q⟩ := h
  rw [Vals.ref1 r]
  obtain ⟨its, rv, ⟨o, ho, hc, _⟩, _⟩ := I.tuple ht
  have hu := hr.units
  exact call_repr_slot (by omega) ⟨o, ho, hc⟩ F.slot_tuple_repr (run_reprT (A := X.A.in1) I hq ht hn hz (fun u tk => ⟨_, u, rfl, .str (intsT ns), H, I.tok _, ⟨u, rfl⟩, q⟩) s.toks)
end
end L2
namespace LamX
open PySem PySem.Spec PyProof.Rows L2
/-! ### the end of a law, told that no repr is under way -/
section
variable {P : Program} {w : World} {K : PySem.W.Frag} {mg mb : Str → Option Value} {CX : CXT} {k : Nat} {fa a : Addr} {cs : List (Addr × Addr)} {sp : Sp} {s1 : Shared} {vs : List Value} {ns : List Int}
/-- what may be tracked at a law's start: the script (locked), the tables -/
def startH (K : PySem.W.Frag) (a : Addr) (vs : List Value) (ns : List Int) (ts : List Addr) : Hp := fun b => if b ∈ ts then some (.tbl #[]) else if b = a ∧ K.lookup a = none then some (.frz { cls := .type "list", data := .seq vs.toArray } (.lst (ns.map V.int))) else none
theorem start_cases {ts : List Addr} {b : Addr} {u : HO} (e : startH K a vs ns ts b = some u) : (b ∈ ts ∧ u = .tbl #[]) ∨ (b ∉ ts ∧ b = a ∧ K.lookup a = none ∧ u = .frz { cls := .type "list", data := .seq vs.toArray } (.lst (ns.map V.int))) := by
  unfold startH at e
  split at e
  · rename_i h
    exact .inl ⟨h, (Option.some.inj e).symm⟩
  · rename_i h
    split at e
    · rename_i h2
      exact .inr ⟨h, h2.1, h2.2, (Option.some.inj e).symm⟩
    · cases e
theorem law_callG (KX : K.In s1.heap) (hns : s1.heap.Ns mainGlobals mg) (hb : s1.heap.Ns builtinsNs mb) (hbb : ∀ x : Str, x ≠ "__name__" → mb x = bootBuiltins x) (hlim : s1.heap.NoLimit) (hg : s1.gens = #[])
    (tab : ∀ p ∈ cs, s1.heap.get? p.2 = some { cls := .none, data := .fields #[] }) (out : ∀ p ∈ cs, K.lookup p.2 = none) (hd : ∀ p ∈ cs, PySem.W.CodeHd s1.heap p.1 p.2)
    (bmod : ∃ (bm : Addr) (ob : Obj), mg "__builtins__" = some (.ref bm) ∧ bm ≠ builtinsNs ∧ s1.heap.get? bm = some ob ∧ ob.cls = .type "module" ∧ ob.dict = some builtinsNs ∧ ob.data = .plain)
    (ho : s1.heap.get? a = some { cls := .type "list", data := .seq vs.toArray }) (hi : IntsAre vs ns) (hl : ns.length ≤ sizeLine) (hr : Room k callerA)
    (F : ∀ base : Heap, K.In base → base.Ns mainGlobals mg → (∀ p ∈ cs, TabB base mg p.1 p.2) → FnG P w K mg base CX k fa sp)
    (hsp : ∀ H : Hp, (∀ p ∈ cs, H p.2 = some (.tbl #[])) → SqL K H a (ns.map V.int) → sp [.ref a] H (fun v _ => v = .bl true) fun _ _ _ => False)
    (hCX : ∀ H e s', CX [] H s1 (fun _ _ _ => False) e s' → False) :
    codeAny (model P w) callerA (.call (.ref fa) ⟨[.ref a], []⟩) (fun r s' => r = .ok (.ret (.bool true)) ∧ OldK s1.heap s'.heap ∧ s'.os = s1.os ∧ AllBare s'.gens) s1 := by
  -- the tables' places
  have isT : ∀ b ∈ cs.map (·.2), s1.heap.get? b = some { cls := .none, data := .fields #[] } ∧ K.lookup b = none := fun b z => by
    obtain ⟨p, hp, rfl⟩ := List.mem_map.mp z
    exact ⟨tab p hp, out p hp⟩
  have inT : ∀ p ∈ cs, p.2 ∈ cs.map (·.2) := fun p hp => List.mem_map.mpr ⟨p, hp, rfl⟩
  generalize hts : cs.map (·.2) = ts at isT inT
  have anT : a ∉ ts := fun z => by
    have := (isT a z).1
    rw [ho] at this
    have y : Data.seq vs.toArray _ = Data.fields #[] := congrArg Obj.data (Option.some.inj this)
    cases y
  let H : Hp := startH K a vs ns ts
  have hH : ∀ b u, H b = some u → (b ∈ ts ∧ u = .tbl #[]) ∨ (b ∉ ts ∧ b = a ∧ K.lookup a = none ∧ u = .frz { cls := .type "list", data := .seq vs.toArray } (.lst (ns.map V.int))) := fun b u e => start_cases e
  have hTbl : ∀ p ∈ cs, H p.2 = some (.tbl #[]) := fun p hp => if_pos (inT p hp)
  have hok : HOk P w H s1.heap := fun b u e => by
    rcases hH b u e with ⟨z, rfl⟩ | ⟨_, rfl, _, rfl⟩
    · exact (isT b z).1
    · exact ⟨ho, by rw [List.length_map]; exact hl, vs, _, vals_ints hi, ho⟩
  -- an object that is no table and not the script is none of H
  have free : ∀ {b : Addr} {o : Obj}, s1.heap.get? b = some o → (∀ xs n, o.data ≠ .seq xs n) → o.data ≠ .fields #[] → H b = none := fun {b o} e n1 n2 => by
    cases z : H b with
    | none => rfl
    | some u =>
      rcases hH b u z with ⟨y, _⟩ | ⟨_, rfl, _, _⟩
      · rw [(isT b y).1] at e
        cases e
        exact absurd rfl n2
      · rw [ho] at e
        cases e
        exact absurd rfl (n1 _ _)
  have hid : ∀ {b : Addr} {o : Obj}, s1.heap.get? b = some o → (∀ xs n, o.data ≠ .seq xs n) → o.data ≠ .fields #[] → (hidT s1.heap H).get? b = some o := fun e n1 n2 => hidT_get e (free e n1 n2)
  have hidNs : ∀ {b : Addr} {m : Str → Option Value}, s1.heap.Ns b m → (hidT s1.heap H).Ns b m := fun {b m} z => by
    obtain ⟨o, es, ep, e, d, r⟩ := z
    exact ⟨o, es, ep, hid e (fun _ _ y => by rw [d] at y; cases y) (fun y => by rw [d] at y; cases y), d, r⟩
  have KH : K.In (hidT s1.heap H) := fun b o e => hidT_get (KX b o e) (by
    cases z : H b with
    | none => rfl
    | some u =>
      rcases hH b u z with ⟨y, _⟩ | ⟨_, rfl, y, _⟩
      · rw [(isT b y).2] at e
        cases e
      · rw [y] at e
        cases e)
  have TB : ∀ p ∈ cs, TabB (hidT s1.heap H) mg p.1 p.2 := fun p hp => by
    have tp := tab p hp
    refine ⟨?_, ?_, fun z => ?_⟩
    · obtain ⟨o, us, file, tf, flags, tg, inF, text, tt, e1, r1, r2, r3, rest⟩ := hd p hp
      exact ⟨o, us, file, tf, flags, tg, inF, text, tt, hid e1 (fun _ _ z => by rw [r2] at z; cases z) (fun z => by rw [r2] at z; cases z; simp at r3), r1, r2, r3, rest⟩
    · obtain ⟨bm, ob, b1, b2, b3, b4, b5, b6⟩ := bmod
      refine ⟨bm, ob, b1, b2, fun z => ?_, fun z => ?_, hid b3 (fun _ _ z => by rw [b6] at z; cases z) (fun z => by rw [b6] at z; cases z), b4, b5, b6⟩
      · obtain ⟨o, _, _, e, d, _⟩ := hns
        rw [z, e] at b3
        cases b3
        rw [d] at b6
        cases b6
      · rw [z, tp] at b3
        cases b3
        cases b6
    · obtain ⟨o, _, _, e, d, _⟩ := hns
      rw [z, tp] at e
      cases e
      cases d
  have MD : L2.Mod K mg (hidT s1.heap H) := ⟨KH, hidNs hns, ⟨mb, hidNs hb, hbb⟩, hlim.elim fun mc z => ⟨mc, hidNs z.1, z.2⟩⟩
  have E0' : Env0 P w K mg (hidT s1.heap H) callerA [] s1 H := ⟨rfl, MD, fun _ _ e => of_hidT e, Nat.le_of_eq (hidT_size _ _), trivial, fun _ z => absurd (show _ ∈ ([] : List Addr) from z) List.not_mem_nil, hok, .of_eq hg⟩
  have hS : SqL K H a (ns.map V.int) := by
    cases z : K.lookup a with
    | none => exact .inl (.inr ⟨_, show startH K a vs ns ts a = _ from (if_neg anT).trans (if_pos ⟨rfl, z⟩)⟩)
    | some o =>
      have e := KX a o z
      rw [ho] at e
      cases e
      exact .inr ⟨_, vs.toArray, _, z, rfl, rfl, rfl, by rw [List.size_toArray, hi.length]; exact hl, vals_ints hi⟩
  refine codeAny_mono (F _ KH (hidNs hns) TB callerA [] s1 H [.ref a] [.ref a] _ _ rfl hr E0' (.cons rfl .nil) (hsp H hTbl hS)) fun r s' z => ?_
  cases r with
  | error e => exact (hCX H e s' z).elim
  | ok fl =>
    cases fl with
    | next => cases z
    | brk => cases z
    | cont => cases z
    | ret u =>
      obtain ⟨v, H', os, bare, un, hok', rv, rfl⟩ := z
      cases (show u = Value.bool true from rv)
      have nofs : ∀ b : Addr, b ∉ frs ([] : List Env) := fun b z => absurd (show b ∈ ([] : List Addr) from z) List.not_mem_nil
      have kept : ∀ b o, b ∉ ts → s1.heap.get? b = some o → s'.heap.get? b = some o := fun b o nb e => by
        cases y : H b with
        | none => exact un.keep b o e y (nofs b) List.not_mem_nil
        | some u =>
          rcases hH b u y with ⟨x, _⟩ | ⟨_, rfl, _, rfl⟩
          · exact absurd x nb
          · rw [ho] at e
            cases e
            exact (hok' b _ (un.frzs b _ _ y)).1
      have more : ∀ p ∈ cs, ∃ xs : Array Value, s'.heap.get? p.2 = some { cls := .none, data := .fields xs } := fun p hp => by
        obtain ⟨m, y⟩ := un.tbls p.2 #[] (hTbl p hp)
        exact ⟨_, hok' p.2 _ y⟩
      have ofT : ∀ {b : Addr}, b ∈ ts → ∃ p ∈ cs, p.2 = b := fun {b} z => by
        rw [← hts] at z
        exact List.mem_map.mp z
      refine ⟨rfl, ⟨fun b o e => ?_, fun b o e => ?_⟩, os, bare⟩
      · by_cases c : b ∈ ts
        · obtain ⟨p, hp, rfl⟩ := ofT c
          obtain ⟨xs, y⟩ := more p hp
          rw [tab p hp] at e
          cases e
          exact .inr (.inl ⟨((hd p hp).tab (tab p hp)).isCodeTable, rfl, #[], xs, rfl, by rw [Array.empty_append]; exact y⟩)
        · exact .inl (kept b o c e)
      · by_cases c : b ∈ ts
        · obtain ⟨p, hp, rfl⟩ := ofT c
          obtain ⟨xs, y⟩ := more p hp
          exact ⟨_, y⟩
        · exact ⟨o, kept b o c e⟩
def LawG (l : PySem.W.OpenLaw) (w : World) (K : PySem.W.Frag) (CX : CXT) (k n : Nat) (mg : Str → Option Value) (fa : Addr) (h : Heap) : Prop :=
  ∃ (cs : List (Addr × Addr)) (sp : Sp), (∀ p ∈ cs, h.get? p.2 = some { cls := .none, data := .fields #[] }) ∧ (∀ p ∈ cs, K.lookup p.2 = none) ∧ (∀ p ∈ cs, PySem.W.CodeHd h p.1 p.2) ∧
    (∀ (H : Hp) (a : Addr) (ns : List Int), ns.length ≤ n → (∀ z ∈ ns, Builtin.Int.intBits z ≤ 1048576) → (∀ p ∈ cs, H p.2 = some (.tbl #[])) → SqL K H a (ns.map V.int) → sp [.ref a] H (fun v _ => v = .bl true) fun _ _ _ => False) ∧
    ∀ base : Heap, K.In base → base.Ns mainGlobals mg → (∀ p ∈ cs, TabB base mg p.1 p.2) → FnG l.prog w K mg base CX k fa sp
theorem walkG {l : PySem.W.OpenLaw} {n k : Nat} {q : Program} {loose : List Str} {XP : (Str → Option Value) → Heap → Prop} {YP : World → Heap → Prop} {d : DefRec} {CX : World → CXT} (h1 : l.most = some n) (h2 : n ≤ sizeLine) (h3 : d.params.defaults = []) (h4 : Room k callerA)
    (F : ∀ (w : World) (mg : Str → Option Value) (fa : Addr) (h : Heap), YP w h → h.Ns mainGlobals mg → mg d.name = some (.ref fa) → ∃ K : PySem.W.Frag, K.In h ∧ LawG l w K (CX w) k n mg fa h)
    (hCX : ∀ (w : World) (H : Hp) (s : Shared) (e : Value) (s' : Shared), CX w [] H s (fun _ _ _ => False) e s' → False) : PySem.W.WalkO q loose XP YP l.row.toRowW d [] (fun f vs => PySem.call f vs) := by
  refine Att.attach_callB h1 h3 fun w s0 s1 mg mb fa o pm cd doc a vs ns G Y _ _ _ e1 e2 e3 e4 e5 e6 => ?_
  obtain ⟨K, KX, cs, sp, t1, t2, t3, t4, t5⟩ := F w mg fa _ Y G.T.g e1
  exact law_callG KX G.T.g G.T.b G.T.builtins G.T.nolimit e6 t1 t2 t3 G.T.bmain e2 e3 (Nat.le_trans e4 h2) h4 t5 (fun H y z => t4 H a ns e4 e5 y z) fun H e s' => hCX w H s1 e s'
end
end LamX
set_option Elab.async false
set_option linter.all false
set_option maxRecDepth 100000
set_option maxHeartbeats 4000000
/-! str(a tuple of ints): some text -/
namespace L2
open PySem PySem.Spec PyProof.Rows
theorem str_of_tup {prog : Program} {w : World} {A : Around} {E : Value → Shared → Prop} {s : Shared} {a : Addr} {o : Obj} {items : Array Value} {k : Nat} {ns : List Int} {Q : Value → Shared → Prop} (hu : A.units + 3 < cLine) (ha : s.heap.get? a = some o) (hc : o.cls = .type "tuple") (hd : o.data = .seq items k) (rv : Vals (ns.map V.int) items.toList) (hn : ∀ n ∈ ns, n.natAbs.log2 < 1920) (hz : (intsT ns).length ≤ sizeLine)
    (h : ∀ (m : Str) (u tk : Tok), Q (.str m u) { s with toks := tk }) : wpAny (model prog w) A (call (.type "str") [.ref a]) Q E s :=
  callType_new F.called_str (by decide) (F.typeCall_str_1 _) (F.newCall_str_1 _) (fun obj => F.args_object_init_2 obj _) F.entry_str_new
    (meets_str_new (S := fun A R s => A.units + 1 + 1 < cLine ∧ s.heap.get? a = some o ∧ ∀ (m : Str) (u tk : Tok), R (.ok (.ret (.str m u))) { s with toks := tk })
      fun _ _ A R s hq => wpAny_strOf_slot rfl (by have := hq.1; omega) ⟨o, hq.2.1, hc⟩ F.slot_tuple_str F.slot_tuple_repr (fmt_tuple_repr hq.2.1 hc hd (reprAll_ints rv hn) hz fun m u tk _ => ⟨m, u, rfl, hq.2.2 m u tk⟩))
    ⟨by show A.units + 1 + 1 + 1 < cLine; omega, ha, fun m u tk => ⟨typeIs_str _ _ _, h m u tk⟩⟩
section
variable {X : Cx} {k : Nat}
/-- str(t) -/
theorem call_str_tup (hr : Room k X.A) : CallR X (.type "str") (fun xs H Q => ∃ (a : Addr) (ns : List Int), xs = [V.ref a] ∧ SqT X.K H a (ns.map V.int) ∧ (∀ n ∈ ns, n.natAbs.log2 < 1920) ∧ (intsT ns).length ≤ sizeLine ∧ ∀ m, Q (.str m) H) := by
  intro pins s σ H xs us Q I r h
  obtain ⟨a, ns, rfl, ht, hn, hz, q⟩ := h
  rw [Vals.ref1 r]
  obtain ⟨its, rv, ⟨o, ho, hc, n, hd⟩, _⟩ := I.tuple ht
  have hu := hr.units
  exact str_of_tup (items := its.toArray) (by omega) ho hc hd rv hn hz fun m u tk => ⟨.str m, H, I.tok _, ⟨u, rfl⟩, q m⟩
end
end L2
set_option Elab.async false
set_option linter.all false
set_option maxRecDepth 100000
set_option maxHeartbeats 4000000
namespace K01
open PySem PySem.Spec PyProof.Rows L2 L2H LamX NumT
theorem cutHead {xs : List V} {d : Nat} (h : d ≤ xs.length) : cutV xs none (some (d : Int)) = xs.take d := by
  unfold cutV
  rw [HT.sIx_none, HT.sIx_nat, Nat.sub_zero, List.drop_zero, Nat.min_eq_left h]
theorem cutFrom {xs : List V} {d : Nat} (h : d ≤ xs.length) : cutV xs (some (d : Int)) none = xs.drop d := by
  unfold cutV
  rw [HT.sIx_none, HT.sIx_nat, Nat.min_eq_left h]
  exact List.take_of_length_le (by rw [List.length_drop]; exact Nat.le_refl _)
theorem ints_rp {K : PySem.W.Frag} {b : Addr} {H : Hp} {n : Nat} : ∀ {ns : List Int}, RpA K b H n (ns.map fun i => D.sc (.int i)) (ns.map V.int)
  | [] => .nil
  | _ :: _ => .cons (Rp.sc (.int _)) ints_rp
theorem wh_true {m i : Int} (h0 : 0 ≤ i) (h1 : i < m) (h2 : m ≤ 64) : wh 0 (grt m) (.sc (.int i)) = true := by
  show (decide (0 ≤ i) && decide (i ≤ grt m)) = true
  unfold grt
  rw [if_neg (by omega), decide_eq_true h0, decide_eq_true (by omega)]
  rfl
theorem wh_none {m : Int} {d : D} (h : isI d = false) : wh 0 m d = false := by
  unfold isI at h
  unfold wh
  cases e : intD d with
  | none => rfl
  | some i =>
    rw [e] at h
    cases h
theorem all_ints {m : Int} {ns : List Int} (h : ∀ d ∈ ns, 0 ≤ d ∧ d < m) (h2 : m ≤ 64) : (ns.map fun i => D.sc (.int i)).all (wh 0 (grt m)) = true := by
  rw [List.all_eq_true]
  intro d hd
  obtain ⟨i, hi, rfl⟩ := List.mem_map.mp hd
  exact wh_true (h i hi).1 (h i hi).2 h2
/-- an odd letter -/
theorem ov_wh {K : PySem.W.Frag} {g : Bg} {H : Hp} {m : Int} {x : V} (h2 : m ≤ 64) (h : Ov 0 (m - 1) g H x) : ∃ d, Rp K g.b H 1 d x ∧ wh 0 (grt m) d = false := by
  rcases h with ⟨i, rfl, hi⟩ | h
  · refine ⟨_, Rp.sc (.int i), ?_⟩
    show (decide (0 ≤ i) && decide (i ≤ grt m)) = false
    unfold grt
    rw [if_neg (by omega), ← Bool.decide_and, decide_eq_false hi]
  · obtain ⟨d, h1, h3⟩ := h.rp (K := K)
    exact ⟨d, h1, wh_none h3⟩
theorem txt_len {m : Int} (hm : m ≤ 64) {ns : List Int} (h : ∀ d ∈ ns, 0 ≤ d ∧ d < m) : (intsT ns).length ≤ 4 * ns.length + 2 := by
  have h1 := fmt_text (ns.map fun n => ((toString n : String) : Str))
  have h2 : piled (ns.map fun n => ((toString n : String) : Str)) ≤ 4 * ns.length := by
    clear h1
    induction ns with
    | nil => decide
    | cons x xs ih =>
      have hx := h x List.mem_cons_self
      have e := toString_length_le (v := x) (by omega) (k := 2) (by decide) (by omega)
      have := ih fun y hy => h y (List.mem_cons_of_mem _ hy)
      show piled (Str.ofString (toString x) :: xs.map fun n => ((toString n : String) : Str)) ≤ _
      rw [piled_cons, List.length_cons]
      omega
  show (tupleText _).length ≤ _
  omega
theorem log_small {n : Int} (h : n.natAbs < 2 ^ 60) : n.natAbs.log2 < 1920 := by
  by_cases z : n.natAbs = 0
  · rw [z]
    decide
  · have := (Nat.log2_lt z).mpr h
    omega
section
variable {P : Program} {w : World} {K : PySem.W.Frag} {mg : Str → Option Value} {base : Heap}
def spJ (T : List (Addr × Str)) : Sp := spLR T
theorem sc_lj : FnScope ["_law_bag_here", "_law_low", "_law_high", "_law_many", "_law_word", "_law_spot", "_law_odd", "_law_item", "_law_k"] ["_law_bag_here"] (defScope (top 45)) := ⟨rfl, rfl, rfl, by decide +kernel, rfl, by decide +kernel, by decide +kernel⟩
theorem ok_lj {f : Addr} {fd : FuncData} {T : List (Addr × Str)} (F : FnP K "_law_judged" (top 45) f fd) (nd : base.NoDigits) (m_list : mg "list" = none) (m_tuple : mg "tuple" = none) (m_range : mg "range" = none) (m_max : mg "max" = none) (m_min : mg "min" = none) (m_len : mg "len" = none) (m_str : mg "str" = none) (c__law_draw : Cal P w K mg base CX0 "_law_draw" 1 ["_law_bag_here", "_law_many"] spDraw) (c__law_of : Cal P w K mg base CX0 "_law_of" 2 ["_law_bag_here", "_law_things"] spOf) (c__law_like : Cal P w K mg base CX0 "_law_like" 6 ["_law_found", "_law_due"] (spLike K NoA 5)) (c_is_number : Cal P w K mg base CX0 "is_number" 2 ["value", "least", "most"] (spNumber K)) (c_is_word : Cal P w K mg base CX0 "is_word" 3 ["value", "signs"] (spWord K)) : FnOk P w K mg base CX0 7 f fd ["_law_bag_here"] (spLR T) := by
  have sc := sc_lj
  refine F.ok sc (fun vs H Q E h => ?_) (fun cdv A outer s H vs Q E hr h => ?_)
  · obtain ⟨g, rfl, _⟩ := h
    rfl
  · obtain ⟨g, rfl, hB, hT, q⟩ := h
    have hr__law_like : Room 6 _ := hr
    have hr_is_word : Room 3 _ := hr.mono (by decide)
    have hr_is_number : Room 2 _ := hr.mono (by decide)
    have hr__law_of : Room 2 _ := hr.mono (by decide)
    have hr_str : Room 2 _ := hr.mono (by decide)
    have hr__law_draw : Room 1 _ := hr.mono (by decide)
    refine ⟨_, PSs.nox (pss_cons (ps_set (i := 1) sc.nd rfl (Or.inl rfl) (pe_op op_sub (pe_cal c__law_draw hr__law_draw rfl (pa_cons (pv 0) (pa_cons pe_int pa_nil))) pe_int))
      (pss_cons (ps_set (i := 2) sc.nd rfl (Or.inl rfl) (pe_op op_add (pv 1) (pe_cal c__law_of hr__law_of rfl (pa_cons (pv 0) (pa_cons (pe_lst (pa_cons pe_int (pa_cons pe_int (pa_cons (pe_cal c__law_draw hr__law_draw rfl (pa_cons (pv 0) (pa_cons pe_int pa_nil))) (pa_cons (pe_cal c__law_draw hr__law_draw rfl (pa_cons (pv 0) (pa_cons pe_int pa_nil))) pa_nil))))) pa_nil)))))
      (pss_cons (ps_set (i := 3) sc.nd rfl (Or.inr rfl) (pe_op op_add pe_int (pe_cal c__law_draw hr__law_draw rfl (pa_cons (pv 0) (pa_cons pe_int pa_nil)))))
      (pss_cons (ps_set (i := 4) sc.nd rfl (Or.inl rfl) (pe_callTy call_tuple_of (by rfl) m_tuple (by decide +kernel) (pa_cons (pe_lc (own := [("_law_k", 8)]) (g := gName 8) rfl sc.nd (pi_range1 rfl m_range (pa_cons (pe_cal c__law_draw hr__law_draw rfl (pa_cons (pv 0) (pa_cons pe_int pa_nil))) pa_nil)) (blkOk_by (N := ["_law_bag_here", "_law_low", "_law_high", "_law_many", "_law_word", "_law_spot", "_law_odd", "_law_item", "_law_k"]) (sc := defScope (top 45)) (by decide +kernel)) (fun _ _ _ _ _ => (pg_name (i := 8) sc.nd rfl (Or.inl rfl))) (fun _ _ _ _ _ => pts_nil) (fun _ _ _ _ _ => (pe_cal c__law_draw hr__law_draw rfl (pa_cons (pv 0) (pa_cons (pv 3) pa_nil))))) pa_nil)))
      (pss_cons (ps_par (i := 5) (j := 6) rfl sc.nd rfl rfl (by decide) rfl rfl (pa_cons (pe_cal c__law_draw hr__law_draw rfl (pa_cons (pv 0) (pa_cons (pe_op op_add (pe_callB call_len_seq (by rfl) m_len (by decide +kernel) (pa_cons (pv 4) pa_nil)) pe_int) pa_nil))) (pa_cons (pe_cal c__law_of hr__law_of rfl (pa_cons (pv 0) (pa_cons (pe_lst (pa_cons (pv 3) (pa_cons (pe_op op_sub pe_int pe_int) (pa_cons pe_bl (pa_cons pe_non (pa_cons pe_str (pa_cons (pe_tup (pa_cons pe_int pa_nil)) (pa_cons (pe_lst pa_nil) (pa_cons pe_bl (pa_cons (pe_op op_add (pv 3) pe_int) pa_nil)))))))))) pa_nil))) pa_nil)) (by rfl))
      (pss_cons (ps_for PassesOwn.never rfl (pi_list (pe_lst (pa_cons (pv 1) (pa_cons (pv 2) (pa_cons (pe_op op_sub (pv 1) pe_int) (pa_cons (pe_op op_add (pv 2) pe_int) (pa_cons (pe_op op_add (pv 1) (pe_cal c__law_draw hr__law_draw rfl (pa_cons (pv 0) (pa_cons (pe_op op_add (pe_op op_sub (pv 2) (pv 1)) pe_int) pa_nil)))) pa_nil))))))) (pg_name (i := 7) sc.nd rfl (Or.inl rfl)) (pss_one (ps_if (pt_not (pt_val (pe_cal c__law_like hr__law_like rfl (pa_cons (pe_cal c_is_number hr_is_number rfl (pa_cons (pv 7) (pa_cons (pv 1) (pa_cons (pv 2) pa_nil)))) (pa_cons (pe_cmpR op_notIn_seq (pv 7) (pe_tup (pa_cons (pe_op op_sub (pv 1) pe_int) (pa_cons (pe_op op_add (pv 2) pe_int) pa_nil))) (by with_unfolding_all rfl)) pa_nil))))) (pss_one (ps_ret pe_bl)) pss_nil)))
      (pss_cons (ps_for PassesOwn.never rfl (pi_list (pe_lst (pa_cons pe_bl (pa_cons pe_bl (pa_cons pe_non (pa_cons (pe_callTy (call_str_big nd hr) (by rfl) m_str (by decide +kernel) (pa_cons (pv 1) pa_nil)) (pa_cons (pe_tup (pa_cons (pv 1) pa_nil)) (pa_cons (pe_lst (pa_cons (pv 1) pa_nil)) (pa_cons pe_str pa_nil))))))))) (pg_name (i := 7) sc.nd rfl (Or.inl rfl)) (pss_one (ps_if (pt_not (pt_val (pe_cal c__law_like hr__law_like rfl (pa_cons (pe_cal c_is_number hr_is_number rfl (pa_cons (pv 7) (pa_cons (pe_callB (call_min2 rfl) (by rfl) m_min (by decide +kernel) (pa_cons (pv 1) (pa_cons pe_int pa_nil))) (pa_cons (pe_callB (call_max2 rfl) (by rfl) m_max (by decide +kernel) (pa_cons (pv 2) (pa_cons pe_int pa_nil))) pa_nil)))) (pa_cons pe_bl pa_nil))))) (pss_one (ps_ret pe_bl)) pss_nil)))
      (pss_cons (ps_for PassesOwn.never rfl (pi_list (pe_lst (pa_cons (pe_op (show OpR _ (binaryOp .Add) (rCatA K) from op_catA) (pe_op (show OpR _ (binaryOp .Add) (rCatA K) from op_catA) (pe_slice sl_tupA (pv 4) po_none (po_some (pv 5))) (pe_tup (pa_cons (pv 6) pa_nil))) (pe_slice sl_tupA (pv 4) (po_some (pv 5)) po_none)) (pa_cons (pe_callTy call_list_of (by rfl) m_list (by decide +kernel) (pa_cons (pv 4) pa_nil)) (pa_cons pe_non (pa_cons pe_str (pa_cons pe_int (pa_cons (pe_callTy (call_str_tup hr_str) (by rfl) m_str (by decide +kernel) (pa_cons (pv 4) pa_nil)) (pa_cons (pe_lst (pa_cons (pv 4) pa_nil)) pa_nil))))))))) (pg_name (i := 7) sc.nd rfl (Or.inl rfl)) (pss_one (ps_if (pt_not (pt_val (pe_cal c__law_like hr__law_like rfl (pa_cons (pe_cal c_is_word hr_is_word rfl (pa_cons (pv 7) (pa_cons (pv 3) pa_nil))) (pa_cons pe_bl pa_nil))))) (pss_one (ps_ret pe_bl)) pss_nil)))
      (pss_one (ps_ret (pe_cal c__law_like hr__law_like rfl (pa_cons (pe_lst (pa_cons (pe_cal c_is_word hr_is_word rfl (pa_cons (pv 4) (pa_cons (pv 3) pa_nil))) (pa_cons (pe_cal c_is_word hr_is_word rfl (pa_cons (pe_tup pa_nil) (pa_cons (pv 3) pa_nil))) (pa_cons (pe_cal c_is_word hr_is_word rfl (pa_cons (pe_op (show OpR _ (binaryOp .Add) (rCatA K) from op_catA) (pv 4) (pe_tup (pa_cons (pe_op op_sub (pv 3) pe_int) pa_nil))) (pa_cons (pv 3) pa_nil))) pa_nil)))) (pa_cons (pe_op op_rep (pe_lst (pa_cons pe_bl pa_nil)) pe_int) pa_nil))))))))))))), ?_⟩
    refine ⟨_, rfl, g, 21, rfl, hB, by decide, by decide, fun a H1 dr1 a0 a1 => ⟨_, _, rfl, rfl, ?_⟩⟩
    refine ⟨_, rfl, _, rfl, _, rfl, g, 20, rfl, dr1.2, by decide, by decide, fun b1 H2 dr2 b10 b11 => ?_⟩
    refine ⟨_, rfl, g, 100000, rfl, dr2.2, by decide, by decide, fun b2 H3 dr3 b20 b21 => ⟨(by show 4 ≤ sizeLine; decide), fun L hL => ?_⟩⟩
    have d3 := Dx.drew hB hT ((dr1.trans dr2).trans dr3)
    have s4 := Same.new (o := .lst [.int 0, .int 1, .int b1, .int b2]) hL
    refine ⟨g, L, _, rfl, d3.b.same s4, upd_same, d3.b.ne hL, (by show 1 ≤ 4; decide), (by show 4 < 1000; decide), fun v H4 hv dr4 => ?_⟩
    obtain ⟨e, rfl, e0, e1⟩ : ∃ e : Int, v = .int e ∧ 0 ≤ e ∧ e < 100000 := by
      simp only [List.mem_cons, List.not_mem_nil, or_false] at hv
      rcases hv with rfl | rfl | rfl | rfl
      · exact ⟨_, rfl, by decide, by decide⟩
      · exact ⟨_, rfl, by decide, by decide⟩
      · exact ⟨_, rfl, by omega, by omega⟩
      · exact ⟨_, rfl, by omega, by omega⟩
    have d4 := d3.trans ((Dx.same d3.b d3.t s4).trans (Dx.drew (d3.b.same s4) (tabs_same d3.t s4) dr4))
    refine ⟨_, _, rfl, rfl, ?_⟩
    clear d3 s4 dr1 dr2 dr3 dr4 hv hL b10 b11 b20 b21
    refine ⟨_, rfl, g, 64, rfl, d4.b, by decide, by decide, fun c H5 dr5 c0 c1 => ⟨_, _, rfl, rfl, ?_⟩⟩
    have d5 := d4.trans (Dx.drew d4.b d4.t dr5)
    refine ⟨_, rfl, g, 6, rfl, d5.b, by decide, by decide, fun n H6 dr6 n0 n1 => ⟨n, rfl, by omega, by omega, fun Dw hD => ?_⟩⟩
    have d6 := d5.trans (Dx.drew d5.b d5.t dr6)
    refine lc_draws (g := g) (TT := T) (j := 3) (i0 := 8) (m := 1 + c) d6.b d6.t rfl rfl (by decide) (by decide) (by omega) (by omega) (by omega) hD fun H7 ns d7 e7 b7 k7 => ?_
    have n7 : ns.length ≤ 5 := by omega
    refine ⟨Dw, _, rfl, .inl ⟨SqL.of k7, fun t ht => ?_⟩⟩
    have s8 := Same.new (o := .tup (ns.map V.int)) ht
    have k8 : upd H7 t (.tup (ns.map V.int)) t = _ := upd_same
    have d8 := (d6.trans d7).trans (Dx.same d7.b d7.t s8)
    generalize upd H7 t (.tup (ns.map V.int)) = H8 at *
    clear s8 ht d6 d7 hD k7 d4 d5 dr5 dr6
    -- the spot and the odd letter
    refine ⟨_, rfl, _, rfl, t, _, rfl, .inr (SqT.of k8), _, _, rfl, rfl, g, _, rfl, d8.b, (by rw [List.length_map]; omega), (by rw [List.length_map]; omega), fun sp H9 dr9 p0 p1 => ?_⟩
    rw [List.length_map] at p1
    have d9 := Dx.drew d8.b d8.t dr9
    have k9 := d9.tup d8.b k8
    have d9 := d8.trans d9
    refine ⟨_, rfl, _, rfl, _, _, rfl, rfl, (by show 1 ≤ sizeLine; decide), fun t1 h1 => ⟨(by show 0 ≤ sizeLine; decide), fun l0 h2 => ?_⟩⟩
    have s1 := Same.new (o := .tup [.int 0]) h1
    have k1 : upd H9 t1 (.tup [.int 0]) t1 = _ := upd_same
    generalize upd H9 t1 (.tup [.int 0]) = H10 at *
    have s2 := Same.new (o := .lst []) h2
    have k2 : upd H10 l0 (.lst []) l0 = _ := upd_same
    have n2 := (d9.b.same s1).ne h2
    have k1 := s2 _ _ k1
    generalize upd H10 l0 (.lst []) = H11 at *
    have s11 := s1.trans s2
    refine ⟨_, rfl, _, _, rfl, rfl, (by show 9 ≤ sizeLine; decide), fun L hL => ?_⟩
    have s12 := Same.new (o := .lst [.int (1 + c), .int (0 - 1), .bl true, .non, .str "0", .ref t1, .ref l0, .bl false, .int (1 + c + 7)]) hL
    have d11 := Dx.same d9.b d9.t s11
    refine ⟨g, L, _, rfl, d11.b.same s12, upd_same, d11.b.ne hL, (by show 1 ≤ 9; decide), (by show 9 < 1000; decide), fun x H13 hx dr13 => ?_⟩
    have d13 := (Dx.same d11.b d11.t s12).trans (Dx.drew (d11.b.same s12) (tabs_same d11.t s12) dr13)
    have k1 := d13.tup d11.b k1
    have k2 := d13.lst d11.b n2 k2
    have k13 := d13.tup d11.b (s11 _ _ k9)
    have hx : Ov 0 (1 + c - 1) g H13 x := by
      simp only [List.mem_cons, List.not_mem_nil, or_false] at hx
      rcases hx with rfl | rfl | rfl | rfl | rfl | rfl | rfl | rfl | rfl
      · exact .inl ⟨_, rfl, fun u => by omega⟩
      · exact .inl ⟨_, rfl, fun u => by omega⟩
      · exact .inr (.inr (.inl ⟨_, rfl⟩))
      · exact .inr (.inl rfl)
      · exact .inr (.inr (.inr (.inl ⟨_, rfl⟩)))
      · exact .inr (.inr (.inr (.inr ⟨t1, _, rfl, bag_tup d13.b k1, .inr k1, fun y hy => by rw [List.mem_singleton.mp hy]; exact .int _, by decide⟩)))
      · exact .inr (.inr (.inr (.inr ⟨l0, _, rfl, n2, .inl k2, (fun y hy => absurd hy List.not_mem_nil), by decide⟩)))
      · exact .inr (.inr (.inl ⟨_, rfl⟩))
      · exact .inl ⟨_, rfl, fun u => by omega⟩
    have d13 := d9.trans (d11.trans d13)
    clear s12 hL dr13 d11 s11 s1 s2 h1 h2 k1 k2 n2 k9 d9 dr9 k8 d8
    refine ⟨_, _, rfl, ?_⟩
    -- numbers
    refine ⟨_, rfl, _, rfl, _, rfl, _, _, rfl, rfl, _, rfl, _, _, rfl, rfl, ?_⟩
    refine ⟨_, rfl, _, rfl, _, rfl, _, rfl, _, _, rfl, rfl, _, _, rfl, rfl, g, _, rfl, d13.b, by omega, by omega, fun z H14 dr14 z0 z1 => ⟨_, _, rfl, rfl, (by show 5 ≤ sizeLine; decide), fun L5 hL5 => ?_⟩⟩
    have d14 := Dx.drew d13.b d13.t dr14
    have s15 := Same.new (o := .lst [.int (a - 10), .int (a - 10 + e), .int (a - 10 - 1), .int (a - 10 + e + 1), .int (a - 10 + z)]) hL5
    have k5 : upd H14 L5 (.lst [.int (a - 10), .int (a - 10 + e), .int (a - 10 - 1), .int (a - 10 + e + 1), .int (a - 10 + z)]) L5 = _ := upd_same
    have n5 := d14.b.ne hL5
    have d15 := d14.trans (Dx.same d14.b d14.t s15)
    have k15 := d15.tup d13.b k13
    have hx := hx.dx d13.b d15
    have d15 := d13.trans d15
    generalize upd H14 L5 (.lst [.int (a - 10), .int (a - 10 + e), .int (a - 10 - 1), .int (a - 10 + e + 1), .int (a - 10 + z)]) = H15 at *
    clear s15 d14 hL5 dr14 d13 k13
    have its : ∀ (i : Nat) (y : V), [V.int (a - 10), .int (a - 10 + e), .int (a - 10 - 1), .int (a - 10 + e + 1), .int (a - 10 + z)][i]? = some y → ∃ j : Int, y = .int j ∧ (j = a - 10 - 1 ∨ j = a - 10 + e + 1 ∨ (a - 10 ≤ j ∧ j ≤ a - 10 + e)) := fun i y hy => by
      match i, hy with
      | 0, hy => cases hy; exact ⟨_, rfl, .inr (.inr ⟨by omega, by omega⟩)⟩
      | 1, hy => cases hy; exact ⟨_, rfl, .inr (.inr ⟨by omega, by omega⟩)⟩
      | 2, hy => cases hy; exact ⟨_, rfl, .inl rfl⟩
      | 3, hy => cases hy; exact ⟨_, rfl, .inr (.inl rfl)⟩
      | 4, hy => cases hy; exact ⟨_, rfl, .inr (.inr ⟨by omega, by omega⟩)⟩
    refine ⟨L5, rfl, ⟨_, SqL.of k5⟩, for_list (K := K) (a := L5) (D := { nx := _, rt := Q, bk := fun _ _ => False, ct := fun _ _ => False }) (xs := [V.int (a - 10), .int (a - 10 + e), .int (a - 10 - 1), .int (a - 10 + e + 1), .int (a - 10 + z)]) (fun i σ H' => ∃ x7, σ = [some (.ref g.b), some (.int (a - 10)), some (.int (a - 10 + e)), some (.int (1 + c)), some (.ref t), some (.int sp), some x, x7, none] ∧ Same H15 H') ⟨none, rfl, Same.refl _⟩ (fun i σ H' _ ⟨_, _, sm⟩ => SqL.of (sm _ _ k5)) ?_ ?_⟩
    · rintro i y σ H' hy ⟨x7, rfl, sm⟩
      obtain ⟨j, rfl, hj⟩ := its i y hy
      refine ⟨_, rfl, _, rfl, _, rfl, _, _, _, rfl, .inl ⟨j, rfl, ?_⟩⟩
      refine ⟨_, rfl, _, rfl, _, _, rfl, rfl, _, rfl, _, _, rfl, rfl, (by show 2 ≤ sizeLine; decide), fun tp htp => ⟨tp, _, rfl, .inr (SqT.of upd_same), rfl, rfl, ?_⟩⟩
      have eb : (decide (a - 10 ≤ j) && decide (j ≤ a - 10 + e)) = !((a - 10 - 1 == j) || ((a - 10 + e + 1 == j) || false)) := by
        rcases hj with rfl | rfl | ⟨h1, h2⟩
        · rw [decide_eq_false (by omega), beq_self_eq_true]
          rfl
        · rw [decide_eq_false (p := a - 10 + e + 1 ≤ a - 10 + e) (by omega), beq_self_eq_true, Bool.and_false, Bool.true_or, Bool.or_true]
          rfl
        · rw [decide_eq_true h1, decide_eq_true h2, beq_eq_false_iff_ne.mpr (by omega), beq_eq_false_iff_ne.mpr (by omega)]
          rfl
      refine ⟨_, _, rfl, (by rw [eb]; exact Alk.sc (.bl _)), fun H2 s2 => ⟨_, rfl, iteF ?_⟩⟩
      exact ⟨_, rfl, sm.trans ((Same.new htp).trans s2)⟩
    clear its
    rintro σ1 H16 ⟨x7, rfl, s16⟩
    have d16 := Dx.same d15.b d15.t s16
    have k16 := s16 _ _ k15
    have hx := hx.same s16
    have d16 := d15.trans d16
    clear s16 k15 d15 k5 n5
    -- no numbers
    refine ⟨_, rfl, _, rfl, (by have : (10 : Nat) < 10 ^ 4300 := by decide +kernel
                                omega), ?_⟩
    refine ⟨_, rfl, (by show 1 ≤ sizeLine; decide), fun t2 h2 => ⟨_, rfl, (by show 1 ≤ sizeLine; decide), fun l2 h3 => ?_⟩⟩
    have s1 := Same.new (o := .tup [.int (a - 10)]) h2
    have k2 : upd H16 t2 (.tup [.int (a - 10)]) t2 = _ := upd_same
    generalize upd H16 t2 (.tup [.int (a - 10)]) = H17 at *
    have s2 := Same.new (o := .lst [.int (a - 10)]) h3
    have k3 : upd H17 l2 (.lst [.int (a - 10)]) l2 = _ := upd_same
    have k2 := s2 _ _ k2
    generalize upd H17 l2 (.lst [.int (a - 10)]) = H18 at *
    refine ⟨(by show 7 ≤ sizeLine; decide), fun L7 hL7 => ?_⟩
    have s3 := Same.new (o := .lst [.bl true, .bl false, .non, .str ((toString (a - 10) : String) : Str), .ref t2, .ref l2, .str ""]) hL7
    have k7 : upd H18 L7 (.lst [.bl true, .bl false, .non, .str ((toString (a - 10) : String) : Str), .ref t2, .ref l2, .str ""]) L7 = _ := upd_same
    have k2 := s3 _ _ k2
    have k3 := s3 _ _ k3
    have s19 := s1.trans (s2.trans s3)
    generalize upd H18 L7 (.lst [.bl true, .bl false, .non, .str ((toString (a - 10) : String) : Str), .ref t2, .ref l2, .str ""]) = H19 at *
    clear s1 s2 s3 hL7 h2 h3
    have od : ∀ y ∈ [V.bl true, .bl false, .non, .str ((toString (a - 10) : String) : Str), .ref t2, .ref l2, .str ""], Odd H19 y := fun y hy => by
      simp only [List.mem_cons, List.not_mem_nil, or_false] at hy
      rcases hy with rfl | rfl | rfl | rfl | rfl | rfl | rfl
      · exact .inr (.inl ⟨_, rfl⟩)
      · exact .inr (.inl ⟨_, rfl⟩)
      · exact .inl rfl
      · exact .inr (.inr (.inl ⟨_, rfl⟩))
      · exact .inr (.inr (.inr ⟨t2, _, rfl, .inr k2⟩))
      · exact .inr (.inr (.inr ⟨l2, _, rfl, .inl k3⟩))
      · exact .inr (.inr (.inl ⟨_, rfl⟩))
    refine ⟨L7, rfl, ⟨_, SqL.of k7⟩, for_list (K := K) (a := L7) (D := { nx := _, rt := Q, bk := fun _ _ => False, ct := fun _ _ => False }) (xs := [V.bl true, .bl false, .non, .str ((toString (a - 10) : String) : Str), .ref t2, .ref l2, .str ""]) (fun i σ H' => ∃ x7, σ = [some (.ref g.b), some (.int (a - 10)), some (.int (a - 10 + e)), some (.int (1 + c)), some (.ref t), some (.int sp), some x, x7, none] ∧ Same H19 H') ⟨_, rfl, Same.refl _⟩ (fun i σ H' _ ⟨_, _, sm⟩ => SqL.of (sm _ _ k7)) ?_ ?_⟩
    · rintro i y σ H' hy ⟨x8, rfl, sm⟩
      have oy := (od y (List.mem_of_getElem? hy)).same sm
      refine ⟨_, rfl, _, rfl, _, _, rfl, _, rfl, _, _, rfl, _, _, _, rfl, .inr ⟨oy.wh, ?_⟩⟩
      exact ⟨_, _, rfl, Alk.sc (.bl _), fun H2 s2 => ⟨_, rfl, iteF ⟨_, rfl, sm.trans s2⟩⟩⟩
    rintro σ1 H20 ⟨x8, rfl, s20⟩
    have s20 := s19.trans s20
    have k20 := s20 _ _ k16
    have hx := hx.same s20
    have d20 := d16.trans (Dx.same d16.b d16.t s20)
    clear s20 s19 k16 d16 k2 k3 k7 od
    -- no words
    obtain ⟨k, rfl⟩ : ∃ k : Nat, sp = (k : Int) := ⟨sp.toNat, (Int.toNat_of_nonneg p0).symm⟩
    have kn : k ≤ (ns.map V.int).length := by rw [List.length_map]; omega
    refine ⟨_, rfl, _, rfl, _, rfl, ?_⟩
    try dsimp only [tNil, tCons, tC, tNoPart]
    refine slT (SqT.of k20) fun p1 H21 s21 h21 => ?_
    rw [cutHead kn] at h21
    refine ⟨_, rfl, (by show 1 ≤ sizeLine; decide), fun t3 h3 => ?_⟩
    have s22 := Same.new (o := .tup [x]) h3
    have lt5 : ((ns.map V.int).take k).length ≤ 5 := by
      rw [List.length_take, List.length_map]
      exact Nat.le_trans (Nat.min_le_right _ _) n7
    have ld5 : ((ns.map V.int).drop k).length ≤ 5 := by
      rw [List.length_drop, List.length_map]
      exact Nat.le_trans (Nat.sub_le _ _) n7
    try dsimp only [tNil, tCons, tC, tNoPart]
    refine catT (same_T s22 h21) (SqT.of upd_same) (sz _ (Nat.le_trans (Nat.add_le_add_right lt5 1) (by decide))) fun p2 H23 s23 h23 => ?_
    have s23 := s21.trans (s22.trans s23)
    clear s22 h21 h3 s21
    have k23 := s23 _ _ k20
    refine ⟨_, rfl, _, rfl, _, rfl, ?_⟩
    try dsimp only [tNil, tCons, tC, tNoPart]
    refine slT (SqT.of k23) fun p3 H24 s24 h24 => ?_
    rw [cutFrom kn] at h24
    have l2 : ((ns.map V.int).take k ++ [x]).length ≤ 6 := by
      rw [List.length_append]
      exact Nat.add_le_add_right lt5 1
    try dsimp only [tNil, tCons, tC, tNoPart]
    refine catT (same_T s24 h23) h24 (sz _ (Nat.le_trans (Nat.add_le_add l2 ld5) (by decide))) fun p4 H25 s25 h25 => ?_
    have s25 := s23.trans (s24.trans s25)
    clear s24 s23 h23 h24 k23
    have hx := hx.same s25
    have k25 := s25 _ _ k20
    have d25 := d20.trans (Dx.same d20.b d20.t s25)
    clear s25 k20 d20
    refine ⟨_, rfl, t, _, rfl, .inr (SqT.of k25), fun l5 h5 => ?_⟩
    have s26 := Same.new (o := .lst (ns.map V.int)) h5
    have k5 : upd H25 l5 (.lst (ns.map V.int)) l5 = _ := upd_same
    have n5 := d25.b.ne h5
    have h25 := same_T s26 h25
    have hx := hx.same s26
    have k26 := s26 _ _ k25
    have d26 := d25.trans (Dx.same d25.b d25.t s26)
    generalize upd H25 l5 (.lst (ns.map V.int)) = H26 at *
    clear s26 h5 k25 d25
    refine ⟨_, rfl, t, ns, rfl, SqT.of k26, fun n hn => log_small (by have := b7 n hn; omega), sz _ (Nat.le_trans (txt_len (by omega) b7) (by omega)), fun txt => ?_⟩
    refine ⟨_, rfl, (by show 1 ≤ sizeLine; decide), fun l6 h6 => ?_⟩
    have s27 := Same.new (o := .lst [.ref t]) h6
    have k6 : upd H26 l6 (.lst [.ref t]) l6 = _ := upd_same
    have n6 := d26.b.ne h6
    have h25 := same_T s27 h25
    have hx := hx.same s27
    have k5 := s27 _ _ k5
    have k27 := s27 _ _ k26
    have d27 := d26.trans (Dx.same d26.b d26.t s27)
    generalize upd H26 l6 (.lst [.ref t]) = H27 at *
    clear s27 h6 k26 d26
    refine ⟨(by show 7 ≤ sizeLine; decide), fun L8 hL8 => ?_⟩
    have s28 := Same.new (o := .lst [.ref p4, .ref l5, .non, .str "", .int 0, .str txt, .ref l6]) hL8
    have k8 : upd H27 L8 (.lst [.ref p4, .ref l5, .non, .str "", .int 0, .str txt, .ref l6]) L8 = _ := upd_same
    have h25 := same_T s28 h25
    have hx := hx.same s28
    have k5 := s28 _ _ k5
    have k6 := s28 _ _ k6
    have k28 := s28 _ _ k27
    have d28 := d27.trans (Dx.same d27.b d27.t s28)
    generalize upd H27 L8 (.lst [.ref p4, .ref l5, .non, .str "", .int 0, .str txt, .ref l6]) = H28 at *
    clear s28 hL8 k27 d27
    have m64 : 1 + c ≤ 64 := by omega
    have rW : ∀ {Hx : Hp} {n : Nat}, Hx t = some (.tup (ns.map V.int)) → Rp K g.b Hx (n + 1) (.seq true (ns.map fun i => D.sc (.int i))) (.ref t) := fun h => Rp.tup (SqT.of h) ints_rp (by rw [List.length_map]; omega)
    obtain ⟨dx, rx, wx⟩ := ov_wh (K := K) m64 hx
    have bad : ∀ y ∈ [V.ref p4, .ref l5, .non, .str "", .int 0, .str txt, .ref l6], ∃ m d, Rp K g.b H28 m d y ∧ wordD (grt (1 + c)) d = false := fun y hy => by
      simp only [List.mem_cons, List.not_mem_nil, or_false] at hy
      rcases hy with rfl | rfl | rfl | rfl | rfl | rfl | rfl
      · refine ⟨2, _, Rp.tup h25 (RpA.append (RpA.append (RpA.take k ints_rp) (.cons rx .nil)) (RpA.drop k ints_rp)) ?_, ?_⟩
        · rw [List.length_append]
          exact Nat.le_trans (Nat.add_le_add l2 ld5) (by decide)
        · show (true && List.all (_ ++ [dx] ++ _) (wh 0 (grt (1 + c)))) = false
          rw [List.all_append, List.all_append, List.all_cons, wx]
          simp
      · exact ⟨1, _, Rp.lst k5 n5 ints_rp (by rw [List.length_map]; omega), rfl⟩
      · exact ⟨1, _, Rp.sc .non, rfl⟩
      · exact ⟨1, _, Rp.sc (.str _), rfl⟩
      · exact ⟨1, _, Rp.sc (.int _), rfl⟩
      · exact ⟨1, _, Rp.sc (.str _), rfl⟩
      · exact ⟨2, _, Rp.lst k6 n6 (.cons (rW k28) .nil) (by show 1 ≤ 900; decide), rfl⟩
    refine ⟨L8, rfl, ⟨_, SqL.of k8⟩, for_list (K := K) (a := L8) (D := { nx := _, rt := Q, bk := fun _ _ => False, ct := fun _ _ => False }) (xs := [V.ref p4, .ref l5, .non, .str "", .int 0, .str txt, .ref l6]) (fun i σ H' => ∃ x7, σ = [some (.ref g.b), some (.int (a - 10)), some (.int (a - 10 + e)), some (.int (1 + c)), some (.ref t), some (.int (k : Int)), some x, x7, none] ∧ Same H28 H') ⟨_, rfl, Same.refl _⟩ (fun i σ H' _ ⟨_, _, sm⟩ => SqL.of (sm _ _ k8)) ?_ ?_⟩
    · rintro i y σ H' hy ⟨x9, rfl, sm⟩
      obtain ⟨m, d, rp, wd⟩ := bad y (List.mem_of_getElem? hy)
      refine ⟨_, rfl, _, rfl, g.b, m, d, _, _, rfl, rp.same sm, fun H2 s2 => ?_⟩
      rw [wd]
      exact ⟨_, _, rfl, Alk.sc (.bl _), fun H3 s3 => ⟨_, rfl, iteF ⟨_, rfl, sm.trans (s2.trans s3)⟩⟩⟩
    clear bad
    rintro σ1 H29 ⟨x9, rfl, s29⟩
    have k29 := s29 _ _ k28
    have d29 := d28.trans (Dx.same d28.b d28.t s29)
    clear s29 k28 d28 hx rx h25 k5 k6 k8
    have wt : wordD (grt (1 + c)) (.seq true (ns.map fun i => D.sc (.int i))) = true := by
      show (true && List.all _ _) = true
      rw [Bool.true_and]
      exact all_ints b7 m64
    -- words
    refine ⟨_, rfl, _, rfl, g.b, 1, _, _, _, rfl, rW k29, fun H30 s30 => ?_⟩
    rw [wt]
    have w0 : wordD (grt (1 + c)) (.seq true []) = true := rfl
    have w2 : wordD (grt (1 + c)) (.seq true ((ns.map fun i => D.sc (.int i)) ++ [D.sc (.int (1 + c - 1))])) = true := by
      show (true && List.all ((ns.map fun i => D.sc (.int i)) ++ [D.sc (.int (1 + c - 1))]) (wh 0 (grt (1 + c)))) = true
      rw [Bool.true_and, List.all_append, all_ints b7 m64, List.all_cons, wh_true (by omega) (by omega) m64]
      rfl
    refine ⟨(by show 0 ≤ sizeLine; decide), fun t0 h0 => ?_⟩
    have s31 := Same.new (o := .tup []) h0
    refine ⟨_, rfl, g.b, 1, _, _, _, rfl, Rp.tup (vs := []) (SqT.of upd_same) .nil (by decide), fun H32 s32 => ?_⟩
    rw [w0]
    have s33 := s30.trans (s31.trans s32)
    clear s30 s31 s32 h0
    refine ⟨_, rfl, _, rfl, _, _, rfl, rfl, (by show 1 ≤ sizeLine; decide), fun t9 h9 => ?_⟩
    have s34 := Same.new (o := .tup [.int (1 + c - 1)]) h9
    have k34 := (s33.trans s34) _ _ k29
    try dsimp only [tNil, tCons, tC, tNoPart]
    refine catT (SqT.of k34) (SqT.of upd_same) (sz _ (by rw [List.length_map]; exact Nat.le_trans (Nat.add_le_add_right n7 1) (by decide))) fun p9 H35 s35 h35 => ?_
    have s36 := s33.trans (s34.trans s35)
    refine ⟨_, rfl, g.b, 1, _, _, _, rfl, Rp.tup h35 (RpA.append ints_rp (.cons (Rp.sc (.int _)) .nil)) (by rw [List.length_append, List.length_map]; exact Nat.le_trans (Nat.add_le_add_right n7 1) (by decide)), fun H37 s37 => ?_⟩
    rw [w2]
    have s38 := s36.trans s37
    refine ⟨(by show 3 ≤ sizeLine; decide), fun L3 hL3 => ?_⟩
    have s39 := Same.new (o := .lst [.bl true, .bl true, .bl true]) hL3
    refine ⟨(by show 1 ≤ sizeLine; decide), fun L4 hL4 => ?_⟩
    have s40 := Same.new (o := .lst [.bl true]) hL4
    refine ⟨L4, 3, _, rfl, rfl, upd_same, by decide, by decide, (by show 3 ≤ sizeLine; decide), fun L5 hL5 => ?_⟩
    have s41 := s40.trans (Same.new (o := .lst (List.replicate (Int.toNat 3) [V.bl true]).flatten) hL5)
    exact ⟨_, _, rfl, alk_lst (n := 4) (s41 _ _ upd_same) upd_same (by show 3 ≤ 1000; decide) (.cons (Alk.sc (.bl _)) (.cons (Alk.sc (.bl _)) (.cons (Alk.sc (.bl _)) .nil))), fun H42 s42 => q _ (d29.trans (Dx.same d29.b d29.t (s38.trans (s39.trans (s41.trans s42)))))⟩
end
end K01
set_option Elab.async false
set_option linter.all false
set_option maxRecDepth 100000
set_option maxHeartbeats 4000000
namespace K01
open PySem PySem.Spec PyProof.Rows L2 L2H LamX NumT
/-! ### any powers of the eighteen primes -/
section
variable {C CI : Addr} {H : Hp} {Q : VK} {E : XK} {x : V} {e : Ex}
theorem powerE {j : Nat} {z : Int} (hx : Rx C H x e) (hj : j < 18) (hp : ((pr j : Nat) : Int) ∈ primes) (ez : e j = z) (q : Q (.int z) H) : spPower C CI [x, .int ((pr j : Nat) : Int)] H Q E := by
  refine ⟨x, _, _, _, rfl, hx, pwp _, .inr (.inr ⟨pwp _, _, rfl, hp, fun i j2 r q2 p1 p2 p3 p4 => ?_⟩)⟩
  rw [tp_ex] at p1
  rw [bt_ex] at p3
  have e1 := pw_val _ hj p1 p2
  have e2 := pw_val _ hj p3 p4
  have e3 : (i : Int) - (j2 : Int) = z := by
    rw [← ez]
    unfold ps at e1
    unfold ng at e2
    omega
  rw [e3]
  exact q
theorem negE (hx : Rx C H x e) (hb : pw (ps e) < 2 ^ 8990) (k : ∀ v H2, Same H H2 → Rx C H2 v (fun i => -(e i)) → Q v H2) : spNeg C CI [x] H Q E := by
  refine ⟨x, _, _, rfl, hx, pwp _, hb, .inr ⟨pwp _, fun v H2 s2 h2 => k v H2 s2 ?_⟩⟩
  rw [tp_ex, bt_ex] at h2
  refine rx_of h2 fun i hi => ?_
  clear hb
  unfold ps ng
  omega
end
def rPowT (C CI : Addr) (E : XK) : R2 := fun x y H Q => ∃ (i : Int) (t b : Nat), y = .int i ∧ Rt C H x t b ∧ spRaised C CI [x, .int i] H Q E
theorem op_powT {X : Cx} {C CI : Addr} {E : XK} (o : RZx X C CI) (hr : Room 6 X.A) (hx : Passes (L2.CX X.prog X.w) X E) : OpR X (binaryOp .Pow) (rPowT C CI E) := by
  obtain ⟨g, h1, h2, F⟩ := o.pow
  obtain ⟨_, i1⟩ := o.ip
  obtain ⟨_, i2⟩ := o.irp
  refine OpR.imp (op_binI (op := .Pow) (E := E) o.sf h1 h2 o.rpw (.inl rfl) i1 i2 o.si F hr hx) fun x y H Q h => ?_
  obtain ⟨i, t, b, rfl, ⟨a, dx, rfl, ha⟩, q⟩ := h
  exact ⟨a, dx, _, i, rfl, rfl, ha, q⟩
/-- p * p over 6 -/
def eP (q : Nat) : Ex := fun i => if i = q then 2 else if i < 2 then -1 else 0
theorem eP_all : ∀ q ∈ [7, 8, 9, 10, 11, 13, 14, 15], q < 18 ∧ ((pr q : Nat) : Int) ∈ primes ∧ wt (eP q) = 4 ∧ pw (ps (eP q)) = pr q * pr q ∧ pw (ng (eP q)) = 6 ∧ eP q q = 2 ∧ eP q 1 = -1 := by decide +kernel
section
variable {P : Program} {w : World} {K : PySem.W.Frag} {mg : Str → Option Value} {base : Heap}
theorem sc_mw : FnScope ["_law_bag_here", "_law_many", "_law_prime", "_law_ratio", "_law_told"] ["_law_bag_here"] (defScope (top 46)) := ⟨rfl, rfl, rfl, by decide +kernel, rfl, by decide +kernel, by decide +kernel⟩
theorem ok_mw {f : Addr} {fd : FuncData} {C CI : Addr} {T : List (Addr × Str)} (F : FnP K "_law_more_words" (top 46) f fd) (o_R : RatZ P w K mg base C CI) (m_bool : mg "bool" = none) (c__law_draw : Cal P w K mg base CX0 "_law_draw" 1 ["_law_bag_here", "_law_many"] spDraw) (c__law_of : Cal P w K mg base CX0 "_law_of" 2 ["_law_bag_here", "_law_things"] spOf) (c__law_like : Cal P w K mg base CX0 "_law_like" 6 ["_law_found", "_law_due"] (spLike K NoA 5)) (c_is_word : Cal P w K mg base CX0 "is_word" 3 ["value", "signs"] (spWord K)) : FnOk P w K mg base CX0 7 f fd ["_law_bag_here"] (spLR T) := by
  have sc := sc_mw
  refine F.ok sc (fun vs H Q E h => ?_) (fun cdv A outer s H vs Q E hr h => ?_)
  · obtain ⟨g, rfl, _⟩ := h
    rfl
  · obtain ⟨g, rfl, hB, hT, q⟩ := h
    have hr__law_like : Room 6 _ := hr
    have hr_pow : Room 6 _ := hr
    have hr_op : Room 5 _ := hr.mono (by decide)
    have hr_ratio : Room 4 _ := hr.mono (by decide)
    have hr_power : Room 3 _ := hr.mono (by decide)
    have hr_is_word : Room 3 _ := hr.mono (by decide)
    have hr__law_of : Room 2 _ := hr.mono (by decide)
    have hr__law_draw : Room 1 _ := hr.mono (by decide)
    obtain ⟨f_power, fd_power, M_power, F_power, b_power⟩ := o_R.power
    refine ⟨_, PSs.nox (pss_cons (ps_par (i := 1) (j := 2) rfl sc.nd rfl rfl (by decide) rfl rfl (pa_cons (pe_op op_add pe_int (pe_cal c__law_draw hr__law_draw rfl (pa_cons (pv 0) (pa_cons pe_int pa_nil)))) (pa_cons (pe_cal c__law_of hr__law_of rfl (pa_cons (pv 0) (pa_cons (pe_lst (pa_cons pe_int (pa_cons pe_int (pa_cons pe_int (pa_cons pe_int (pa_cons pe_int (pa_cons pe_int (pa_cons pe_int (pa_cons pe_int pa_nil))))))))) pa_nil))) pa_nil)) (by rfl))
      (pss_cons (ps_if (pt_not (pt_val (pe_cal c__law_like hr__law_like rfl (pa_cons (pe_lst (pa_cons (pe_cal c_is_word hr_is_word rfl (pa_cons (pe_tup (pa_cons pe_int pa_nil)) (pa_cons (pv 1) pa_nil))) (pa_cons (pe_cal c_is_word hr_is_word rfl (pa_cons (pe_tup (pa_cons pe_int (pa_cons pe_int pa_nil))) (pa_cons (pv 1) pa_nil))) (pa_cons (pe_cal c_is_word hr_is_word rfl (pa_cons (pe_tup (pa_cons pe_int (pa_cons (pe_op op_sub (pv 1) pe_int) pa_nil))) (pa_cons (pv 1) pa_nil))) pa_nil)))) (pa_cons (pe_lst (pa_cons pe_bl (pa_cons pe_bl (pa_cons pe_bl pa_nil)))) pa_nil))))) (pss_one (ps_ret pe_bl)) pss_nil)
      (pss_cons (ps_set (i := 3) sc.nd rfl (Or.inl rfl) (pe_ratio o_R.c hr_ratio rfl (passN rfl rfl) (pa_cons (pe_op op_mul (pv 2) (pv 2)) (pa_cons pe_int pa_nil))))
      (pss_cons (ps_set (i := 4) sc.nd rfl (Or.inl rfl) (pe_lst (pa_cons (pe_meth (E := E0) (pv 3) o_R.c.cls M_power F_power hr_power b_power .nil (passN rfl rfl) (pa_cons (pv 2) pa_nil)) (pa_cons (pe_meth (E := E0) (pe_un (un_invZ o_R hr_op (passN rfl rfl)) (pv 3)) o_R.c.cls M_power F_power hr_power b_power .nil (passN rfl rfl) (pa_cons (pv 2) pa_nil)) (pa_cons (pe_meth (E := E0) (pe_op (op_powT o_R hr_pow (passN rfl rfl)) (pv 3) pe_int) o_R.c.cls M_power F_power hr_power b_power .nil (passN rfl rfl) (pa_cons (pv 2) pa_nil)) (pa_cons (pe_meth (E := E0) (pe_op (op_powT o_R hr_pow (passN rfl rfl)) (pv 3) pe_int) o_R.c.cls M_power F_power hr_power b_power .nil (passN rfl rfl) (pa_cons pe_int pa_nil)) pa_nil))))))
      (pss_one (ps_ret (pe_cal c__law_like hr__law_like rfl (pa_cons (pe_op op_cat (pv 4) (pe_lst (pa_cons (pe_callTy (call_boolO o_R.nt) (by rfl) m_bool (by decide +kernel) (pa_cons (pe_ratio1Z o_R hr_ratio rfl (passN rfl rfl) (pa_cons pe_int pa_nil)) pa_nil)) (pa_cons (pe_callTy (call_boolO o_R.nt) (by rfl) m_bool (by decide +kernel) (pa_cons (pv 3) pa_nil)) pa_nil)))) (pa_cons (pe_lst (pa_cons pe_int (pa_cons (pe_op op_sub pe_int pe_int) (pa_cons pe_int (pa_cons (pe_op op_sub pe_int pe_int) (pa_cons pe_bl (pa_cons pe_bl pa_nil))))))) pa_nil))))))))), ?_⟩
    refine ⟨_, rfl, g, 999, rfl, hB, by decide, by decide, fun a H1 dr1 a0 a1 => ⟨_, _, rfl, rfl, ?_⟩⟩
    refine ⟨_, rfl, (by show 8 ≤ sizeLine; decide), fun L hL => ?_⟩
    have d1 := Dx.drew hB hT dr1
    have s2 := Same.new (o := .lst [.int 19, .int 23, .int 29, .int 31, .int 37, .int 43, .int 47, .int 53]) hL
    refine ⟨g, L, _, rfl, d1.b.same s2, upd_same, d1.b.ne hL, (by show 1 ≤ 8; decide), (by show 8 < 1000; decide), fun v H3 hv dr3 => ⟨_, _, rfl, ?_⟩⟩
    have d3 := d1.trans ((Dx.same d1.b d1.t s2).trans (Dx.drew (d1.b.same s2) (tabs_same d1.t s2) dr3))
    obtain ⟨p, hp, rfl⟩ : ∃ p ∈ [7, 8, 9, 10, 11, 13, 14, 15], v = .int ((pr p : Nat) : Int) := by
      simp only [List.mem_cons, List.not_mem_nil, or_false] at hv
      rcases hv with rfl | rfl | rfl | rfl | rfl | rfl | rfl | rfl
      · exact ⟨7, by decide, rfl⟩
      · exact ⟨8, by decide, rfl⟩
      · exact ⟨9, by decide, rfl⟩
      · exact ⟨10, by decide, rfl⟩
      · exact ⟨11, by decide, rfl⟩
      · exact ⟨13, by decide, rfl⟩
      · exact ⟨14, by decide, rfl⟩
      · exact ⟨15, by decide, rfl⟩
    obtain ⟨p18, pp, wp, up, dn, e2, e1⟩ := eP_all p hp
    have p61 := pr_le p18
    clear hv s2 hL dr1 dr3 d1 hp
    -- words over many signs
    have g63 : grt (65 + a) = 63 := by
      unfold grt
      rw [if_pos (by omega)]
      rfl
    have f1 : wordD (grt (65 + a)) (.seq true [D.sc (.int 64)]) = false := by rw [g63]; rfl
    have f2 : wordD (grt (65 + a)) (.seq true [D.sc (.int 63), D.sc (.int 0)]) = true := by rw [g63]; rfl
    have f3 : wordD (grt (65 + a)) (.seq true [D.sc (.int 0), D.sc (.int (65 + a - 1))]) = false := by
      rw [g63]
      show (true && ((decide ((0 : Int) ≤ 0) && decide ((0 : Int) ≤ 63)) && ((decide (0 ≤ 65 + a - 1) && decide (65 + a - 1 ≤ 63)) && true))) = false
      rw [decide_eq_false (p := 65 + a - 1 ≤ 63) (by omega)]
      simp
    refine ⟨(by show 1 ≤ sizeLine; decide), fun t1 h1 => ⟨_, rfl, g.b, 1, _, _, _, rfl, Rp.tup (SqT.of upd_same) (.cons (Rp.sc (.int _)) .nil) (by show 1 ≤ 900; decide), fun H4 s4 => ?_⟩⟩
    rw [f1]
    have s4 := (Same.new (o := .tup [.int 64]) h1).trans s4
    refine ⟨(by show 2 ≤ sizeLine; decide), fun t2 h2 => ⟨_, rfl, g.b, 1, _, _, _, rfl, Rp.tup (SqT.of upd_same) (.cons (Rp.sc (.int _)) (.cons (Rp.sc (.int _)) .nil)) (by show 2 ≤ 900; decide), fun H5 s5 => ?_⟩⟩
    rw [f2]
    have s5 := s4.trans ((Same.new (o := .tup [.int 63, .int 0]) h2).trans s5)
    refine ⟨_, rfl, _, _, rfl, rfl, (by show 2 ≤ sizeLine; decide), fun t3 h3 => ⟨_, rfl, g.b, 1, _, _, _, rfl, Rp.tup (SqT.of upd_same) (.cons (Rp.sc (.int _)) (.cons (Rp.sc (.int _)) .nil)) (by show 2 ≤ 900; decide), fun H6 s6 => ?_⟩⟩
    rw [f3]
    have s6 := s5.trans ((Same.new (o := .tup [.int 0, .int (65 + a - 1)]) h3).trans s6)
    refine ⟨(by show 3 ≤ sizeLine; decide), fun L3 hL3 => ⟨(by show 3 ≤ sizeLine; decide), fun L4 hL4 => ?_⟩⟩
    have s7 := Same.new (o := .lst [.bl false, .bl true, .bl false]) hL3
    have s8 := Same.new (o := .lst [.bl false, .bl true, .bl false]) hL4
    refine ⟨_, _, rfl, alk_lst (n := 4) (s8 _ _ upd_same) upd_same (by show 3 ≤ 1000; decide) (.cons (Alk.sc (.bl _)) (.cons (Alk.sc (.bl _)) (.cons (Alk.sc (.bl _)) .nil))), fun H9 s9 => ⟨_, rfl, iteF ?_⟩⟩
    have d9 := d3.trans (Dx.same d3.b d3.t (s6.trans (s7.trans (s8.trans s9))))
    clear s4 s5 s6 s7 s8 s9 h1 h2 h3 hL3 hL4 d3 f1 f2 f3 g63
    -- the ratio
    have pos : (1 : Nat) ≤ pr p := by have := pr_ge p18; omega
    refine ⟨_, rfl, _, rfl, _, _, rfl, rfl, .inl ⟨by omega, by omega⟩, _, _, rfl, .inl ⟨pr p * pr p, 6, by rw [Int.natCast_mul], rfl, by decide, by decide +kernel, fun rv H10 s10 hrt => ?_⟩⟩
    have hx : Rx C H10 rv (eP p) := by
      show Rt C H10 rv (pw (ps (eP p))) (pw (ng (eP p)))
      rw [up, dn]
      exact hrt
    obtain ⟨va, dx, rfl, hva⟩ := hrt
    have d10 := d9.trans (Dx.same d9.b d9.t s10)
    clear s10 d9
    have rn : ∀ t b, (rat t b).lookup ("power" : Str) = none := fun t b => rat_no (by decide) (by decide)
    have b4 : pw (ps (eP p)) < 2 ^ 8990 := by
      rw [up]
      have h1 : pr p * pr p ≤ 61 * 61 := Nat.mul_le_mul p61 p61
      exact Nat.lt_of_le_of_lt h1 (by decide +kernel)
    refine ⟨_, rfl, va, dx, _, rfl, hva, rn _ _, _, rfl, ?_⟩
    try dsimp only [tNil, tCons, tC]
    refine powerE hx p18 pp e2 ?_
    refine ⟨_, rfl, va, dx, _, rfl, hva, negE hx b4 fun v1 H11 s11 h11 => ?_⟩
    obtain ⟨a2, dx2, rfl, ha2⟩ := id h11
    refine ⟨a2, dx2, _, rfl, ha2, rn _ _, _, rfl, ?_⟩
    try dsimp only [tNil, tCons, tC]
    refine powerE h11 p18 pp (z := -2) (by show -(eP p p) = -2; rw [e2]) ?_
    have hx := hx.same s11
    refine ⟨_, rfl, 5, _, _, rfl, hx, raisedR_ok hx (by rw [wp]; decide) fun v2 H12 s12 h12 => ?_⟩
    obtain ⟨a3, dx3, rfl, ha3⟩ := id h12
    refine ⟨a3, dx3, _, rfl, ha3, rn _ _, _, rfl, ?_⟩
    try dsimp only [tNil, tCons, tC]
    refine powerE h12 p18 pp (z := 10) (by show 5 * eP p p = 10; rw [e2]; rfl) ?_
    have hx := hx.same s12
    refine ⟨_, rfl, 12, _, _, rfl, hx, raisedR_ok hx (by rw [wp]; decide) fun v3 H13 s13 h13 => ?_⟩
    obtain ⟨a4, dx4, rfl, ha4⟩ := id h13
    refine ⟨a4, dx4, _, rfl, ha4, rn _ _, ?_⟩
    try dsimp only [tNil, tCons, tC]
    refine powerE (j := 1) h13 (by decide) (by decide) (z := -12) (by show 12 * eP p 1 = -12; rw [e1]; rfl) ?_
    refine ⟨(by show 4 ≤ sizeLine; decide), fun L5 hL5 => ?_⟩
    have s14 := (s11.trans (s12.trans s13)).trans (Same.new (o := .lst [.int 2, .int (-2), .int 10, .int (-12)]) hL5)
    have k14 : upd H13 L5 (.lst [.int 2, .int (-2), .int 10, .int (-12)]) L5 = _ := upd_same
    have hva := s14 _ _ hva
    have d14 := d10.trans (Dx.same d10.b d10.t s14)
    generalize upd H13 L5 (.lst [.int 2, .int (-2), .int 10, .int (-12)]) = H14 at *
    clear s14 s13 s12 s11 hL5 d10 h11 h12 h13 ha2 ha3 ha4 hx
    -- objects are true
    refine ⟨_, rfl, _, _, rfl, .inl ⟨0, 1, rfl, rfl, by decide, by decide +kernel, fun zv H15 s15 hz => ?_⟩⟩
    obtain ⟨a5, dx5, rfl, ha5⟩ := hz
    refine ⟨a5, dx5, _, rfl, ha5, _, rfl, va, dx, _, rfl, s15 _ _ hva, (by show 2 ≤ sizeLine; decide), fun L6 hL6 => ?_⟩
    have s16 := s15.trans (Same.new (o := .lst [.bl true, .bl true]) hL6)
    refine ⟨L5, L6, _, _, rfl, rfl, s16 _ _ k14, upd_same, (by show 6 ≤ sizeLine; decide), fun L7 hL7 => ?_⟩
    have s17 := s16.trans (Same.new (o := .lst ([.int 2, .int (-2), .int 10, .int (-12)] ++ [.bl true, .bl true])) hL7)
    refine ⟨_, _, rfl, rfl, _, _, rfl, rfl, (by show 6 ≤ sizeLine; decide), fun L8 hL8 => ?_⟩
    have s18 := Same.new (o := .lst [.int 2, .int (0 - 2), .int 10, .int (0 - 12), .bl true, .bl true]) hL8
    exact ⟨_, _, rfl, alk_lst (n := 4) (s18 _ _ upd_same) upd_same (by show 6 ≤ 1000; decide) (.cons (Alk.sc (.int _)) (.cons (Alk.sc (.int _)) (.cons (Alk.sc (.int _)) (.cons (Alk.sc (.int _)) (.cons (Alk.sc (.bl _)) (.cons (Alk.sc (.bl _)) .nil)))))), fun H19 s19 => q _ (d14.trans (Dx.same d14.b d14.t (s17.trans (s18.trans s19))))⟩
end
end K01
set_option Elab.async false
set_option linter.all false
set_option maxRecDepth 100000
set_option maxHeartbeats 4000000
/-! the end of a law, told that the digits of ints are not limited -/
namespace LamX
open PySem PySem.Spec PyProof.Rows L2
section
variable {P : Program} {w : World} {K : PySem.W.Frag} {mg mb : Str → Option Value} {CX : CXT} {k : Nat} {fa a : Addr} {cs : List (Addr × Addr)} {sp : Sp} {s1 : Shared} {vs : List Value} {ns : List Int}
theorem law_callN (KX : K.In s1.heap) (hns : s1.heap.Ns mainGlobals mg) (hb : s1.heap.Ns builtinsNs mb) (hbb : ∀ x : Str, x ≠ "__name__" → mb x = bootBuiltins x) (hlim : s1.heap.NoLimit) (hdig : s1.heap.NoDigits) (hg : s1.gens = #[])
    (tab : ∀ p ∈ cs, s1.heap.get? p.2 = some { cls := .none, data := .fields #[] }) (out : ∀ p ∈ cs, K.lookup p.2 = none) (hd : ∀ p ∈ cs, PySem.W.CodeHd s1.heap p.1 p.2)
    (bmod : ∃ (bm : Addr) (ob : Obj), mg "__builtins__" = some (.ref bm) ∧ bm ≠ builtinsNs ∧ s1.heap.get? bm = some ob ∧ ob.cls = .type "module" ∧ ob.dict = some builtinsNs ∧ ob.data = .plain)
    (ho : s1.heap.get? a = some { cls := .type "list", data := .seq vs.toArray }) (hi : IntsAre vs ns) (hl : ns.length ≤ sizeLine) (hr : Room k callerA)
    (F : ∀ base : Heap, base.NoDigits → K.In base → base.Ns mainGlobals mg → (∀ p ∈ cs, TabB base mg p.1 p.2) → FnG P w K mg base CX k fa sp)
    (hsp : ∀ H : Hp, (∀ p ∈ cs, H p.2 = some (.tbl #[])) → SqL K H a (ns.map V.int) → sp [.ref a] H (fun v _ => v = .bl true) fun _ _ _ => False)
    (hCX : ∀ H e s', CX [] H s1 (fun _ _ _ => False) e s' → False) :
    codeAny (model P w) callerA (.call (.ref fa) ⟨[.ref a], []⟩) (fun r s' => r = .ok (.ret (.bool true)) ∧ OldK s1.heap s'.heap ∧ s'.os = s1.os ∧ AllBare s'.gens) s1 := by
  -- the tables' places
  have isT : ∀ b ∈ cs.map (·.2), s1.heap.get? b = some { cls := .none, data := .fields #[] } ∧ K.lookup b = none := fun b z => by
    obtain ⟨p, hp, rfl⟩ := List.mem_map.mp z
    exact ⟨tab p hp, out p hp⟩
  have inT : ∀ p ∈ cs, p.2 ∈ cs.map (·.2) := fun p hp => List.mem_map.mpr ⟨p, hp, rfl⟩
  generalize hts : cs.map (·.2) = ts at isT inT
  have anT : a ∉ ts := fun z => by
    have := (isT a z).1
    rw [ho] at this
    have y : Data.seq vs.toArray _ = Data.fields #[] := congrArg Obj.data (Option.some.inj this)
    cases y
  let H : Hp := startH K a vs ns ts
  have hH : ∀ b u, H b = some u → (b ∈ ts ∧ u = .tbl #[]) ∨ (b ∉ ts ∧ b = a ∧ K.lookup a = none ∧ u = .frz { cls := .type "list", data := .seq vs.toArray } (.lst (ns.map V.int))) := fun b u e => start_cases e
  have hTbl : ∀ p ∈ cs, H p.2 = some (.tbl #[]) := fun p hp => if_pos (inT p hp)
  have hok : HOk P w H s1.heap := fun b u e => by
    rcases hH b u e with ⟨z, rfl⟩ | ⟨_, rfl, _, rfl⟩
    · exact (isT b z).1
    · exact ⟨ho, by rw [List.length_map]; exact hl, vs, _, vals_ints hi, ho⟩
  -- an object that is no table and not the script is none of H
  have free : ∀ {b : Addr} {o : Obj}, s1.heap.get? b = some o → (∀ xs n, o.data ≠ .seq xs n) → o.data ≠ .fields #[] → H b = none := fun {b o} e n1 n2 => by
    cases z : H b with
    | none => rfl
    | some u =>
      rcases hH b u z with ⟨y, _⟩ | ⟨_, rfl, _, _⟩
      · rw [(isT b y).1] at e
        cases e
        exact absurd rfl n2
      · rw [ho] at e
        cases e
        exact absurd rfl (n1 _ _)
  have hid : ∀ {b : Addr} {o : Obj}, s1.heap.get? b = some o → (∀ xs n, o.data ≠ .seq xs n) → o.data ≠ .fields #[] → (hidT s1.heap H).get? b = some o := fun e n1 n2 => hidT_get e (free e n1 n2)
  have hidNs : ∀ {b : Addr} {m : Str → Option Value}, s1.heap.Ns b m → (hidT s1.heap H).Ns b m := fun {b m} z => by
    obtain ⟨o, es, ep, e, d, r⟩ := z
    exact ⟨o, es, ep, hid e (fun _ _ y => by rw [d] at y; cases y) (fun y => by rw [d] at y; cases y), d, r⟩
  have KH : K.In (hidT s1.heap H) := fun b o e => hidT_get (KX b o e) (by
    cases z : H b with
    | none => rfl
    | some u =>
      rcases hH b u z with ⟨y, _⟩ | ⟨_, rfl, y, _⟩
      · rw [(isT b y).2] at e
        cases e
      · rw [y] at e
        cases e)
  have TB : ∀ p ∈ cs, TabB (hidT s1.heap H) mg p.1 p.2 := fun p hp => by
    have tp := tab p hp
    refine ⟨?_, ?_, fun z => ?_⟩
    · obtain ⟨o, us, file, tf, flags, tg, inF, text, tt, e1, r1, r2, r3, rest⟩ := hd p hp
      exact ⟨o, us, file, tf, flags, tg, inF, text, tt, hid e1 (fun _ _ z => by rw [r2] at z; cases z) (fun z => by rw [r2] at z; cases z; simp at r3), r1, r2, r3, rest⟩
    · obtain ⟨bm, ob, b1, b2, b3, b4, b5, b6⟩ := bmod
      refine ⟨bm, ob, b1, b2, fun z => ?_, fun z => ?_, hid b3 (fun _ _ z => by rw [b6] at z; cases z) (fun z => by rw [b6] at z; cases z), b4, b5, b6⟩
      · obtain ⟨o, _, _, e, d, _⟩ := hns
        rw [z, e] at b3
        cases b3
        rw [d] at b6
        cases b6
      · rw [z, tp] at b3
        cases b3
        cases b6
    · obtain ⟨o, _, _, e, d, _⟩ := hns
      rw [z, tp] at e
      cases e
      cases d
  have MD : L2.Mod K mg (hidT s1.heap H) := ⟨KH, hidNs hns, ⟨mb, hidNs hb, hbb⟩, hlim.elim fun mc z => ⟨mc, hidNs z.1, z.2⟩⟩
  have E0' : Env0 P w K mg (hidT s1.heap H) callerA [] s1 H := ⟨rfl, MD, fun _ _ e => of_hidT e, Nat.le_of_eq (hidT_size _ _), trivial, fun _ z => absurd (show _ ∈ ([] : List Addr) from z) List.not_mem_nil, hok, .of_eq hg⟩
  have hS : SqL K H a (ns.map V.int) := by
    cases z : K.lookup a with
    | none => exact .inl (.inr ⟨_, show startH K a vs ns ts a = _ from (if_neg anT).trans (if_pos ⟨rfl, z⟩)⟩)
    | some o =>
      have e := KX a o z
      rw [ho] at e
      cases e
      exact .inr ⟨_, vs.toArray, _, z, rfl, rfl, rfl, by rw [List.size_toArray, hi.length]; exact hl, vals_ints hi⟩
  refine codeAny_mono (F _ (hdig.elim fun mc z => ⟨mc, hidNs z.1, z.2⟩) KH (hidNs hns) TB callerA [] s1 H [.ref a] [.ref a] _ _ rfl hr E0' (.cons rfl .nil) (hsp H hTbl hS)) fun r s' z => ?_
  cases r with
  | error e => exact (hCX H e s' z).elim
  | ok fl =>
    cases fl with
    | next => cases z
    | brk => cases z
    | cont => cases z
    | ret u =>
      obtain ⟨v, H', os, bare, un, hok', rv, rfl⟩ := z
      cases (show u = Value.bool true from rv)
      have nofs : ∀ b : Addr, b ∉ frs ([] : List Env) := fun b z => absurd (show b ∈ ([] : List Addr) from z) List.not_mem_nil
      have kept : ∀ b o, b ∉ ts → s1.heap.get? b = some o → s'.heap.get? b = some o := fun b o nb e => by
        cases y : H b with
        | none => exact un.keep b o e y (nofs b) List.not_mem_nil
        | some u =>
          rcases hH b u y with ⟨x, _⟩ | ⟨_, rfl, _, rfl⟩
          · exact absurd x nb
          · rw [ho] at e
            cases e
            exact (hok' b _ (un.frzs b _ _ y)).1
      have more : ∀ p ∈ cs, ∃ xs : Array Value, s'.heap.get? p.2 = some { cls := .none, data := .fields xs } := fun p hp => by
        obtain ⟨m, y⟩ := un.tbls p.2 #[] (hTbl p hp)
        exact ⟨_, hok' p.2 _ y⟩
      have ofT : ∀ {b : Addr}, b ∈ ts → ∃ p ∈ cs, p.2 = b := fun {b} z => by
        rw [← hts] at z
        exact List.mem_map.mp z
      refine ⟨rfl, ⟨fun b o e => ?_, fun b o e => ?_⟩, os, bare⟩
      · by_cases c : b ∈ ts
        · obtain ⟨p, hp, rfl⟩ := ofT c
          obtain ⟨xs, y⟩ := more p hp
          rw [tab p hp] at e
          cases e
          exact .inr (.inl ⟨((hd p hp).tab (tab p hp)).isCodeTable, rfl, #[], xs, rfl, by rw [Array.empty_append]; exact y⟩)
        · exact .inl (kept b o c e)
      · by_cases c : b ∈ ts
        · obtain ⟨p, hp, rfl⟩ := ofT c
          obtain ⟨xs, y⟩ := more p hp
          exact ⟨_, y⟩
        · exact ⟨o, kept b o c e⟩
def LawN (l : PySem.W.OpenLaw) (w : World) (K : PySem.W.Frag) (CX : CXT) (k n : Nat) (mg : Str → Option Value) (fa : Addr) (h : Heap) : Prop :=
  ∃ (cs : List (Addr × Addr)) (sp : Sp), (∀ p ∈ cs, h.get? p.2 = some { cls := .none, data := .fields #[] }) ∧ (∀ p ∈ cs, K.lookup p.2 = none) ∧ (∀ p ∈ cs, PySem.W.CodeHd h p.1 p.2) ∧
    (∀ (H : Hp) (a : Addr) (ns : List Int), ns.length ≤ n → (∀ z ∈ ns, Builtin.Int.intBits z ≤ 1048576) → (∀ p ∈ cs, H p.2 = some (.tbl #[])) → SqL K H a (ns.map V.int) → sp [.ref a] H (fun v _ => v = .bl true) fun _ _ _ => False) ∧
    ∀ base : Heap, base.NoDigits → K.In base → base.Ns mainGlobals mg → (∀ p ∈ cs, TabB base mg p.1 p.2) → FnG l.prog w K mg base CX k fa sp
theorem walkN {l : PySem.W.OpenLaw} {n k : Nat} {q : Program} {loose : List Str} {XP : (Str → Option Value) → Heap → Prop} {YP : World → Heap → Prop} {d : DefRec} {CX : World → CXT} (h1 : l.most = some n) (h2 : n ≤ sizeLine) (h3 : d.params.defaults = []) (h4 : Room k callerA)
    (F : ∀ (w : World) (mg : Str → Option Value) (fa : Addr) (h : Heap), YP w h → h.Ns mainGlobals mg → mg d.name = some (.ref fa) → ∃ K : PySem.W.Frag, K.In h ∧ LawN l w K (CX w) k n mg fa h)
    (hCX : ∀ (w : World) (H : Hp) (s : Shared) (e : Value) (s' : Shared), CX w [] H s (fun _ _ _ => False) e s' → False) : PySem.W.WalkO q loose XP YP l.row.toRowW d [] (fun f vs => PySem.call f vs) := by
  refine Att.attach_callB h1 h3 fun w s0 s1 mg mb fa o pm cd doc a vs ns G Y _ _ _ e1 e2 e3 e4 e5 e6 => ?_
  obtain ⟨K, KX, cs, sp, t1, t2, t3, t4, t5⟩ := F w mg fa _ Y G.T.g e1
  exact law_callN KX G.T.g G.T.b G.T.builtins G.T.nolimit G.T.nodigits e6 t1 t2 t3 G.T.bmain e2 e3 (Nat.le_trans e4 h2) h4 t5 (fun H y z => t4 H a ns e4 e5 y z) fun H e s' => hCX w H s1 e s'
end
end LamX
set_option Elab.async false
set_option linter.all false
set_option maxRecDepth 100000
set_option maxHeartbeats 4000000
namespace K01
open PySem PySem.Spec PyProof.Rows L2 L2H LamX NumT
abbrev qW : Str := "_law_words.<locals>.<lambda>"
theorem alk_tup {K : PySem.W.Frag} {H : Hp} {p q : Addr} {ns : List Int} (hp : H p = some (.tup (ns.map V.int))) (hq : H q = some (.tup (ns.map V.int))) (l : ns.length ≤ 1000) : Alk K NoA H 1 (.ref p) (.ref q) :=
  .inr ⟨p, q, _, _, rfl, rfl, fun z => z, fun z => z, .inr ⟨SqT.of hp, SqT.of hq⟩, rfl, by rw [List.length_map]; exact l, fun i u v hu hv => by
    rw [hu] at hv
    cases hv
    obtain ⟨d, _, rfl⟩ := map_at hu
    exact Alk.sc (.int _)⟩
theorem paired_get {α β : Type} {F : α → β → Prop} {xs : List α} {ys : List β} (h : Paired F xs ys) : ∀ (i : Nat) (x : α), xs[i]? = some x → ∃ y, ys[i]? = some y ∧ F x y := by
  induction h with
  | nil => intro i x e; simp at e
  | cons a t ih =>
    intro i x e
    match i with
    | 0 =>
      cases e
      exact ⟨_, rfl, a⟩
    | i + 1 => exact ih i x e
theorem alk_words {K : PySem.W.Frag} {H : Hp} {p q : Addr} {ts us : List Addr} {ws : List (List Int)} (hp : H p = some (.lst (ts.map V.ref))) (hq : H q = some (.lst (us.map V.ref))) (h1 : Paired (fun (t : Addr) (u : List Int) => H t = some (.tup (u.map V.int))) ts ws) (h2 : Paired (fun (t : Addr) (u : List Int) => H t = some (.tup (u.map V.int))) us ws) (l : ws.length ≤ 1000) (lw : ∀ u ∈ ws, u.length ≤ 1000) : Alk K NoA H 2 (.ref p) (.ref q) :=
  alk_lstF (n := 1) hp hq (by rw [List.length_map, List.length_map, Paired.length h1, Paired.length h2]) (by rw [List.length_map, Paired.length h1]; exact l) fun i u v hu hv => by
    obtain ⟨a, ha, rfl⟩ := map_at hu
    obtain ⟨b, hb, rfl⟩ := map_at hv
    obtain ⟨x, hx, e1⟩ := paired_get h1 i a ha
    obtain ⟨y, hy, e2⟩ := paired_get h2 i b hb
    rw [hx] at hy
    cases hy
    exact alk_tup e1 e2 (lw x (List.mem_of_getElem? hx))
section
variable {P : Program} {w : World} {K : PySem.W.Frag} {mg : Str → Option Value} {base : Heap}
theorem sc_lw : FnScope ["_law_bag_here", "_law_signs", "_law_size", "_law_word", "_law_worth_here", "_law_due", "_law_k", "_law_index", "_law_odd", "_law_cap", "_law_refused", "_law_told"] ["_law_bag_here"] (defScope (top 43)) := ⟨rfl, rfl, rfl, by decide +kernel, rfl, by decide +kernel, by decide +kernel⟩
theorem ok_lw {fd : FuncData} {CB CI CT : Addr} {T : List (Addr × Str)} {PR : Addr} {t_MOST : Tok} (F : FnP K "_law_words" (top 43) (He.fAd K ("_law_words", none)) fd) (t_A : AskF P w K mg base CB CI CT) (t_B : TabB base mg (He.codeOf K ("_law_words", none)) PR) (t_m : (PR, qW) ∈ T) (t_u : ∀ p ∈ T, p.1 = PR → p.2 = qW) (aw : AwC P w K mg base CI CT)
    (m_list : mg "list" = none) (m_tuple : mg "tuple" = none) (m_range : mg "range" = none) (m_max : mg "max" = none) (m_min : mg "min" = none) (m_MOST : mg "MOST" = some (.int 4096 t_MOST)) (c__law_draw : Cal P w K mg base CX0 "_law_draw" 1 ["_law_bag_here", "_law_many"] spDraw) (c__law_of : Cal P w K mg base CX0 "_law_of" 2 ["_law_bag_here", "_law_things"] spOf) (c__law_like : Cal P w K mg base CX0 "_law_like" 6 ["_law_found", "_law_due"] (spLike K NoA 5)) (c_word_index : Cal P w K mg base CX0 "word_index" 1 ["word", "signs"] (spWordIx K)) (c_word_at : Cal P w K mg base (L2.CX P w) "word_at" 3 ["index", "length", "signs"] (spWordAt CI)) (c__law_listed : Cal P w K mg base CX0 "_law_listed" 1 ["_law_signs", "_law_size"] spListed) : FnOk P w K mg base CX0 9 (He.fAd K ("_law_words", none)) fd ["_law_bag_here"] (spLR T) := by
  have sc := sc_lw
  refine okC F sc (fun vs H Q E h => ?_) (fun A outer s H vs Q E hr h => ?_)
  · obtain ⟨g, rfl, _⟩ := h
    rfl
  · obtain ⟨g, rfl, hB, hT, q⟩ := h
    have hr_ask : Room 8 _ := hr
    have hr__law_like : Room 6 _ := hr.mono (by decide)
    have hr_lg : Room 6 _ := hr.mono (by decide)
    have hr_aw : Room 3 _ := hr.mono (by decide)
    have hr_word_at : Room 3 _ := hr.mono (by decide)
    have hr__law_of : Room 2 _ := hr.mono (by decide)
    have hr__law_draw : Room 1 _ := hr.mono (by decide)
    have hr_word_index : Room 1 _ := hr.mono (by decide)
    have hr__law_listed : Room 1 _ := hr.mono (by decide)
    obtain ⟨fa, fda, tk, gk, F_aw, m_aw, k_aw, b_aw, kb_aw⟩ := aw.ex
    have d_aw : Vals [V.int 4096] [Value.int 4096 tk] := .cons ⟨tk, rfl⟩ .nil
    refine ⟨_, PSs.nox (pss_cons (ps_set (i := 1) sc.nd rfl (Or.inr rfl) (pe_cal c__law_of hr__law_of rfl (pa_cons (pv 0) (pa_cons (pe_lst (pa_cons (pe_op op_add pe_int (pe_cal c__law_draw hr__law_draw rfl (pa_cons (pv 0) (pa_cons pe_int pa_nil)))) (pa_cons (pe_op op_add pe_int (pe_cal c__law_draw hr__law_draw rfl (pa_cons (pv 0) (pa_cons pe_int pa_nil)))) (pa_cons (pe_op op_add pe_int (pe_cal c__law_draw hr__law_draw rfl (pa_cons (pv 0) (pa_cons pe_int pa_nil)))) (pa_cons pe_int pa_nil))))) pa_nil))))
      (pss_cons (ps_set (i := 2) sc.nd rfl (Or.inr rfl) (pe_cal c__law_of hr__law_of rfl (pa_cons (pv 0) (pa_cons (pe_lst (pa_cons (pe_cal c__law_draw hr__law_draw rfl (pa_cons (pv 0) (pa_cons pe_int pa_nil))) (pa_cons (pe_cal c__law_draw hr__law_draw rfl (pa_cons (pv 0) (pa_cons pe_int pa_nil))) (pa_cons (pe_cal c__law_draw hr__law_draw rfl (pa_cons (pv 0) (pa_cons pe_int pa_nil))) pa_nil)))) pa_nil))))
      (pss_cons (ps_set (i := 3) sc.nd rfl (Or.inl rfl) (pe_callTy call_tuple_of (by rfl) m_tuple (by decide +kernel) (pa_cons (pe_lc (own := [("_law_k", 6)]) (g := gName 6) rfl sc.nd (pi_range1 rfl m_range (pa_cons (pv 2) pa_nil)) (blkOk_by (N := ["_law_bag_here", "_law_signs", "_law_size", "_law_word", "_law_worth_here", "_law_due", "_law_k", "_law_index", "_law_odd", "_law_cap", "_law_refused", "_law_told"]) (sc := defScope (top 43)) (by decide +kernel)) (fun _ _ _ _ _ => (pg_name (i := 6) sc.nd rfl (Or.inl rfl))) (fun _ _ _ _ _ => pts_nil) (fun _ _ _ _ _ => (pe_cal c__law_draw hr__law_draw rfl (pa_cons (pv 0) (pa_cons (pv 1) pa_nil))))) pa_nil)))
      (pss_cons (ps_asg (pe_tup (pa_cons pe_int (pa_cons pe_int pa_nil))) (pg_tup rfl (pgs_cons (pg_name (i := 4) sc.nd rfl (Or.inl rfl)) (pgs_cons (pg_name (i := 5) sc.nd rfl (Or.inl rfl)) pgs_nil))))
      (pss_cons (ps_for PassesOwn.never rfl (pi_range1 rfl m_range (pa_cons (pv 2) pa_nil)) (pg_name (i := 6) sc.nd rfl (Or.inl rfl)) (pss_one (ps_par (i := 5) (j := 4) rfl sc.nd rfl rfl (by decide) rfl rfl (pa_cons (pe_op op_add (pv 5) (pe_op op_mul (pe_ix (show IxR _ (rIxT K) from ix_tup) (pv 3) (pe_op op_sub (pe_op op_sub (pv 2) pe_int) (pv 6)) (fun _ _ => rfl)) (pv 4))) (pa_cons (pe_op op_mul (pv 4) (pv 1)) pa_nil)) (by rfl))))
      (pss_cons (ps_set (i := 7) sc.nd rfl (Or.inl rfl) (pe_cal c_word_index hr_word_index rfl (pa_cons (pv 3) (pa_cons (pv 1) pa_nil))))
      (pss_cons (ps_if (pt_not (pt_val (pe_cal c__law_like hr__law_like rfl (pa_cons (pe_lst (pa_cons (pv 7) (pa_cons (pe_calX c_word_at hr_word_at rfl (passN rfl rfl) (pa_cons (pv 7) (pa_cons (pv 2) (pa_cons (pv 1) pa_nil)))) (pa_cons (pe_calX c_word_at hr_word_at rfl (passN rfl rfl) (pa_cons (pv 5) (pa_cons (pv 2) (pa_cons (pv 1) pa_nil)))) pa_nil)))) (pa_cons (pe_lst (pa_cons (pv 5) (pa_cons (pv 3) (pa_cons (pv 3) pa_nil)))) pa_nil))))) (pss_one (ps_ret pe_bl)) pss_nil)
      (pss_cons (ps_set (i := 8) sc.nd rfl (Or.inr rfl) (pe_cal c__law_of hr__law_of rfl (pa_cons (pv 0) (pa_cons (pe_lst (pa_cons (pe_op op_sub pe_int pe_int) (pa_cons pe_bl (pa_cons pe_non (pa_cons pe_str (pa_cons (pe_tup (pa_cons pe_int pa_nil)) (pa_cons (pe_lst (pa_cons pe_int pa_nil)) (pa_cons (pe_op op_sub (pe_op op_sub pe_int (pe_cal c__law_draw hr__law_draw rfl (pa_cons (pv 0) (pa_cons pe_int pa_nil)))) pe_int) pa_nil)))))))) pa_nil))))
      (Evl.pss_cut (ps_set (i := 8) sc.nd rfl (Or.inr rfl) (pe_ifExp (PW.pt (pw_and (pt_cmpR op_lt (pv 4) (pe_op op_pow pe_int pe_int) (nomark _)) (pw_and1 (pt_cmpR op_eq (pe_cal c__law_draw hr__law_draw rfl (pa_cons (pv 0) (pa_cons pe_int pa_nil))) pe_int (nomark _))))) (pv 4) (pv 8)))
      (pss_cons (ps_if (pt_not (pt_val (pe_cal c__law_like hr__law_like rfl (pa_cons (pe_lawask (k := 6) (tb := fun E2 => tCall (spWordAt CI) [] E2 (tCons (tVar 8) (tCons (tVar 2) (tCons (tVar 1) tNil)))) t_A rfl t_B rfl t_m t_u hr_ask (lamS_by (show lamSB (defScope (top 43)) _ = true by decide +kernel)) rfl (fun _ _ _ _ _ => by rfl) (fun A2 o2 s2 H2 E2 f2 c2 hr2 => ?lam3)) (pa_cons (pe_lst (pa_cons pe_str (pa_cons pe_str (pa_cons (pv 8) pa_nil)))) pa_nil))))) (pss_one (ps_ret pe_bl)) pss_nil)
      (pss_cons (ps_set (i := 9) sc.nd rfl (Or.inr rfl) (pe_cal c__law_of hr__law_of rfl (pa_cons (pv 0) (pa_cons (pe_lst (pa_cons (pe_glob (v := .int 4096) rfl m_MOST ⟨_, rfl⟩) (pa_cons (pe_callB (call_max2 rfl) (by rfl) m_max (by decide +kernel) (pa_cons pe_int (pa_cons (pe_op op_sub (pe_callB (call_min2 rfl) (by rfl) m_min (by decide +kernel) (pa_cons (pv 4) (pa_cons (pe_op op_pow pe_int pe_int) pa_nil))) pe_int) pa_nil))) (pa_cons (pe_callB (call_min2 rfl) (by rfl) m_min (by decide +kernel) (pa_cons (pv 4) (pa_cons (pe_op op_sub (pe_op op_pow pe_int pe_int) pe_int) pa_nil))) (pa_cons (pe_op op_add pe_int (pe_cal c__law_draw hr__law_draw rfl (pa_cons (pv 0) (pa_cons pe_int pa_nil)))) pa_nil))))) pa_nil))))
      (pss_cons (ps_set (i := 10) sc.nd rfl (Or.inl rfl) (pe_lst (pa_cons pe_str (pa_cons pe_str (pa_cons pe_str (pa_cons (pv 4) pa_nil))))))
      (pss_cons (ps_if (pt_cmpR op_gt (pv 4) (pv 9) (nomark _)) (pss_one (ps_ret (pe_cal c__law_like hr__law_like rfl (pa_cons (pe_lawask (k := 6) (tb := fun E2 => tListG (tCallGN 2 1 (spAW CI CT) (fun vs zs => vs ++ zs) (nsE K E2) (tCons (tVar 2) (tCons (tVar 1) tNil)) (tCons (tVar 9) tNil))) t_A rfl t_B rfl t_m t_u hr_ask (lamS_by (show lamSB (defScope (top 43)) _ = true by decide +kernel)) rfl (fun _ _ _ _ _ => by rfl) (fun A2 o2 s2 H2 E2 f2 c2 hr2 => ?lam2)) (pa_cons (pv 10) pa_nil))))) pss_nil)
      (pss_cons (ps_if (pt_cmpR op_gt (pv 4) pe_int (nomark _)) (pss_one (ps_ret (pe_or (pe_cmpR op_le (pv 4) (pe_glob (v := .int 4096) rfl m_MOST ⟨_, rfl⟩) (nomark _)) (pe_one (pe_cal c__law_like hr__law_like rfl (pa_cons (pe_lawask (k := 6) (tb := fun E2 => tListG (tCallG (spAW CI CT) [.int 4096] (nsE K E2) (tCons (tVar 2) (tCons (tVar 1) tNil)))) t_A rfl t_B rfl t_m t_u hr_ask (lamS_by (show lamSB (defScope (top 43)) _ = true by decide +kernel)) rfl (fun _ _ _ _ _ => by rfl) (fun A2 o2 s2 H2 E2 f2 c2 hr2 => ?lam1)) (pa_cons (pv 10) pa_nil))))))) pss_nil)
      (pss_cons (ps_set (i := 11) sc.nd rfl (Or.inl rfl) (pe_lst (pa_cons (pe_listG (E := E0) (nm := "list") (pgen_callN F_aw hr_aw rfl m_aw k_aw kb_aw (pa_cons (pv 2) (pa_cons (pv 1) pa_nil)) (pk_cons (pv 9) pk_nil)) (passN rfl rfl) ns0 hr_lg rfl m_list (by rfl)) (pa_cons (pe_listG (E := E0) (nm := "list") (pgen_call F_aw hr_aw rfl m_aw k_aw b_aw d_aw (pa_cons (pv 2) (pa_cons (pv 1) pa_nil))) (passN rfl rfl) ns0 hr_lg rfl m_list (by rfl)) pa_nil))))
      (pss_one (ps_ret (pe_cal c__law_like hr__law_like rfl (pa_cons (pv 11) (pa_cons (pe_op op_rep (pe_lst (pa_cons (pe_cal c__law_listed hr__law_listed rfl (pa_cons (pv 1) (pa_cons (pv 2) pa_nil))) pa_nil)) pe_int) pa_nil)))))))))))))))))))), ?_⟩
    case lam3 =>
      refine pe_calX (E := E2) c_word_at (hr2.mono (by decide)) rfl ?_ ?_
      · exact passL
      · exact pa_cons (pv 8) (pa_cons (pv 2) (pa_cons (pv 1) pa_nil))
    case lam2 =>
      refine pe_listG (E := nsE K E2) (nm := "list") ?_ ?_ noStop_ns hr2 rfl m_list (by rfl)
      · exact pgen_callN (n := 2) (ks := ["most"]) F_aw (hr2.mono (by decide)) rfl m_aw k_aw kb_aw (pa_cons (pv 2) (pa_cons (pv 1) pa_nil)) (pk_cons (pv 9) pk_nil)
      · show Passes (L2.CX P w) _ (nsE K E2)
        exact passNS
    case lam1 =>
      refine pe_listG (E := nsE K E2) (nm := "list") ?_ ?_ noStop_ns hr2 rfl m_list (by rfl)
      · exact pgen_call F_aw (hr2.mono (by decide)) rfl m_aw k_aw b_aw d_aw (pa_cons (pv 2) (pa_cons (pv 1) pa_nil))
      · show Passes (L2.CX P w) _ (nsE K E2)
        exact passNS
    -- how many signs
    refine ⟨_, rfl, _, rfl, g, 4, rfl, hB, by decide, by decide, fun a1 H1 dr1 a10 a11 => ?_⟩
    refine ⟨_, _, rfl, rfl, _, rfl, g, 4, rfl, dr1.2, by decide, by decide, fun a2 H2 dr2 a20 a21 => ?_⟩
    refine ⟨_, _, rfl, rfl, _, rfl, g, 64, rfl, dr2.2, by decide, by decide, fun a3 H3 dr3 a30 a31 => ?_⟩
    refine ⟨_, _, rfl, rfl, (by show 4 ≤ sizeLine; decide), fun L hL => ?_⟩
    have d3 := Dx.drew hB hT ((dr1.trans dr2).trans dr3)
    have s4 := Same.new (o := .lst [.int (1 + a1), .int (1 + a2), .int (1 + a3), .int 64]) hL
    refine ⟨g, L, _, rfl, d3.b.same s4, upd_same, d3.b.ne hL, (by show 1 ≤ 4; decide), (by show 4 < 1000; decide), fun sv H4 hsv dr4 => ?_⟩
    obtain ⟨s, rfl, s1, s64⟩ : ∃ s : Nat, sv = .int (s : Int) ∧ 1 ≤ s ∧ s ≤ 64 := by
      simp only [List.mem_cons, List.not_mem_nil, or_false] at hsv
      have key : ∀ i : Int, 1 ≤ i → i ≤ 64 → ∃ s : Nat, V.int i = .int (s : Int) ∧ 1 ≤ s ∧ s ≤ 64 := fun i h1 h2 => ⟨i.toNat, by rw [Int.toNat_of_nonneg (by omega)], by omega, by omega⟩
      rcases hsv with rfl | rfl | rfl | rfl <;> exact key _ (by omega) (by omega)
    have d4 := d3.trans ((Dx.same d3.b d3.t s4).trans (Dx.drew (d3.b.same s4) (tabs_same d3.t s4) dr4))
    clear d3 s4 dr1 dr2 dr3 dr4 hsv hL a10 a11 a20 a21 a30 a31 a1 a2 a3 L
    -- how many letters
    refine ⟨_, rfl, _, rfl, g, 5, rfl, d4.b, by decide, by decide, fun a1 H1 dr1 a10 a11 => ?_⟩
    refine ⟨_, rfl, g, 5, rfl, dr1.2, by decide, by decide, fun a2 H2 dr2 a20 a21 => ?_⟩
    refine ⟨_, rfl, g, 100, rfl, dr2.2, by decide, by decide, fun a3 H3 dr3 a30 a31 => ?_⟩
    refine ⟨(by show 3 ≤ sizeLine; decide), fun L hL => ?_⟩
    have d3 := d4.trans (Dx.drew d4.b d4.t ((dr1.trans dr2).trans dr3))
    have s5 := Same.new (o := .lst [.int a1, .int a2, .int a3]) hL
    refine ⟨g, L, _, rfl, d3.b.same s5, upd_same, d3.b.ne hL, (by show 1 ≤ 3; decide), (by show 3 < 1000; decide), fun nv H5 hnv dr5 => ?_⟩
    obtain ⟨n, rfl, n99⟩ : ∃ n : Nat, nv = .int (n : Int) ∧ n ≤ 99 := by
      simp only [List.mem_cons, List.not_mem_nil, or_false] at hnv
      have key : ∀ i : Int, 0 ≤ i → i ≤ 99 → ∃ n : Nat, V.int i = .int (n : Int) ∧ n ≤ 99 := fun i h1 h2 => ⟨i.toNat, by rw [Int.toNat_of_nonneg (by omega)], by omega⟩
      rcases hnv with rfl | rfl | rfl <;> exact key _ (by omega) (by omega)
    have d5 := d3.trans ((Dx.same d3.b d3.t s5).trans (Dx.drew (d3.b.same s5) (tabs_same d3.t s5) dr5))
    clear d3 s5 dr1 dr2 dr3 dr5 hnv hL a10 a11 a20 a21 a30 a31 a1 a2 a3 L d4
    -- the word
    refine ⟨_, rfl, _, rfl, by omega, by omega, fun D hD => ?_⟩
    refine lc_draws (g := g) (TT := T) (j := 1) (i0 := 6) d5.b d5.t rfl rfl (by decide) (by decide) (by omega) (by omega) (by omega) hD fun H6 ns d6 e6 b6 k6 => ?_
    have e6 : ns.length = n := e6
    refine ⟨D, _, rfl, .inl ⟨SqL.of k6, fun t ht => ?_⟩⟩
    have s7 := Same.new (o := .tup (ns.map V.int)) ht
    have k7 : upd H6 t (.tup (ns.map V.int)) t = _ := upd_same
    have d7 := (d5.trans d6).trans (Dx.same d6.b d6.t s7)
    generalize upd H6 t (.tup (ns.map V.int)) = H7 at *
    clear s7 ht d5 d6 hD k6 D
    refine ⟨(by show 2 ≤ sizeLine; decide), fun tt htt => ⟨tt, _, rfl, SqT.of upd_same, rfl, _, _, rfl, _, _, rfl, rfl, ?_⟩⟩
    have s8 := Same.new (o := .tup [.int 1, .int 0]) htt
    have k8 := s8 _ _ k7
    have d8 := d7.trans (Dx.same d7.b d7.t s8)
    generalize upd H7 tt (.tup [.int 1, .int 0]) = H8 at *
    clear s8 htt d7 k7
    -- what it is worth
    have m1 : (1 : Int) ≤ (s : Int) := by omega
    have hrs : ∀ d ∈ ns.reverse, 0 ≤ d ∧ d < (s : Int) := fun d hd => b6 d (List.mem_reverse.mp hd)
    have lrs : ns.reverse.length = n := by rw [List.length_reverse, e6]
    refine ⟨_, rfl, _, rfl, by omega, by omega, for_range (D := { nx := _, rt := Q, bk := fun _ _ => False, ct := fun _ _ => False }) (lo := 0) (n := n) (fun k σ H' => ∃ v6, H' = H8 ∧ σ = [some (.ref g.b), some (.int (s : Int)), some (.int (n : Int)), some (.ref t), some (.int ((s : Int) ^ k)), some (.int (valR s (ns.reverse.take k))), v6, none, none, none, none, none]) ⟨none, rfl, rfl⟩ ?_ ?_⟩
    · rintro k σ H' hk ⟨v6, rfl, rfl⟩
      have hk2 : k < ns.reverse.length := by rw [lrs]; exact hk
      obtain ⟨d0, d1⟩ := hrs _ (List.getElem_mem hk2)
      have at_ : atI (ns.map V.int) ((n : Int) - 1 - (0 + (k : Int))) = some (.int ns.reverse[k]) := by
        have e : (n : Int) - 1 - (0 + (k : Int)) = ((n - 1 - k : Nat) : Int) := by omega
        rw [e]
        refine atI_nat ?_
        rw [List.getElem?_map, List.getElem?_eq_getElem (by omega), List.getElem_reverse]
        simp only [Option.map_some, e6]
      have e1 : valR s (ns.reverse.take k) + ns.reverse[k] * (s : Int) ^ k = valR s (ns.reverse.take (k + 1)) := by
        rw [List.take_succ, List.getElem?_eq_getElem hk2, show (some ns.reverse[k]).toList = [ns.reverse[k]] from rfl, valR_snoc, List.length_take, Nat.min_eq_left (Nat.le_of_lt hk2)]
      generalize ns.reverse[k] = d at *
      refine ⟨_, rfl, _, rfl, _, rfl, _, _, rfl, rfl, _, rfl, _, _, rfl, rfl, t, _, _, _, rfl, rfl, SqT.of k8, at_, _, rfl, _, _, rfl, rfl, .inl ⟨by omega, by omega⟩, _, _, rfl, rfl, ?_⟩
      refine ⟨_, rfl, _, rfl, _, _, rfl, rfl, .inr ⟨by omega, by omega⟩, ?_⟩
      refine ⟨_, _, rfl, some (.int (0 + (k : Int))), rfl, ?_⟩
      show [some (V.ref g.b), some (V.int (s : Int)), some (V.int (n : Int)), some (V.ref t), some (V.int ((s : Int) ^ k * (s : Int))), some (V.int (valR s (ns.reverse.take k) + d * (s : Int) ^ k)), some (V.int (0 + (k : Int))), none, none, none, none, none] = _
      rw [e1, Int.pow_succ]
    rintro σ8 H8' ⟨v6, eH, rfl⟩
    subst eH
    have vd := valR_bd m1 hrs
    have lv := lastOf_val m1 hrs
    rw [lrs] at vd lv
    have wp : ((s ^ n : Nat) : Int) = (s : Int) ^ n := by rw [Int.natCast_pow]
    have tk : valR (s : Int) (ns.reverse.take n) = valR (s : Int) ns.reverse := by rw [List.take_of_length_le (Nat.le_of_eq lrs)]
    rw [tk, ← wp]
    rw [← wp] at vd
    have vF := valF_rev (s : Int) ns
    have lv2 : (lastOf (s : Int) n (valR (s : Int) ns.reverse)).reverse = ns := by rw [lv, List.reverse_reverse]
    clear tk lv lrs hrs wp
    generalize valR (s : Int) ns.reverse = due at *
    -- its index
    refine ⟨_, rfl, _, rfl, t, ns, _, rfl, SqT.of k8, by omega, by omega, ?_⟩
    have vF : List.foldl (fun i d => i * (s : Int) + d) 0 ns = due := vF
    rw [vF]
    have vd2 : due ≤ (s : Int) ^ n - 1 := by
      rw [← Int.natCast_pow]
      exact vd.2
    have l99 : ns.length ≤ 1000 := by omega
    refine ⟨_, rfl, _, rfl, _, rfl, _, rfl, _, n, _, rfl, by omega, by omega, by omega, .inl ⟨due, rfl, vd.1, vd2, fun p1 H9 hp1 s9 h9 => ?_⟩⟩
    refine ⟨_, rfl, _, rfl, _, rfl, _, n, _, rfl, by omega, by omega, by omega, .inl ⟨due, rfl, vd.1, vd2, fun p2 H10 hp2 s10 h10 => ⟨(by show 3 ≤ sizeLine; decide), fun L1 hL1 => ?_⟩⟩⟩
    have s11 := s10.trans (Same.new (o := .lst [.int due, .ref p1, .ref p2]) hL1)
    have h10 := Same.new (o := .lst [.int due, .ref p1, .ref p2]) hL1 _ _ h10
    refine ⟨_, rfl, _, rfl, _, rfl, (by show 3 ≤ sizeLine; decide), fun L2 hL2 => ?_⟩
    have s12 := Same.new (o := .lst [.int due, .ref t, .ref t]) hL2
    rw [lv2] at h9 h10
    refine ⟨_, _, rfl, alk_lst (n := 4) (s12 _ _ upd_same) upd_same (by show 3 ≤ 1000; decide) (.cons (Alk.sc (.int _)) (.cons ((alk_tup ((s11.trans s12) _ _ h9) ((s9.trans (s11.trans s12)) _ _ k8) l99).mono (by decide)) (.cons ((alk_tup (s12 _ _ h10) ((s9.trans (s11.trans s12)) _ _ k8) l99).mono (by decide)) .nil))), fun H13 s13 => ⟨_, rfl, iteF ?_⟩⟩
    have d13 := d8.trans (Dx.same d8.b d8.t (s9.trans (s11.trans (s12.trans s13))))
    clear s9 s11 s12 s13 h9 h10 hp1 hp2 hL1 hL2 d8 k8 lv2 vF
    -- an odd index
    refine ⟨_, rfl, _, _, rfl, rfl, (by show 1 ≤ sizeLine; decide), fun t1 h1 => ⟨(by show 1 ≤ sizeLine; decide), fun l0 h2 => ?_⟩⟩
    have s1' := Same.new (o := .tup [.int 0]) h1
    have k1 : upd H13 t1 (.tup [.int 0]) t1 = _ := upd_same
    generalize upd H13 t1 (.tup [.int 0]) = H1 at *
    have s2' := Same.new (o := .lst [.int 0]) h2
    have k2 : upd H1 l0 (.lst [.int 0]) l0 = _ := upd_same
    have n2 := (d13.b.same s1').ne h2
    have k1 := s2' _ _ k1
    generalize upd H1 l0 (.lst [.int 0]) = H2 at *
    have d2 := d13.trans (Dx.same d13.b d13.t (s1'.trans s2'))
    clear s1' s2' h1 h2 d13
    refine ⟨_, rfl, g, 1000000, rfl, d2.b, by decide, by decide, fun j H3 dr3 j0 j1 => ⟨_, _, rfl, rfl, _, _, rfl, rfl, (by show 7 ≤ sizeLine; decide), fun L hL => ?_⟩⟩
    have d3 := Dx.drew d2.b d2.t dr3
    have s4 := Same.new (o := .lst [.int (0 - 1), .bl true, .non, .str "0", .ref t1, .ref l0, .int (0 - j - 1)]) hL
    refine ⟨g, L, _, rfl, d3.b.same s4, upd_same, d3.b.ne hL, (by show 1 ≤ 7; decide), (by show 7 < 1000; decide), fun x H4 hx dr4 => ?_⟩
    have d4 := d3.trans ((Dx.same d3.b d3.t s4).trans (Dx.drew (d3.b.same s4) (tabs_same d3.t s4) dr4))
    have k1 := d4.tup d2.b k1
    have k2 := d4.lst d2.b n2 k2
    have d4 := d2.trans d4
    have hx : Wo 0 g H4 x := by
      simp only [List.mem_cons, List.not_mem_nil, or_false] at hx
      rcases hx with rfl | rfl | rfl | rfl | rfl | rfl | rfl
      · exact .inl ⟨_, rfl, by decide⟩
      · exact .inr (.inr (.inl ⟨_, rfl⟩))
      · exact .inr (.inl rfl)
      · exact .inr (.inr (.inr (.inl ⟨_, rfl⟩)))
      · exact .inr (.inr (.inr (.inr ⟨t1, _, rfl, bag_tup d4.b k1, .inr k1, fun y hy => by rw [List.mem_singleton.mp hy]; exact .int _, by decide⟩)))
      · exact .inr (.inr (.inr (.inr ⟨l0, _, rfl, n2, .inl k2, fun y hy => by rw [List.mem_singleton.mp hy]; exact .int _, by decide⟩)))
      · exact .inl ⟨_, rfl, by omega⟩
    clear s4 hL dr3 dr4 d3 d2 k1 k2 n2 j0 j1
    -- or the number of the words
    refine ⟨fun σ' H' => ∃ x v6, σ' = [some (.ref g.b), some (.int (s : Int)), some (.int (n : Int)), some (.ref t), some (.int ((s ^ n : Nat) : Int)), some (.int due), v6, some (.int due), some x, none, none, none] ∧ Dx g T H H' ∧ Ov 0 ((s ^ n : Nat) - 1) g H' x, ?_, ?_⟩
    · have ho : Ov 0 (((s ^ n : Nat) : Int) - 1) g H4 x := hx.imp (fun ⟨i, e, z⟩ => ⟨i, e, fun u => by omega⟩) id
      have hw : ∀ Hx, Ov 0 (((s ^ n : Nat) : Int) - 1) g Hx (.int ((s ^ n : Nat) : Int)) := fun Hx => .inl ⟨_, rfl, fun u => by omega⟩
      clear hx
      generalize ((s ^ n : Nat) : Int) = z at *
      refine ⟨_, rfl, _, _, rfl, rfl, ⟨by decide, by decide, by decide⟩, _, _, rfl, rfl, _, rfl, ?_⟩
      refine ite2 (fun _ => ?_) (fun _ => ⟨_, rfl, _, _, rfl, d4, ho⟩)
      refine ⟨_, rfl, g, 2, rfl, d4.b, by decide, by decide, fun b H5 dr5 b0 b1 => ⟨rfl, _, rfl, ?_⟩⟩
      have d5 := Dx.drew d4.b d4.t dr5
      exact ite2 (fun _ => ⟨_, rfl, _, _, rfl, d4.trans d5, hw _⟩) (fun _ => ⟨_, rfl, _, _, rfl, d4.trans d5, ho.dx d4.b d5⟩)
    clear hx d4
    rintro σ9 H9 ⟨x, v6, rfl, d9, hx⟩
    -- word_at of it
    refine ⟨d9.t, fun H7 e7 t7 => ?_⟩
    have d7 := Dx.ext d9.b e7 t7
    have hb : Bad H7 0 ((s : Int) ^ n - 1) x := by
      have := (hx.dx d9.b d7).bad
      rwa [Int.natCast_pow] at this
    refine ⟨_, rfl, _, rfl, _, rfl, _, n, _, rfl, by omega, by omega, by omega, .inr ⟨hb, ask_inv fun l1 H10 hl1 s10 h10 => ?_⟩⟩
    have d10 := d7.trans (Dx.same d7.b d7.t s10)
    have hx := hx.dx d9.b d10
    have d10 := d9.trans d10
    clear d7 e7 t7 s10 hl1 d9 hb
    refine ⟨_, rfl, (by show 3 ≤ sizeLine; decide), fun L1 hL1 => ?_⟩
    have s11 := Same.new (o := .lst [.str "InvalidNumber", .str "InvalidNumber", x]) hL1
    refine ⟨_, _, rfl, (alk_lst (n := 1) (s11 _ _ h10) upd_same (by show 3 ≤ 1000; decide) (.cons (Alk.sc (.str _)) (.cons (Alk.sc (.str _)) (.cons (hx.same s11).sv.alk .nil)))).mono (by decide), fun H12 s12 => ⟨_, rfl, iteF ?_⟩⟩
    have d12 := d10.trans (Dx.same d10.b d10.t (s11.trans s12))
    clear s11 s12 hL1 h10 d10 hx
    -- the cap
    have p9 : CPow 10 9 := ⟨by decide, by decide, by decide⟩
    refine ⟨_, rfl, _, rfl, _, _, rfl, rfl, p9, _, _, rfl, _, _, rfl, rfl, _, _, rfl, _, rfl, _, _, rfl, rfl, p9, _, _, rfl, rfl, _, _, rfl, ?_⟩
    refine ⟨_, rfl, g, 300, rfl, d12.b, by decide, by decide, fun b H13 dr13 b0 b1 => ⟨_, _, rfl, rfl, (by show 4 ≤ sizeLine; decide), fun L hL => ?_⟩⟩
    have d13 := d12.trans (Dx.drew d12.b d12.t dr13)
    refine ⟨g, L, _, rfl, d13.b.same (Same.new hL), upd_same, d13.b.ne hL, (by show 1 ≤ 4; decide), (by show 4 < 1000; decide), fun v H14 hv dr14 => ?_⟩
    obtain ⟨cap, rfl⟩ : ∃ cap : Int, v = .int cap := by
      simp only [List.mem_cons, List.not_mem_nil, or_false] at hv
      rcases hv with e | e | e | e <;> exact ⟨_, e⟩
    have d14 := d13.trans ((Dx.same d13.b d13.t (Same.new hL)).trans (Dx.drew (d13.b.same (Same.new hL)) (tabs_same d13.t (Same.new hL)) dr14))
    clear d13 d12 dr13 dr14 hL hv b0 b1 p9
    refine ⟨_, rfl, (by show 4 ≤ sizeLine; decide), fun Lr hLr => ?_⟩
    have s15 := Same.new (o := .lst [.str "TooMany", .str "TooMany", .str "words", .int ((s ^ n : Nat) : Int)]) hLr
    have kr : upd H14 Lr (.lst [.str "TooMany", .str "TooMany", .str "words", .int ((s ^ n : Nat) : Int)]) Lr = _ := upd_same
    have nr := d14.b.ne hLr
    have d15 := d14.trans (Dx.same d14.b d14.t s15)
    generalize upd H14 Lr (.lst [.str "TooMany", .str "TooMany", .str "words", .int ((s ^ n : Nat) : Int)]) = H15 at *
    clear s15 hLr d14
    have told : ∀ {H2 : Hp} {l : Addr}, H2 l = some (.lst [.str "TooMany", .str "TooMany", .str "words", .int ((s ^ n : Nat) : Int)]) → H2 Lr = some (.lst [.str "TooMany", .str "TooMany", .str "words", .int ((s ^ n : Nat) : Int)]) → Alk K NoA H2 5 (.ref l) (.ref Lr) := fun h1 h2 => alk_lst (n := 4) h1 h2 (by show 4 ≤ 1000; decide) (.cons (Alk.sc (.str _)) (.cons (Alk.sc (.str _)) (.cons (Alk.sc (.str _)) (.cons (Alk.sc (.int _)) .nil))))
    refine ⟨_, rfl, _, rfl, _, _, rfl, rfl, _, rfl, ?_⟩
    by_cases c1 : cap < ((s ^ n : Nat) : Int)
    · refine iteT_of (decide_eq_true c1) ?_
      refine ⟨d15.t, fun H7 e7 t7 => ?_⟩
      have d7 := Dx.ext d15.b e7 t7
      refine ⟨_, rfl, _, rfl, _, rfl, rfl, rfl, _, _, _, rfl, .inr ⟨n, rfl, n99, .inr ⟨s, rfl, s1, s64, .inl ⟨c1, tm_ns aw.sT (ask_tm fun l H8 hl s8 h8 => ?_)⟩⟩⟩⟩
      have kr8 := s8 _ _ (d7.lst d15.b nr kr)
      refine ⟨_, rfl, _, _, rfl, told h8 kr8, fun H9 s9 => q _ (d15.trans (d7.trans (Dx.same d7.b d7.t (s8.trans s9))))⟩
    refine iteF_of (decide_eq_false c1) ?_
    refine ⟨_, rfl, _, _, rfl, rfl, _, rfl, ?_⟩
    by_cases c2 : 300 < ((s ^ n : Nat) : Int)
    · refine iteT_of (decide_eq_true c2) ?_
      refine ⟨_, rfl, _, _, rfl, rfl, _, rfl, ?_⟩
      by_cases c3 : ((s ^ n : Nat) : Int) ≤ 4096
      · exact iteT_of (decide_eq_true c3) (q _ d15)
      refine iteF_of (decide_eq_false c3) ?_
      refine ⟨d15.t, fun H7 e7 t7 => ?_⟩
      have d7 := Dx.ext d15.b e7 t7
      refine ⟨_, rfl, _, rfl, _, _, _, rfl, .inr ⟨n, rfl, n99, .inr ⟨s, rfl, s1, s64, .inl ⟨by omega, tm_ns aw.sT (ask_tm fun l H8 hl s8 h8 => ?_)⟩⟩⟩⟩
      have kr8 := s8 _ _ (d7.lst d15.b nr kr)
      refine ⟨_, rfl, _, _, rfl, told h8 kr8, fun H9 s9 => q _ (d15.trans (d7.trans (Dx.same d7.b d7.t (s8.trans s9))))⟩
    refine iteF_of (decide_eq_false c2) ?_
    clear told
    have h300 : s ^ n ≤ 300 := by omega
    have wl : ∀ j, (wordsL s j).length = s ^ j := fun j => by rw [wordsL_at s s1 j, List.length_map, List.length_range]
    have wlen : (wordsL s n).length ≤ 1000 := by rw [wl]; omega
    have wu : ∀ u ∈ wordsL s n, u.length ≤ 1000 := fun u hu => by rw [wordsL_len s n u hu]; omega
    refine ⟨_, rfl, _, rfl, _, rfl, rfl, rfl, _, _, _, rfl, .inr ⟨n, rfl, n99, .inr ⟨s, rfl, s1, s64, .inr ⟨by omega, by omega, fun ts H16 s16 hp l3 hl3 => ?_⟩⟩⟩⟩
    have s17 := Same.new (o := .lst (ts.map V.ref)) hl3
    have k3 : upd H16 l3 (.lst (ts.map V.ref)) l3 = _ := upd_same
    have hp := Paired.mapP hp fun t u z => s17 _ _ z
    have s17 := s16.trans s17
    generalize upd H16 l3 (.lst (ts.map V.ref)) = H17 at *
    refine ⟨_, rfl, _, rfl, _, _, _, rfl, .inr ⟨n, rfl, n99, .inr ⟨s, rfl, s1, s64, .inr ⟨by omega, by omega, fun us H18 s18 hq l4 hl4 => ?_⟩⟩⟩⟩
    have s19 := Same.new (o := .lst (us.map V.ref)) hl4
    have k4 : upd H18 l4 (.lst (us.map V.ref)) l4 = _ := upd_same
    have hq := Paired.mapP hq fun t u z => s19 _ _ z
    have s19 := s18.trans s19
    have hp := Paired.mapP hp fun t u z => s19 _ _ z
    have k3 := s19 _ _ k3
    have s19 := s17.trans s19
    generalize upd H18 l4 (.lst (us.map V.ref)) = H19 at *
    clear s16 s17 s18 hl3 hl4
    refine ⟨(by show 2 ≤ sizeLine; decide), fun L5 hL5 => ?_⟩
    have s20 := Same.new (o := .lst [.ref l3, .ref l4]) hL5
    have k5 : upd H19 L5 (.lst [.ref l3, .ref l4]) L5 = _ := upd_same
    have hp := Paired.mapP hp fun t u z => s20 _ _ z
    have hq := Paired.mapP hq fun t u z => s20 _ _ z
    have k3 := s20 _ _ k3
    have k4 := s20 _ _ k4
    have s20 := s19.trans s20
    generalize upd H19 L5 (.lst [.ref l3, .ref l4]) = H20 at *
    clear s19 hL5
    refine ⟨_, rfl, _, rfl, _, rfl, s, n, rfl, by omega, by omega, fun j hj => by rw [wl]; have := Nat.pow_le_pow_right s1 hj; omega, fun v H21 s21 hw => ⟨(by show 1 ≤ sizeLine; decide), fun La hLa => ?_⟩⟩
    obtain ⟨a, vs, rfl, ka, hv⟩ := hw
    have s22 := Same.new (o := .lst [.ref a]) hLa
    refine ⟨La, 2, _, rfl, rfl, upd_same, by decide, by decide, (by show 2 ≤ sizeLine; decide), fun Lb hLb => ?_⟩
    have s23 := s22.trans (Same.new (o := .lst (List.replicate (Int.toNat 2) [V.ref a]).flatten) hLb)
    have s24 := s21.trans s23
    have kb : upd (upd H21 La (.lst [.ref a])) Lb (.lst (List.replicate (Int.toNat 2) [V.ref a]).flatten) Lb = some (.lst [.ref a, .ref a]) := upd_same
    generalize upd (upd H21 La (.lst [.ref a])) Lb (.lst (List.replicate (Int.toNat 2) [V.ref a]).flatten) = H24 at *
    have hp := Paired.mapP hp fun t u z => s24 _ _ z
    have hq := Paired.mapP hq fun t u z => s24 _ _ z
    have hv := Paired.mapP hv fun t u z => s23 _ _ z
    refine ⟨_, _, rfl, alk_lst (n := 4) (s24 _ _ k5) kb (by show 2 ≤ 1000; decide) (.cons ((alk_words (s24 _ _ k3) (s23 _ _ ka) hp hv wlen wu).mono (by decide)) (.cons ((alk_words (s24 _ _ k4) (s23 _ _ ka) hq hv wlen wu).mono (by decide)) .nil)), fun H25 s25 => q _ (d15.trans (Dx.same d15.b d15.t (s20.trans (s24.trans s25))))⟩
end
end K01
set_option Elab.async false
set_option linter.all false
set_option maxRecDepth 100000
set_option maxHeartbeats 4000000
namespace K01
open PySem PySem.Spec PyProof.Rows L2 L2H LamX NumT
abbrev qG : Str := "_law_refused_words.<locals>.<lambda>"
section
variable {P : Program} {w : World} {K : PySem.W.Frag} {mg : Str → Option Value} {base : Heap}
theorem sc_rw : FnScope ["_law_bag_here", "_law_odds", "_law_bad", "_law_worse", "_law_asks", "_law_size", "_law_odd"] ["_law_bag_here"] (defScope (top 44)) := ⟨rfl, rfl, rfl, by decide +kernel, rfl, by decide +kernel, by decide +kernel⟩
theorem ok_rw {fd : FuncData} {CB CI CT : Addr} {T : List (Addr × Str)} {PR : Addr} (F : FnP K "_law_refused_words" (top 44) (He.fAd K ("_law_refused_words", none)) fd) (t_A : AskF P w K mg base CB CI CT) (t_B : TabB base mg (He.codeOf K ("_law_refused_words", none)) PR) (t_m : (PR, qG) ∈ T) (t_u : ∀ p ∈ T, p.1 = PR → p.2 = qG) (aw : AwC P w K mg base CI CT)
    (m_list : mg "list" = none) (c__law_draw : Cal P w K mg base CX0 "_law_draw" 1 ["_law_bag_here", "_law_many"] spDraw) (c__law_of : Cal P w K mg base CX0 "_law_of" 2 ["_law_bag_here", "_law_things"] spOf) (c__law_like : Cal P w K mg base CX0 "_law_like" 6 ["_law_found", "_law_due"] (spLike K NoA 5)) : FnOk P w K mg base CX0 9 (He.fAd K ("_law_refused_words", none)) fd ["_law_bag_here"] (spLR T) := by
  have sc := sc_rw
  refine okC F sc (fun vs H Q E h => ?_) (fun A outer s H vs Q E hr h => ?_)
  · obtain ⟨g, rfl, _⟩ := h
    rfl
  · obtain ⟨g, rfl, hB, hT, q⟩ := h
    have hr_ask : Room 8 _ := hr
    have hr__law_like : Room 6 _ := hr.mono (by decide)
    have hr__law_of : Room 2 _ := hr.mono (by decide)
    have hr__law_draw : Room 1 _ := hr.mono (by decide)
    obtain ⟨fa, fda, tk, gk, F_aw, m_aw, k_aw, b_aw, kb_aw⟩ := aw.ex
    have d_aw : Vals [V.int 4096] [Value.int 4096 tk] := .cons ⟨tk, rfl⟩ .nil
    refine ⟨_, PSs.nox (pss_cons (ps_set (i := 1) sc.nd rfl (Or.inl rfl) (pe_lst (pa_cons pe_bl (pa_cons pe_bl (pa_cons pe_non (pa_cons pe_str (pa_cons (pe_tup (pa_cons pe_int pa_nil)) (pa_cons (pe_lst (pa_cons pe_int pa_nil)) (pa_cons (pe_op op_sub pe_int pe_int) (pa_cons (pe_op op_sub (pe_op op_sub pe_int pe_int) (pe_cal c__law_draw hr__law_draw rfl (pa_cons (pv 0) (pa_cons pe_int pa_nil)))) pa_nil))))))))))
      (pss_cons (ps_asg (pe_tup (pa_cons (pe_cal c__law_of hr__law_of rfl (pa_cons (pv 0) (pa_cons (pe_op op_cat (pv 1) (pe_lst (pa_cons pe_int pa_nil))) pa_nil))) (pa_cons (pe_cal c__law_of hr__law_of rfl (pa_cons (pv 0) (pa_cons (pe_op op_cat (pv 1) (pe_lst (pa_cons pe_int (pa_cons pe_int pa_nil)))) pa_nil))) pa_nil))) (pg_tup rfl (pgs_cons (pg_name (i := 2) sc.nd rfl (Or.inr rfl)) (pgs_cons (pg_name (i := 3) sc.nd rfl (Or.inr rfl)) pgs_nil))))
      (pss_cons (ps_set (i := 4) sc.nd rfl (Or.inl rfl) (pe_lst (pa_cons (pe_lawask (k := 6) (tb := fun E2 => tListG (tCallG (spAW CI CT) [.int 4096] (nsE K E2) (tCons (tVar 2) (tCons (tVar 3) tNil)))) t_A rfl t_B rfl t_m t_u hr_ask (lamS_by (show lamSB (defScope (top 44)) _ = true by decide +kernel)) rfl (fun _ _ _ _ _ => by rfl) (fun A2 o2 s2 H2 E2 f2 c2 hr2 => ?lam3)) (pa_cons (pe_lawaskD (k := 6) (tb := fun E2 => tListG (tCallGN 2 1 (spAW CI CT) (fun vs zs => vs ++ zs) (nsE K E2) (tCons (tVar 2) (tCons (tC (.int 2)) tNil)) (tCons (tC (.int 1)) tNil))) t_A rfl t_B rfl t_m t_u hr_ask (lamSD_by (a := "_law_a") (show lamSDB ["_law_bag_here", "_law_odds", "_law_bad", "_law_worse", "_law_asks", "_law_size", "_law_odd"] "_law_a" (defScope (top 44)) _ = true by decide +kernel)) rfl rfl (fun _ _ _ _ _ _ _ => ⟨_, rfl, rfl⟩) (fun A2 o2 s2 H2 E2 f2 c2 hr2 => ?lam2)) pa_nil))))
      (pss_cons (ps_set (i := 5) sc.nd rfl (Or.inr rfl) (pe_cal c__law_draw hr__law_draw rfl (pa_cons (pv 0) (pa_cons pe_int pa_nil))))
      (pss_cons (ps_expr (pe_bm PySem.F.plainAttrs_list PySem.F.slot_list_append PySem.F.type_list_append mt_append (pv 4) (pa_cons (pe_lawask (k := 6) (tb := fun E2 => tListG (tCallGN 2 1 (spAW CI CT) (fun vs zs => vs ++ zs) (nsE K E2) (tCons (tVar 5) (tCons (tVar 3) tNil)) (tCons (tC (.int 1)) tNil))) t_A rfl t_B rfl t_m t_u hr_ask (lamS_by (show lamSB (defScope (top 44)) _ = true by decide +kernel)) rfl (fun _ _ _ _ _ => by rfl) (fun A2 o2 s2 H2 E2 f2 c2 hr2 => ?lam1)) pa_nil)))
      (pss_one (ps_ret (pe_cal c__law_like hr__law_like rfl (pa_cons (pv 4) (pa_cons (pe_lc (own := [("_law_odd", 6)]) (g := gName 6) rfl sc.nd (pi_list (pe_lst (pa_cons (pv 2) (pa_cons (pv 2) (pa_cons (pv 3) pa_nil))))) (blkOk_by (N := ["_law_bag_here", "_law_odds", "_law_bad", "_law_worse", "_law_asks", "_law_size", "_law_odd"]) (sc := defScope (top 44)) (by decide +kernel)) (fun _ _ _ _ _ => (pg_name (i := 6) sc.nd rfl (Or.inl rfl))) (fun _ _ _ _ _ => pts_nil) (fun _ _ _ _ _ => (pe_lst (pa_cons pe_str (pa_cons pe_str (pa_cons (pv 6) pa_nil)))))) pa_nil)))))))))), ?_⟩
    case lam3 =>
      refine pe_listG (E := nsE K E2) (nm := "list") ?_ ?_ noStop_ns hr2 rfl m_list (by rfl)
      · exact pgen_call F_aw (hr2.mono (by decide)) rfl m_aw k_aw b_aw d_aw (pa_cons (pv 2) (pa_cons (pv 3) pa_nil))
      · show Passes (L2.CX P w) _ (nsE K E2)
        exact passNS
    case lam2 =>
      refine pe_listG (E := nsE K E2) (nm := "list") ?_ ?_ noStop_ns hr2 rfl m_list (by rfl)
      · exact pgen_callN (n := 2) (ks := ["most"]) F_aw (hr2.mono (by decide)) rfl m_aw k_aw kb_aw (pa_cons (pv 2) (pa_cons pe_int pa_nil)) (pk_cons pe_int pk_nil)
      · show Passes (L2.CX P w) _ (nsE K E2)
        exact passNS
    case lam1 =>
      refine pe_listG (E := nsE K E2) (nm := "list") ?_ ?_ noStop_ns hr2 rfl m_list (by rfl)
      · exact pgen_callN (n := 2) (ks := ["most"]) F_aw (hr2.mono (by decide)) rfl m_aw k_aw kb_aw (pa_cons (pv 5) (pa_cons (pv 3) pa_nil)) (pk_cons pe_int pk_nil)
      · show Passes (L2.CX P w) _ (nsE K E2)
        exact passNS
    -- the odd values
    refine ⟨(by show 1 ≤ sizeLine; decide), fun t1 h1 => ⟨(by show 1 ≤ sizeLine; decide), fun l0 h2 => ?_⟩⟩
    have s1 := Same.new (o := .tup [.int 2]) h1
    have k1 : upd H t1 (.tup [.int 2]) t1 = _ := upd_same
    generalize upd H t1 (.tup [.int 2]) = H1 at *
    have s2 := Same.new (o := .lst [.int 2]) h2
    have k2 : upd H1 l0 (.lst [.int 2]) l0 = _ := upd_same
    have n2 := (hB.same s1).ne h2
    have k1 := s2 _ _ k1
    generalize upd H1 l0 (.lst [.int 2]) = H2 at *
    have d2 := Dx.same hB hT (s1.trans s2)
    clear s1 s2 h1 h2
    refine ⟨_, _, rfl, rfl, _, _, rfl, rfl, _, rfl, g, 99999, rfl, d2.b, by decide, by decide, fun j H3 dr3 j0 j1 => ⟨_, _, rfl, rfl, (by show 8 ≤ sizeLine; decide), fun L hL => ?_⟩⟩
    have d3 := Dx.drew d2.b d2.t dr3
    have s4 := Same.new (o := .lst [.bl true, .bl false, .non, .str "2", .ref t1, .ref l0, .int (0 - 1), .int (0 - 1 - j)]) hL
    have kL : upd H3 L (.lst [.bl true, .bl false, .non, .str "2", .ref t1, .ref l0, .int (0 - 1), .int (0 - 1 - j)]) L = _ := upd_same
    have nL := d3.b.ne hL
    have d4 := d3.trans (Dx.same d3.b d3.t s4)
    have k1 := d4.tup d2.b k1
    have k2 := d4.lst d2.b n2 k2
    have d4 := d2.trans d4
    generalize upd H3 L (.lst [.bl true, .bl false, .non, .str "2", .ref t1, .ref l0, .int (0 - 1), .int (0 - 1 - j)]) = H4 at *
    have odds : ∀ v ∈ [V.bl true, .bl false, .non, .str "2", .ref t1, .ref l0, .int (0 - 1), .int (0 - 1 - j)], Wo 0 g H4 v := fun v hv => by
      simp only [List.mem_cons, List.not_mem_nil, or_false] at hv
      rcases hv with rfl | rfl | rfl | rfl | rfl | rfl | rfl | rfl
      · exact .inr (.inr (.inl ⟨_, rfl⟩))
      · exact .inr (.inr (.inl ⟨_, rfl⟩))
      · exact .inr (.inl rfl)
      · exact .inr (.inr (.inr (.inl ⟨_, rfl⟩)))
      · exact .inr (.inr (.inr (.inr ⟨t1, _, rfl, bag_tup d4.b k1, .inr k1, fun y hy => by rw [List.mem_singleton.mp hy]; exact .int _, by decide⟩)))
      · exact .inr (.inr (.inr (.inr ⟨l0, _, rfl, n2, .inl k2, fun y hy => by rw [List.mem_singleton.mp hy]; exact .int _, by decide⟩)))
      · exact .inl ⟨_, rfl, by decide⟩
      · exact .inl ⟨_, rfl, by omega⟩
    have wov : ∀ {lo hi : Int} {Hx : Hp} {v : V}, 0 ≤ lo → Wo 0 g Hx v → Ov lo hi g Hx v := fun l h => h.imp (fun ⟨i, e, z⟩ => ⟨i, e, fun w => by omega⟩) id
    clear s4 hL dr3 d3 d2 k1 k2 n2 j0 j1
    -- the two that are drawn
    refine ⟨_, rfl, _, rfl, (by show 1 ≤ sizeLine; decide), fun La hLa => ?_⟩
    have s5 := Same.new (o := .lst [.int 100]) hLa
    refine ⟨L, La, _, _, rfl, rfl, s5 _ _ kL, upd_same, (by show 9 ≤ sizeLine; decide), fun p hp => ?_⟩
    have s6 := s5.trans (Same.new (o := .lst ([.bl true, .bl false, .non, .str "2", .ref t1, .ref l0, .int (0 - 1), .int (0 - 1 - j)] ++ [.int 100])) hp)
    have np := (d4.b.same s5).ne hp
    refine ⟨g, p, _, rfl, d4.b.same s6, upd_same, np, (by show 1 ≤ 9; decide), (by show 9 < 1000; decide), fun x H7 hx dr7 => ?_⟩
    have d7 := (Dx.same d4.b d4.t s6).trans (Dx.drew (d4.b.same s6) (tabs_same d4.t s6) dr7)
    have hx : Ov 0 99 g H7 x := by
      rcases List.mem_append.mp hx with z | z
      · exact wov (by decide) ((odds x z).dx d4.b d7)
      · rw [List.mem_singleton.mp z]
        exact .inl ⟨_, rfl, by decide⟩
    have odds := fun v hv => (odds v hv).dx d4.b d7
    have kL := d7.lst d4.b nL kL
    have d7 := d4.trans d7
    clear s5 s6 hLa hp np dr7 d4 La p
    refine ⟨_, rfl, _, rfl, (by show 2 ≤ sizeLine; decide), fun La hLa => ?_⟩
    have s5 := Same.new (o := .lst [.int 0, .int 65]) hLa
    refine ⟨L, La, _, _, rfl, rfl, s5 _ _ kL, upd_same, (by show 10 ≤ sizeLine; decide), fun p hp => ?_⟩
    have s6 := s5.trans (Same.new (o := .lst ([.bl true, .bl false, .non, .str "2", .ref t1, .ref l0, .int (0 - 1), .int (0 - 1 - j)] ++ [.int 0, .int 65])) hp)
    have np := (d7.b.same s5).ne hp
    refine ⟨g, p, _, rfl, d7.b.same s6, upd_same, np, (by show 1 ≤ 10; decide), (by show 10 < 1000; decide), fun y H8 hy dr8 => ?_⟩
    have d8 := (Dx.same d7.b d7.t s6).trans (Dx.drew (d7.b.same s6) (tabs_same d7.t s6) dr8)
    have hy : Ov 1 64 g H8 y := by
      rcases List.mem_append.mp hy with z | z
      · exact wov (by decide) ((odds y z).dx d7.b d8)
      · simp only [List.mem_cons, List.not_mem_nil, or_false] at z
        rcases z with rfl | rfl
        · exact .inl ⟨_, rfl, by decide⟩
        · exact .inl ⟨_, rfl, by decide⟩
    have hx := hx.dx d7.b d8
    have d8 := d7.trans d8
    clear s5 s6 hLa hp np dr8 d7 La p odds wov kL nL
    refine ⟨(by show 2 ≤ sizeLine; decide), fun t ht => ?_⟩
    have s9 := Same.new (o := .tup [x, y]) ht
    refine ⟨t, _, rfl, SqT.of upd_same, rfl, _, _, rfl, _, _, rfl, rfl, ?_⟩
    have hx := hx.same s9
    have hy := hy.same s9
    have d9 := d8.trans (Dx.same d8.b d8.t s9)
    generalize upd H8 t (.tup [x, y]) = H9 at *
    clear s9 ht d8
    -- all_words(bad, worse)
    refine ⟨d9.t, fun H7 e7 t7 => ?_⟩
    have d7 := Dx.ext d9.b e7 t7
    refine ⟨_, rfl, _, rfl, _, _, _, rfl, .inl ⟨(hx.dx d9.b d7).bad, inv_ns aw.sI (ask_inv fun l1 H10 hl1 s10 h10 => ?_)⟩⟩
    have r1 : RL g H10 l1 x := ⟨d7.b.ne hl1, h10⟩
    have d10 := d7.trans (Dx.same d7.b d7.t s10)
    have hx := hx.dx d9.b d10
    have hy := hy.dx d9.b d10
    have d10 := d9.trans d10
    clear d7 e7 t7 s10 h10 hl1 d9
    -- all_words(bad, 2, most=1)
    refine ⟨d10.t, fun H7 e7 t7 => ?_⟩
    have d7 := Dx.ext d10.b e7 t7
    refine ⟨_, rfl, rfl, rfl, _, _, _, rfl, .inl ⟨(hx.dx d10.b d7).bad, inv_ns aw.sI (ask_inv fun l2 H11 hl2 s11 h11 => ?_)⟩⟩
    have r2 : RL g H11 l2 x := ⟨d7.b.ne hl2, h11⟩
    have d11 := d7.trans (Dx.same d7.b d7.t s11)
    have hx := hx.dx d10.b d11
    have hy := hy.dx d10.b d11
    have r1 := r1.dx d10.b d11
    have d11 := d10.trans d11
    clear d7 e7 t7 s11 h11 hl2 d10
    refine ⟨(by show 2 ≤ sizeLine; decide), fun L4 hL4 => ?_⟩
    have s12 := Same.new (o := .lst [.ref l1, .ref l2]) hL4
    have k4 : upd H11 L4 (.lst [.ref l1, .ref l2]) L4 = _ := upd_same
    have n4 := d11.b.ne hL4
    have d12 := Dx.same d11.b d11.t s12
    generalize upd H11 L4 (.lst [.ref l1, .ref l2]) = H12 at *
    clear s12
    refine ⟨_, rfl, g, 100, rfl, d12.b, by decide, by decide, fun n H13 dr13 n0 n1 => ?_⟩
    have d13' := Dx.drew d12.b d12.t dr13
    have k4 := d13'.lst d12.b n4 k4
    have d13 := d12.trans d13'
    clear d13' d12 dr13
    obtain ⟨N, rfl⟩ : ∃ N : Nat, n = (N : Int) := ⟨n.toNat, (Int.toNat_of_nonneg n0).symm⟩
    refine ⟨_, rfl, .inl ⟨rfl, _, SqL.of k4⟩, d13.t, fun H7 e7 t7 => ?_⟩
    have d7 := Dx.ext d13.b e7 t7
    have d7' := d13.trans d7
    refine ⟨_, rfl, _, rfl, rfl, rfl, _, _, _, rfl, .inr ⟨N, rfl, by omega, .inl ⟨(hy.dx d11.b d7').bad, inv_ns aw.sI (ask_inv fun l3 H14 hl3 s14 h14 => ?_)⟩⟩⟩
    have k4 := s14 _ _ (d7.lst d13.b n4 k4)
    have d14 := d7'.trans (Dx.same d7.b d7.t s14)
    have n34 : l3 ≠ L4 := fun z => by
      rw [z, k4] at h14
      cases h14
    refine ⟨L4, _, _, rfl, rfl, k4, (by show 2 < sizeLine; decide), ?_⟩
    have d15 := Dx.app (o := .lst ([.ref l1, .ref l2] ++ [.ref l3])) d11.b d14 hL4 k4
    have r3 : RL g (upd H14 L4 (.lst ([.ref l1, .ref l2] ++ [.ref l3]))) l3 y := ⟨d7.b.ne hl3, by rw [upd_ne n34]; exact h14⟩
    have kp : upd H14 L4 (.lst ([.ref l1, .ref l2] ++ [.ref l3])) L4 = some (.lst ([l1, l2, l3].map V.ref)) := upd_same
    generalize upd H14 L4 (.lst ([.ref l1, .ref l2] ++ [.ref l3])) = H15 at *
    have hx := hx.dx d11.b d15
    have hy := hy.dx d11.b d15
    have r1 := r1.dx d11.b d15
    have r2 := r2.dx d11.b d15
    have d15 := d11.trans d15
    clear d7 d7' d13 d14 h14 hl3 s14 e7 t7 k4 hL4 d11 n34
    -- what is due
    refine ⟨_, rfl, _, rfl, _, rfl, _, rfl, (by show 3 ≤ sizeLine; decide), fun L5 hL5 => ?_⟩
    have s16 := Same.new (o := .lst [x, x, y]) hL5
    have k5 : upd H15 L5 (.lst [x, x, y]) L5 = some (.lst [x, x, y]) := upd_same
    generalize upd H15 L5 (.lst [x, x, y]) = H16 at *
    refine ⟨L5, rfl, ⟨_, SqL.of k5⟩, fun D hD => ?_⟩
    refine lc_refuse (Nat.lt_of_lt_of_eq (by decide : 6 < 7) rfl) k5 hD (by show 3 ≤ 900; decide) fun H17 ts s17 k17 e17 h17 => ?_
    have s18 := s16.trans s17
    have hx := hx.same s18
    have hy := hy.same s18
    have r1 := r1.same s18
    have r2 := r2.same s18
    have r3 := r3.same s18
    refine ⟨_, _, rfl, refusals (g := g) (ls := [l1, l2, l3]) (xs := [x, x, y]) (s18 _ _ kp) k17 rfl e17 (by show 3 ≤ 900; decide) (fun z hz => ?_) (fun j u z hu hz => ?_) h17, fun H18 s19 => q _ (d15.trans (Dx.same d15.b d15.t (s18.trans s19)))⟩
    · simp only [List.mem_cons, List.not_mem_nil, or_false] at hz
      rcases hz with rfl | rfl | rfl
      · exact hx.sv
      · exact hx.sv
      · exact hy.sv
    · match j, hu, hz with
      | 0, hu, hz => cases hu; cases hz; exact r1
      | 1, hu, hz => cases hu; cases hz; exact r2
      | 2, hu, hz => cases hu; cases hz; exact r3
end
end K01
set_option Elab.async false
set_option linter.all false
set_option maxRecDepth 100000
set_option maxHeartbeats 4000000
namespace K01
open PySem PySem.Spec PyProof.Rows L2 L2H LamX NumT
section
variable {P : Program} {w : World} {K : PySem.W.Frag} {mg : Str → Option Value} {base : Heap}
def spLaw (K : PySem.W.Frag) (TT : List (Addr × Str)) : Sp := fun vs H Q _ => ∃ (a : Addr) (ns : List Int), vs = [.ref a] ∧ SqL K H a (ns.map V.int) ∧ ns.length ≤ 63 ∧ Tabs TT H ∧ ∀ H2, Q (.bl true) H2
theorem sc_law : FnScope ["_law_script", "_law_bag_here", "_law_turn"] ["_law_script"] (defScope (top 47)) := ⟨rfl, rfl, rfl, by decide +kernel, rfl, by decide +kernel, by decide +kernel⟩
theorem ok_law {f : Addr} {fd : FuncData} {T : List (Addr × Str)} {t_MOST : Tok} (F : FnP K "law" (top 47) f fd) (m_range : mg "range" = none) (m_MOST : mg "MOST" = some (.int 4096 t_MOST)) (c__law_bag : Cal P w K mg base CX0 "_law_bag" 1 ["_law_script"] (spBag K)) (c__law_ratios : Cal P w K mg base CX0 "_law_ratios" 10 ["_law_bag_here"] (spLR T)) (c__law_words : Cal P w K mg base CX0 "_law_words" 9 ["_law_bag_here"] (spLR T)) (c__law_judged : Cal P w K mg base CX0 "_law_judged" 7 ["_law_bag_here"] (spLR T)) (c__law_more_words : Cal P w K mg base CX0 "_law_more_words" 7 ["_law_bag_here"] (spLR T)) (c__law_refused_ratios : Cal P w K mg base CX0 "_law_refused_ratios" 8 ["_law_bag_here"] (spLR T)) (c__law_refused_words : Cal P w K mg base CX0 "_law_refused_words" 9 ["_law_bag_here"] (spLR T)) : FnG P w K mg base CX0 11 f (spLaw K T) := by
  have sc := sc_law
  refine fnG_of F sc (F.bindsN (ps := ["_law_script"]) fun _ _ _ _ _ _ us hl => match us, hl with | [_], _ => rfl) (fun vs H Q E h => ?_) (fun cdv A outer s H vs Q E hq0 hr h => ?_)
  · obtain ⟨a, ns, rfl, _⟩ := h
    rfl
  · obtain ⟨sa, ns, rfl, hS, hl, hT, q⟩ := h
    have hr__law_ratios : Room 10 _ := hr
    have hr__law_words : Room 9 _ := hr.mono (by decide)
    have hr__law_refused_words : Room 9 _ := hr.mono (by decide)
    have hr__law_refused_ratios : Room 8 _ := hr.mono (by decide)
    have hr__law_judged : Room 7 _ := hr.mono (by decide)
    have hr__law_more_words : Room 7 _ := hr.mono (by decide)
    have hr__law_bag : Room 1 _ := hr.mono (by decide)
    refine ⟨_, PSs.nox (pss_cons (ps_set (i := 1) sc.nd rfl (Or.inl rfl) (pe_cal c__law_bag hr__law_bag rfl (pa_cons (pv 0) pa_nil)))
      (pss_cons (ps_for PassesOwn.never rfl (pi_range1 rfl m_range (pa_cons pe_int pa_nil)) (pg_name (i := 2) sc.nd rfl (Or.inl rfl)) (pss_one (ps_if (PW.pt (pw_or (pt_not (pt_val (pe_cal c__law_ratios hr__law_ratios rfl (pa_cons (pv 1) pa_nil)))) (pw_or (pt_not (pt_val (pe_cal c__law_words hr__law_words rfl (pa_cons (pv 1) pa_nil)))) (pw_or1 (pt_not (pt_val (pe_cal c__law_judged hr__law_judged rfl (pa_cons (pv 1) pa_nil)))))))) (pss_one (ps_ret pe_bl)) pss_nil)))
      (pss_cons (ps_if (pt_not (pt_val (pe_cal c__law_more_words hr__law_more_words rfl (pa_cons (pv 1) pa_nil)))) (pss_one (ps_ret pe_bl)) pss_nil)
      (pss_one (ps_ret (pe_and (pe_cmpR op_eq (pe_glob (v := .int 4096) rfl m_MOST ⟨_, rfl⟩) pe_int (nomark _)) (pe_and (pe_cal c__law_refused_ratios hr__law_refused_ratios rfl (pa_cons (pv 1) pa_nil)) (pe_one (pe_cal c__law_refused_words hr__law_refused_words rfl (pa_cons (pv 1) pa_nil)))))))))), ?_⟩
    refine ⟨_, rfl, sa, ns, rfl, hS, hl, fun g H1 s1 gn hB => ?_⟩
    have hT1 := tabs_same hT s1
    refine ⟨2, rfl, by decide, by decide, for_range (D := { nx := _, rt := Q, bk := fun _ _ => False, ct := fun _ _ => False }) (lo := 0) (n := (2 : Int).toNat) (fun k σ H' => ∃ v2, σ = [some (.ref sa), some (.ref g.b), v2] ∧ Dx g T H1 H') ⟨none, rfl, Dx.refl hB hT1⟩ ?_ ?_⟩
    · rintro k σ H' hk ⟨v2, rfl, d⟩
      refine ⟨_, rfl, g, rfl, d.b, d.t, fun H2 d2 => ⟨_, rfl, iteF ?_⟩⟩
      refine ⟨_, rfl, g, rfl, d2.b, d2.t, fun H3 d3 => ⟨_, rfl, iteF ?_⟩⟩
      refine ⟨_, rfl, g, rfl, d3.b, d3.t, fun H4 d4 => ⟨_, rfl, iteF ?_⟩⟩
      exact ⟨_, rfl, d.trans (d2.trans (d3.trans d4))⟩
    · rintro σ H' ⟨v2, rfl, d⟩
      refine ⟨_, rfl, g, rfl, d.b, d.t, fun H2 d2 => ⟨_, rfl, iteF ?_⟩⟩
      refine ⟨rfl, _, rfl, iteT ?_⟩
      refine ⟨_, rfl, g, rfl, d2.b, d2.t, fun H3 d3 => ⟨_, rfl, iteT ?_⟩⟩
      exact ⟨_, rfl, g, rfl, d3.b, d3.t, fun H4 d4 => q _⟩
end
end K01
set_option Elab.async false
set_option linter.all false
set_option maxRecDepth 100000
set_option maxHeartbeats 1000000
/-! how the arguments of all_words and of Ratio are bound -/
namespace K01
open PySem PySem.Spec PyProof.Rows L2
section
variable {K : PySem.W.Frag} {f : Addr} {fd : FuncData}
theorem aw_b (F : FnW K f fd) : ∃ t, Binds K fd ["length", "signs", "most"] [.int 4096 t] := by
  obtain ⟨ds, v, b⟩ := FunD.binds0 (ps := ["length", "signs", "most"]) F 2 (by simp) rfl fun D doc pm an cdv ct us ks h1 h2 => match us, h1, ks, h2 with
    | [_, _], _, [_], _ => ⟨_, _, _, _, _, _, rfl, rfl, rfl⟩
  match ds, v, b with
  | [_], .cons ⟨t, e⟩ .nil, b => exact ⟨t, by rw [← e]; exact b⟩
theorem vals_awk {vs mz zs : List V} {us mv ws : List Value} (a : Vals vs us) (_ : Vals mz mv) (d : Vals zs ws) : Vals (vs ++ zs) (us ++ ws) := a.append d
theorem aw_k (F : FnW K f fd) : ∃ g, KBn K fd ["length", "signs", "most"] 2 ["most"] g (fun vs zs => vs ++ zs) := by
  obtain ⟨mv, h⟩ := FunD.kbinds0 (ps := ["length", "signs", "most"]) F 2 ["most"] [] (fun vs _ zs => vs ++ zs) (by simp) (fun q hq => by cases hq) (fun a b d => vals_awk a b d) (fun D doc pm an cdv ct us mv ws h1 h2 h3 => match us, h1, mv, h2, ws, h3 with
    | [_, _], _, [], _, [_], _ => rfl)
  exact ⟨_, h⟩
theorem vals_bt : ∀ {zs : List V} {ws : List Value}, Vals zs ws → Vals zs.reverse ws.reverse
  | [], [], _ => .nil
  | _ :: _, _ :: _, .cons r t => by
    rw [List.reverse_cons, List.reverse_cons]
    exact Vals.append (vals_bt t) (.cons r .nil)
theorem rat_k (F : FunD K "__init__" "Ratio.__init__" (defArgs (methOf (top 13) 0)) (defBody (methOf (top 13) 0)) (defScope (methOf (top 13) 0)) [.int 1] [] f fd) : ∃ g, KBn K fd PSR 1 ["bottom", "top"] g (fun vs zs => gBT vs zs) := by
  obtain ⟨its, h⟩ := F.kbindsD (ps := PSR) 1 ["bottom", "top"] (fun us _ ws => gBT us ws) (by simp) (fun a _ d => a.append (vals_bt d)) (fun T kV doc pm an cdv ct us its ws h1 h2 h3 => match us, h1, its, h2, ws, h3 with
    | [_], _, [_], _, [_, _], _ => ⟨_, rfl, rfl⟩)
  exact ⟨_, h⟩
end
end K01
set_option Elab.async false
set_option linter.all false
set_option maxRecDepth 100000
set_option maxHeartbeats 4000000
namespace K01
open PySem PySem.Spec PyProof.Rows L2 LamX
section
variable {P : Program} {w : World} {K : PySem.W.Frag} {mg : Str → Option Value} {h : Heap}
theorem fc (X : K.In h) (G : h.Ns mainGlobals mg) (c : He.SaysD fa fn K) (i : Nat) {x : Str} (e : fa[i]? = some (.free x)) : mg x = none := He.free_ok X G (c.fact i e)
theorem gc (X : K.In h) (G : h.Ns mainGlobals mg) (c : He.SaysD fa fn K) (i : Nat) {x : Str} (e : fa[i]? = some (.glo x)) : mg x = some (.ref (He.ga K x)) := He.glo_ok X G (c.fact i e)
theorem ic (X : K.In h) (G : h.Ns mainGlobals mg) (c : He.SaysD fa fn K) (i : Nat) {x : Str} {z : Int} (e : fa[i]? = some (.int x z)) : ∃ t, mg x = some (.int z t) := He.int_ok X G (c.fact i e)
theorem vals_rev : ∀ {xs : List V} {us : List Value}, Vals xs us → Vals xs.reverse us.reverse
  | [], [], _ => .nil
  | _ :: _, _ :: _, .cons r t => by
    rw [List.reverse_cons, List.reverse_cons]
    exact Vals.append (vals_rev t) (.cons r .nil)
theorem rel_pos {vs zs : List V} {us ws : List Value} (h : Vals vs us) (_ : Vals zs ws) : Vals (gPos vs zs) (gPos us ws) := h
theorem rel_turn {vs zs : List V} {us ws : List Value} (h : Vals vs us) (h2 : Vals zs ws) : Vals (gTurn vs zs) (gTurn us ws) := Vals.append h (vals_rev h2)
theorem rawN {base : Heap} {CX : CXT} {k : Nat} {f : Addr} {fd : FuncData} {ps : List Str} {sp : Sp} (F : FnOk P w K mg base CX k f fd ps sp) (b : Binds K fd ps []) : FnR P w K mg base CX k f sp := (F.raw b .nil).imp fun vs H Q E h => by
  rw [List.append_nil]
  exact h
theorem dv_ints (ns : List Int) : (ns.map He.Dv.int).map (He.Dv.v K) = ns.map V.int := by
  rw [List.map_map]
  rfl
theorem scI_InvalidNumber : FnScope ["self", "value"] ["self", "value"] (defScope (methOf (top 3) 0)) := ⟨rfl, rfl, rfl, by decide +kernel, rfl, by decide +kernel, by decide +kernel⟩
theorem ecl_InvalidNumber {base : Heap} {fd : FuncData} (G : mg "InvalidNumber" = some (.ref (He.ga K "InvalidNumber"))) (hc : clsB K "InvalidNumber" ["value"] = true) (F : FunD K "__init__" "InvalidNumber.__init__" (defArgs (methOf (top 3) 0)) (defBody (methOf (top 3) 0)) (defScope (methOf (top 3) 0)) [] [] (He.ma K (He.ga K "InvalidNumber") "__init__") fd) : Ecl P w K mg base "InvalidNumber" (He.ga K "InvalidNumber") veT "ValueError.__new__" ["value"] := by
  have h := clsB_ok hc
  exact ⟨h.1, G, h.2.1, "ValueError", "ValueError.__init__", _, fd, PySem.F.excBase_ValueError, h.2.2.1, h.2.2.2, ok_ini1 PySem.F.store_ValueError h.1 (h.2.1 "value" (by decide)) (h.2.1 "code" (by decide)) scI_InvalidNumber rfl rfl (by decide) (by decide) F, kbn_of F gPos rel_pos fun _ _ _ _ _ _ us ws l1 l2 => match us, ws, l1, l2 with | [_, _], [], _, _ => rfl, fun _ => kbn_of F gTurn rel_turn fun _ _ _ _ _ _ us ws l1 l2 => match us, ws, l1, l2 with | [_], [_], _, _ => rfl, F.bindsN fun _ _ _ _ _ _ us hl => match us, hl with | [_, _], _ => rfl⟩
theorem scI_TooMany : FnScope ["self", "what", "count"] ["self", "what", "count"] (defScope (methOf (top 4) 0)) := ⟨rfl, rfl, rfl, by decide +kernel, rfl, by decide +kernel, by decide +kernel⟩
theorem ecl_TooMany {base : Heap} {fd : FuncData} (G : mg "TooMany" = some (.ref (He.ga K "TooMany"))) (hc : clsB K "TooMany" ["what", "count"] = true) (F : FunD K "__init__" "TooMany.__init__" (defArgs (methOf (top 4) 0)) (defBody (methOf (top 4) 0)) (defScope (methOf (top 4) 0)) [] [] (He.ma K (He.ga K "TooMany") "__init__") fd) : Ecl P w K mg base "TooMany" (He.ga K "TooMany") veT "ValueError.__new__" ["what", "count"] := by
  have h := clsB_ok hc
  exact ⟨h.1, G, h.2.1, "ValueError", "ValueError.__init__", _, fd, PySem.F.excBase_ValueError, h.2.2.1, h.2.2.2, ok_ini2 PySem.F.store_ValueError h.1 (h.2.1 "what" (by decide)) (h.2.1 "count" (by decide)) (h.2.1 "code" (by decide)) scI_TooMany rfl rfl rfl (by decide) (by decide) (by decide) (by decide) F, kbn_of F gPos rel_pos fun _ _ _ _ _ _ us ws l1 l2 => match us, ws, l1, l2 with | [_, _, _], [], _, _ => rfl, fun _ => kbn_of F gTurn rel_turn fun _ _ _ _ _ _ us ws l1 l2 => match us, ws, l1, l2 with | [_], [_, _], _, _ => rfl, F.bindsN fun _ _ _ _ _ _ us hl => match us, hl with | [_, _, _], _ => rfl⟩
def cs (K : PySem.W.Frag) : List (Addr × Addr) := tf.map (He.cT K)
def TT (K : PySem.W.Frag) : List (Addr × Str) := [((He.cT K ("_law_ratio_so", none)).2, qS), ((He.cT K ("_law_ratios", none)).2, qR), ((He.cT K ("_law_refused_ratios", none)).2, qF), ((He.cT K ("_law_words", none)).2, qW), ((He.cT K ("_law_refused_words", none)).2, qG)]
theorem facts {f : Addr} (X : K.In h) (G : h.Ns mainGlobals mg) (hfa : mg "law" = some (.ref f)) (c : He.SaysX fa fn [] tf exK w h K) :
    ∀ base : Heap, base.NoDigits → K.In base → base.Ns mainGlobals mg → (∀ p ∈ cs K, TabB base mg p.1 p.2) → FnG P w K mg base CX0 11 f (spLaw K (TT K)) := by
  have d := c.t.d
  have x := exK_ok c.more
  obtain ⟨fd_is_whole, F_is_whole⟩ : ∃ fd, FnP K "is_whole" (top 6) (He.ga K "is_whole") fd := d.def_ 0 (d := lD "is_whole" 6) rfl
  obtain ⟨fd_power_of, F_power_of⟩ : ∃ fd, FnP K "power_of" (top 7) (He.ga K "power_of") fd := d.def_ 1 (d := lD "power_of" 7) rfl
  obtain ⟨fd_number_text, F_number_text⟩ : ∃ fd, FnP K "number_text" (top 10) (He.ga K "number_text") fd := d.def_ 2 (d := lD "number_text" 10) rfl
  obtain ⟨fd_times_divided, F_times_divided⟩ : ∃ fd, FnP K "times_divided" (top 14) (He.ga K "times_divided") fd := d.def_ 3 (d := lD "times_divided" 14) rfl
  obtain ⟨fd_count_ratio, F_count_ratio⟩ : ∃ fd, FnP K "count_ratio" (top 15) (He.ga K "count_ratio") fd := d.def_ 4 (d := lD "count_ratio" 15) rfl
  obtain ⟨fd_is_number, F_is_number⟩ : ∃ fd, FnP K "is_number" (top 20) (He.ga K "is_number") fd := d.def_ 5 (d := lD "is_number" 20) rfl
  obtain ⟨fd_is_word, F_is_word⟩ : ∃ fd, FnP K "is_word" (top 21) (He.ga K "is_word") fd := d.def_ 6 (d := lD "is_word" 21) rfl
  obtain ⟨fd_word_index, F_word_index⟩ : ∃ fd, FnP K "word_index" (top 22) (He.ga K "word_index") fd := d.def_ 7 (d := lD "word_index" 22) rfl
  obtain ⟨fd_word_at, F_word_at⟩ : ∃ fd, FnP K "word_at" (top 23) (He.ga K "word_at") fd := d.def_ 8 (d := lD "word_at" 23) rfl
  obtain ⟨fd_indexed_word, F_indexed_word⟩ : ∃ fd, FnP K "indexed_word" (top 24) (He.ga K "indexed_word") fd := d.def_ 9 (d := lD "indexed_word" 24) rfl
  obtain ⟨fd_all_words, F_all_words⟩ : ∃ fd, FnW K (He.ga K "all_words") fd := d.def_ 10 (d := kD "all_words" 25 [("most", .int 4096)]) rfl
  obtain ⟨fd__law_bag, F__law_bag⟩ : ∃ fd, FnP K "_law_bag" (top 27) (He.ga K "_law_bag") fd := d.def_ 11 (d := lD "_law_bag" 27) rfl
  obtain ⟨fd__law_draw, F__law_draw⟩ : ∃ fd, FnP K "_law_draw" (top 28) (He.ga K "_law_draw") fd := d.def_ 12 (d := lD "_law_draw" 28) rfl
  obtain ⟨fd__law_of, F__law_of⟩ : ∃ fd, FnP K "_law_of" (top 29) (He.ga K "_law_of") fd := d.def_ 13 (d := lD "_law_of" 29) rfl
  obtain ⟨fd__law_like, F__law_like⟩ : ∃ fd, FnP K "_law_like" (top 30) (He.ga K "_law_like") fd := d.def_ 14 (d := lD "_law_like" 30) rfl
  obtain ⟨fd__law_fault, F__law_fault⟩ : ∃ fd, FnP K "_law_fault" (top 31) (He.ga K "_law_fault") fd := d.def_ 15 (d := lD "_law_fault" 31) rfl
  obtain ⟨fd__law_ask, F__law_ask⟩ : ∃ fd, FnP K "_law_ask" (top 32) (He.ga K "_law_ask") fd := d.def_ 16 (d := lD "_law_ask" 32) rfl
  obtain ⟨fd__law_wrong, F__law_wrong⟩ : ∃ fd, FnP K "_law_wrong" (top 33) (He.ga K "_law_wrong") fd := d.def_ 17 (d := lD "_law_wrong" 33) rfl
  obtain ⟨fd__law_primes, F__law_primes⟩ : ∃ fd, FnP K "_law_primes" (top 34) (He.ga K "_law_primes") fd := d.def_ 18 (d := lD "_law_primes" 34) rfl
  obtain ⟨fd__law_number, F__law_number⟩ : ∃ fd, FnP K "_law_number" (top 35) (He.ga K "_law_number") fd := d.def_ 19 (d := lD "_law_number" 35) rfl
  obtain ⟨fd__law_worth, F__law_worth⟩ : ∃ fd, FnP K "_law_worth" (top 36) (He.ga K "_law_worth") fd := d.def_ 20 (d := lD "_law_worth" 36) rfl
  obtain ⟨fd__law_ratio_so, F__law_ratio_so⟩ : ∃ fd, FnP K "_law_ratio_so" (top 37) (He.ga K "_law_ratio_so") fd := d.def_ 21 (d := lD "_law_ratio_so" 37) rfl
  obtain ⟨fd__law_sum, F__law_sum⟩ : ∃ fd, FnP K "_law_sum" (top 38) (He.ga K "_law_sum") fd := d.def_ 22 (d := lD "_law_sum" 38) rfl
  obtain ⟨fd__law_drawn_ratio, F__law_drawn_ratio⟩ : ∃ fd, FnP K "_law_drawn_ratio" (top 39) (He.ga K "_law_drawn_ratio") fd := d.def_ 23 (d := lD "_law_drawn_ratio" 39) rfl
  obtain ⟨fd__law_ratios, F__law_ratios⟩ : ∃ fd, FnP K "_law_ratios" (top 40) (He.ga K "_law_ratios") fd := d.def_ 24 (d := lD "_law_ratios" 40) rfl
  obtain ⟨fd__law_refused_ratios, F__law_refused_ratios⟩ : ∃ fd, FnP K "_law_refused_ratios" (top 41) (He.ga K "_law_refused_ratios") fd := d.def_ 25 (d := lD "_law_refused_ratios" 41) rfl
  obtain ⟨fd__law_listed, F__law_listed⟩ : ∃ fd, FnP K "_law_listed" (top 42) (He.ga K "_law_listed") fd := d.def_ 26 (d := lD "_law_listed" 42) rfl
  obtain ⟨fd__law_words, F__law_words⟩ : ∃ fd, FnP K "_law_words" (top 43) (He.ga K "_law_words") fd := d.def_ 27 (d := lD "_law_words" 43) rfl
  obtain ⟨fd__law_refused_words, F__law_refused_words⟩ : ∃ fd, FnP K "_law_refused_words" (top 44) (He.ga K "_law_refused_words") fd := d.def_ 28 (d := lD "_law_refused_words" 44) rfl
  obtain ⟨fd__law_judged, F__law_judged⟩ : ∃ fd, FnP K "_law_judged" (top 45) (He.ga K "_law_judged") fd := d.def_ 29 (d := lD "_law_judged" 45) rfl
  obtain ⟨fd__law_more_words, F__law_more_words⟩ : ∃ fd, FnP K "_law_more_words" (top 46) (He.ga K "_law_more_words") fd := d.def_ 30 (d := lD "_law_more_words" 46) rfl
  obtain ⟨fd_law, F_law⟩ : ∃ fd, FnP K "law" (top 47) (He.ga K "law") fd := d.def_ 31 (d := lD "law" 47) rfl
  obtain ⟨fd_InvalidNumber, F_InvalidNumber⟩ := d.def_ 32 (d := iD "InvalidNumber" "InvalidNumber.__init__" 3) rfl
  obtain ⟨fd_TooMany, F_TooMany⟩ := d.def_ 33 (d := iD "TooMany" "TooMany.__init__" 4) rfl
  obtain ⟨fd_Rinit, F_Rinit⟩ : ∃ fd, FunD K "__init__" "Ratio.__init__" (defArgs (methOf (top 13) 0)) (defBody (methOf (top 13) 0)) (defScope (methOf (top 13) 0)) [.int 1] [] (He.ma K (He.ga K "Ratio") "__init__") fd := d.def_ 34 (d := mD "Ratio" "__init__" "Ratio.__init__" (methOf (top 13) 0) [.int 1]) rfl
  obtain ⟨fd_Rmul, F_Rmul⟩ : ∃ fd, FunD K "__mul__" "Ratio.__mul__" (defArgs (methOf (top 13) 1)) (defBody (methOf (top 13) 1)) (defScope (methOf (top 13) 1)) [] [] (He.ma K (He.ga K "Ratio") "__mul__") fd := d.def_ 35 (d := mD "Ratio" "__mul__" "Ratio.__mul__" (methOf (top 13) 1) []) rfl
  obtain ⟨fd_Rinvert, F_Rinvert⟩ : ∃ fd, FunD K "__invert__" "Ratio.__invert__" (defArgs (methOf (top 13) 2)) (defBody (methOf (top 13) 2)) (defScope (methOf (top 13) 2)) [] [] (He.ma K (He.ga K "Ratio") "__invert__") fd := d.def_ 36 (d := mD "Ratio" "__invert__" "Ratio.__invert__" (methOf (top 13) 2) []) rfl
  obtain ⟨fd_Rraised, F_Rraised⟩ : ∃ fd, FunD K "raised" "Ratio.raised" (defArgs (methOf (top 13) 3)) (defBody (methOf (top 13) 3)) (defScope (methOf (top 13) 3)) [] [] (He.ma K (He.ga K "Ratio") "raised") fd := d.def_ 37 (d := mD "Ratio" "raised" "Ratio.raised" (methOf (top 13) 3) []) rfl
  obtain ⟨fd_Rpower, F_Rpower⟩ : ∃ fd, FunD K "power" "Ratio.power" (defArgs (methOf (top 13) 5)) (defBody (methOf (top 13) 5)) (defScope (methOf (top 13) 5)) [] [] (He.ma K (He.ga K "Ratio") "power") fd := d.def_ 38 (d := mD "Ratio" "power" "Ratio.power" (methOf (top 13) 5) []) rfl
  obtain ⟨fd_Rpow, F_Rpow⟩ : ∃ fd, FunD K "__pow__" "Ratio.__pow__" (defArgs (methOf (top 13) 4)) (defBody (methOf (top 13) 4)) (defScope (methOf (top 13) 4)) [] [] (He.ma K (He.ga K "Ratio") "__pow__") fd := d.def_ 39 (d := mD "Ratio" "__pow__" "Ratio.__pow__" (methOf (top 13) 4) []) rfl
  obtain ⟨fd_Req, F_Req⟩ : ∃ fd, FunD K "__eq__" "Ratio.__eq__" (defArgs (methOf (top 13) 6)) (defBody (methOf (top 13) 6)) (defScope (methOf (top 13) 6)) [] [] (He.ma K (He.ga K "Ratio") "__eq__") fd := d.def_ 40 (d := mD "Ratio" "__eq__" "Ratio.__eq__" (methOf (top 13) 6) []) rfl
  obtain ⟨fd_Rstr, F_Rstr⟩ : ∃ fd, FunD K "__str__" "Ratio.__str__" (defArgs (methOf (top 13) 7)) (defBody (methOf (top 13) 7)) (defScope (methOf (top 13) 7)) [] [] (He.ma K (He.ga K "Ratio") "__str__") fd := d.def_ 41 (d := mD "Ratio" "__str__" "Ratio.__str__" (methOf (top 13) 7) []) rfl
  obtain ⟨fd_Rrepr, F_Rrepr⟩ : ∃ fd, FunD K "__repr__" "Ratio.__repr__" (defArgs (methOf (top 13) 8)) (defBody (methOf (top 13) 8)) (defScope (methOf (top 13) 8)) [] [] (He.ma K (He.ga K "Ratio") "__repr__") fd := d.def_ 42 (d := mD "Ratio" "__repr__" "Ratio.__repr__" (methOf (top 13) 8) []) rfl
  have e := hfa.symm.trans (gc X G d 36 rfl)
  cases e
  refine fun base nd hKb _ hTB => ?_
  have m_NotImplemented : mg "NotImplemented" = none := fc X G d 41 rfl
  have m_abs : mg "abs" = none := fc X G d 42 rfl
  have m_all : mg "all" = none := fc X G d 43 rfl
  have m_bool : mg "bool" = none := fc X G d 44 rfl
  have m_divmod : mg "divmod" = none := fc X G d 45 rfl
  have m_int : mg "int" = none := fc X G d 46 rfl
  have m_isinstance : mg "isinstance" = none := fc X G d 47 rfl
  have m_len : mg "len" = none := fc X G d 48 rfl
  have m_list : mg "list" = none := fc X G d 49 rfl
  have m_max : mg "max" = none := fc X G d 50 rfl
  have m_min : mg "min" = none := fc X G d 51 rfl
  have m_range : mg "range" = none := fc X G d 52 rfl
  have m_repr : mg "repr" = none := fc X G d 53 rfl
  have m_str : mg "str" = none := fc X G d 54 rfl
  have m_tuple : mg "tuple" = none := fc X G d 55 rfl
  have m_zip : mg "zip" = none := fc X G d 56 rfl
  obtain ⟨t_ALL_SIGNS, m_ALL_SIGNS⟩ : ∃ t, mg "ALL_SIGNS" = some (.int 64 t) := ic X G d 37 rfl
  obtain ⟨t_LONGEST, m_LONGEST⟩ : ∃ t, mg "LONGEST" = some (.int 99 t) := ic X G d 38 rfl
  obtain ⟨t_MOST, m_MOST⟩ : ∃ t, mg "MOST" = some (.int 4096 t) := ic X G d 39 rfl
  obtain ⟨t_PART_DIGITS, m_PART_DIGITS⟩ : ∃ t, mg "PART_DIGITS" = some (.int 64 t) := ic X G d 40 rfl
  have m_NI := m_NotImplemented
  have m_PRIMES : mg "PRIMES" = some (.ref (He.ga K "PRIMES")) := gc X G d 0 rfl
  have m_gcd : mg "gcd" = some (.builtin "math.gcd") := PySem.W.mg_of X G x.gcd
  have hP : ∀ H, SqT K H (He.ga K "PRIMES") (primes.map V.int) := fun H => He.tupB_ok x.primes H
  have c_InvalidNumber : Ecl P w K mg base "InvalidNumber" (He.ga K "InvalidNumber") veT "ValueError.__new__" ["value"] := ecl_InvalidNumber (gc X G d 3 rfl) x.cI F_InvalidNumber
  have c_TooMany : Ecl P w K mg base "TooMany" (He.ga K "TooMany") veT "ValueError.__new__" ["what", "count"] := ecl_TooMany (gc X G d 4 rfl) x.cT F_TooMany
  have tu : ∀ (i : Nat) (q : Str), (TT K)[i]? = some ((tabL K).getD i 0, q) → ∀ p ∈ TT K, p.1 = (tabL K).getD i 0 → p.2 = q := fun i q hi p hp e => by
    obtain ⟨j, hj, rfl⟩ := List.mem_iff_getElem.mp hp
    have l5 : (TT K).length = 5 := rfl
    have lt5 : (tabL K).length = 5 := rfl
    have hj1 : (TT K)[j].1 = (tabL K).getD j 0 := by
      match j, hj with
      | 0, _ | 1, _ | 2, _ | 3, _ | 4, _ => rfl
    rw [hj1] at e
    have hil : i < 5 := by
      obtain ⟨w, _⟩ := List.getElem?_eq_some_iff.mp hi
      rw [l5] at w
      exact w
    have hjl : j < 5 := by
      rw [l5] at hj
      exact hj
    rw [List.getD_eq_getElem?_getD, List.getD_eq_getElem?_getD, List.getElem?_eq_getElem (by rw [lt5]; exact hjl), List.getElem?_eq_getElem (by rw [lt5]; exact hil)] at e
    have e : (tabL K)[j]'(by rw [lt5]; exact hjl) = (tabL K)[i]'(by rw [lt5]; exact hil) := e
    have ij : j = i := (List.getElem_inj x.tabs).mp e
    subst ij
    rw [List.getElem?_eq_getElem hj] at hi
    exact congrArg Prod.snd (Option.some.inj hi)
  have t_u__law_ratio_so : ∀ p ∈ TT K, p.1 = (He.cT K ("_law_ratio_so", none)).2 → p.2 = qS := tu 0 qS rfl
  have t_u__law_ratios : ∀ p ∈ TT K, p.1 = (He.cT K ("_law_ratios", none)).2 → p.2 = qR := tu 1 qR rfl
  have t_u__law_refused_ratios : ∀ p ∈ TT K, p.1 = (He.cT K ("_law_refused_ratios", none)).2 → p.2 = qF := tu 2 qF rfl
  have t_u__law_words : ∀ p ∈ TT K, p.1 = (He.cT K ("_law_words", none)).2 → p.2 = qW := tu 3 qW rfl
  have t_u__law_refused_words : ∀ p ∈ TT K, p.1 = (He.cT K ("_law_refused_words", none)).2 → p.2 = qG := tu 4 qG rfl
  have c__law_like : Cal P w K mg base CX0 "_law_like" 6 ["_law_found", "_law_due"] (spLike K NoA 5) := cal_like F__law_like ⟨m_isinstance, m_list, m_tuple, m_len, m_all, m_zip, m_bool, m_str, m_int⟩ (gc X G d 19 rfl) (F__law_like.bindsN fun _ _ _ _ _ _ us hl => match us, hl with | [_, _], _ => rfl) 5
  have c_is_whole : Cal P w K mg base CX0 "is_whole" 1 ["value"] (spWhole K) := cal_of (st := top 6) F_is_whole (gc X G d 5 rfl) (F_is_whole.bindsN fun _ _ _ _ _ _ us hl => match us, hl with | [_], _ => rfl) (ok_whole F_is_whole m_isinstance m_int m_bool)
  have c_power_of : Cal P w K mg base CX0 "power_of" 1 ["base", "exponent"] (spPow) := cal_of (st := top 7) F_power_of (gc X G d 6 rfl) (F_power_of.bindsN fun _ _ _ _ _ _ us hl => match us, hl with | [_, _], _ => rfl) (ok_pow F_power_of m_range)
  have c_times_divided : Cal P w K mg base CX0 "times_divided" 1 ["number", "prime"] (spTimes) := cal_of (st := top 14) F_times_divided (gc X G d 8 rfl) (F_times_divided.bindsN fun _ _ _ _ _ _ us hl => match us, hl with | [_, _], _ => rfl) (ok_times F_times_divided)
  have c_is_number : Cal P w K mg base CX0 "is_number" 2 ["value", "least", "most"] (spNumber K) := cal_of (st := top 20) F_is_number (gc X G d 10 rfl) (F_is_number.bindsN fun _ _ _ _ _ _ us hl => match us, hl with | [_, _, _], _ => rfl) (ok_number F_is_number c_is_whole)
  have c_number_text : Cal P w K mg base CX0 "number_text" 1 ["number"] (spNT) := cal_of (st := top 10) F_number_text (gc X G d 7 rfl) (F_number_text.bindsN fun _ _ _ _ _ _ us hl => match us, hl with | [_], _ => rfl) (ok_nt F_number_text nd (gc X G d 7 rfl) (F_number_text.bindsN fun _ _ _ _ _ _ us hl => match us, hl with | [_], _ => rfl) m_str m_divmod m_PART_DIGITS)
  have cls := He.cls_ok (d.fact 57 (f := .cls "Ratio") rfl)
  have n1 := He.noat_ok (d.fact 58 (f := .noat "Ratio" "top") rfl)
  have n2 := He.noat_ok (d.fact 59 (f := .noat "Ratio" "bottom") rfl)
  have mk := He.mkr_ok (d.fact 60 (f := .mkr "Ratio") rfl)
  have M_mul := He.meth_ok (d.fact 61 (f := .meth "Ratio" "__mul__") rfl)
  have M_invert := He.meth_ok (d.fact 62 (f := .meth "Ratio" "__invert__") rfl)
  have M_raised := He.meth_ok (d.fact 63 (f := .meth "Ratio" "raised") rfl)
  have M_power := He.meth_ok (d.fact 64 (f := .meth "Ratio" "power") rfl)
  have M_pow := He.meth_ok (d.fact 65 (f := .meth "Ratio" "__pow__") rfl)
  have M_eq := He.meth_ok (d.fact 66 (f := .meth "Ratio" "__eq__") rfl)
  have M_str := He.meth_ok (d.fact 67 (f := .meth "Ratio" "__str__") rfl)
  have M_repr := He.meth_ok (d.fact 68 (f := .meth "Ratio" "__repr__") rfl)
  obtain ⟨ds3, v3, b3⟩ := F_Rinit.binds1 (ps := ["self", "top", "bottom"]) 3 1 (by simp) rfl fun T kV doc pm an cdv ct us its l1 l2 => match us, its, l1, l2 with | [_, _, _], [_], _, _ => ⟨_, rfl, rfl⟩
  obtain ⟨ds2, v2, b2⟩ := F_Rinit.binds1 (ps := ["self", "top", "bottom"]) 2 0 (by simp) rfl fun T kV doc pm an cdv ct us its l1 l2 => match us, its, l1, l2 with | [_, _], [_], _, _ => ⟨_, rfl, rfl⟩
  have e3 : ds3 = [] := match ds3, v3 with | [], _ => rfl
  subst e3
  obtain ⟨t2, e2⟩ : ∃ t, ds2 = [.int 1 t] := match ds2, v2 with | [_], .cons ⟨t, e⟩ .nil => ⟨t, by rw [e]⟩
  subst e2
  obtain ⟨gK, bK⟩ := rat_k F_Rinit
  have okI := ok_ratio (base := base) F_Rinit cls n1 n2 c_InvalidNumber c_is_whole m_gcd
  have c_R : RatioC P w K mg base (He.ga K "Ratio") (He.ga K "InvalidNumber") := ⟨cls, gc X G d 1 rfl, n1, n2, x.rat.ha, x.rat.hn, x.rat.htk, x.rat.hm, by unfold PySem.W.kitOne; exact if_pos (beq_self_eq_true _), _, _, mk, okI, b3⟩
  have b_mul : Binds K fd_Rmul ["self", "other"] [] := F_Rmul.bindsN fun _ _ _ _ _ _ us hl => match us, hl with | [_, _], _ => rfl
  have b_invert : Binds K fd_Rinvert ["self"] [] := F_Rinvert.bindsN fun _ _ _ _ _ _ us hl => match us, hl with | [_], _ => rfl
  have b_raised : Binds K fd_Rraised ["self", "k"] [] := F_Rraised.bindsN fun _ _ _ _ _ _ us hl => match us, hl with | [_, _], _ => rfl
  have b_power : Binds K fd_Rpower ["self", "prime"] [] := F_Rpower.bindsN fun _ _ _ _ _ _ us hl => match us, hl with | [_, _], _ => rfl
  have b_pow : Binds K fd_Rpow ["self", "other"] [] := F_Rpow.bindsN fun _ _ _ _ _ _ us hl => match us, hl with | [_, _], _ => rfl
  have b_eq : Binds K fd_Req ["self", "other"] [] := F_Req.bindsN fun _ _ _ _ _ _ us hl => match us, hl with | [_, _], _ => rfl
  have b_str : Binds K fd_Rstr ["self"] [] := F_Rstr.bindsN fun _ _ _ _ _ _ us hl => match us, hl with | [_], _ => rfl
  have b_repr : Binds K fd_Rrepr ["self"] [] := F_Rrepr.bindsN fun _ _ _ _ _ _ us hl => match us, hl with | [_], _ => rfl
  have ok_Rraised := ok_raised (base := base) (w := w) (P := P) (mg := mg) F_Rraised c_R c_InvalidNumber c_power_of
  have o_R : RatZ P w K mg base (He.ga K "Ratio") (He.ga K "InvalidNumber") := ⟨c_R, ⟨_, _, t2, mk, okI, b2⟩, ⟨_, _, gK, mk, okI, bK⟩, x.rat.sf, ⟨_, M_mul.at_, M_mul.fn, rawN (ok_mul F_Rmul c_R m_isinstance) b_mul⟩, ⟨_, M_invert.at_, M_invert.fn, rawN (ok_neg F_Rinvert c_R c_InvalidNumber) b_invert⟩, ⟨_, M_eq.at_, M_eq.fn, rawN (ok_eqR F_Req c_R m_isinstance) b_eq, ok_neqR F_Req c_R m_isinstance m_NI⟩,
    ⟨_, M_pow.at_, M_pow.fn, rawN (ok_powR F_Rpow c_R M_raised ok_Rraised b_raised) b_pow⟩, ⟨_, M_str.at_, M_str.fn, rawN (ok_rstr F_Rstr c_R c_number_text) b_str⟩, ⟨_, M_repr.at_, M_repr.fn, rawN (ok_rrep F_Rrepr c_R c_number_text) b_repr⟩, ⟨_, _, M_raised, ok_Rraised, b_raised⟩, ⟨_, _, M_power, ok_power F_Rpower c_R c_InvalidNumber c_is_whole c_times_divided m_PRIMES hP, b_power⟩,
    x.rat.rpw, x.rat.ip, x.rat.irp, x.rat.si, x.rat.sb, x.rat.ss, x.rat.sn, x.rat.st, x.rat.sl, x.rat.ct, x.rat.cl, x.rat.kt, x.rat.ks, x.rat.ki, ⟨x.rat.tb, x.rat.tl⟩⟩
  have x_F : ExF P w K mg base (He.ga K "BorderError") (He.ga K "InvalidNumber") (He.ga K "TooMany") := ⟨⟨_, _, c_InvalidNumber⟩, ⟨_, _, c_TooMany⟩, gc X G d 2 rfl, He.exm_ok (d.fact 69 (f := .exm "InvalidNumber" "BorderError" true) rfl), He.exm_ok (d.fact 70 (f := .exm "TooMany" "BorderError" true) rfl), by unfold PySem.W.kitOne; exact if_pos (beq_self_eq_true _), x.kTI, by unfold PySem.W.kitOne; exact if_pos (beq_self_eq_true _)⟩
  have t_A : AskF P w K mg base (He.ga K "BorderError") (He.ga K "InvalidNumber") (He.ga K "TooMany") := ⟨⟨_, F__law_ask⟩, gc X G d 21 rfl, x_F, ⟨_, _, ok_fau F__law_fault x_F m_isinstance, gc X G d 20 rfl, F__law_fault.kp, F__law_fault.bindsN fun _ _ _ _ _ _ us hl => match us, hl with | [_], _ => rfl⟩⟩
  have c_indexed_word : Cal P w K mg base CX0 "indexed_word" 1 ["index", "length", "signs"] (spIxWord) := cal_of (st := top 24) F_indexed_word (gc X G d 14 rfl) (F_indexed_word.bindsN fun _ _ _ _ _ _ us hl => match us, hl with | [_, _, _], _ => rfl) (ok_ixWord F_indexed_word m_range m_tuple)
  obtain ⟨tkA, bA⟩ := aw_b F_all_words
  obtain ⟨gA, kA⟩ := aw_k F_all_words
  have aw : AwC P w K mg base (He.ga K "InvalidNumber") (He.ga K "TooMany") := ⟨⟨_, _, tkA, gA, ok_aw F_all_words c_InvalidNumber c_TooMany m_LONGEST m_ALL_SIGNS m_range c_is_number c_power_of c_indexed_word, gc X G d 15 rfl, F_all_words.kp, bA, kA⟩, x.sI, x.sT⟩
  have c__law_bag : Cal P w K mg base CX0 "_law_bag" 1 ["_law_script"] (spBag K) := cal_of (st := top 27) F__law_bag (gc X G d 16 rfl) (F__law_bag.bindsN fun _ _ _ _ _ _ us hl => match us, hl with | [_], _ => rfl) (ok_bag F__law_bag m_int m_list)
  have c__law_draw : Cal P w K mg base CX0 "_law_draw" 1 ["_law_bag_here", "_law_many"] (spDraw) := cal_of (st := top 28) F__law_draw (gc X G d 17 rfl) (F__law_draw.bindsN fun _ _ _ _ _ _ us hl => match us, hl with | [_, _], _ => rfl) (ok_draw F__law_draw m_int m_len)
  have c__law_of : Cal P w K mg base CX0 "_law_of" 2 ["_law_bag_here", "_law_things"] (spOf) := cal_of (st := top 29) F__law_of (gc X G d 18 rfl) (F__law_of.bindsN fun _ _ _ _ _ _ us hl => match us, hl with | [_, _], _ => rfl) (ok_of F__law_of m_len c__law_draw)
  have c__law_sum : Cal P w K mg base CX0 "_law_sum" 1 ["_law_one", "_law_two"] (spSum K) := cal_of (st := top 38) F__law_sum (gc X G d 27 rfl) (F__law_sum.bindsN fun _ _ _ _ _ _ us hl => match us, hl with | [_, _], _ => rfl) (ok_sum F__law_sum m_zip)
  have c__law_primes : Cal P w K mg base CX0 "_law_primes" 1 [] (spPrimes) := cal_of (st := top 34) F__law_primes (gc X G d 23 rfl) (F__law_primes.bindsN fun _ _ _ _ _ _ us hl => match us, hl with | [], _ => rfl) (ok_primes F__law_primes)
  have c__law_number : Cal P w K mg base CX0 "_law_number" 2 ["_law_bag_here", "_law_room", "_law_most_primes"] (spNum) := cal_of (st := top 35) F__law_number (gc X G d 24 rfl) (F__law_number.bindsN fun _ _ _ _ _ _ us hl => match us, hl with | [_, _, _], _ => rfl) (ok_num F__law_number m_range c__law_primes c__law_draw)
  have c_count_ratio : Cal P w K mg base (L2.CX P w) "count_ratio" 5 ["part", "whole"] (spCount (He.ga K "Ratio") (He.ga K "InvalidNumber")) := cal_of (st := top 15) F_count_ratio (gc X G d 9 rfl) (F_count_ratio.bindsN fun _ _ _ _ _ _ us hl => match us, hl with | [_, _], _ => rfl) (ok_count F_count_ratio c_R)
  have c__law_drawn_ratio : Cal P w K mg base CX0 "_law_drawn_ratio" 6 ["_law_bag_here"] (spDR (He.ga K "Ratio")) := cal_of (st := top 39) F__law_drawn_ratio (gc X G d 28 rfl) (F__law_drawn_ratio.bindsN fun _ _ _ _ _ _ us hl => match us, hl with | [_], _ => rfl) (ok_dr F__law_drawn_ratio o_R m_zip c__law_draw c__law_of c__law_number c_count_ratio)
  have c__law_worth : Cal P w K mg base CX0 "_law_worth" 2 ["_law_powers"] (spWorth K) := cal_of (st := top 36) F__law_worth (gc X G d 25 rfl) (F__law_worth.bindsN fun _ _ _ _ _ _ us hl => match us, hl with | [_], _ => rfl) (ok_worth F__law_worth m_zip m_range m_max c__law_primes)
  have c__law_ratio_so : Cal P w K mg base CX0 "_law_ratio_so" 9 ["_law_bag_here", "_law_ratio", "_law_powers"] (spRSo (He.ga K "Ratio") (TT K)) := cal_of (st := top 37) F__law_ratio_so (gc X G d 26 rfl) (F__law_ratio_so.bindsN fun _ _ _ _ _ _ us hl => match us, hl with | [_, _, _], _ => rfl) (ok_rso F__law_ratio_so nd t_A (hTB (He.cT K ("_law_ratio_so", none)) (List.mem_map.mpr ⟨("_law_ratio_so", none), by unfold tf; simp, rfl⟩)) (by simp [TT]) t_u__law_ratio_so o_R m_str m_repr c__law_draw c__law_of c__law_like c__law_primes c__law_worth)
  have c__law_ratios : Cal P w K mg base CX0 "_law_ratios" 10 ["_law_bag_here"] (spLR (TT K)) := cal_of (st := top 40) F__law_ratios (gc X G d 29 rfl) (F__law_ratios.bindsN fun _ _ _ _ _ _ us hl => match us, hl with | [_], _ => rfl) (ok_lr F__law_ratios nd t_A (hTB (He.cT K ("_law_ratios", none)) (List.mem_map.mpr ⟨("_law_ratios", none), by unfold tf; simp, rfl⟩)) (by simp [TT]) t_u__law_ratios o_R m_str m_len m_max m_abs m_all m_range c__law_draw c__law_of c__law_like c__law_sum c__law_drawn_ratio c__law_ratio_so)
  have c_word_index : Cal P w K mg base CX0 "word_index" 1 ["word", "signs"] (spWordIx K) := cal_of (st := top 22) F_word_index (gc X G d 12 rfl) (F_word_index.bindsN fun _ _ _ _ _ _ us hl => match us, hl with | [_, _], _ => rfl) (ok_wordIx F_word_index)
  have c_word_at : Cal P w K mg base (L2.CX P w) "word_at" 3 ["index", "length", "signs"] (spWordAt (He.ga K "InvalidNumber")) := cal_of (st := top 23) F_word_at (gc X G d 13 rfl) (F_word_at.bindsN fun _ _ _ _ _ _ us hl => match us, hl with | [_, _, _], _ => rfl) (ok_wordAt F_word_at c_InvalidNumber c_is_number c_power_of c_indexed_word)
  have c__law_listed : Cal P w K mg base CX0 "_law_listed" 1 ["_law_signs", "_law_size"] (spListed) := cal_of (st := top 42) F__law_listed (gc X G d 31 rfl) (F__law_listed.bindsN fun _ _ _ _ _ _ us hl => match us, hl with | [_, _], _ => rfl) (ok_listed F__law_listed m_range)
  have c__law_words : Cal P w K mg base CX0 "_law_words" 9 ["_law_bag_here"] (spLR (TT K)) := cal_of (st := top 43) F__law_words (gc X G d 32 rfl) (F__law_words.bindsN fun _ _ _ _ _ _ us hl => match us, hl with | [_], _ => rfl) (ok_lw F__law_words t_A (hTB (He.cT K ("_law_words", none)) (List.mem_map.mpr ⟨("_law_words", none), by unfold tf; simp, rfl⟩)) (by simp [TT]) t_u__law_words aw m_list m_tuple m_range m_max m_min m_MOST c__law_draw c__law_of c__law_like c_word_index c_word_at c__law_listed)
  have c_is_word : Cal P w K mg base CX0 "is_word" 3 ["value", "signs"] (spWord K) := cal_of (st := top 21) F_is_word (gc X G d 11 rfl) (F_is_word.bindsN fun _ _ _ _ _ _ us hl => match us, hl with | [_, _], _ => rfl) (ok_word F_is_word m_isinstance m_tuple m_min m_all m_ALL_SIGNS c_is_number)
  have c__law_judged : Cal P w K mg base CX0 "_law_judged" 7 ["_law_bag_here"] (spLR (TT K)) := cal_of (st := top 45) F__law_judged (gc X G d 34 rfl) (F__law_judged.bindsN fun _ _ _ _ _ _ us hl => match us, hl with | [_], _ => rfl) (ok_lj F__law_judged nd m_list m_tuple m_range m_max m_min m_len m_str c__law_draw c__law_of c__law_like c_is_number c_is_word)
  have c__law_more_words : Cal P w K mg base CX0 "_law_more_words" 7 ["_law_bag_here"] (spLR (TT K)) := cal_of (st := top 46) F__law_more_words (gc X G d 35 rfl) (F__law_more_words.bindsN fun _ _ _ _ _ _ us hl => match us, hl with | [_], _ => rfl) (ok_mw F__law_more_words o_R m_bool c__law_draw c__law_of c__law_like c_is_word)
  have c__law_wrong : Cal P w K mg base CX0 "_law_wrong" 3 ["_law_bag_here"] (spWrong) := cal_of (st := top 33) F__law_wrong (gc X G d 22 rfl) (F__law_wrong.bindsN fun _ _ _ _ _ _ us hl => match us, hl with | [_], _ => rfl) (ok_wrong F__law_wrong c__law_draw c__law_of)
  have c__law_refused_ratios : Cal P w K mg base CX0 "_law_refused_ratios" 8 ["_law_bag_here"] (spLR (TT K)) := cal_of (st := top 41) F__law_refused_ratios (gc X G d 30 rfl) (F__law_refused_ratios.bindsN fun _ _ _ _ _ _ us hl => match us, hl with | [_], _ => rfl) (ok_rr F__law_refused_ratios t_A (hTB (He.cT K ("_law_refused_ratios", none)) (List.mem_map.mpr ⟨("_law_refused_ratios", none), by unfold tf; simp, rfl⟩)) (by simp [TT]) t_u__law_refused_ratios o_R c__law_draw c__law_of c__law_like c__law_wrong c_count_ratio)
  have c__law_refused_words : Cal P w K mg base CX0 "_law_refused_words" 9 ["_law_bag_here"] (spLR (TT K)) := cal_of (st := top 44) F__law_refused_words (gc X G d 33 rfl) (F__law_refused_words.bindsN fun _ _ _ _ _ _ us hl => match us, hl with | [_], _ => rfl) (ok_rw F__law_refused_words t_A (hTB (He.cT K ("_law_refused_words", none)) (List.mem_map.mpr ⟨("_law_refused_words", none), by unfold tf; simp, rfl⟩)) (by simp [TT]) t_u__law_refused_words aw m_list c__law_draw c__law_of c__law_like)
  exact ok_law F_law m_range m_MOST c__law_bag c__law_ratios c__law_words c__law_judged c__law_more_words c__law_refused_ratios c__law_refused_words
end
end K01
open PySem PySem.W PySem.Calls PyProof.Rows
theorem PySem.Challenge.cw_borderflow_k01_ratios_and_words_holds : PySem.Challenge.rw_borderflow_k01_ratios_and_words.Holds := by
  w_on; o_law
  refine HandSHeadRun.head_imp (r := K01.R) (q := K01.qv) (H := K01.hk) (ob := K01.ob) (M := 12000) (loose := K01.names) (d := HandSHeadRun.topDef K01.R.prog 47) (kwd := []) K01.ob_eq K01.run
    (by kernel_rfl) (by kernel_rfl) (by kernel_rfl) (by rfl) (by first | assumption | decide +kernel) (by decide +kernel) ⟨rfl, rfl, rfl, rfl, rfl, by decide +kernel⟩ ?hw ?hc
  case hw => w_witness2
  case hc =>
    refine LamX.walkN (l := PySem.Challenge.rw_borderflow_k01_ratios_and_words) (n := 63) (k := 11) (CX := fun _ => L2.CX0) rfl (by decide) (by kernel_rfl) ⟨rfl, by decide, by decide⟩ ?F (fun _ _ _ _ _ z => z)
    intro w mg fa h Y G hmg0
    obtain ⟨K, KX, c⟩ := Y
    have hmg : mg ("law" : PySem.Str) = some (.ref fa) := by
      have e : (HandSHeadRun.topDef K01.R.prog 47).name = ("law" : PySem.Str) := by kernel_rfl
      rw [← e]
      exact hmg0
    refine ⟨K, KX, K01.cs K, K01.spLaw K (K01.TT K), fun p hp => ?_, fun p hp => ?_, fun p hp => ?_, fun H a ns hl _ hT hS => ⟨a, ns, rfl, hS, hl, fun p hp => ?_, fun _ => rfl⟩, K01.facts (P := (PySem.Challenge.rw_borderflow_k01_ratios_and_words).prog) (w := w) KX G hmg c⟩
    · obtain ⟨q, hq, rfl⟩ := List.mem_map.mp hp
      exact c.empty q hq
    · obtain ⟨q, hq, rfl⟩ := List.mem_map.mp hp
      exact c.out q hq
    · obtain ⟨q, hq, rfl⟩ := List.mem_map.mp hp
      exact PySem.W.codeHd_of_K KX (c.hd q hq)
    · simp only [K01.TT, List.mem_cons, List.not_mem_nil, or_false] at hp
      rcases hp with rfl | rfl | rfl | rfl | rfl
      · exact LamX.TabS.nil (hT _ (List.mem_map.mpr ⟨("_law_ratio_so", none), by unfold K01.tf; simp, rfl⟩))
      · exact LamX.TabS.nil (hT _ (List.mem_map.mpr ⟨("_law_ratios", none), by unfold K01.tf; simp, rfl⟩))
      · exact LamX.TabS.nil (hT _ (List.mem_map.mpr ⟨("_law_refused_ratios", none), by unfold K01.tf; simp, rfl⟩))
      · exact LamX.TabS.nil (hT _ (List.mem_map.mpr ⟨("_law_words", none), by unfold K01.tf; simp, rfl⟩))
      · exact LamX.TabS.nil (hT _ (List.mem_map.mpr ⟨("_law_refused_words", none), by unfold K01.tf; simp, rfl⟩))
