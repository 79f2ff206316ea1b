import PyProof.Rows.All
import Wide.All
import OpenK.AllK
import Wide.FinOn
import KE.KExcIs
import HandS.ForMost
import HandS.Exc
import HandS.ExcOwn
import HandS.ExcInit
import HandS.ExcValue
import HandS.ExcBuiltin
import HandS.IsInst
import PyProof.InstEq
import HandS.Walk
import HandS.TryMany
import HandS.TryOnly
import HandS.ExcField
import HandS.Lambda
import HandS.EndTab
import HandS.ForExc
import HandS.DeepEq
import HandS.Style
import KE.RegKTryMore
import PySem.Challenge.RW_slabpins_k01_slabs
set_option Elab.async false
set_option linter.all false
set_option maxRecDepth 100000
set_option maxHeartbeats 4000000
namespace PySem
namespace KwX
open PySem.W PySem.Calls PyProof.Rows PySem.HandSPX
section
variable {M : Model} {A : Around} {E : Value → Shared → Prop} {h : Heap} {g : Array GenState} {d : Drawn} {t : Nat} {os : OsState} {kw : List (Str × Value)}
variable {nm q : Str} {C N : Addr} {bs bm bmB : List Value} {hdct : Bool} {sn : List Str} {sub : List Value} {ab : Bool} {col : Option Bool} {dd : Option Addr} {k0 k1 k2 k3 k5 : Option Value} {B newId initId : String}
theorem kwNewCheck (F : ExcBaseFacts B newId initId bmB) (hT : ∀ X : String, bm.contains (.type X) = bmB.contains (.type X)) {rest : List Value} {Q : Unit → Shared → Prop}
    (hC : h.get? C = some (excClassObj nm q C N bs bm hdct sn sub ab col dd k0 k1 k2 k3 k5 newId)) (hq : Q () ⟨h, g, d, t, os⟩) : wpAny M A (checkBuiltinCall newId ⟨.ref C :: rest, kw⟩) Q E ⟨h, g, d, t, os⟩ := by
  have inB : (Value.ref C :: bm).contains (.type B) = true := by rw [List.contains_cons, hT, F.hasB, Bool.or_true]
  have nStar := F.noStar
  simp only [checkBuiltinCall, F.newKind, F.newSplit, F.newRow]
  repeat (first | refine wpAny_loadPart_at hC ?_ | (refine wpAny_isSubtype_exc hC ?_; rw [inB]) | refine wpAny_staticBase_exc hC ?_ | refine wpAny_madeBy_exc hC ?_ | simp only [bne_self_eq_false, Bool.false_eq_true, if_false] | wp_step)
  exact hq
end
section
variable {prog : Program} {w : World} {A : Around} {E : Value → Shared → Prop} {R : Result → Shared → Prop} {h : Heap} {g : Array GenState} {d : Drawn} {t : Nat} {os : OsState} {kw : List (Str × Value)}
variable {nm q : Str} {C N : Addr} {bs bm bmB : List Value} {hdct : Bool} {sn : List Str} {sub : List Value} {ab : Bool} {col : Option Bool} {dd : Option Addr} {k0 k1 k2 k3 k5 : Option Value} {B newId initId : String}
theorem kwNew (F : ExcBaseFacts B newId initId bmB) (hT : ∀ X : String, bm.contains (.type X) = bmB.contains (.type X)) {rest : List Value}
    (hC : h.get? C = some (excClassObj nm q C N bs bm hdct sn sub ab col dd k0 k1 k2 k3 k5 newId))
    (hq : R (.ok (.ret (.ref (h.objs.size + 1)))) ⟨(h.push (W.kdv_tup rest)).push (excO C h.objs.size), g, d, t, os⟩) (hrest : rest.length ≤ sizeLine) :
    codeAny (model prog w) A (.builtin newId ⟨.ref C :: rest, kw⟩) R ⟨h, g, d, t, os⟩ := by
  have hends := F.ends
  have inB : (Value.ref C :: bm).contains (.type B) = true := by rw [List.contains_cons, hT, F.hasB, Bool.or_true]
  have inA : (Value.ref C :: bm).contains (.type "AttributeError") = false := by rw [List.contains_cons, hT, F.noAttr]; rfl
  have inN : (Value.ref C :: bm).contains (.type "NameError") = false := by rw [List.contains_cons, hT, F.noName]; rfl
  refine codeAny_builtinAt F.entry ?_
  unfold Builtin.«BaseException.__new__»
  refine wpAt_bind ?_
  show wpAt _ _ _ (stack >>= _) _ _ _
  refine wpAt_bind (wpAt_stack fun p below => wpAt_of_wpAny ?_)
  wp_walk
  refine wpAt_of_wpAny ?_
  rw [F.owner]
  repeat (first | with_reducible refine wpAny_madeHere_exc F.canon hC ?_ | with_reducible refine wpAny_loadPart_at hC ?_ | (with_reducible refine wpAny_isSubtype_exc hC ?_; first | rw [inB] | rw [inA] | rw [inN]) | wp_step)
  show R _ _
  rw [Heap.size_push]
  exact hq
theorem kwTypeCall (F : ExcBaseFacts B newId initId bmB) (hT : ∀ X : String, bm.contains (.type X) = bmB.contains (.type X)) {rest : List Value} {fI : Addr} {Q : Fin → Shared → Prop}
    (hC : h.get? C = some (excClassObj nm q C N bs bm hdct sn sub ab col dd k0 k1 k2 k3 k5 newId))
    (hi : W.Looks (model prog w) h (typeLookup (.ref C) "__init__") (some (.ref fI))) (hb : ∀ self, W.Looks (model prog w) h (bindSpecial (.ref fI) self) (.ref fI, [self])) (hrest : rest.length ≤ sizeLine)
    (hq : codeAny (model prog w) A (.call (.ref fI) ⟨.ref (h.objs.size + 1) :: rest, kw⟩)
      (fun r s' => match r with | .ok (.ret v) => v = .none ∧ Q (.done (.ret (.ref (h.objs.size + 1)))) s' | .ok _ => False | .error e => E e s')
      ⟨(h.push (W.kdv_tup rest)).push (excO C h.objs.size), g, d, t, os⟩) :
    wpAny (model prog w) A (Builtin.«type.__call__» ⟨.ref C :: rest, kw⟩) Q E ⟨h, g, d, t, os⟩ := by
  repeat (first | with_reducible refine wpAny_loadPart_at hC ?_ | with_reducible refine wpAny_madeBy_exc hC ?_ | wp_step)
  refine codeAny_call_builtin_code (Code.quiet_builtin _ F.quiet) (kwNewCheck F hT hC ?_)
  refine kwNew F hT hC ?_ hrest
  show wpAny _ _ _ _ _ _
  have k : ∀ b o, h.get? b = some o → ((h.push (W.kdv_tup rest)).push (excO C h.objs.size)).get? b = some o := fun b o e => Heap.get?_push_of_some _ (Heap.get?_push_of_some _ e)
  have hC₁ := k _ _ hC
  have hget : ((h.push (W.kdv_tup rest)).push (excO C h.objs.size)).get? (h.objs.size + 1) = some (excO C h.objs.size) := by heap_get
  have inC : (Value.ref C :: bm).contains (.ref C) = true := by simp
  have i1 := hi.keeps k
  have b1 := (hb (.ref (h.objs.size + 1))).keeps k
  unfold isInstance
  repeat (first | with_reducible refine wpAny_loadPart_at hget ?_ | (with_reducible refine wpAny_isSubtype_exc hC₁ ?_; rw [inC]) | wp_step)
  show wpAny _ _ (typeLookup (.ref C) _) _ _ _
  refine i1.at ?_
  refine wpAny_holding (wpAny_bind (b1.at ?_))
  refine wpAny_bind (wpAny_call (codeAny_mono hq fun r s' z => ?_))
  rcases r with e | (v | _ | _ | _) <;> first | exact z | exact z.elim | skip
  obtain ⟨rfl, z⟩ := z
  first
    | exact wpAny_pure (wpAny_pure z)
    | (wp_walk; exact z)
theorem kwCall (F : ExcBaseFacts B newId initId bmB) (hT : ∀ X : String, bm.contains (.type X) = bmB.contains (.type X)) {rest : List Value} {fI : Addr}
    (hC : h.get? C = some (excClassObj nm q C N bs bm hdct sn sub ab col dd k0 k1 k2 k3 k5 newId))
    (hi : W.Looks (model prog w) h (typeLookup (.ref C) "__init__") (some (.ref fI))) (hb : ∀ self, W.Looks (model prog w) h (bindSpecial (.ref fI) self) (.ref fI, [self])) (hrest : rest.length ≤ sizeLine)
    (hq : codeAny (model prog w) (A.under (.builtin "type.__call__" ⟨.ref C :: rest, kw⟩)) (.call (.ref fI) ⟨.ref (h.objs.size + 1) :: rest, kw⟩) (W.InitBack (h.objs.size + 1) R)
      ⟨(h.push (W.kdv_tup rest)).push (excO C h.objs.size), g, d, t, os⟩) :
    codeAny (model prog w) A (.call (.ref C) ⟨rest, kw⟩) R ⟨h, g, d, t, os⟩ := by
  have f1 := tc_lookup
  have f2 := tc_bind (.ref C)
  have hTy : (⟨h, g, d, t, os⟩ : Shared).TypeIs (.ref C) "type" := ⟨_, hC, rfl⟩
  refine codeAny_of_tree ?_
  show wpAny _ _ (callAny (.ref C) _) _ _ _
  repeat (any_goals (first | assumption | with_reducible refine wpAny_loadPart_at hC ?_ | wp_step))
  refine ⟨rfl, ?_⟩
  refine codeAny_call_builtin_at (Code.quiet_builtin _ (by decide +kernel)) entry_typeCall (wpAny_check_type_call_sub hC (kwTypeCall F hT hC hi hb hrest ?_))
  refine codeAny_mono hq fun r s' z => ?_
  rcases r with e | (v | _ | _ | _) <;> exact z
end
end KwX
end PySem
set_option Elab.async false
set_option linter.all false
set_option maxRecDepth 100000
set_option maxHeartbeats 4000000
namespace XV
open PySem PySem.Spec PyProof.Rows L2

/-- what the written part tells of an own class of exceptions at C: one field f, its maker at fI -/
structure XCls (K : PySem.W.Frag) (C fI : Addr) (f : Str) : Prop where
  ox : OexC K C
  ini : PySem.W.findIn K (.ref C) "__init__" = some (some (.ref fI))
  tyI : PySem.W.typeIn K (.ref fI) = some (.type "function")
  noF : PySem.W.findIn K (.ref C) f = some none
  ga : PySem.W.findIn K (.ref C) "__getattribute__" = some (some (.builtin "BaseException.__getattribute__"))
  gg : PySem.W.findIn K (.ref C) "__getattr__" = some none
  hd : PySem.W.hasDictIn K C = true
/-- the exception at a, its dict at dx: what is there behind its making -/
def mkE (H : Hp) (a dx C : Addr) (f : Str) (v : V) : Hp := upd (upd H dx (exd dx [(f, v)])) a (exo a C (some dx))
/-- at a stands an exception of the class at C whose field f is v -/
def ExAt (H : Hp) (a C : Addr) (f : Str) (v : V) : Prop := ∃ dx, H a = some (exo a C (some dx)) ∧ H dx = some (exd dx [(f, v)])
theorem mkE_at {H : Hp} {a dx C : Addr} {f : Str} {v : V} (ne : dx ≠ a) : ExAt (mkE H a dx C f v) a C f v :=
  ⟨dx, upd_same, by unfold mkE; rw [upd_ne ne, upd_same]⟩
theorem mkE_same {H : Hp} {a dx C : Addr} {f : Str} {v : V} (ha : H a = none) (hd : H dx = none) : Same H (mkE H a dx C f v) := fun b o e => by
  unfold mkE
  rw [upd_ne (ne_of_none e ha), upd_ne (ne_of_none e hd)]
  exact e
theorem ExAt.keep {H H' : Hp} {a C : Addr} {f : Str} {v : V} (h : ExAt H a C f v) (k : Same H H') : ExAt H' a C f v :=
  let ⟨dx, h1, h2⟩ := h
  ⟨dx, k _ _ h1, k _ _ h2⟩
/-- the maker's promise -/
def spIni (C : Addr) (f : Str) : Sp := fun vs H Q _ => ∃ (a : Addr) (v : V), vs = [.ref a, v] ∧ H a = some (exo a C none) ∧ ∀ dx, H dx = none → dx ≠ a → Q .non (upd (upd H dx (exd dx [(f, v)])) a (exo a C (some dx)))
/-- C(v) as a value -/
def tMkX (C : Addr) (f : Str) (t : TA) : TE := fun σ H Q => t σ H fun vs H1 => ∃ v, vs = [v] ∧ ∀ a dx, H1 a = none → H1 dx = none → dx ≠ a → Q (.ref a) (mkE H1 a dx C f v)
section
variable {X : Cx} {CX : CXT} {k : Nat} {C fI : Addr} {fd : FuncData} {x f : Str} {p pos : Pos} {e : Expr} {es : List Expr} {kws : List Keyword} {t tk : TA}
theorem run_mkX {pins : List (Addr × Obj)} {σ : L2.St} {H : Hp} {s : Shared} {Q : VK} {v : V} {u : Value} {us : List Value} {kw : List (Str × Value)} (T : XCls X.K C fI f) (F1 : FnOk X.prog X.w X.K X.mg X.base CX k fI fd (["self", f] : List Str) (spIni C f)) (hr : Room (k + 1) X.A)
    (hb : ∀ (s : Shared) (y : Value), BindsTo s fd ⟨y :: us, kw⟩ ((["self", f] : List Str).zip [y, u])) (hx : Passes CX X E0) (hus : us.length ≤ 1) (I : Inv X pins σ H s) (r : RelV v u)
    (h : ∀ a dx, H a = none → H dx = none → dx ≠ a → Q (.ref a) (mkE H a dx C f v)) : wpAny (model X.prog X.w) X.A (call (.ref C) us kw) (EP X pins σ Q) X.xe s := by
  obtain ⟨nm, q, N, bs, bm, sn, sub, ab, col, dd, k0, k1, k2, k3, k5, hC, hbm⟩ := T.ox.cls
  obtain ⟨hp, g, dr, tk', os⟩ := s
  have hsz : hp.objs.size ≤ hp.objs.size + 1 := Nat.le_succ _
  have hn : H (hp.objs.size + 1) = none := I.hok.fresh hsz
  have kk : ∀ b o, hp.get? b = some o → ((hp.push (PySem.W.kdv_tup us)).push (PySem.HandSPX.excO C hp.objs.size)).get? b = some o := fun b o z => Heap.get?_push_of_some _ (Heap.get?_push_of_some _ z)
  have hget : ((hp.push (PySem.W.kdv_tup us)).push (PySem.HandSPX.excO C hp.objs.size)).get? (hp.objs.size + 1) = some (PySem.HandSPX.excO C hp.objs.size) := by heap_get
  have I2 : Inv X pins σ (upd H (hp.objs.size + 1) (exo (hp.objs.size + 1) C none)) ⟨(hp.push (PySem.W.kdv_tup us)).push (PySem.HandSPX.excO C hp.objs.size), g, dr, tk', os⟩ :=
    I.laid (t' := tk') (a := hp.objs.size + 1) (o := exo (hp.objs.size + 1) C none) (h' := (hp.push (PySem.W.kdv_tup us)).push (PySem.HandSPX.excO C hp.objs.size)) kk hsz (exo_ok hget)
  have r2 : Vals [V.ref (hp.objs.size + 1), v] [Value.ref (hp.objs.size + 1), u] := .cons rfl (.cons r .nil)
  have hq : spIni C f [V.ref (hp.objs.size + 1), v] (upd H (hp.objs.size + 1) (exo (hp.objs.size + 1) C none)) (fun v' H2 => v' = .non ∧ Q (.ref (hp.objs.size + 1)) H2) E0 := by
    refine ⟨_, _, rfl, upd_same, fun dx n ne => ⟨rfl, ?_⟩⟩
    have nd : H dx = none := by rw [upd_ne ne] at n; exact n
    have z := h (hp.objs.size + 1) dx hn nd ne
    have e : upd (upd (upd H (hp.objs.size + 1) (exo (hp.objs.size + 1) C none)) dx (exd dx [(f, v)])) (hp.objs.size + 1) (exo (hp.objs.size + 1) C (some dx)) = mkE H (hp.objs.size + 1) dx C f v := by
      funext b
      unfold mkE upd
      by_cases h1 : b = hp.objs.size + 1
      · simp only [if_pos h1]
      · by_cases h2 : b = dx
        · simp only [if_neg h1, if_pos h2]
        · simp only [if_neg h1, if_neg h2]
    rw [e]
    exact z
  have hus' : us.length ≤ sizeLine := by
    rw [sizeLine_eq]
    omega
  refine wpAny_call (PySem.KwX.kwCall F.excBase_ValueError (fun Y => PySem.HandSPX.refsVE_contains Y bm hbm) (I.kIn _ _ hC) (PySem.W.looks_findIn I.kIn T.ini) (fun self => PySem.W.bind_fn I.kIn self T.tyI) hus'
    (codeAny_mono (F1.run _ X.stack _ _ ⟨Value.ref (hp.objs.size + 1) :: us, kw⟩ [Value.ref (hp.objs.size + 1), u] _ _ E0 (hr.make C us kw) (I2.env0.make C us kw) (hb _ _) r2 hq) fun r s' hq' => ?_))
  cases r with
  | error er => exact hx pins σ _ _ er s' I2 hq'
  | ok fl =>
    cases fl with
    | ret u' =>
      obtain ⟨v', H', I3, rv, ev, q3⟩ := I2.after hq'
      subst ev
      exact ⟨rv, ⟨V.ref (hp.objs.size + 1), H', I3, rfl, q3⟩⟩
    | next => exact False.elim hq'
    | brk => exact False.elim hq'
    | cont => exact False.elim hq'
/-- C(e) -/
theorem pe_mkX (T : XCls X.K C fI f) (F1 : FnOk X.prog X.w X.K X.mg X.base CX k fI fd (["self", f] : List Str) (spIni C f)) (hr : Room (k + 1) X.A) (hb : Binds X.K fd (["self", f] : List Str) []) (hb2 : ∀ (s : Shared) (y u : Value), BindsTo s fd ⟨[y, u], []⟩ ((["self", f] : List Str).zip [y, u]))
    (hx : Passes CX X E0) (hg : Gl X x) (hm : X.mg x = some (.ref C)) (ha : PA X (e :: es) t)
    (hdb : (x == ("__debug__" : Str)) = false := by decide) (he : starEach (e :: es) X.env = (false, eval e X.env) :: starEach es X.env := by rfl) (hpl : (backTo pos (starEach es X.env)).any (·.1) = false := by rfl) :
    PE X (.Call (.Name x p) (e :: es) [] pos) (tMkX C f t) := by
  refine ⟨fun pins s σ H Q I h => ?_⟩
  refine wpAny_Call_Name_kw (ld_glob I hg hm ?_ hdb)
  refine PySem.W.callWith_K (h₀ := X.base) I.ok.mod.kin T.ox.kC (thn (ha.run pos pins s σ H _ I h) fun us s1 ⟨vs, H1, I1, r, v, ev, q⟩ => ⟨I1.kIn, ?_⟩) he hpl
  subst ev
  cases r with
  | cons rv rn =>
    cases rn
    exact run_mkX T F1 hr (fun s y => hb2 s y _) hx (Nat.le_refl _) I1 rv q
/-- C(f=e) -/
theorem pe_mkXK (T : XCls X.K C fI f) (F1 : FnOk X.prog X.w X.K X.mg X.base CX k fI fd (["self", f] : List Str) (spIni C f)) (hr : Room (k + 1) X.A) (hb2 : ∀ (s : Shared) (y u : Value), BindsTo s fd ⟨[y], ([f] : List Str).zip [u]⟩ ((["self", f] : List Str).zip [y, u]))
    (hx : Passes CX X E0) (hg : Gl X x) (hm : X.mg x = some (.ref C)) (hkw : PK X kws tk)
    (hall : (backToKw pos (keywordEach kws X.env)).all (·.1.isSome) = true := by rfl) (hks : (backToKw pos (keywordEach kws X.env)).filterMap (·.1) = [f] := by rfl) (hdb : (x == ("__debug__" : Str)) = false := by decide)
    (hpl : ((backTo pos (starEach [] X.env)).any (·.1) || (backToKw pos (keywordEach kws X.env)).any (·.1.isNone)) = false := by rfl) :
    PE X (.Call (.Name x p) [] kws pos) (tMkX C f tk) := by
  refine ⟨fun pins s σ H Q I h => ?_⟩
  refine wpAny_Call_Name_kw (ld_glob I hg hm ?_ hdb)
  refine PySem.W.callWith_KW0 (h₀ := X.base) I.ok.mod.kin T.ox.kC hall ?_ hpl
  refine thn (hkw.run pos pins s σ H _ I h) fun ws s2 ⟨zs, H2, I2, rz, v, ev, q2⟩ => ⟨I2.kIn, ?_⟩
  subst ev
  cases rz with
  | cons rv rn =>
    cases rn
    rw [hks]
    exact run_mkX T F1 hr (fun s y => hb2 s y _) hx (Nat.zero_le _) I2 rv q2
end
theorem exo_inst {P : Program} {w : World} {H : Hp} {h : Heap} {a C dx : Addr} {f : Str} {v : V} (hok : HOk P w H h) (ha : H a = some (exo a C (some dx))) (hd : H dx = some (exd dx [(f, v)])) :
    ∃ (oe od : Obj) (u : Value), PySem.W.InstAt h a oe C (some od) ∧ PySem.W.lookIn f od = some (some u) ∧ RelV v u := by
  obtain ⟨t1, e1⟩ := exo_at hok ha
  obtain ⟨mA, hns, rel⟩ := exd_at hok hd
  obtain ⟨od, ho, hl⟩ := lookIn_ns hns
  have l : List.lookup f [(f, v)] = some v := by simp [List.lookup]
  obtain ⟨u, hu, ru⟩ := RelO.some_of (v := v) (o := mA f) (by rw [← l]; exact rel f)
  exact ⟨_, od, u, ⟨e1, rfl, rfl, ho⟩, by rw [hl, hu], ru⟩
/-- e.f -/
def tXf (K : PySem.W.Frag) (f : Str) (te : TE) : TE := fun σ H Q => te σ H fun x H1 => ∃ (a C fI : Addr) (v : V), x = .ref a ∧ XCls K C fI f ∧ ExAt H1 a C f v ∧ Q v H1
section
variable {X : Cx} {f : Str} {pos : Pos} {e : Expr} {te : TE}
theorem pe_xf (he : PE X e te) (hb : attributeBase e f X.env (eval e X.env) = eval e X.env := by rfl) : PE X (.Attribute e f pos) (tXf X.K f te) := by
  refine ⟨fun pins s σ H Q I h => ?_⟩
  refine attr_of hb (thn (he.run pins s σ H _ I h) fun u s1 hh => ?_)
  obtain ⟨x, H1, I1, rx, a, C, fI, v, ex, T, ⟨dx, ea, ed⟩, q⟩ := hh
  subst ex
  obtain rfl : u = Value.ref a := rx
  obtain ⟨oe, od, u, J, hl, ru⟩ := exo_inst I1.hok ea ed
  exact HandSPX.exc_get I1.kIn J T.ga T.gg T.ox.exC (PySem.W.findObj_own T.hd T.noF rfl hl) (handed_of ru) ⟨v, H1, I1.tok _, ru, q⟩
end
/-- what isinstance asks of such a class -/
structure XIs (K : PySem.W.Frag) (C : Addr) : Prop where
  cl : (PySem.W.clsIn K C).isSome = true
  ga : PySem.W.findIn K (.ref C) "__getattribute__" = some (some (.builtin "BaseException.__getattribute__"))
  gg : PySem.W.findIn K (.ref C) "__getattr__" = some none
  exC : PySem.W.subIn K (.ref C) (.type "BaseException") = some true
  ca : PySem.W.findIn K (.ref C) "__class__" = some (some (.builtin "object.__class__"))
  sp : PySem.W.specialIn K (.builtin "object.__class__") "__get__" = some (some (.builtin "getset_descriptor.__get__"))
  tk : PySem.W.takesIn K (.builtin "object.__class__") = some true
  mr : PySem.W.mroIn K C (.type "object") = some true
/-- isinstance(e, c), e such an exception -/
def rIsX (K : PySem.W.Frag) : List V → Hp → VK → Prop := fun xs H Q => ∃ (a C : Addr) (f : Str) (v c : V) (u : Value) (b : Bool), xs = [.ref a, c] ∧ ClsV c u ∧ XIs K C ∧ ExAt H a C f v ∧ PySem.W.kitOne K (.ref C) u = some b ∧ Q (.bl b) H
theorem call_isX {X : Cx} : CallR X (.builtin "isinstance") (rIsX X.K) := by
  intro pins s σ H xs us Q I r h
  obtain ⟨a, C, f, v, c, u, b, rfl, k, T, ⟨dx, ea, ed⟩, e, q⟩ := h
  obtain ⟨u1, u2, rfl, r1, r2⟩ := vals2 r
  have e2 := k.eq r2
  subst e2
  obtain rfl : u1 = Value.ref a := r1
  obtain ⟨oe, od, _, J, _, _⟩ := exo_inst I.hok ea ed
  exact PySem.W.kia_one (PySem.W.kitx_exc T.cl T.ga T.gg T.exC T.ca T.sp T.tk T.mr) I.kIn J e (fun z => nomatch z) fun tk => ⟨.bl b, H, I.tok tk, rfl, q⟩
/-- an exception of a built-in class, as a value -/
def bxo (a : Addr) (T : String) : HO := .ext fun h => ∃ o, h.get? a = some o ∧ o.cls = .type T
def tMkB (T : String) (t : TA) : TE := fun σ H Q => t σ H fun vs H1 => vs.length ≤ sizeLine ∧ ∀ a, H1 a = none → Q (.ref a) (upd H1 a (bxo a T))
def rIsB (K : PySem.W.Frag) (T : String) : List V → Hp → VK → Prop := fun xs H Q => ∃ (a : Addr) (c : V) (u : Value) (b : Bool), xs = [.ref a, c] ∧ ClsV c u ∧ H a = some (bxo a T) ∧ PySem.W.kitOne K (.type T) u = some b ∧ Q (.bl b) H
theorem call_isB_VE {X : Cx} : CallR X (.builtin "isinstance") (rIsB X.K "ValueError") := by
  intro pins s σ H xs us Q I r h
  obtain ⟨a, c, u, b, rfl, k, ea, e, q⟩ := h
  obtain ⟨u1, u2, rfl, r1, r2⟩ := vals2 r
  have e2 := k.eq r2
  subst e2
  obtain rfl : u1 = Value.ref a := r1
  have x : ObjOk X.prog X.w H s.heap a (.ext fun h => ∃ o, h.get? a = some o ∧ o.cls = .type "ValueError") := I.hok a _ ea
  obtain ⟨⟨o, h1, h2⟩, _⟩ := x
  exact PySem.W.kia_one (PySem.W.kitx_bexc PySem.F.excAttr_ValueError PySem.F.lkClass_ValueError PySem.F.soClass_ValueError (by decide +kernel)) I.kIn ⟨o, h1, h2⟩ e (fun z => nomatch z) fun tk => ⟨.bl b, H, I.tok tk, rfl, q⟩
end XV
namespace XV
open PySem PySem.Spec PyProof.Rows L2
section
variable {X : Cx} {T N I : String} {x : Str} {p pos : Pos} {e : Expr} {es : List Expr} {t : TA}
/-- T(e, ..), a built-in class of exceptions, as a value -/
theorem pe_mkB (F : ExcB T N I) (hg : Gl X x) (hm : X.mg x = none) (hv : bootBuiltins x = some (.type T)) (ha : PA X (e :: es) t) (hn : x ≠ "__name__" := by decide) (hdb : (x == ("__debug__" : Str)) = false := by decide)
    (he : starEach (e :: es) X.env = (false, eval e X.env) :: starEach es X.env := by rfl) (hpl : (backTo pos (starEach es X.env)).any (·.1) = false := by rfl) :
    PE X (.Call (.Name x p) (e :: es) [] pos) (tMkB T t) := by
  refine ⟨fun pins s σ H Q J h => ?_⟩
  refine wpAny_Call_Name_kw (ld_blt J hg hm hv ?_ hn hdb)
  refine PyProof.Rows.callWith_type1 (thn (ha.run pos pins s σ H _ J h) fun us s1 hh => ?_) he hpl
  obtain ⟨vs, H1, I1, r1, q0, q1⟩ := hh
  obtain ⟨hp1, g1, d1, tk1, os1⟩ := s1
  refine wpAny_call_exc F.call (fun h' a mk => ?_) (Nat.le_trans (Nat.le_of_eq r1.length.symm) q0)
  obtain ⟨t0, eo, _, _⟩ := mk.there
  have na : H1 a = none := I1.hok.gone mk.new
  have new : ObjOk X.prog X.w (upd H1 a (bxo a T)) h' a (bxo a T) := ⟨⟨_, eo, rfl⟩, ⟨_, eo⟩, fun h1 h2 ⟨o, z1, z2⟩ k => ⟨o, k _ z1, z2⟩⟩
  exact ⟨.ref a, _, I1.laidN (t' := tk1) (a := a) (o := bxo a T) mk.keeps mk.new na new, rfl, q1 a na⟩
end
end XV
set_option Elab.async false
set_option linter.all false
set_option maxRecDepth 100000
set_option maxHeartbeats 4000000
namespace PySem
namespace NeX
open PySem.W PySem.Calls PyProof.Rows Builtin
section
variable {prog : Program} {w : World} {A : Around} {E : Value → Shared → Prop} {s : Shared} {K : Frag} {x C L f : Addr} {h₀ : Heap} {m : Str → Option Value} {ox : Obj} {od : Option Obj} {name : Str} {b tb : Value}
theorem bindNe (self : Value) : bindSpecial (.builtin "object.__ne__") self = pure (.builtin "object.__ne__", [self]) := PySem.F.cmp_object.ne.bind self
/-- a built-in's special method of an own class, called if it is bound -/
theorem ifBoundNe {M : Model} {args : List Value} {Q : Option Value → Shared → Prop} (X : K.In s.heap) (I : InstAt s.heap x ox C od) (hs : findIn K (.ref C) "__ne__" = some (some (.builtin "object.__ne__")))
    (h : wpAny M A (call (.builtin "object.__ne__") (.ref x :: args)) (fun v => Q (some v)) E s) : wpAny M A (callSpecialIfBound? (.ref x) "__ne__" args) Q E s := by
  simp only [callSpecialIfBound?, bindSpecialIfBound?]
  refine wpAny_holding (wpAny_bind (wpAny_bind (wpAny_bind (I.type.here ((looks_findIn X hs).here ?_)))))
  refine wpAny_bind (wpAny_askSetting (wpAny_ite ?_))
  rw [bindNe]
  have fin : wpAny M A (call (.builtin "object.__ne__") ([.ref x] ++ args) >>= fun v => pure (some v)) Q E s := wpAny_bind (wpAny_mono h (fun v s' h' => wpAny_pure h') fun _ _ h' => h')
  split
  · exact wpAny_bind (wpAny_pure (wpAny_pure (by exact fin)))
  · exact wpAny_tryCatch (wpAny_bind (wpAny_pure (wpAny_pure (by exact fin))))
/-- object's != by the own == -/
theorem callNe {Q : Value → Shared → Prop} (hu : A.units + 1 < cLine) (X : K.In s.heap) (I : InstAt s.heap x ox C od) (hm : mroIn K C (.type "object") = some true) (he : findIn K (.ref C) "__eq__" = some (some (.ref f))) (hf : isFn K (.ref f) = true)
    (h : wpAny (model prog w) A.in1 (call (.ref f) [.ref x, b]) (fun v s' => ∃ k, v = .bool k ∧ Q (.bool (!k)) s') E s) : wpAny (model prog w) A (call (.builtin "object.__ne__") [.ref x, b]) Q E s := by
  have sub : Looks (model prog w) s.heap (isInstance (.ref x) (.type "object")) true := I.type.andThen (looks_mroIn X hm)
  refine wpAny_call (codeAny_call_builtin PySem.F.cmp_object.ne.plain PySem.F.cmpEntry_ne (check_slot PySem.F.cmpKind_ne PySem.F.cmpSplit_ne sub (PySem.F.cmpArgs_ne (.ref x) b) ?_))
  unfold Builtin.«object.__ne__»
  refine wpAny_bind (wpAny_of_eq (a := ((Value.ref x : Value), [b])) (by first | rfl | (simp only [slotArgs]; rfl)) ?_)
  refine wpAny_bind (wpAny_cRoomFor (by show A.units + 1 < cLine; exact hu) ?_)
  refine wpAny_bind (ifBound_K X I he hf (wpAny_mono h (fun v s' z => ?_) fun _ _ e => e))
  obtain ⟨k, rfl, q⟩ := z
  show wpAny _ _ (truthy (.bool k) >>= fun r => ret (Value.bool !r)) _ _ _
  exact wpAny_bind (wpAny_pure (wpAny_pure q))
end
end NeX
end PySem
namespace XV
open PySem PySem.Spec PyProof.Rows L2
section
variable {X : Cx} {CX : CXT} {k : Nat} {C f : Addr} {fd : FuncData} {ps : List Str} {sp : Sp}
/-- a def called from within a built-in -/
theorem run_in1 {A : Around} {pins : List (Addr × Obj)} {σ : L2.St} {H : Hp} {s : Shared} {us : List Value} {vs : List V} {Q : VK} {R E : Value → Shared → Prop} (F : FnOk X.prog X.w X.K X.mg X.base CX0 k f fd ps sp) (hr : Room k A) (hA : A.frames = X.A.frames) (hb : Binds X.K fd ps [])
    (I : Inv X pins σ H s) (r : Vals vs us) (h : sp vs H Q E0) (hR : ∀ v u H' s', Inv X pins σ H' s' → RelV v u → Q v H' → R u s') : wpAny (model X.prog X.w) A (call (.ref f) us) R E s := by
  have e0 : Env0 X.prog X.w X.K X.mg X.base A X.stack s H := by
    have e := I.env0
    exact ⟨by rw [hA]; exact e.frames, e.mod, e.bs, e.bsz, e.funs, e.frf, e.hok, e.bare⟩
  have hl := F.len _ _ _ _ h
  have hl2 : (us ++ []).length = ps.length := by
    rw [List.append_nil, ← r.length]
    exact hl
  refine wpAny_call (codeAny_mono (F.run A X.stack s H ⟨us, []⟩ us vs _ E0 hr e0 (by
    have := hb s us I.kIn hl2
    simpa using this) r h) fun r s' hq => ?_)
  cases r with
  | error e => exact (show False from hq).elim
  | ok fl =>
    cases fl with
    | ret u =>
      obtain ⟨v, H', I', rv, q⟩ := I.after hq
      exact hR v u H' s' I' rv q
    | next => exact False.elim hq
    | brk => exact False.elim hq
    | cont => exact False.elim hq
/-- len(x) by the own __len__ -/
def rLenI (C : Addr) (sp : Sp) : List V → Hp → VK → Prop := fun xs H Q => ∃ (a dx : Addr) (fs : List (Str × V)), xs = [.ref a] ∧ H a = some (.ins C dx fs) ∧ sp [.ref a] H (fun v H' => ∃ n : Nat, v = .int n ∧ n < 1000 ∧ Q (.int n) H') E0
theorem call_lenI (F : FnOk X.prog X.w X.K X.mg X.base CX0 k f fd ps sp) (hs : PySem.W.findIn X.K (.ref C) "__len__" = some (some (.ref f))) (hf : PySem.W.isFn X.K (.ref f) = true) (hb : Binds X.K fd ps []) (hr : Room (k + 1) X.A) :
    CallR X (.builtin "len") (rLenI C sp) := by
  intro pins s σ H xs us Q I r h
  obtain ⟨a, dx, fs, rfl, ha, q⟩ := h
  obtain ⟨u, rfl, rx⟩ := vals1 r
  obtain rfl : u = Value.ref a := rx
  obtain ⟨mA, J, _⟩ := ins_get I.hok ha
  obtain ⟨od, J, _⟩ := J.look
  obtain ⟨m, hF⟩ := I.fr
  refine PySem.W.len_K hF I.ok.mod.kin J hs hf (run_in1 (vs := [V.ref a]) F hr.in1 rfl hb I (.cons rfl .nil) q fun v u H' s' I' rv z => ?_)
  obtain ⟨n, rfl, hn, z⟩ := z
  obtain ⟨t, rfl⟩ := rv
  exact ⟨⟨by omega, by omega⟩, ⟨.int n, H', I'.tok _, ⟨_, rfl⟩, z⟩⟩
/-- x == y by the own __eq__ -/
def rEqI (K : PySem.W.Frag) (C : Addr) (sp : Sp) (neg : Bool) : R2 := fun x y H Q => ∃ (a dx : Addr) (fs : List (Str × V)) (t : Value), x = .ref a ∧ H a = some (.ins C dx fs) ∧ TyX K H y t ∧ PySem.W.notFirst K C t = true ∧
  sp [x, y] H (fun v H' => ∃ b, v = .bl b ∧ Q (.bl (b ^^ neg)) H') E0
theorem op_eqI (F : FnOk X.prog X.w X.K X.mg X.base CX0 k f fd ps sp) (hs : PySem.W.findIn X.K (.ref C) "__eq__" = some (some (.ref f))) (hf : PySem.W.isFn X.K (.ref f) = true) (hb : Binds X.K fd ps []) (hr : Room k X.A) :
    OpR X (compareOp .Eq) (rEqI X.K C sp false) := by
  intro pins s σ H x y v u Q I rx ry h
  obtain ⟨a, dx, fs, t, rfl, ha, ty, hn, q⟩ := h
  cases rx
  obtain ⟨mA, J, _⟩ := ins_get I.hok ha
  obtain ⟨od, J, _⟩ := J.look
  obtain ⟨m, hF⟩ := I.fr
  obtain ⟨P, Z, p, _⟩ := kit_of I ry ty
  show wpAny _ _ (richCompare .Eq (.ref a) u) _ _ _
  refine PySem.W.cmp_K (op := .Eq) (tb := t) hr.units0 hF I.ok.mod.kin J (Z.ty _ _ I.kIn p) hn hs hf (run_in1 (vs := [V.ref a, y]) F hr rfl hb I (.cons rfl (.cons ry .nil)) q fun v u H' s' I' rv z => ?_)
  obtain ⟨b, rfl, z⟩ := z
  cases rv
  rw [Bool.xor_false] at z
  exact ⟨.bl b, H', I', rfl, z⟩
theorem op_neI (F : FnOk X.prog X.w X.K X.mg X.base CX0 k f fd ps sp) (hs : PySem.W.findIn X.K (.ref C) "__eq__" = some (some (.ref f))) (hf : PySem.W.isFn X.K (.ref f) = true) (hb : Binds X.K fd ps []) (hr : Room (k + 1) X.A)
    (hne : PySem.W.findIn X.K (.ref C) "__ne__" = some (some (.builtin "object.__ne__"))) (hm : PySem.W.mroIn X.K C (.type "object") = some true) :
    OpR X (compareOp .NotEq) (rEqI X.K C sp true) := by
  intro pins s σ H x y v u Q I rx ry h
  obtain ⟨a, dx, fs, t, rfl, ha, ty, hn, q⟩ := h
  cases rx
  obtain ⟨mA, J, _⟩ := ins_get I.hok ha
  obtain ⟨od, J, _⟩ := J.look
  obtain ⟨m, hF⟩ := I.fr
  obtain ⟨P, Z, p, _⟩ := kit_of I ry ty
  have one : wpAny (model X.prog X.w) X.A (call (.builtin "object.__ne__") [.ref a, u]) (fun v s' => ∃ b, v = .bool b ∧ EP X pins σ Q (.bool b) s') X.xe s := by
    refine PySem.NeX.callNe (f := f) (by have := hr.units; omega) I.kIn J hm hs hf (run_in1 (vs := [V.ref a, y]) F hr.in1 rfl hb I (.cons rfl (.cons ry .nil)) q fun v u H' s' I' rv z => ?_)
    obtain ⟨b, rfl, z⟩ := z
    cases rv
    rw [Bool.xor_true] at z
    exact ⟨b, rfl, !b, rfl, .bl (!b), H', I', rfl, z⟩
  show wpAny _ _ (richCompare .NotEq (.ref a) u) _ _ _
  have two : wpAny (model X.prog X.w) X.A (tryCompare (.ref a) (cmpInfo .NotEq).2.1 u) (fun r s' => ∃ v, r = some v ∧ EP X pins σ Q v s') X.xe s := by
    unfold tryCompare
    refine wpAny_bind (PySem.NeX.ifBoundNe I.kIn J hne (wpAny_mono one (fun v s' hv => ?_) fun _ _ e => e))
    obtain ⟨b, rfl, hv⟩ := hv
    exact wpAny_pure ⟨_, rfl, hv⟩
  unfold richCompare
  simp only [oneThing_ref]
  refine wpAny_holding (wpAny_bind (wpAny_cRoomFor hr.units0 ?_))
  refine wpAny_bind (J.type.here (wpAny_bind ((Z.ty _ _ I.kIn p).here ?_)))
  split
  · rename_i qq
    have e : PySem.W.subIn X.K t (.ref C) = some false := by
      rcases Bool.or_eq_true_iff.mp hn with e | e
      · rw [beq_iff_eq.mp e] at qq
        simp at qq
      · exact beq_iff_eq.mp e
    refine wpAny_bind ((PySem.W.looks_subIn I.kIn e).here ?_)
    simp only [Bool.false_eq_true, if_false]
    refine wpAny_bind (wpAny_mono two (fun r s' z => ?_) fun _ _ e => e)
    obtain ⟨v, rfl, hq⟩ := z
    exact wpAny_pure hq
  · refine wpAny_bind (wpAny_pure ?_)
    simp only [Bool.false_eq_true, if_false]
    refine wpAny_bind (wpAny_mono two (fun r s' z => ?_) fun _ _ e => e)
    obtain ⟨v, rfl, hq⟩ := z
    exact wpAny_pure hq
end
end XV
set_option Elab.async false
set_option linter.all false
set_option maxRecDepth 100000
set_option maxHeartbeats 4000000
namespace XV
open PySem PySem.Spec PyProof.Rows L2
/-- behind a clause 'as n' (slot i) the name is gone -/
def goneE (i : Nat) (D : Ends) : Ends := { nx := fun σ' H' => D.nx (σ'.set i none) H', rt := D.rt, bk := fun σ' H' => D.bk (σ'.set i none) H', ct := fun σ' H' => D.ct (σ'.set i none) H' }
/-- what the clauses 'except x as n' wish, one after the other -/
def wManyAs (K : PySem.W.Frag) (i : Nat) (Wout : WX) (D : Ends) : List (Value × (Addr → Value → Option Addr → TS)) → WX
  | [] => Wout
  | (c, ts) :: r => fun cls d σ H => ∃ b, PySem.W.exmOne K cls c = some b ∧ (b = true → ∀ a, H a = none → ts a cls d (goneE i D) (σ.set i (some (.ref a))) H) ∧ (b = false → wManyAs K i Wout D r cls d σ H)
inductive HdsAs (X : Cx) (n : Str) : List ExceptHandler → List (Value × (Addr → Value → Option Addr → TS)) → Prop
  | nil : HdsAs X n [] []
  | cons {x : Str} {c : Value} {ts : Addr → Value → Option Addr → TS} {b₀ : Stmt} {suite : List Stmt} {np pos' : Pos} {hds : List ExceptHandler} {l : List (Value × (Addr → Value → Option Addr → TS))} (hc : Names X x c)
      (hsu : ∀ (a : Addr) (oe : Obj) (cls : Value) (d : Option Addr) (pn : List (Addr × Obj)), Zc cls d oe → (∃ vs, oe.data = .fields vs) → PSs (X.suite a ((a, oe) :: pn)) (b₀ :: suite) (ts a cls d)) (r : HdsAs X n hds l) :
      HdsAs X n (.ExceptHandler (some (.Name x np)) (some n) (b₀ :: suite) pos' :: hds) ((c, ts) :: l)
section
variable {X : Cx} {n : Str} {i : Nat} {body : List Stmt} {h₀ : ExceptHandler} {hds : List ExceptHandler} {l : List (Value × (Addr → Value → Option Addr → TS))} {pos : Pos} {tb : WX → TS} {Wout : WX}
theorem ps_try_manyAs (hs : X.stack = X.env :: X.outer) (hf : X.env.frame = some X.env.locals) (hN : X.N.Nodup) (hi : X.N[i]? = some n) (hln : X.env.kindOf n = some .local) (tk : Takes X Wout)
    (hb : ∀ (W : WX) (pn : List (Addr × Obj)) (xe : Value → Shared → Prop), Takes (X.tr pn xe) W → PassesOwn (model X.prog X.w) X.A X.env xe → PSs (X.tr pn xe) body (tb W))
    (hh : HdsAs X n (h₀ :: hds) l) : PS X (.Try body (h₀ :: hds) [] [] pos) (fun D σ H => tb (wManyAs X.K i Wout D l) D σ H) := by
  refine ⟨fun pins s σ H D I h => ?_⟩
  have ok := I.ok
  have hfr : X.A.frames = some (X.env :: X.outer) := by rw [ok.frames, hs]
  have hloc : Loc X.env.scope n := .inl hln
  refine wpAny_Try_except ?_
  refine wpAny_mono ((hb (wManyAs X.K i Wout D l) (X.pn ++ pins) (fun e s₁ => wpAny (model X.prog X.w) X.A (noteFrame e X.env) (fun _ s₂ => wpAny (model X.prog X.w) X.A (setFlight e none) (fun _ s₃ =>
    wpAny (model X.prog X.w) X.A (handleBy e X.env (h₀ :: hds)) (SP X pins D) X.xe s₃) X.xe s₂) X.xe s₁) (fun u s' xx => ?_) PassesOwn.looking).run [] s σ H D (I.toTry _) h) (fun f s1 hsp => ?_) (fun e s1 he => he)
  · obtain ⟨a, B, sI, pins', σ', H', cls, d, rfl, J', nb, up, sky, na, os, ag, w⟩ := xx
    have J : Inv X pins σ' H' sI := J'.ofTry ok
    have sky' : Sky B (X.env :: X.outer) a (Zc cls d) X.env.locals s'.heap := by rw [← hs]; exact sky
    show wpAny (model X.prog X.w) X.A (noteFrame (.ref a) X.env) _ _ _
    refine Sky.land Zc.steady hfr hf sky' fun h3 fl3 up3 => ?_
    have J3 : Inv X pins σ' H' { s' with heap := h3 } := J.landed nb fl3.1 (up.trans up3) os ag
    obtain ⟨oe3, vs3, he3, hz3, hd3⟩ := fl3.there
    have notFr : ∀ {h : Heap} {o : Obj} {vs : Array Value}, h.FunFrames B (X.env :: X.outer) → h.get? a = some o → o.data = .fields vs → a ∉ frs (X.env :: X.outer) := fun {h o vs} ff e dd hm => by
      obtain ⟨_, o', e', hnf⟩ := ff.mem hm
      rw [e] at e'; cases e'
      exact hnf _ dd
    have nfr := notFr fl3.2.2.1 he3 hd3
    have nL : a ≠ X.env.locals := fun z => nfr (List.mem_filterMap.mpr ⟨X.env, List.mem_cons_self, by rw [hf, z]⟩)
    have nF : a ∉ X.fs := fun hm => by
      obtain ⟨e, he, q⟩ := List.mem_filterMap.mp hm
      exact nfr (List.mem_filterMap.mpr ⟨e, List.mem_cons_of_mem _ he, q⟩)
    have S3 := J3.suite he3 hd3 na nL nF
    have go : ∀ {hds' : List ExceptHandler} {l' : List (Value × (Addr → Value → Option Addr → TS))}, HdsAs X n hds' l' → wManyAs X.K i Wout D l' cls d σ' H' →
        wpAny (model X.prog X.w) X.A (handleBy (.ref a) X.env hds') (SP X pins D) X.xe { s' with heap := h3 } := by
      intro hds' l' hk
      induction hk with
      | nil =>
        intro w
        refine wpAny_handleBy_nil ?_
        obtain ⟨k1, k2, k3, oe, vs, T, oT, ts', he, hz, hd, h1, hr⟩ := id fl3
        unfold PySem.passOn
        refine wpAny_bind (wpAny_field he hd h1 ?_)
        rw [if_neg (show ¬ ((Value.ref T == Value.none) = true) from by simp)]
        have fin : wpAny (model X.prog X.w) X.A (setFlight (.ref a) X.env.frame) (fun _ s4 => wpAny (model X.prog X.w) X.A (throw (.ref a) : Sem Flow) (SP X pins D) X.xe s4) X.xe { s' with heap := h3 } := by
          rw [hf]
          refine HandSPX.setFlight_upZ fl3 fun h4 hh4 up4 => wpAny_throw (tk _ _ ?_)
          exact ⟨a, B, sI, pins, σ', H', cls, d, rfl, J, nb, (up.trans up3).trans up4, .inr (.inr (by rw [hs]; exact hh4)), na, os, ag, w⟩
        first
          | exact wpAny_bind (wpAny_pure (wpAny_bind fin))
          | exact wpAny_bind fin
      | @cons x c ts b₀ suite np pos' hds2 l2 hc hsu r ih =>
        intro w
        obtain ⟨b, hb1, hyes, hno⟩ := w
        refine wpAny_handleBy_cons (codeAny_handlers_test ?_) (by intro q; cases q)
        have LT : PySem.W.Looks (model X.prog X.w) h3 (typeOf (.ref a)) cls := fun A Q E s k q => wpAny_typeOf_ref (k _ _ he3) (by rw [hz3.1]; exact q)
        have LM := PySem.W.exm_one (M := model X.prog X.w) (J3.kIn) LT hb1
        have test : ∀ {Q : Value → Shared → Prop} {E : Value → Shared → Prop}, Q c { s' with heap := h3 } → wpAny (model X.prog X.w) (X.A.mark (some (.ref a))) (eval (.Name x np) X.env) Q E { s' with heap := h3 } := fun {Q E} q => by
          obtain ⟨hg, hdbg, hm | ⟨hm, hv, hnn⟩⟩ := hc
          · exact ld_glob (X := X.suite a ((a, oe3) :: (X.pn ++ pins))) S3 hg hm q hdbg
          · exact ld_blt (X := X.suite a ((a, oe3) :: (X.pn ++ pins))) S3 hg hm hv q hnn hdbg
        refine test (LM.here ?_)
        cases b with
        | true =>
          refine codeAny_handlers_suite_as ?_
          refine HandSPX.lands_againZ fl3 fun h4 fl4 up4 => ?_
          have J4 : Inv X pins σ' H' { s' with heap := h4 } := J.landed nb fl4.1 ((up.trans up3).trans up4) os ag
          obtain ⟨oe4, vs4, he4, hz4, hd4⟩ := fl4.there
          have S4 := J4.suite he4 hd4 na nL nF
          refine store_ok (X := X.suite a ((a, oe4) :: (X.pn ++ pins))) (v := .ref a) S4 hN hi hloc rfl (fun s5 S5 => ?_) (.inr hln)
          refine wpAny_mono ((hsu a oe4 cls d (X.pn ++ pins) hz4 ⟨_, hd4⟩).run [] s5 _ H' _ S5 (hyes rfl a na)) (fun f s6 hsp => ?_) (fun _ _ z => False.elim z)
          have end_ : ∀ {σ6 : L2.St} {H6 : Hp} {Q : Shared → Prop}, Inv (X.suite a ((a, oe4) :: (X.pn ++ pins))) [] σ6 H6 s6 → (∀ s7, Inv X pins (σ6.set i none) H6 s7 → Q s7) →
              wpAny (model X.prog X.w) X.A (do bindName X.env n .none; unbindBehindTheSuite X.env n pos') (fun _ s7 => Q s7) X.xe s6 := fun {σ6 H6 Q} S6 hq => gone_ok (S6.unsuite ok) hN hi hln hq
          cases f with
          | next =>
            obtain ⟨σ6, H6, S6, q6⟩ := hsp
            exact end_ S6 fun s7 J7 => ⟨_, _, J7, q6⟩
          | brk =>
            obtain ⟨σ6, H6, S6, q6⟩ := hsp
            exact end_ S6 fun s7 J7 => ⟨_, _, J7, q6⟩
          | cont =>
            obtain ⟨σ6, H6, S6, q6⟩ := hsp
            exact end_ S6 fun s7 J7 => ⟨_, _, J7, q6⟩
          | ret u =>
            obtain ⟨v6, σ6, H6, S6, r6, q6⟩ := hsp
            exact end_ S6 fun s7 J7 => ⟨_, _, _, J7, r6, q6⟩
        | false =>
          show wpAny _ X.A (handleBy (.ref a) X.env hds2) _ _ _
          exact ih (hno rfl)
    exact go hh w
  · cases f with
    | next =>
      obtain ⟨σ', H', J', q⟩ := hsp
      exact wpAny_execs_nil ⟨σ', H', J'.ofTry ok, q⟩
    | brk =>
      obtain ⟨σ', H', J', q⟩ := hsp
      exact ⟨σ', H', J'.ofTry ok, q⟩
    | cont =>
      obtain ⟨σ', H', J', q⟩ := hsp
      exact ⟨σ', H', J'.ofTry ok, q⟩
    | ret u =>
      obtain ⟨v, σ', H', J', r, q⟩ := hsp
      exact ⟨v, σ', H', J'.ofTry ok, r, q⟩
end
end XV
set_option Elab.async false
set_option linter.all false
set_option maxRecDepth 100000
set_option maxHeartbeats 4000000
namespace XV
open PySem PySem.Spec PyProof.Rows L2 LamX
section
variable {X : Cx} {pins : List (Addr × Obj)} {σ : L2.St} {H HZ : Hp} {s s1 : Shared}
/-- x(), in the def that got the lambda: Z is that def's context, entered at s -/
theorem pe_actS {CXg : CXT} {Eg : XK} {Ng : List Str} {qg : Str} {sg : Scope} {g f c' : Addr} {cdg pm ctv : Value} {params : Arguments} {body : Expr} {scope : Scope} {k i : Nat} {a : Str} {pn : List (Addr × Obj)} {xe : Value → Shared → Prop} {W : WX} {E : L2.St → XK} {tb : L2.St → TE} {p1 p2 : Pos}
    (I : Inv X pins σ H s) (L : LamS X.env.scope scope) (hf : s.heap.get? f = some (PySem.W.kla_obj "<lambda>" (X.env.qual ++ "<lambda>") params body scope (cloFrom X.env.cells scope.names []) pm c' ctv)) (hfn : H f = none) (hfr : f ∉ frs X.stack)
    (hbind : bindArgs (PySem.W.kla_fn "<lambda>" (X.env.qual ++ "<lambda>") params body scope (cloFrom X.env.cells scope.names []) pm (.ref c') ctv) ⟨[], []⟩ = pure [])
    (tk : Takes ((cxOf CXg X.prog X.w X.K X.mg X.base Ng qg sg g cdg X.A X.stack s H Eg).tr pn xe) W) (hr : Room (k + 1) (X.A.deeper (envOfC qg sg s.heap.objs.size g cdg)))
    (hbody : ∀ (σZ : L2.St) (A : Around) (outer : List Env) (s : Shared) (H : Hp), Room k (A.deeper (lamEnv X scope s.heap.objs.size f c')) → PE (lamCx X A outer s H (E σZ) scope f c') body (tb σZ))
    (hN : Ng[i]? = some a) (hv : Vis sg a) (hd : (a == ("__debug__" : Str)) = false := by decide) (hcd : (a == ("__classdict__" : Str)) = false := by decide) :
    PE ((cxOf CXg X.prog X.w X.K X.mg X.base Ng qg sg g cdg X.A X.stack s H Eg).tr pn xe) (.Call (.Name a p1) [] [] p2)
      (fun σZ HZ Q => σZ[i]? = some (some (.ref f)) ∧ HZ c' = some (CodeO c' (X.env.qual ++ "<lambda>")) ∧ (∀ cls d H', E σZ cls d H' → W cls d σZ H') ∧ tb σZ σ HZ Q) := by
  refine ⟨fun pinsZ sZ σZ HZ Q IZ h => ?_⟩
  obtain ⟨hs, hc, hW, ht⟩ := h
  refine wpAny_Call_Name_kw (thn ((pe_var (pos := p1) (i := i) hN hv hd hcd).run pinsZ sZ σZ HZ (fun v H1 => v = .ref f ∧ H1 = HZ) IZ ⟨.ref f, hs, rfl, rfl⟩) fun u s1 ⟨v, H1, I1, r1, q1⟩ => ?_)
  obtain ⟨ev, eH⟩ := q1
  subst ev
  rw [eH] at I1
  obtain rfl : u = Value.ref f := r1
  have of1 : s1.heap.get? f = some (PySem.W.kla_obj "<lambda>" (X.env.qual ++ "<lambda>") params body scope (cloFrom X.env.cells scope.names []) pm c' ctv) := I1.base.keep f _ hf hfn hfr (fun z => nomatch (show f ∈ ([] : List Addr) from z))
  refine PySem.W.callWith_F0 ⟨_, _, _, _, of1⟩ ?_
  have un : Un (frs X.stack) [] H HZ s.heap s1.heap := I1.base
  obtain ⟨⟨oc, vs, t, hoc, hdc, hvc⟩, _, _⟩ := I1.hok c' _ hc
  have rc : codeAny (model X.prog X.w) (X.A.deeper (envOfC qg sg s.heap.objs.size g cdg)) (.call (.ref f) ⟨[], []⟩) (CR (L2.CX X.prog X.w) (envOfC qg sg s.heap.objs.size g cdg :: X.stack) X.prog X.w HZ s1 Q (E σZ)) s1 := by
    refine PySem.W.kla_callFunE hr.depth of1 rfl L.co L.gen rfl ⟨c', oc, vs, t, rfl, hoc, hdc, hvc⟩ ?_
    rw [hbind]
    refine wpAny_pure (wpAny_newFunctionEnv (fun y hy => (L.own y hy).2) (fun y hy => absurd hy (by simp)) (fun h₁ hns hsb => ⟨I1.nolimit.fresh _ hsb, ?_⟩) L.kind)
    show codeAny _ _ (.expr body (lamEnv X scope s1.heap.objs.size f c')) _ _
    have kp : ∀ b o, s1.heap.get? b = some o → h₁.get? b = some o := fun b o e => hsb.extBut b o (Nat.ne_of_lt (Heap.lt_size e)) (Heap.get?_push_of_some _ e)
    have J : Inv (lamCx X (X.A.deeper (envOfC qg sg s.heap.objs.size g cdg)) (envOfC qg sg s.heap.objs.size g cdg :: X.stack) s1 HZ (E σZ) scope f c') [] σ HZ { s1 with heap := h₁, toks := s1.toks + ([] : List (Str × Value)).length } :=
      lam_start2 I L I1.env0 hr.hd un hns kp
    refine PySem.W.kla_codeExpr (wpAny_mono ((hbody σZ _ _ s1 HZ (hr.deeper _)).run [] _ _ HZ Q J ht) (fun v s' hq => ?_) fun e s' hq => hq)
    obtain ⟨w', H', J', rv, q⟩ := hq
    exact ⟨w', H', J'.os, J'.bare, J'.base, J'.hok, rv, q⟩
  refine wpAny_call (codeAny_mono rc fun r s' hq => ?_)
  cases r with
  | error e => exact tk e s' (XE.of_call I1 hW hq)
  | ok fl =>
    cases fl with
    | ret u => exact I1.after hq
    | next => exact False.elim hq
    | brk => exact False.elim hq
    | cont => exact False.elim hq
end
/-- the def that calls what it got: a calls it; TT: what it makes of the lambda's reading -/
def GivesToS (X : Cx) (Ng : List Str) (x : Str) (sg : Scope) (g : Addr) (cdg : Value) (bg : List Stmt) (a : Str) (q : Str) (TT : (XK → Hp → VK → Prop) → Hp → VK → Prop) : Prop :=
  ∀ (f c' : Addr) (s : Shared) (H : Hp) (Q : VK) (tl : XK → Hp → VK → Prop),
    (∀ (W : WX) (pn : List (Addr × Obj)) (xe : Value → Shared → Prop) (E : L2.St → XK) (p1 p2 : Pos), Takes ((cxOf C8.CX0 X.prog X.w X.K X.mg X.base Ng x sg g cdg X.A X.stack s H C8.E0).tr pn xe) W →
      PE ((cxOf C8.CX0 X.prog X.w X.K X.mg X.base Ng x sg g cdg X.A X.stack s H C8.E0).tr pn xe) (.Call (.Name a p1) [] [] p2) (fun σZ HZ Q => σZ[0]? = some (some (.ref f)) ∧ HZ c' = some (CodeO c' q) ∧ (∀ cls d H', E σZ cls d H' → W cls d σZ H') ∧ tl (E σZ) HZ Q)) →
    H c' = some (CodeO c' q) → TT tl H Q →
    ∃ t, PSs (cxOf C8.CX0 X.prog X.w X.K X.mg X.base Ng x sg g cdg X.A X.stack s H C8.E0).nox bg t ∧ t { nx := fun _ H' => Q .non H', rt := Q } (L2.start Ng [.ref f]) H
section
variable {X : Cx}
/-- x(lambda: body) -/
theorem pe_lamcallS {T : List (Addr × Str)} {TT : (XK → Hp → VK → Prop) → Hp → VK → Prop} {x a : Str} {g c P : Addr} {k : Nat} {pg : Arguments} {bg : List Stmt} {sg : Scope} {dV kV doc pm cdv ct oc : Value} {an od : Option Addr} {osl : Array (Option Value)} {Ng : List Str}
    {params : Arguments} {body : Expr} {scope : Scope} {t : XK → TE} {p lpos pos : Pos} (hg : Gl X x) (hm : X.mg x = some (.ref g)) (hk : PySem.W.keepIn X.K (.ref g) = true)
    (lk : X.K.lookup g = some ⟨oc, od, .func (PySem.W.fnOf x x pg bg sg dV kV doc pm an cdv ct), osl⟩) (hcg : PySem.W.codeIn X.K cdv x = true) (hb : L2.Binds X.K (PySem.W.fnOf x x pg bg sg dV kV doc pm an cdv ct) [a] []) (Sg : FnScope Ng [a] sg) (hNg : Ng[0]? = some a) (hva : Vis sg a)
    (hG : GivesToS X Ng x sg g cdv bg a (X.env.qual ++ "<lambda>") TT)
    (TB : TabB X.base X.mg c P) (hcode : X.env.code = .ref c) (hmT : (P, X.env.qual ++ "<lambda>") ∈ T) (hu : ∀ p ∈ T, p.1 = P → p.2 = X.env.qual ++ "<lambda>") (hr : Room (k + 2) X.A) (L : LamS X.env.scope scope) (hdef : defaultsOf params X.env = ([], []))
    (hbind : ∀ (q : Str) (cl : List (Str × Addr)) (pm cv ctv : Value), bindArgs (PySem.W.kla_fn "<lambda>" q params body scope cl pm cv ctv) ⟨[], []⟩ = pure [])
    (hbody : ∀ (A : Around) (outer : List Env) (s : Shared) (H : Hp) (E : XK) (f c' : Addr), Room k (A.deeper (lamEnv X scope s.heap.objs.size f c')) → PE (lamCx X A outer s H E scope f c') body (t E))
    (hdb : (x == ("__debug__" : Str)) = false := by decide) (hd : (a == ("__debug__" : Str)) = false := by decide) (hcd : (a == ("__classdict__" : Str)) = false := by decide) :
    PE X (.Call (.Name x p) [.Lambda params body scope lpos] [] pos) (tLam T TT t) := by
  refine ⟨fun pins s σ H Q I h => ?_⟩
  obtain ⟨hT, h⟩ := h
  refine wpAny_Call_Name_kw (ld_glob I hg hm ?_ hdb)
  refine PySem.W.callWith_K (h₀ := X.base) I.ok.mod.kin hk ?_ (by rfl) (by rfl)
  show wpAny _ _ (spliced ((false, eval (.Lambda params body scope lpos) X.env) :: backTo pos (starEach [] X.env))) _ _ s
  refine Calls.spliced_cons (lam_make2 I TB hcode hmT hu hT hdef (L.has I.ok) fun f c' pm' ctv H1 s' I1 eN T1 hf hfn hfr hco => ?_)
  refine Calls.spliced_nil ⟨I1.kIn, ?_⟩
  have rc : codeAny (model X.prog X.w) X.A (.call (.ref g) ⟨[.ref f], []⟩) (CR C8.CX0 X.stack X.prog X.w H1 s' Q C8.E0) s' := by
    refine run_ofS (N := Ng) (ps := [a]) (us := [.ref f]) (vs := [.ref f]) lk hcg Sg hr I1.env0 (hb s' [.ref f] I1.kIn rfl) (.cons rfl .nil) rfl fun hr' => ?_
    obtain ⟨t', ht', hq'⟩ := hG f c' s' H1 Q (fun E H' Q' => t E σ H' Q') (fun W pn xe E p1 p2 tk => pe_actS (i := 0) (E := E) (tb := fun σZ => t (E σZ)) I1 L hf hfn hfr (hbind _ _ _ _ _) tk hr' (fun σZ A outer s H hr2 => hbody A outer s H (E σZ) f c' hr2) hNg hva hd hcd) hco (h H1 eN T1)
    exact ⟨t', ht'.nox, hq'⟩
  refine wpAny_call (codeAny_mono rc fun r s2 hq => ?_)
  cases r with
  | error e => exact (show False from hq).elim
  | ok fl =>
    cases fl with
    | ret u => exact I1.after hq
    | next => exact False.elim hq
    | brk => exact False.elim hq
    | cont => exact False.elim hq
end
end XV
set_option Elab.async false
set_option linter.all false
set_option maxRecDepth 100000
set_option maxHeartbeats 4000000
namespace XV
open PySem PySem.Spec PyProof.Rows L2
/-- an argument list's reading, weakened at its end -/
def moA (t : TA) : TA := fun σ H Q => ∃ Q0, t σ H Q0 ∧ ∀ vs H1, Q0 vs H1 → Q vs H1
theorem pa_mo {X : Cx} {es : List Expr} {t : TA} (h : PA X es t) : PA X es (moA t) := ⟨fun pos pins s σ H Q I ⟨Q0, h0, h1⟩ => thn (h.run pos pins s σ H Q0 I h0) fun us s1 ⟨vs, H1, I1, r, q⟩ => ⟨vs, H1, I1, r, h1 vs H1 q⟩⟩
/-- what is wished of an exception C(v) that leaves: its own dict at d, new -/
def Rz (C : Addr) (f : Str) (v : V) (H : Hp) (E : XK) : Prop := ∀ d H', H d = none → Same H H' → H' d = some (.xd [(f, v)]) → E (.ref C) (some d) H'
def tMkR (C : Addr) (f : Str) (t : TA) : L2.St → Hp → XK → Prop := fun σ H Q => t σ H fun vs H1 => ∃ v, vs = [v] ∧ Rz C f v H1 Q
section
variable {X : Cx} {k : Nat} {C fI : Addr} {fd : FuncData} {x f : Str} {p pos pos2 : Pos} {e : Expr} {es : List Expr} {t : TA} {W : WX}
theorem pmk_x (T : XCls X.K C fI f) (F1 : FnOk X.prog X.w X.K X.mg X.base CX0 k fI fd (["self", f] : List Str) (spIni C f)) (hr : Room (k + 1) X.A) (hb : Binds X.K fd (["self", f] : List Str) [])
    (hg : Gl X x) (hm : X.mg x = some (.ref C)) (ha : PA X (e :: es) t)
    (hdb : (x == ("__debug__" : Str)) = false := by decide) (he : starEach (e :: es) X.env = (false, eval e X.env) :: starEach es X.env := by rfl) (hpl : (backTo pos (starEach es X.env)).any (·.1) = false := by rfl) :
    PMk X (.Call (.Name x p) (e :: es) [] pos) (tMkR C f t) := by
  intro pins s σ H Q I h
  refine pmk_oex (dvs := []) (ds := []) T.ox T.ini T.tyI F1 hr hb .nil pass0 hg hm (pa_mo ha) hdb he hpl pins s σ H Q I ⟨_, h, fun vs H1 hq => ?_⟩
  obtain ⟨v, rfl, hq⟩ := hq
  refine ⟨(by show 1 ≤ 1000; decide), fun a na => ⟨a, v, rfl, upd_same, fun dx ndx nea => ⟨rfl, dx, [(f, v)], upd_same, (by rw [upd_ne nea, upd_same]), ?_, ?_⟩⟩⟩
  · rw [upd_ne nea] at ndx
    exact ndx
  · have nd : H1 dx = none := by
      rw [upd_ne nea] at ndx
      exact ndx
    refine hq dx _ nd (fun b o z => ?_) upd_same
    have n1 := ne_of_none z nd
    have n2 := ne_of_none z na
    rw [upd_ne n1, del_ne n2, upd_ne n2, upd_ne n1, upd_ne n2]
    exact z
/-- raise C(e) -/
theorem ps_raiseX (hc : X.calm = true) (tk : Takes X W) (T : XCls X.K C fI f) (F1 : FnOk X.prog X.w X.K X.mg X.base CX0 k fI fd (["self", f] : List Str) (spIni C f)) (hr : Room (k + 1) X.A) (hb : Binds X.K fd (["self", f] : List Str) [])
    (hg : Gl X x) (hm : X.mg x = some (.ref C)) (ha : PA X (e :: es) t)
    (hdb : (x == ("__debug__" : Str)) = false := by decide) (he : starEach (e :: es) X.env = (false, eval e X.env) :: starEach es X.env := by rfl) (hpl : (backTo pos (starEach es X.env)).any (·.1) = false := by rfl) :
    PS X (.Raise (some (.Call (.Name x p) (e :: es) [] pos)) none pos2) (fun _ σ H => tMkR C f t σ H fun cls d H' => W cls d σ H') := ps_raise hc tk (pmk_x T F1 hr hb hg hm ha hdb he hpl)
end
theorem Rz.keep {C : Addr} {f : Str} {v : V} {H H1 : Hp} {E : XK} (h : Rz C f v H E) (s : Same H H1) : Rz C f v H1 E := fun d H' n s' l => h d H' (s.free n) (s.trans s') l
end XV
set_option Elab.async false
set_option linter.all false
set_option maxRecDepth 100000
set_option maxHeartbeats 4000000
namespace SL
open PySem PySem.Spec PyProof.Rows L2 XV
/-! ### kinds of plain values -/
inductive K7 (H : Hp) : V → String → Prop
  | int (i : Int) : K7 H (.int i) "int"
  | bl (b : Bool) : K7 H (.bl b) "bool"
  | non : K7 H .non "NoneType"
  | str (z : Str) : K7 H (.str z) "str"
  | lst {a : Addr} {xs : List V} (e : H a = some (.lst xs)) : K7 H (.ref a) "list"
  | tup {a : Addr} {xs : List V} (e : H a = some (.tup xs)) : K7 H (.ref a) "tuple"
  | dict {a : Addr} {kvs : List (Key × V)} (e : H a = some (.dK kvs)) : K7 H (.ref a) "dict"
def Ty (H : Hp) (x : V) : Prop := ∃ t, K7 H x t
theorem K7.ty {K : PySem.W.Frag} {H : Hp} {x : V} {t : String} (h : K7 H x t) : TyX K H x (.type t) := by
  cases h with
  | int i => exact .base (.int i)
  | bl b => exact .base (.bl b)
  | non => exact .base .non
  | str z => exact .base (.str z)
  | lst e => exact .base (.lst e)
  | tup e => exact .base (.tup e)
  | dict e => exact .base (.dK e)
theorem K7.mem {H : Hp} {x : V} {t : String} (h : K7 H x t) : t ∈ ["int", "bool", "NoneType", "str", "list", "tuple", "dict"] := by
  cases h <;> simp
theorem kb_int {t : String} (h : t ∈ ["int", "bool", "NoneType", "str", "list", "tuple", "dict"]) : kitB t "int" = some (t == "int" || t == "bool") := by
  revert t
  decide +kernel
theorem kb_bool {t : String} (h : t ∈ ["int", "bool", "NoneType", "str", "list", "tuple", "dict"]) : kitB t "bool" = some (t == "bool") := by
  revert t
  decide +kernel
theorem kb_tuple {t : String} (h : t ∈ ["int", "bool", "NoneType", "str", "list", "tuple", "dict"]) : kitB t "tuple" = some (t == "tuple") := by
  revert t
  decide +kernel
theorem kb_list {t : String} (h : t ∈ ["int", "bool", "NoneType", "str", "list", "tuple", "dict"]) : kitB t "list" = some (t == "list") := by
  revert t
  decide +kernel
theorem kb_str {t : String} (h : t ∈ ["int", "bool", "NoneType", "str", "list", "tuple", "dict"]) : kitB t "str" = some (t == "str") := by
  revert t
  decide +kernel
theorem K7.keep {H H' : Hp} {x : V} {t : String} (h : K7 H x t) (k : Same H H') : K7 H' x t := by
  cases h with
  | int i => exact .int i
  | bl b => exact .bl b
  | non => exact .non
  | str z => exact .str z
  | lst e => exact .lst (k _ _ e)
  | tup e => exact .tup (k _ _ e)
  | dict e => exact .dict (k _ _ e)
theorem Ty.keep {H H' : Hp} {x : V} (h : Ty H x) (k : Same H H') : Ty H' x := let ⟨t, z⟩ := h; ⟨t, z.keep k⟩
theorem Ty.here {H : Hp} {a : Addr} (h : Ty H (.ref a)) : ∃ o, H a = some o := by
  obtain ⟨t, z⟩ := h
  cases z with
  | lst e => exact ⟨_, e⟩
  | tup e => exact ⟨_, e⟩
  | dict e => exact ⟨_, e⟩
def inB : V → Int → Int → Bool
  | .int i, lo, hi => decide (lo ≤ i) && decide (i ≤ hi)
  | _, _, _ => false
/-- an item and, if it is a tuple, what is in it -/
def TyI (H : Hp) (x : V) : Prop := Ty H x ∧ ∀ (a : Addr) (xs : List V), x = .ref a → H a = some (.tup xs) → ∀ y ∈ xs, Ty H y
def scB (H : Hp) : V → Bool
  | .ref a => (match H a with
    | some (.tup [y, z]) => inB y 1 1000 && inB z 1 60
    | _ => false)
  | _ => false
def badL (H : Hp) (xs : List V) : Option Int := (xs.findIdx? fun x => !scB H x).map fun (n : Nat) => (n : Int)
def badI (H : Hp) (cls lim : V) : Option Int := match cls with
  | .ref a => (match H a with
    | some (.lst xs) => if (decide (1 ≤ xs.length) && decide (xs.length ≤ 6)) = true then (if inB lim 0 1000000 = true then badL H xs else some (-1)) else some (-1)
    | _ => some (-1))
  | _ => some (-1)
theorem scB_keep {H H' : Hp} {x : V} (h : Ty H x) (k : Same H H') : scB H' x = scB H x := by
  cases x with
  | ref a =>
    obtain ⟨o, e⟩ := h.here
    show (match H' a with | some (.tup [y, z]) => inB y 1 1000 && inB z 1 60 | _ => false) = (match H a with | some (.tup [y, z]) => inB y 1 1000 && inB z 1 60 | _ => false)
    rw [e, k _ _ e]
  | _ => rfl
theorem inB_len (n : Nat) : inB (.int n) 1 6 = (decide (1 ≤ n) && decide (n ≤ 6)) := by
  show (decide ((1 : Int) ≤ n) && decide ((n : Int) ≤ 6)) = _
  rw [decide_eq_decide.mpr (show ((1 : Int) ≤ n) ↔ 1 ≤ n by omega), decide_eq_decide.mpr (show ((n : Int) ≤ 6) ↔ n ≤ 6 by omega)]
theorem inB_int {x : V} {lo hi : Int} (h : inB x lo hi = true) : ∃ i, x = .int i := by
  cases x with
  | int i => exact ⟨i, rfl⟩
  | _ => cases h
theorem inB_nat {i : Int} {n : Nat} (h : inB (.int i) 0 ((n : Int) - 1) = true) : ∃ j : Nat, i = (j : Int) ∧ j < n := by
  have h' : (decide ((0 : Int) ≤ i) && decide (i ≤ (n : Int) - 1)) = true := h
  rw [Bool.and_eq_true, decide_eq_true_eq, decide_eq_true_eq] at h'
  exact ⟨i.toNat, by omega, by omega⟩
theorem badL_some {H : Hp} {xs : List V} {j : Nat} {x : V} (hx : xs[j]? = some x) (c : scB H x = false) (h : ∀ (i : Nat) y, i < j → xs[i]? = some y → scB H y = true) : badL H xs = some (j : Int) := by
  obtain ⟨hj, ex⟩ := List.getElem?_eq_some_iff.mp hx
  have e : (xs.findIdx? fun x => !scB H x) = some j := List.findIdx?_eq_some_iff_getElem.mpr ⟨hj, by rw [ex, c]; rfl, fun i hi => by
    have z := h i xs[i] hi (List.getElem?_eq_getElem (by omega))
    simp [z]⟩
  unfold badL
  rw [e]
  rfl
theorem badL_none {H : Hp} {xs : List V} (h : ∀ (i : Nat) y, xs[i]? = some y → scB H y = true) : badL H xs = none := by
  have e : (xs.findIdx? fun x => !scB H x) = none := List.findIdx?_eq_none_iff.mpr fun x hx => by
    obtain ⟨i, hi⟩ := List.mem_iff_getElem?.mp hx
    rw [h i x hi]
    rfl
  unfold badL
  rw [e]
  rfl
theorem TyI.keep {H H' : Hp} {x : V} (h : TyI H x) (k : Same H H') : TyI H' x := by
  refine ⟨h.1.keep k, fun a xs ex e y hy => ?_⟩
  subst ex
  obtain ⟨o, eo⟩ := h.1.here
  have z := k _ _ eo
  rw [e] at z
  have z2 := Option.some.inj z
  subst z2
  exact (h.2 a xs rfl eo y hy).keep k
theorem eqU {H H1 : Hp} {p : Addr} {o : HO} (e : upd H p o = H1) (n : H p = none) : Same H H1 ∧ H1 p = some o := by
  subst e
  exact ⟨fun b u z => by rw [upd_ne (ne_of_none z n)]; exact z, upd_same⟩
theorem same_upd {H : Hp} {p : Addr} {o : HO} (h : H p = none) : Same H (upd H p o) := fun b u e => by
  rw [upd_ne (ne_of_none e h)]
  exact e
/-! ### slabs -/
def pk (l : Addr) (L : Int) : List (Str × V) := [("pairs", .ref l), ("bound", .int L)]
theorem nPB : ¬ (("pairs" : Str) = "bound") := by decide +kernel
theorem pk_put (x y : V) : putF "bound" y (putF "pairs" x []) = ([("pairs", x), ("bound", y)] : List (Str × V)) := by
  show (if ("pairs" : Str) = "bound" then [(("pairs" : Str), y)] else (("pairs" : Str), x) :: putF "bound" y []) = _
  rw [if_neg nPB]
  rfl
theorem pk_pairs (l : Addr) (L : Int) : (pk l L).lookup ("pairs" : Str) = some (.ref l) := by
  unfold pk
  simp [List.lookup]
theorem pk_bound (l : Addr) (L : Int) : (pk l L).lookup ("bound" : Str) = some (.int L) := by
  unfold pk
  have e : (("bound" : Str) == ("pairs" : Str)) = false := by decide +kernel
  simp [List.lookup, e]
theorem pk_no (l : Addr) (L : Int) {m : Str} (h1 : (m == ("pairs" : Str)) = false) (h2 : (m == ("bound" : Str)) = false) : (pk l L).lookup m = none := by
  unfold pk
  simp [List.lookup, h1, h2]
/-- a slab at p: its list at l -/
structure SlabAt (C : Addr) (H : Hp) (p l : Addr) (xs : List V) (L : Int) : Prop where
  ob : ∃ dx, H p = some (.ins C dx (pk l L))
  ls : H l = some (.lst xs)
theorem SlabAt.keep {C : Addr} {H H' : Hp} {p l : Addr} {xs : List V} {L : Int} (h : SlabAt C H p l xs L) (k : Same H H') : SlabAt C H' p l xs L :=
  ⟨let ⟨dx, e⟩ := h.ob; ⟨dx, k _ _ e⟩, k _ _ h.ls⟩
def PairAt (H : Hp) (x : V) (q : Int × Int) : Prop := ∃ t, x = .ref t ∧ H t = some (.tup [.int q.1, .int q.2])
theorem PairAt.keep {H H' : Hp} {x : V} {q : Int × Int} (h : PairAt H x q) (k : Same H H') : PairAt H' x q := let ⟨t, e, z⟩ := h; ⟨t, e, k _ _ z⟩
abbrev PairsAt (H : Hp) : List V → List (Int × Int) → Prop := Paired (PairAt H)
theorem PairsAt.keep {H H' : Hp} (k : Same H H') : ∀ {xs : List V} {ps : List (Int × Int)}, PairsAt H xs ps → PairsAt H' xs ps
  | _, _, .nil => .nil
  | _, _, .cons a r => .cons (a.keep k) (PairsAt.keep k r)
theorem pairs_get {H : Hp} : ∀ {xs : List V} {ps : List (Int × Int)} {i : Nat} {y : V}, PairsAt H xs ps → xs[i]? = some y → ∃ q, ps[i]? = some q ∧ PairAt H y q
  | _, _, _, _, .nil, h => by simp at h
  | _, _, 0, _, .cons a r, h => by
    simp at h
    subst h
    exact ⟨_, rfl, a⟩
  | _, _, i + 1, y, .cons a r, h => by
    obtain ⟨q, h1, h2⟩ := pairs_get (i := i) r (by simpa using h)
    exact ⟨q, by simpa using h1, h2⟩
/-- what the written part tells of the class Slab -/
structure SlabC (K : PySem.W.Frag) (mg : Str → Option Value) (C : Addr) : Prop where
  cl : Cls K C
  nP : NoAttr K C "pairs"
  nB : NoAttr K C "bound"
  ca : PySem.W.findIn K (.ref C) "__class__" = some (some (.builtin "object.__class__"))
  sp : PySem.W.specialIn K (.builtin "object.__class__") "__get__" = some (some (.builtin "getset_descriptor.__get__"))
  tk : PySem.W.takesIn K (.builtin "object.__class__") = some true
  mr : PySem.W.mroIn K C (.type "object") = some true
  gC : mg "Slab" = some (.ref C)
  kI : PySem.W.kitOne K (.ref C) (.ref C) = some true
  kT : PySem.W.kitOne K (.type "tuple") (.ref C) = some false
  fT : PySem.W.notFirst K C (.type "tuple") = true
  fC : PySem.W.notFirst K C (.ref C) = true
theorem SlabC.ty {K : PySem.W.Frag} {mg : Str → Option Value} {C : Addr} (T : SlabC K mg C) {H : Hp} {p dx : Addr} {fs : List (Str × V)} (e : H p = some (.ins C dx fs)) : TyX K H (.ref p) (.ref C) :=
  .base (.ins e T.cl T.ca T.sp T.tk T.mr)
/-! ### the promises -/
def spBetween : Sp := fun vs H Q _ => ∃ (x : V) (lo hi : Int), vs = [x, .int lo, .int hi] ∧ Ty H x ∧ Q (.bl (inB x lo hi)) H
def spIsSC : Sp := fun vs H Q _ => ∃ x : V, vs = [x] ∧ TyI H x ∧ Q (.bl (scB H x)) H
def spInit (C CS : Addr) : Sp := fun vs H Q E => ∃ (p dx : Addr) (cls lim : V), vs = [.ref p, cls, lim] ∧ H p = some (.ins C dx []) ∧ Ty H cls ∧ Ty H lim ∧ (∀ (a : Addr) (xs : List V), cls = .ref a → H a = some (.lst xs) → xs.length ≤ 1000 ∧ ∀ x ∈ xs, TyI H x) ∧
  (∀ i, badI H cls lim = some i → Rz CS "index" (.int i) H E) ∧
  (∀ (a : Addr) (xs : List V) (L : Int), badI H cls lim = none → cls = .ref a → lim = .int L → H a = some (.lst xs) → ∀ l H', H l = none → (∀ b o, H b = some o → b ≠ p → H' b = some o) → SlabAt C H' p l xs L → Q .non H')
def spLen (C : Addr) : Sp := fun vs H Q _ => ∃ (p l : Addr) (xs : List V) (L : Int), vs = [.ref p] ∧ SlabAt C H p l xs L ∧ Q (.int xs.length) H
def spClasses (C : Addr) : Sp := fun vs H Q _ => ∃ (p l : Addr) (xs : List V) (L : Int), vs = [.ref p] ∧ SlabAt C H p l xs L ∧ ∀ a H', H a = none → Same H H' → H' a = some (.lst xs) → Q (.ref a) H'
def spLimit (C : Addr) : Sp := fun vs H Q _ => ∃ (p l : Addr) (xs : List V) (L : Int), vs = [.ref p] ∧ SlabAt C H p l xs L ∧ Q (.int L) H
/-- the class of a number: its tuple, or NoClass -/
def spCls (C CN : Addr) : Sp := fun vs H Q E => ∃ (p l : Addr) (xs : List V) (L : Int) (x : V), vs = [.ref p, x] ∧ SlabAt C H p l xs L ∧ Ty H x ∧
  (∀ (i : Nat) (y : V), x = .int i → xs[i]? = some y → Q y H) ∧ (inB x 0 ((xs.length : Int) - 1) = false → Rz CN "number" x H E)
def spBytes (C CN : Addr) (fst : Bool) : Sp := fun vs H Q E => ∃ (p l : Addr) (xs : List V) (ps : List (Int × Int)) (L : Int) (x : V), vs = [.ref p, x] ∧ SlabAt C H p l xs L ∧ PairsAt H xs ps ∧ Ty H x ∧
  (∀ (i : Nat) (q : Int × Int), x = .int i → ps[i]? = some q → Q (.int (if fst then q.1 else q.2)) H) ∧ (inB x 0 ((ps.length : Int) - 1) = false → Rz CN "number" x H E)
def spEqS (C : Addr) : Sp := fun vs H Q _ => ∃ (p l : Addr) (xs : List V) (ps : List (Int × Int)) (L : Int) (y : V), vs = [.ref p, y] ∧ SlabAt C H p l xs L ∧ PairsAt H xs ps ∧ ps.length ≤ 1000 ∧
  ((∃ (t : Addr) (zs : List V), y = .ref t ∧ H t = some (.tup zs) ∧ Q (.bl false) H) ∨
    ∃ (p' l' : Addr) (xs' : List V) (ps' : List (Int × Int)) (L' : Int), y = .ref p' ∧ SlabAt C H p' l' xs' L' ∧ PairsAt H xs' ps' ∧ ps'.length ≤ 1000 ∧ Q (.bl (decide (ps = ps') && decide (L = L'))) H)
/-! ### lists of pairs as data -/
def dPair (q : Int × Int) : PyData := .tuple [.int q.1, .int q.2]
theorem dpPairs {K : PySem.W.Frag} {H : Hp} : ∀ {xs : List V} {ps : List (Int × Int)}, PairsAt H xs ps → DpAll K H xs (ps.map dPair)
  | _, _, .nil => .nil
  | _, _, .cons ⟨t, e, z⟩ r => by
    subst e
    exact .cons (.tup (SqT.of z) (.cons (.int _) (.cons (.int _) .nil))) (dpPairs r)
theorem dPairs_lay : ∀ ps : List (Int × Int), PyData.canLayAll0 (ps.map dPair) = true
  | [] => by simp [PyData.canLayAll0]
  | q :: ps => by simp [PyData.canLayAll0, dPair, PyData.canLay0, dPairs_lay ps]
theorem dPairs_depth : ∀ ps : List (Int × Int), PyData.depthAll (ps.map dPair) ≤ 1
  | [] => by simp [PyData.depthAll]
  | q :: ps => by
    have h := dPairs_depth ps
    simp only [List.map_cons, PyData.depthAll, dPair, PyData.depth]
    omega
theorem dPairs_shaped (ps : List (Int × Int)) : SeqAt.shaped (.list (ps.map dPair)) = true := by
  have h1 := dPairs_depth ps
  have h2 : PyData.depth (.list (ps.map dPair)) ≤ 64 := by
    simp only [PyData.depth]
    omega
  show (PyData.canLay0 (.list (ps.map dPair)) && decide (PyData.depth (.list (ps.map dPair)) ≤ 64)) = true
  rw [Bool.and_eq_true]
  exact ⟨by simp only [PyData.canLay0]; exact dPairs_lay ps, decide_eq_true h2⟩
theorem dPair_eqv (q r : Int × Int) : PyData.eqv (dPair q) (dPair r) = decide (q = r) := by
  obtain ⟨a, b⟩ := q
  obtain ⟨c, d⟩ := r
  have e : PyData.eqv (dPair (a, b)) (dPair (c, d)) = ((a == c) && ((b == d) && true)) := by simp only [dPair, PyData.eqv, PyData.eqvAll]
  rw [e, Bool.and_true]
  by_cases h1 : a = c
  · by_cases h2 : b = d
    · subst h1 h2
      simp
    · have z : ¬ ((a, b) : Int × Int) = (c, d) := fun z => h2 (Prod.mk.inj z).2
      rw [decide_eq_false z, beq_eq_false_iff_ne.mpr h2, Bool.and_false]
  · have z : ¬ ((a, b) : Int × Int) = (c, d) := fun z => h1 (Prod.mk.inj z).1
    rw [decide_eq_false z, beq_eq_false_iff_ne.mpr h1, Bool.false_and]
theorem dPairs_eqvAll : ∀ ps qs : List (Int × Int), PyData.eqvAll (ps.map dPair) (qs.map dPair) = decide (ps = qs)
  | [], [] => by simp [PyData.eqvAll]
  | [], _ :: _ => by simp [PyData.eqvAll]
  | _ :: _, [] => by simp [PyData.eqvAll]
  | p :: ps, q :: qs => by
    have h := dPairs_eqvAll ps qs
    simp only [List.map_cons, PyData.eqvAll, dPair_eqv, h]
    by_cases h1 : p = q
    · by_cases h2 : ps = qs
      · subst h1 h2
        simp
      · simp [h1, h2]
    · simp [h1]
theorem dPairs_eqv (ps qs : List (Int × Int)) : PyData.eqv (.list (ps.map dPair)) (.list (qs.map dPair)) = decide (ps = qs) := by
  have e : PyData.eqv (.list (ps.map dPair)) (.list (qs.map dPair)) = PyData.eqvAll (ps.map dPair) (qs.map dPair) := by simp only [PyData.eqv]
  rw [e, dPairs_eqvAll]
end SL
set_option Elab.async false
set_option linter.all false
set_option maxRecDepth 100000
set_option maxHeartbeats 4000000
namespace K01
open PySem PySem.Spec PyProof.Rows L2 XV SL
local macro_rules | `(tactic| walk_at "rd") => `(tactic| repeat (first | refine And.intro rfl ?_ | refine And.intro (by assumption) ?_ | apply Exists.intro))
/-! ### the text by places -/
def topS (i : Nat) : Stmt := PySem.Challenge.pw_slabpins_k01_slabs.main.body.getD i (.Pass ⟨0, 0, 0, 0⟩)
abbrev s_is_between : Stmt := topS 9
theorem sc_is_between : FnScope ["value", "low", "high"] ["value", "low", "high"] (defScope s_is_between) := ⟨rfl, rfl, rfl, by decide +kernel, rfl, by decide +kernel, by decide +kernel⟩
abbrev s_is_size_class : Stmt := topS 10
theorem sc_is_size_class : FnScope ["item"] ["item"] (defScope s_is_size_class) := ⟨rfl, rfl, rfl, by decide +kernel, rfl, by decide +kernel, by decide +kernel⟩
abbrev s_init : Stmt := inClass (topS 11) 0
theorem sc_init : FnScope ["self", "classes", "limit", "index", "item"] ["self", "classes", "limit"] (defScope s_init) := ⟨rfl, rfl, rfl, by decide +kernel, rfl, by decide +kernel, by decide +kernel⟩
abbrev s_len : Stmt := inClass (topS 11) 1
theorem sc_len : FnScope ["self"] ["self"] (defScope s_len) := ⟨rfl, rfl, rfl, by decide +kernel, rfl, by decide +kernel, by decide +kernel⟩
abbrev s_eq : Stmt := inClass (topS 11) 2
theorem sc_eq : FnScope ["self", "other"] ["self", "other"] (defScope s_eq) := ⟨rfl, rfl, rfl, by decide +kernel, rfl, by decide +kernel, by decide +kernel⟩
abbrev s_classes : Stmt := inClass (topS 11) 3
theorem sc_classes : FnScope ["self"] ["self"] (defScope s_classes) := ⟨rfl, rfl, rfl, by decide +kernel, rfl, by decide +kernel, by decide +kernel⟩
abbrev s_limit : Stmt := inClass (topS 11) 4
theorem sc_limit : FnScope ["self"] ["self"] (defScope s_limit) := ⟨rfl, rfl, rfl, by decide +kernel, rfl, by decide +kernel, by decide +kernel⟩
abbrev s_bytes_of : Stmt := inClass (topS 11) 5
theorem sc_bytes_of : FnScope ["self", "number"] ["self", "number"] (defScope s_bytes_of) := ⟨rfl, rfl, rfl, by decide +kernel, rfl, by decide +kernel, by decide +kernel⟩
abbrev s_slots_of : Stmt := inClass (topS 11) 6
theorem sc_slots_of : FnScope ["self", "number"] ["self", "number"] (defScope s_slots_of) := ⟨rfl, rfl, rfl, by decide +kernel, rfl, by decide +kernel, by decide +kernel⟩
abbrev s_size_class : Stmt := inClass (topS 11) 7
theorem sc_size_class : FnScope ["self", "number"] ["self", "number"] (defScope s_size_class) := ⟨rfl, rfl, rfl, by decide +kernel, rfl, by decide +kernel, by decide +kernel⟩
abbrev s_iNoSlab : Stmt := inClass (topS 2) 0
theorem sc_iNoSlab : FnScope ["self", "index"] ["self", "index"] (defScope s_iNoSlab) := ⟨rfl, rfl, rfl, by decide +kernel, rfl, by decide +kernel, by decide +kernel⟩
abbrev s_iNoClass : Stmt := inClass (topS 3) 0
theorem sc_iNoClass : FnScope ["self", "number"] ["self", "number"] (defScope s_iNoClass) := ⟨rfl, rfl, rfl, by decide +kernel, rfl, by decide +kernel, by decide +kernel⟩
/-- the built-in names as they stand, the module's numbers -/
structure Bi (mg : Str → Option Value) : Prop where
  b_int : mg "int" = none
  b_bool : mg "bool" = none
  b_tuple : mg "tuple" = none
  b_list : mg "list" = none
  b_len : mg "len" = none
  b_isinstance : mg "isinstance" = none
  b_enumerate : mg "enumerate" = none
  c_classes : ∃ t, mg "MOST_CLASSES" = some (.int 6 t)
  c_size : ∃ t, mg "MOST_SIZE" = some (.int 1000 t)
  c_slots : ∃ t, mg "MOST_SLOTS" = some (.int 60 t)
  c_limit : ∃ t, mg "MOST_LIMIT" = some (.int 1000000 t)
section
variable {P : Program} {w : World} {K : PySem.W.Frag} {mg : Str → Option Value} {base : Heap}
theorem ok_iNoSlab {C fI : Addr} {fd : FuncData} (F : Fun K "__init__" "NoSlab.__init__" s_iNoSlab fI fd) (T : XCls K C fI "index") : FnOk P w K mg base CX0 1 fI fd ["self", "index"] (spIni C "index") := by
  refine F.ok sc_iNoSlab (fun vs H Q E h => ?_) (fun cdv A outer s H vs Q E hr h => ?_)
  · obtain ⟨a, v, rfl, _⟩ := h
    rfl
  · obtain ⟨a, v, rfl, ha, k⟩ := h
    exact ⟨_, pss_one (ps_ost (pv 0) (pv 1)), _, rfl, _, rfl, a, C, rfl, T.ox, T.noF, .inl ⟨ha, fun dx n ne => k dx n ne⟩⟩
theorem ok_iNoClass {C fI : Addr} {fd : FuncData} (F : Fun K "__init__" "NoClass.__init__" s_iNoClass fI fd) (T : XCls K C fI "number") : FnOk P w K mg base CX0 1 fI fd ["self", "number"] (spIni C "number") := by
  refine F.ok sc_iNoClass (fun vs H Q E h => ?_) (fun cdv A outer s H vs Q E hr h => ?_)
  · obtain ⟨a, v, rfl, _⟩ := h
    rfl
  · obtain ⟨a, v, rfl, ha, k⟩ := h
    exact ⟨_, pss_one (ps_ost (pv 0) (pv 1)), _, rfl, _, rfl, a, C, rfl, T.ox, T.noF, .inl ⟨ha, fun dx n ne => k dx n ne⟩⟩
theorem ok_between {f : Addr} {fd : FuncData} (F : Fun K "is_between" "is_between" s_is_between f fd) (B : Bi mg) : FnOk P w K mg base CX0 1 f fd ["value", "low", "high"] spBetween := by
  refine F.ok sc_is_between (fun vs H Q E h => ?_) (fun cdv A outer s H vs Q E hr h => ?_)
  · obtain ⟨x, lo, hi, rfl, _⟩ := h
    rfl
  · obtain ⟨x, lo, hi, rfl, ⟨t, hx⟩, q⟩ := h
    refine ⟨_, (pss_one (ps_ret (pe_and (pe_callB call_isi (by rfl) B.b_isinstance (by decide +kernel) (pa_cons (pv 0) (pa_cons (pe_bltn (v := V.ty "int") rfl B.b_int (by decide +kernel) rfl) pa_nil))) (pe_and (pe_not (pe_callB call_isi (by rfl) B.b_isinstance (by decide +kernel) (pa_cons (pv 0) (pa_cons (pe_bltn (v := V.ty "bool") rfl B.b_bool (by decide +kernel) rfl) pa_nil)))) (pe_one (pe_chain op_le op_le (pv 1) (pv 0) (pv 2))))))), ?_⟩
    refine ⟨x, rfl, x, .ty "int", .type t, .type "int", _, rfl, .ty _, hx.ty, kit_ty (kb_int hx.mem), _, rfl, ?_⟩
    cases hx with
    | int i =>
      refine iteT ?_
      refine ⟨_, rfl, _, .ty "bool", .type "int", .type "bool", _, rfl, .ty _, (K7.int i).ty, kit_ty (kb_bool (K7.int (H := H) i).mem), _, rfl, _, rfl, iteT ?_⟩
      refine ⟨_, rfl, _, rfl, lo, i, rfl, rfl, _, rfl, ?_⟩
      by_cases c : lo ≤ i
      · have e : inB (.int i) lo hi = decide (i ≤ hi) := by
          show (decide (lo ≤ i) && decide (i ≤ hi)) = decide (i ≤ hi)
          rw [decide_eq_true c, Bool.true_and]
        rw [e] at q
        rw [decide_eq_true c]
        exact iteT ⟨_, rfl, i, hi, rfl, rfl, q⟩
      · have e : inB (.int i) lo hi = false := by
          show (decide (lo ≤ i) && decide (i ≤ hi)) = false
          rw [decide_eq_false c, Bool.false_and]
        rw [e] at q
        rw [decide_eq_false c]
        exact iteF q
    | bl b =>
      refine iteT ?_
      exact ⟨_, rfl, _, .ty "bool", .type "bool", .type "bool", _, rfl, .ty _, (K7.bl b).ty, kit_ty (kb_bool (K7.bl (H := H) b).mem), _, rfl, _, rfl, iteF q⟩
    | non => exact iteF q
    | str z => exact iteF q
    | lst e => exact iteF q
    | tup e => exact iteF q
    | dict e => exact iteF q
theorem ok_sc {f f1 : Addr} {fd d1 : FuncData} (F : Fun K "is_size_class" "is_size_class" s_is_size_class f fd) (B : Bi mg) (G1 : FnOk P w K mg base CX0 1 f1 d1 ["value", "low", "high"] spBetween) (m1 : mg "is_between" = some (.ref f1)) (k1 : PySem.W.keepIn K (.ref f1) = true) (b1 : Binds K d1 ["value", "low", "high"] []) :
    FnOk P w K mg base CX0 2 f fd ["item"] spIsSC := by
  refine F.ok sc_is_size_class (fun vs H Q E h => ?_) (fun cdv A outer s H vs Q E hr h => ?_)
  · obtain ⟨x, rfl, _⟩ := h
    rfl
  · obtain ⟨x, rfl, ⟨⟨t, hx⟩, hi⟩, q⟩ := h
    obtain ⟨t1, k_MOST_SIZE⟩ := B.c_size
    obtain ⟨t2, k_MOST_SLOTS⟩ := B.c_slots
    refine ⟨_, (pss_cons (ps_if (PW.pt (pw_or (pt_not (pt_val (pe_callB call_isi (by rfl) B.b_isinstance (by decide +kernel) (pa_cons (pv 0) (pa_cons (pe_bltn (v := V.ty "tuple") rfl B.b_tuple (by decide +kernel) rfl) pa_nil))))) (pw_or1 (pt_cmpR op_ne (pe_callB call_len_seq (by rfl) B.b_len (by decide +kernel) (pa_cons (pv 0) pa_nil)) pe_int (nomark _))))) (pss_one (ps_ret pe_bl)) pss_nil)
      (pss_one (ps_ret (pe_and (pe_call G1 (hr.mono (by decide)) rfl m1 k1 b1 .nil pass0 (pa_cons (pe_ix ix_tup (pv 0) pe_int (fun _ _ => rfl)) (pa_cons pe_int (pa_cons (pe_glob (v := V.int 1000) rfl k_MOST_SIZE ⟨_, rfl⟩) pa_nil)))) (pe_one (pe_call G1 (hr.mono (by decide)) rfl m1 k1 b1 .nil pass0 (pa_cons (pe_ix ix_tup (pv 0) pe_int (fun _ _ => rfl)) (pa_cons pe_int (pa_cons (pe_glob (v := V.int 60) rfl k_MOST_SLOTS ⟨_, rfl⟩) pa_nil))))))))), ?_⟩
    refine ⟨x, rfl, x, .ty "tuple", .type t, .type "tuple", _, rfl, .ty _, hx.ty, kit_ty (kb_tuple hx.mem), _, rfl, ?_⟩
    cases hx with
    | int i => exact iteT (iteT q)
    | bl b => exact iteT (iteT q)
    | non => exact iteT (iteT q)
    | str z => exact iteT (iteT q)
    | @lst a xs e =>
      refine iteT (iteT ?_)
      have z : scB H (.ref a) = false := by
        show (match H a with | some (.tup [y, z]) => inB y 1 1000 && inB z 1 60 | _ => false) = false
        rw [e]
      rw [z] at q
      exact q
    | @dict a kvs e =>
      refine iteT (iteT ?_)
      have z : scB H (.ref a) = false := by
        show (match H a with | some (.tup [y, z]) => inB y 1 1000 && inB z 1 60 | _ => false) = false
        rw [e]
      rw [z] at q
      exact q
    | @tup a xs e =>
      refine iteF ?_
      refine ⟨_, rfl, a, xs, rfl, .inr (SqT.of e), rfl, _, rfl, ?_⟩
      have ys := hi a xs rfl e
      by_cases c : xs.length = 2
      · match xs, c with
        | [y, z], _ =>
          refine iteF ?_
          refine ⟨_, rfl, a, _, 0, y, rfl, rfl, SqT.of e, rfl, y, 1, 1000, rfl, ys y (by simp), _, rfl, ?_⟩
          have eq : scB H (.ref a) = (inB y 1 1000 && inB z 1 60) := by
            show (match H a with | some (.tup [y, z]) => inB y 1 1000 && inB z 1 60 | _ => false) = _
            rw [e]
          rw [eq] at q
          cases c1 : inB y 1 1000 with
          | false =>
            rw [c1, Bool.false_and] at q
            exact iteF q
          | true =>
            rw [c1, Bool.true_and] at q
            exact iteT ⟨_, rfl, a, _, 1, z, rfl, rfl, SqT.of e, rfl, z, 1, 60, rfl, ys z (by simp), q⟩
      · have n2 : decide (V.int (xs.length : Int) = V.int 2) = false := decide_eq_false fun z => c (by have := V.int.inj z; omega)
        rw [n2]
        refine iteT ?_
        have z : scB H (.ref a) = false := by
          show (match H a with | some (.tup [y, z]) => inB y 1 1000 && inB z 1 60 | _ => false) = false
          rw [e]
          match xs, c with
          | [], _ => rfl
          | [_], _ => rfl
          | [_, _], c => exact absurd rfl c
          | _ :: _ :: _ :: _, _ => rfl
        rw [z] at q
        exact q
theorem ok_init {C CS f f1 f2 fS : Addr} {fd d1 d2 dS : FuncData} (F : Fun K "__init__" "Slab.__init__" s_init f fd) (B : Bi mg) (T : SlabC K mg C)
    (XNoSlab : XCls K CS fS "index") (INoSlab : FnOk P w K mg base CX0 1 fS dS ["self", "index"] (spIni CS "index")) (biNoSlab : Binds K dS ["self", "index"] []) (gNoSlab : mg "NoSlab" = some (.ref CS))
    (G1 : FnOk P w K mg base CX0 1 f1 d1 ["value", "low", "high"] spBetween) (m1 : mg "is_between" = some (.ref f1)) (k1 : PySem.W.keepIn K (.ref f1) = true) (b1 : Binds K d1 ["value", "low", "high"] [])
    (G2 : FnOk P w K mg base CX0 2 f2 d2 ["item"] spIsSC) (m2 : mg "is_size_class" = some (.ref f2)) (k2 : PySem.W.keepIn K (.ref f2) = true) (b2 : Binds K d2 ["item"] []) :
    FnOk P w K mg base (L2.CX P w) 4 f fd ["self", "classes", "limit"] (spInit C CS) := by
  refine F.okX sc_init (fun vs H Q E h => ?_) (fun cdv A outer s H vs Q E hr h => ?_)
  · obtain ⟨p, dx, cls, lim, rfl, _⟩ := h
    rfl
  · obtain ⟨p, dx, cls, lim, rfl, hp, hc, hl, hI, kE, kQ⟩ := h
    obtain ⟨t1, k_MOST_CLASSES⟩ := B.c_classes
    obtain ⟨t2, k_MOST_LIMIT⟩ := B.c_limit
    refine ⟨_, (pss_cons (ps_if (PW.pt (pw_or (pt_not (pt_val (pe_callB call_isi (by rfl) B.b_isinstance (by decide +kernel) (pa_cons (pv 1) (pa_cons (pe_bltn (v := V.ty "list") rfl B.b_list (by decide +kernel) rfl) pa_nil))))) (pw_or1 (pt_not (pt_val (pe_call G1 (hr.mono (by decide)) rfl m1 k1 b1 .nil pass0 (pa_cons (pe_callB call_len_seq (by rfl) B.b_len (by decide +kernel) (pa_cons (pv 1) pa_nil)) (pa_cons pe_int (pa_cons (pe_glob (v := V.int 6) rfl k_MOST_CLASSES ⟨_, rfl⟩) pa_nil))))))))) (pss_one (ps_raiseX rfl (takes_of rfl rfl rfl rfl) XNoSlab INoSlab (hr.mono (by decide)) biNoSlab rfl gNoSlab (pa_cons (pe_un un_neg pe_int) pa_nil))) pss_nil)
      (pss_cons (ps_if (pt_not (pt_val (pe_call G1 (hr.mono (by decide)) rfl m1 k1 b1 .nil pass0 (pa_cons (pv 2) (pa_cons pe_int (pa_cons (pe_glob (v := V.int 1000000) rfl k_MOST_LIMIT ⟨_, rfl⟩) pa_nil)))))) (pss_one (ps_raiseX rfl (takes_of rfl rfl rfl rfl) XNoSlab INoSlab (hr.mono (by decide)) biNoSlab rfl gNoSlab (pa_cons (pe_un un_neg pe_int) pa_nil))) pss_nil)
      (pss_cons (ps_for (passes_of rfl) rfl (pi_enum (by rfl) B.b_enumerate (pa_cons (pv 1) pa_nil)) (pg_tup rfl (pgs_cons (pg_name (i := 3) sc_init.nd rfl (Or.inl rfl)) (pgs_cons (pg_name (i := 4) sc_init.nd rfl (Or.inl rfl)) pgs_nil)))
      (pss_one (ps_if (pt_not (pt_val (pe_call G2 (hr.mono (by decide)) rfl m2 k2 b2 .nil pass0 (pa_cons (pv 4) pa_nil)))) (pss_one (ps_raiseX rfl (takes_of rfl rfl rfl rfl) XNoSlab INoSlab (hr.mono (by decide)) biNoSlab rfl gNoSlab (pa_cons (pv 3) pa_nil))) pss_nil)))
      (pss_cons (ps_fld (pv 0) (pe_callTy call_list_of (by rfl) B.b_list (by decide +kernel) (pa_cons (pv 1) pa_nil)) rfl)
      (pss_one (ps_fld (pv 0) (pv 2) rfl)))))), ?_⟩
    obtain ⟨t, hk⟩ := hc
    have neg : ∀ {Q' : Prop}, Q' → Q' := fun h => h
    refine ⟨cls, rfl, cls, .ty "list", .type t, .type "list", _, rfl, .ty _, hk.ty, kit_ty (kb_list hk.mem), _, rfl, ?_⟩
    cases hk with
    | int i => exact iteT (iteT ⟨1, rfl, _, rfl, kE (-1) rfl⟩)
    | bl b => exact iteT (iteT ⟨1, rfl, _, rfl, kE (-1) rfl⟩)
    | non => exact iteT (iteT ⟨1, rfl, _, rfl, kE (-1) rfl⟩)
    | str z => exact iteT (iteT ⟨1, rfl, _, rfl, kE (-1) rfl⟩)
    | @tup a xs e =>
      refine iteT (iteT ⟨1, rfl, _, rfl, kE (-1) ?_⟩)
      show (match H a with | some (.lst xs) => _ | _ => some (-1)) = some (-1)
      rw [e]
    | @dict a kvs e =>
      refine iteT (iteT ⟨1, rfl, _, rfl, kE (-1) ?_⟩)
      show (match H a with | some (.lst xs) => _ | _ => some (-1)) = some (-1)
      rw [e]
    | @lst a xs e =>
      refine iteF ?_
      refine ⟨.ref a, rfl, a, xs, rfl, .inl (SqL.of e), .int xs.length, 1, 6, rfl, ⟨_, .int _⟩, _, rfl, ?_⟩
      have hb : badI H (.ref a) lim = if (decide (1 ≤ xs.length) && decide (xs.length ≤ 6)) = true then (if inB lim 0 1000000 = true then badL H xs else some (-1)) else some (-1) := by
        show (match H a with | some (.lst xs) => _ | _ => some (-1)) = _
        rw [e]
      rw [← inB_len] at hb
      cases c1 : inB (.int xs.length) 1 6 with
      | false =>
        rw [c1, if_neg Bool.false_ne_true] at hb
        exact iteT ⟨1, rfl, _, rfl, kE (-1) hb⟩
      | true =>
        rw [c1, if_pos rfl] at hb
        refine iteF ?_
        refine ⟨lim, rfl, lim, 0, 1000000, rfl, hl, _, rfl, ?_⟩
        cases c2 : inB lim 0 1000000 with
        | false =>
          rw [c2, if_neg Bool.false_ne_true] at hb
          exact iteT ⟨1, rfl, _, rfl, kE (-1) hb⟩
        | true =>
          rw [c2, if_pos rfl] at hb
          refine iteF ?_
          obtain ⟨L, rfl⟩ := inB_int c2
          obtain ⟨hlen, hIt⟩ := hI a xs rfl e
          refine ⟨.ref a, rfl, a, xs, rfl, SqL.of e, for_it (walk_enum (K := K) (a := a) (xs := xs)) (fun i σ H4 => ∃ y3 y4, σ = [some (.ref p), some (.ref a), some (.int L), y3, y4] ∧ Same H H4 ∧ ∀ (j : Nat) x, j < i → xs[j]? = some x → scB H x = true) ⟨_, _, rfl, Same.refl _, fun j x hj => absurd hj (Nat.not_lt_zero _)⟩
            (fun i σ H4 _ ⟨_, _, _, z, _⟩ => SqL.of (z _ _ e)) ?_ ?_⟩
          · rintro j x σ H4 H5 hj ⟨y3, y4, rfl, S4, hs⟩ ⟨T', x1, x2, rfl, nT, rfl, g1, g2⟩
            cases g1
            have g2' : xs[j]? = some x2 := g2
            generalize h6 : upd H4 T' _ = H6
            obtain ⟨t6, e6⟩ := eqU h6 nT
            have S6 := S4.trans t6
            have hx2 := hIt x2 (List.mem_of_getElem? g2')
            refine ⟨T', _, rfl, SqT.of e6, rfl, _, _, rfl, _, _, rfl, rfl, ?_⟩
            refine ⟨x2, rfl, x2, rfl, hx2.keep S6, _, rfl, ?_⟩
            rw [scB_keep hx2.1 S6]
            cases c3 : scB H x2 with
            | false =>
              have hbad : badL H xs = some (j : Int) := badL_some g2' c3 fun i x hi hx => hs i x hi hx
              exact iteT ⟨_, rfl, _, rfl, (kE j (hb.trans hbad)).keep S6⟩
            | true =>
              refine iteF ⟨_, _, rfl, S6, fun i x hi hx => ?_⟩
              by_cases ei : i = j
              · subst ei
                rw [g2'] at hx
                cases hx
                exact c3
              · exact hs i x (by omega) hx
          · rintro σ H4 ⟨y3, y4, rfl, S4, hs⟩
            have hnone : badL H xs = none := badL_none fun i x hx => hs i x (List.getElem?_eq_some_iff.mp hx).1 hx
            refine ⟨.ref a, rfl, a, xs, rfl, .inl (SqL.of (S4 _ _ e)), fun l nl => ?_⟩
            generalize h5 : upd H4 l _ = H5
            obtain ⟨t5, e5⟩ := eqU h5 nl
            have hp5 := t5 _ _ (S4 _ _ hp)
            have nlp : l ≠ p := (ne_of_none (S4 _ _ hp) nl).symm
            refine ⟨_, rfl, p, C, dx, [], rfl, hp5, T.cl, T.nP, (by show 0 < 1000; decide), _, rfl, _, rfl, p, C, dx, _, rfl, upd_same, T.cl, T.nB, (by show 1 < 1000; decide), ?_⟩
            refine kQ a xs L (hb.trans hnone) rfl rfl e l _ (S4.free nl) (fun b o z n => ?_) ⟨⟨dx, ?_⟩, ?_⟩
            · rw [upd_ne n, upd_ne n]
              exact t5 _ _ (S4 _ _ z)
            · rw [upd_same, pk_put]
              rfl
            · rw [upd_ne nlp, upd_ne nlp]
              exact e5
theorem ok_len {C f : Addr} {fd : FuncData} (F : Fun K "__len__" "Slab.__len__" s_len f fd) (B : Bi mg) (T : SlabC K mg C) : FnOk P w K mg base CX0 1 f fd ["self"] (spLen C) := by
  refine F.ok sc_len (fun vs H Q E h => ?_) (fun cdv A outer s H vs Q E hr h => ?_)
  · obtain ⟨p, l, xs, L, rfl, _⟩ := h
    rfl
  · obtain ⟨p, l, xs, L, rfl, ⟨⟨dx, e⟩, el⟩, q⟩ := h
    exact ⟨_, (pss_one (ps_ret (pe_callB call_len_seq (by rfl) B.b_len (by decide +kernel) (pa_cons (pe_fld (pv 0) rfl) pa_nil)))), ⟨_, rfl, p, C, dx, _, _, rfl, e, T.cl, T.nP, pk_pairs l L, l, xs, rfl, .inl (SqL.of el), q⟩⟩
theorem ok_classes {C f : Addr} {fd : FuncData} (F : Fun K "classes" "Slab.classes" s_classes f fd) (B : Bi mg) (T : SlabC K mg C) : FnOk P w K mg base CX0 1 f fd ["self"] (spClasses C) := by
  refine F.ok sc_classes (fun vs H Q E h => ?_) (fun cdv A outer s H vs Q E hr h => ?_)
  · obtain ⟨p, l, xs, L, rfl, _⟩ := h
    rfl
  · obtain ⟨p, l, xs, L, rfl, ⟨⟨dx, e⟩, el⟩, q⟩ := h
    exact ⟨_, (pss_one (ps_ret (pe_callTy call_list_of (by rfl) B.b_list (by decide +kernel) (pa_cons (pe_fld (pv 0) rfl) pa_nil)))), ⟨_, rfl, p, C, dx, _, _, rfl, e, T.cl, T.nP, pk_pairs l L, l, xs, rfl, .inl (SqL.of el), fun a na => q a _ na (same_upd na) upd_same⟩⟩
theorem ok_limit {C f : Addr} {fd : FuncData} (F : Fun K "limit" "Slab.limit" s_limit f fd) (T : SlabC K mg C) : FnOk P w K mg base CX0 1 f fd ["self"] (spLimit C) := by
  refine F.ok sc_limit (fun vs H Q E h => ?_) (fun cdv A outer s H vs Q E hr h => ?_)
  · obtain ⟨p, l, xs, L, rfl, _⟩ := h
    rfl
  · obtain ⟨p, l, xs, L, rfl, ⟨⟨dx, e⟩, el⟩, q⟩ := h
    exact ⟨_, (pss_one (ps_ret (pe_fld (pv 0) rfl))), ⟨_, rfl, p, C, dx, _, _, rfl, e, T.cl, T.nB, pk_bound l L, q⟩⟩
theorem ok_eq {C f : Addr} {fd : FuncData} (F : Fun K "__eq__" "Slab.__eq__" s_eq f fd) (B : Bi mg) (T : SlabC K mg C) : FnOk P w K mg base CX0 1 f fd ["self", "other"] (spEqS C) := by
  refine F.ok sc_eq (fun vs H Q E h => ?_) (fun cdv A outer s H vs Q E hr h => ?_)
  · obtain ⟨p, l, xs, ps, L, y, rfl, _⟩ := h
    rfl
  · obtain ⟨p, l, xs, ps, L, y, rfl, ⟨⟨dx, e⟩, el⟩, hps, hle, hy⟩ := h
    refine ⟨_, (pss_one (ps_ret (pe_and (pe_callB call_isi (by rfl) B.b_isinstance (by decide +kernel) (pa_cons (pv 1) (pa_cons (pe_glob (v := V.ref C) rfl T.gC rfl) pa_nil))) (pe_and (pe_cmpR (op_eqD hr.units) (pe_fld (pv 0) rfl) (pe_fld (pv 1) rfl) (nomark _)) (pe_one (pe_cmpR op_eq (pe_fld (pv 0) rfl) (pe_fld (pv 1) rfl) (nomark _))))))), ?_⟩
    rcases hy with ⟨t, zs, rfl, et, q⟩ | ⟨p', l', xs', ps', L', rfl, ⟨⟨dx', e'⟩, el'⟩, hps', hle', q⟩
    · exact ⟨_, rfl, .ref t, .ref C, .type "tuple", .ref C, _, rfl, .own _, .base (.tup et), T.kT, _, rfl, iteF q⟩
    · refine ⟨_, rfl, .ref p', .ref C, .ref C, .ref C, _, rfl, .own _, T.ty e', T.kI, _, rfl, iteT ?_⟩
      refine ⟨_, rfl, p, C, dx, _, _, rfl, e, T.cl, T.nP, pk_pairs l L, _, rfl, p', C, dx', _, _, rfl, e', T.cl, T.nP, pk_pairs l' L', _, _, .lst (SqL.of el) (dpPairs hps), .lst (SqL.of el') (dpPairs hps'), dPairs_shaped ps, dPairs_shaped ps', _, rfl, ?_⟩
      rw [dPairs_eqv]
      by_cases c : ps = ps'
      · rw [decide_eq_true c, Bool.true_and] at q
        rw [decide_eq_true c]
        refine iteT ?_
        refine ⟨_, rfl, p, C, dx, _, _, rfl, e, T.cl, T.nB, pk_bound l L, _, rfl, p', C, dx', _, _, rfl, e', T.cl, T.nB, pk_bound l' L', rfl, ?_⟩
        have z : decide (V.int L = V.int L') = decide (L = L') := decide_eq_decide.mpr ⟨V.int.inj, congrArg V.int⟩
        show Q (.bl (decide (V.int L = V.int L'))) H
        rw [z]
        exact q
      · rw [decide_eq_false c, Bool.false_and] at q
        rw [decide_eq_false c]
        exact iteF q
theorem ok_cls {C CN f f1 fN : Addr} {fd d1 dN : FuncData} (F : Fun K "size_class" "Slab.size_class" s_size_class f fd) (B : Bi mg) (T : SlabC K mg C)
    (G1 : FnOk P w K mg base CX0 1 f1 d1 ["value", "low", "high"] spBetween) (m1 : mg "is_between" = some (.ref f1)) (k1 : PySem.W.keepIn K (.ref f1) = true) (b1 : Binds K d1 ["value", "low", "high"] [])
    (XNoClass : XCls K CN fN "number") (INoClass : FnOk P w K mg base CX0 1 fN dN ["self", "number"] (spIni CN "number")) (biNoClass : Binds K dN ["self", "number"] []) (gNoClass : mg "NoClass" = some (.ref CN)) : FnOk P w K mg base (L2.CX P w) 3 f fd ["self", "number"] (spCls C CN) := by
  refine F.okX sc_size_class (fun vs H Q E h => ?_) (fun cdv A outer s H vs Q E hr h => ?_)
  · obtain ⟨p, l, xs, L, x, rfl, _⟩ := h
    rfl
  · obtain ⟨p, l, xs, L, x, rfl, ⟨⟨dx, e⟩, el⟩, hx, kQ, kE⟩ := h
    refine ⟨_, (pss_cons (ps_if (pt_not (pt_val (pe_call G1 (hr.mono (by decide)) rfl m1 k1 b1 .nil pass0 (pa_cons (pv 1) (pa_cons pe_int (pa_cons (pe_op op_sub (pe_callB call_len_seq (by rfl) B.b_len (by decide +kernel) (pa_cons (pe_fld (pv 0) rfl) pa_nil)) pe_int) pa_nil)))))) (pss_one (ps_raiseX rfl (takes_of rfl rfl rfl rfl) XNoClass INoClass (hr.mono (by decide)) biNoClass rfl gNoClass (pa_cons (pv 1) pa_nil))) pss_nil)
      (pss_one (ps_ret (pe_ix ix_list (pe_fld (pv 0) rfl) (pv 1) (fun _ _ => rfl))))), ?_⟩
    refine ⟨x, rfl, _, rfl, p, C, dx, _, _, rfl, e, T.cl, T.nP, pk_pairs l L, l, xs, rfl, .inl (SqL.of el), _, _, rfl, rfl, x, 0, _, rfl, hx, _, rfl, ?_⟩
    cases c : inB x 0 ((xs.length : Int) - 1) with
    | false => exact iteT ⟨_, rfl, _, rfl, kE c⟩
    | true =>
      refine iteF ?_
      obtain ⟨i, rfl⟩ := inB_int c
      obtain ⟨j, rfl, hj⟩ := inB_nat c
      refine ⟨_, rfl, p, C, dx, _, _, rfl, e, T.cl, T.nP, pk_pairs l L, _, rfl, l, xs, j, xs[j], rfl, rfl, SqL.of el, atI_nat (List.getElem?_eq_getElem hj), ?_⟩
      exact kQ j _ rfl (List.getElem?_eq_getElem hj)
theorem ok_bytes_of {C CN f fS : Addr} {fd dS : FuncData} (F : Fun K "bytes_of" "Slab.bytes_of" s_bytes_of f fd) (T : SlabC K mg C) (GS : FnOk P w K mg base (L2.CX P w) 3 fS dS ["self", "number"] (spCls C CN)) (mS : Meth K C "size_class" fS) (bS : Binds K dS ["self", "number"] []) :
    FnOk P w K mg base (L2.CX P w) 4 f fd ["self", "number"] (spBytes C CN true) := by
  refine F.okX sc_bytes_of (fun vs H Q E h => ?_) (fun cdv A outer s H vs Q E hr h => ?_)
  · obtain ⟨p, l, xs, ps, L, x, rfl, _⟩ := h
    rfl
  · obtain ⟨p, l, xs, ps, L, x, rfl, sl, hps, hx, kQ, kE⟩ := h
    obtain ⟨dx, e⟩ := sl.ob
    refine ⟨_, (pss_one (ps_ret (pe_ix ix_tup (pe_meth (pv 0) T.cl mS GS (hr.mono (by decide)) bS .nil (passes_call (takes_of rfl rfl rfl rfl) (fun _ _ _ _ h => h)) (pa_cons (pv 1) pa_nil)) pe_int (fun _ _ => rfl)))), ?_⟩
    refine ⟨_, rfl, p, dx, _, rfl, e, pk_no _ _ (by decide +kernel) (by decide +kernel), x, rfl, p, l, xs, L, x, rfl, sl, hx, fun i y ex hy => ?_, fun c => kE (by rw [← Paired.length hps]; exact c)⟩
    obtain ⟨q, hq, t, rfl, et⟩ := pairs_get hps hy
    exact ⟨t, _, 0, _, rfl, rfl, SqT.of et, rfl, kQ i q ex hq⟩
theorem ok_slots_of {C CN f fS : Addr} {fd dS : FuncData} (F : Fun K "slots_of" "Slab.slots_of" s_slots_of f fd) (T : SlabC K mg C) (GS : FnOk P w K mg base (L2.CX P w) 3 fS dS ["self", "number"] (spCls C CN)) (mS : Meth K C "size_class" fS) (bS : Binds K dS ["self", "number"] []) :
    FnOk P w K mg base (L2.CX P w) 4 f fd ["self", "number"] (spBytes C CN false) := by
  refine F.okX sc_slots_of (fun vs H Q E h => ?_) (fun cdv A outer s H vs Q E hr h => ?_)
  · obtain ⟨p, l, xs, ps, L, x, rfl, _⟩ := h
    rfl
  · obtain ⟨p, l, xs, ps, L, x, rfl, sl, hps, hx, kQ, kE⟩ := h
    obtain ⟨dx, e⟩ := sl.ob
    refine ⟨_, (pss_one (ps_ret (pe_ix ix_tup (pe_meth (pv 0) T.cl mS GS (hr.mono (by decide)) bS .nil (passes_call (takes_of rfl rfl rfl rfl) (fun _ _ _ _ h => h)) (pa_cons (pv 1) pa_nil)) pe_int (fun _ _ => rfl)))), ?_⟩
    refine ⟨_, rfl, p, dx, _, rfl, e, pk_no _ _ (by decide +kernel) (by decide +kernel), x, rfl, p, l, xs, L, x, rfl, sl, hx, fun i y ex hy => ?_, fun c => kE (by rw [← Paired.length hps]; exact c)⟩
    obtain ⟨q, hq, t, rfl, et⟩ := pairs_get hps hy
    exact ⟨t, _, 1, _, rfl, rfl, SqT.of et, rfl, kQ i q ex hq⟩
end
end K01
set_option Elab.async false
set_option linter.all false
set_option maxRecDepth 100000
set_option maxHeartbeats 4000000
namespace XV
open PySem PySem.Spec PyProof.Rows L2
/-- list + list, whatever they are -/
def rCatS (K : PySem.W.Frag) : R2 := fun x y H Q => ∃ l b xs zs, x = .ref l ∧ y = .ref b ∧ SqL K H l xs ∧ SqL K H b zs ∧ xs.length + zs.length ≤ sizeLine ∧ ∀ p, H p = none → Q (.ref p) (upd H p (.lst (xs ++ zs)))
theorem op_catS {X : Cx} : OpR X (binaryOp .Add) (rCatS X.K) := by
  intro pins s σ H x y v u Q I rx ry h
  obtain ⟨l, b, xs, zs, rfl, rfl, hH, hB, hz, q⟩ := h
  cases rx
  cases ry
  obtain ⟨its, r, p1, z1⟩ := I.list hH
  obtain ⟨its2, r2, p2, z2⟩ := I.list hB
  obtain ⟨⟨cls, dd, data, sl⟩, ho, hc, n, hd⟩ := p1.isList
  obtain ⟨⟨cls2, dd2, data2, sl2⟩, ho2, hc2, n2, hd2⟩ := p2.isList
  simp only at hc hd hc2 hd2
  subst hc hd hc2 hd2
  have hl := r.length
  have hl2 := r2.length
  have ea : its.toArray ++ its2.toArray = (its ++ its2).toArray := by simp
  refine concat_meets ⟨_, ho, rfl⟩ ⟨_, ho2, rfl⟩ noFill_list_add seq_list_add PySem.F.slot_list_add PySem.F.entry_list_add (PySem.F.args_list_add_2 _ _) (list_addW l b its.toArray its2.toArray n n2 dd dd2 sl sl2 (by rw [List.size_toArray, List.size_toArray]; omega)) ⟨ho, ho2, ?_⟩
  rw [ea]
  exact ⟨.ref _, _, I.lnew (t' := s.toks) (r.append r2) (by rw [List.length_append]; omega), rfl, q _ I.fresh⟩
end XV
namespace K01
open PySem PySem.Spec PyProof.Rows L2 XV SL
local macro_rules | `(tactic| walk_at "rd") => `(tactic| repeat (first | refine And.intro rfl ?_ | refine And.intro (by assumption) ?_ | refine And.intro (SqL.of upd_same) ?_ | refine And.intro upd_same ?_ | refine And.intro (by first | decide | (dsimp only; decide) | (dsimp only; omega)) ?_ | refine And.intro ⟨by decide, by decide⟩ ?_ | refine And.intro (Or.inl ⟨by omega, by omega⟩) ?_ | refine And.intro (Or.inr ⟨by decide, by decide⟩) ?_ | refine And.intro (Or.inl ⟨by decide, by decide⟩) ?_ | refine Or.inl (Exists.intro _ (And.intro rfl ?_)) | refine Or.inr (Exists.intro _ (And.intro rfl ?_)) | apply Exists.intro))
abbrev s__law_draw : Stmt := topS 13
theorem sc__law_draw : FnScope ["_law_well", "_law_many", "_law_found", "_law_number"] ["_law_well", "_law_many"] (defScope s__law_draw) := ⟨rfl, rfl, rfl, by decide +kernel, rfl, by decide +kernel, by decide +kernel⟩
abbrev s__law_slab : Stmt := topS 14
theorem sc__law_slab : FnScope ["_law_well", "_law_kind", "_law_sorts", "_law_k"] ["_law_well"] (defScope s__law_slab) := ⟨rfl, rfl, rfl, by decide +kernel, rfl, by decide +kernel, by decide +kernel⟩
abbrev s__law_within : Stmt := topS 15
theorem sc__law_within : FnScope ["_law_value", "_law_low", "_law_high"] ["_law_value", "_law_low", "_law_high"] (defScope s__law_within) := ⟨rfl, rfl, rfl, by decide +kernel, rfl, by decide +kernel, by decide +kernel⟩
abbrev s__law_bad : Stmt := topS 16
theorem sc__law_bad : FnScope ["_law_sorts", "_law_most", "_law_index", "_law_one"] ["_law_sorts", "_law_most"] (defScope s__law_bad) := ⟨rfl, rfl, rfl, by decide +kernel, rfl, by decide +kernel, by decide +kernel⟩
abbrev s__law_raised : Stmt := topS 17
theorem sc__law_raised : FnScope ["_law_ask", "_law_found", "e"] ["_law_ask"] (defScope s__law_raised) := ⟨rfl, rfl, rfl, by decide +kernel, rfl, by decide +kernel, by decide +kernel⟩
abbrev s__law_bent : Stmt := topS 18
theorem sc__law_bent : FnScope ["_law_well", "_law_sorts", "_law_k", "_law_at", "_law_odd", "_law_turn"] ["_law_well", "_law_sorts"] (defScope s__law_bent) := ⟨rfl, rfl, rfl, by decide +kernel, rfl, by decide +kernel, by decide +kernel⟩
abbrev s__law_right : Stmt := topS 19
theorem sc__law_right : FnScope ["_law_well", "_law_sorts", "_law_most", "_law_handed", "_law_slab_here", "_law_told", "_law_at", "_law_near", "_law_odd", "_law_bad_here", "_law_some", "_law_due", "_law_k"] ["_law_well"] (defScope s__law_right) := ⟨rfl, rfl, rfl, by decide +kernel, rfl, by decide +kernel, by decide +kernel⟩
abbrev s_law : Stmt := topS 20
theorem sc_law : FnScope ["_law_script", "_law_k", "_law_cell"] ["_law_script"] (defScope s_law) := ⟨rfl, rfl, rfl, by decide +kernel, rfl, by decide +kernel, by decide +kernel⟩
/-- all but l stays -/
def But (l : Addr) (H H' : Hp) : Prop := ∀ b o, H b = some o → b ≠ l → H' b = some o
theorem eqL {H H1 : Hp} {l : Addr} {o : HO} (e : upd H l o = H1) : But l H H1 ∧ H1 l = some o := by
  subst e
  exact ⟨fun b u z n => by rw [upd_ne n]; exact z, upd_same⟩
/-- the list of three numbers that the draws are taken from -/
def Well (H : Hp) (l : Addr) : Prop := ∃ a b c : Int, H l = some (.lst [.int a, .int b, .int c])
/-- the well has turned, all else stays -/
structure St1 (l : Addr) (H H' : Hp) : Prop where
  but : But l H H'
  well : Well H' l
theorem St1.refl {l : Addr} {H : Hp} (h : Well H l) : St1 l H H := ⟨fun _ _ z _ => z, h⟩
theorem St1.trans {l : Addr} {H H1 H2 : Hp} (a : St1 l H H1) (b : St1 l H1 H2) : St1 l H H2 := ⟨fun c o z n => b.but c o (a.but c o z n) n, b.well⟩
theorem St1.same {l : Addr} {H H1 H2 : Hp} (a : St1 l H H1) (s : Same H1 H2) : St1 l H H2 := ⟨fun c o z n => s _ _ (a.but c o z n), let ⟨x, y, z, e⟩ := a.well; ⟨x, y, z, s _ _ e⟩⟩
theorem St1.free {l p : Addr} {H H1 : Hp} (a : St1 l H H1) (hl : Well H l) (h : H1 p = none) : H p = none := by
  cases q : H p with
  | none => rfl
  | some o =>
    by_cases e : p = l
    · obtain ⟨x, y, z, w⟩ := a.well
      rw [e, w] at h
      cases h
    · rw [a.but p o q e] at h
      cases h
theorem well_ne {l b : Addr} {H : Hp} {xs : List V} (hl : Well H l) (h : H b = some (.tup xs)) : b ≠ l := fun e => by
  obtain ⟨x, y, z, w⟩ := hl
  rw [e, w] at h
  cases h
theorem pairs_upd {H : Hp} {s : Addr} {xs ys : List V} (hs : H s = some (.lst xs)) : ∀ {zs : List V} {ps : List (Int × Int)}, PairsAt H zs ps → PairsAt (upd H s (.lst ys)) zs ps
  | _, _, .nil => .nil
  | _, _, .cons ⟨t, e, z⟩ r => .cons ⟨t, e, by rw [upd_ne (fun q => by rw [q, hs] at z; cases z)]; exact z⟩ (pairs_upd hs r)
theorem PairsAt.keepB {l : Addr} {H H' : Hp} (hl : Well H l) (k : But l H H') : ∀ {xs : List V} {ps : List (Int × Int)}, PairsAt H xs ps → PairsAt H' xs ps
  | _, _, .nil => .nil
  | _, _, .cons ⟨t, e, z⟩ r => .cons ⟨t, e, k _ _ z (well_ne hl z)⟩ (PairsAt.keepB hl k r)
def spDraw : Sp := fun vs H Q _ => ∃ (l : Addr) (m : Int), vs = [.ref l, .int m] ∧ Well H l ∧ 0 < m ∧ m < 1073741824 ∧ ∀ n H', 0 ≤ n → n < m → St1 l H H' → Q (.int n) H'
section
variable {P : Program} {w : World} {K : PySem.W.Frag} {mg : Str → Option Value} {base : Heap}
theorem ok_draw {f : Addr} {fd : FuncData} (F : Fun K "_law_draw" "_law_draw" s__law_draw f fd) (B : Bi mg) : FnOk P w K mg base CX0 1 f fd ["_law_well", "_law_many"] spDraw := by
  refine F.ok sc__law_draw (fun vs H Q E h => ?_) (fun cdv A outer s H vs Q E hr h => ?_)
  · obtain ⟨l, m, rfl, _⟩ := h
    rfl
  · obtain ⟨l, m, rfl, ⟨a, b, c, hl⟩, hm, hm2, k0⟩ := h
    have k : ∀ n a' c', 0 ≤ n → n < m → Q (.int n) (upd H l (.lst [.int a', .int b, .int c'])) := fun n a' c' h0 h1 => k0 n _ h0 h1 ⟨(eqL rfl).1, a', b, c', upd_same⟩
    refine ⟨_, (pss_cons (ps_if (pt_cmpR op_gt (pe_ix ix_list (pv 0) pe_int (fun _ _ => rfl)) pe_int (nomark _)) (pss_cons (ps_set (i := 2) sc__law_draw.nd rfl (Or.inl rfl) (pe_op op_mod (pe_callTy call_int1 (by rfl) B.b_int (by decide +kernel) (pa_cons (pe_ix ix_list (pv 0) pe_int (fun _ _ => rfl)) pa_nil)) (pv 1)))
      (pss_cons (ps_asg (pe_op op_fdiv (pe_ix ix_list (pv 0) pe_int (fun _ _ => rfl)) (pv 1)) (pg_sub (pv 0) pe_int set_list))
      (pss_one (ps_ret (pv 2))))) pss_nil)
      (pss_cons (ps_asg (pe_op op_add (pe_ix ix_list (pv 0) pe_int (fun _ _ => rfl)) pe_int) (pg_sub (pv 0) pe_int set_list))
      (pss_cons (ps_set (i := 3) sc__law_draw.nd rfl (Or.inl rfl) (pe_op op_mod (pe_callTy call_int1 (by rfl) B.b_int (by decide +kernel) (pa_cons (pe_op op_mul (pe_op op_add (pe_op op_add (pe_ix ix_list (pv 0) pe_int (fun _ _ => rfl)) (pe_op op_mul pe_int (pe_ix ix_list (pv 0) pe_int (fun _ _ => rfl)))) pe_int) pe_int) pa_nil)) pe_int))
      (pss_cons (ps_set (i := 3) sc__law_draw.nd rfl (Or.inl rfl) (pe_op op_mod (pe_callTy call_int1 (by rfl) B.b_int (by decide +kernel) (pa_cons (pe_op op_mul (pv 3) (pe_op op_add (pe_op op_fdiv (pv 3) pe_int) pe_int)) pa_nil)) pe_int))
      (pss_one (ps_ret (pe_op op_mod (pe_callTy call_int1 (by rfl) B.b_int (by decide +kernel) (pa_cons (pe_op op_mod (pe_callTy call_int1 (by rfl) B.b_int (by decide +kernel) (pa_cons (pe_op op_mul (pv 3) (pe_op op_add (pe_op op_fdiv (pv 3) pe_int) pe_int)) pa_nil)) pe_int) pa_nil)) (pv 1)))))))), ?_⟩
    have hL : SqL K H l [.int a, .int b, .int c] := SqL.of hl
    refine ⟨.ref l, rfl, l, _, 0, .int a, rfl, rfl, hL, rfl, a, 0, rfl, rfl, _, rfl, ite2 (fun e => ?_) (fun e => ?_)⟩
    · refine ⟨.ref l, rfl, l, _, 0, .int a, rfl, rfl, hL, rfl, .inl ⟨a, rfl, .int m, rfl, a, m, rfl, rfl, hm, ?_⟩⟩
      refine ⟨.ref l, rfl, l, _, 0, .int a, rfl, rfl, hL, rfl, .int m, rfl, a, m, rfl, rfl, ⟨hm, hm2⟩, .ref l, rfl, l, _, 0, 0, rfl, rfl, hl, rfl, ?_⟩
      exact ⟨.int (a % m), rfl, k _ _ _ (Int.emod_nonneg _ (by omega)) (Int.emod_lt_of_pos _ hm)⟩
    · walk_at "rd"
      exact k _ _ _ (Int.emod_nonneg _ (by omega)) (Int.emod_lt_of_pos _ hm)
theorem ok_within {f : Addr} {fd : FuncData} (F : Fun K "_law_within" "_law_within" s__law_within f fd) (B : Bi mg) : FnOk P w K mg base CX0 1 f fd ["_law_value", "_law_low", "_law_high"] spBetween := by
  refine F.ok sc__law_within (fun vs H Q E h => ?_) (fun cdv A outer s H vs Q E hr h => ?_)
  · obtain ⟨x, lo, hi, rfl, _⟩ := h
    rfl
  · obtain ⟨x, lo, hi, rfl, ⟨t, hx⟩, q⟩ := h
    refine ⟨_, (pss_one (ps_ret (pe_and (pe_callB call_isi (by rfl) B.b_isinstance (by decide +kernel) (pa_cons (pv 0) (pa_cons (pe_bltn (v := V.ty "int") rfl B.b_int (by decide +kernel) rfl) pa_nil))) (pe_and (pe_not (pe_callB call_isi (by rfl) B.b_isinstance (by decide +kernel) (pa_cons (pv 0) (pa_cons (pe_bltn (v := V.ty "bool") rfl B.b_bool (by decide +kernel) rfl) pa_nil)))) (pe_one (pe_chain op_le op_le (pv 1) (pv 0) (pv 2))))))), ?_⟩
    refine ⟨x, rfl, x, .ty "int", .type t, .type "int", _, rfl, .ty _, hx.ty, kit_ty (kb_int hx.mem), _, rfl, ?_⟩
    cases hx with
    | int i =>
      refine iteT ?_
      refine ⟨_, rfl, _, .ty "bool", .type "int", .type "bool", _, rfl, .ty _, (K7.int i).ty, kit_ty (kb_bool (K7.int (H := H) i).mem), _, rfl, _, rfl, iteT ?_⟩
      refine ⟨_, rfl, _, rfl, lo, i, rfl, rfl, _, rfl, ?_⟩
      by_cases c : lo ≤ i
      · have e : inB (.int i) lo hi = decide (i ≤ hi) := by
          show (decide (lo ≤ i) && decide (i ≤ hi)) = decide (i ≤ hi)
          rw [decide_eq_true c, Bool.true_and]
        rw [e] at q
        rw [decide_eq_true c]
        exact iteT ⟨_, rfl, i, hi, rfl, rfl, q⟩
      · have e : inB (.int i) lo hi = false := by
          show (decide (lo ≤ i) && decide (i ≤ hi)) = false
          rw [decide_eq_false c, Bool.false_and]
        rw [e] at q
        rw [decide_eq_false c]
        exact iteF q
    | bl b =>
      refine iteT ?_
      exact ⟨_, rfl, _, .ty "bool", .type "bool", .type "bool", _, rfl, .ty _, (K7.bl b).ty, kit_ty (kb_bool (K7.bl (H := H) b).mem), _, rfl, _, rfl, iteF q⟩
    | non => exact iteF q
    | str z => exact iteF q
    | lst e => exact iteF q
    | tup e => exact iteF q
    | dict e => exact iteF q
def InR (ps : List (Int × Int)) : Prop := ∀ q ∈ ps, (1 ≤ q.1 ∧ q.1 ≤ 200) ∧ 1 ≤ q.2 ∧ q.2 ≤ 20
/-- the drawn classes at s -/
structure Sorts (H : Hp) (s : Addr) (xs : List V) (ps : List (Int × Int)) : Prop where
  ls : H s = some (.lst xs)
  pr : PairsAt H xs ps
  rg : InR ps
def spSlab : Sp := fun vs H Q _ => ∃ l : Addr, vs = [.ref l] ∧ Well H l ∧ ∀ H' (t s : Addr) (xs : List V) (ps : List (Int × Int)) (L : Int), St1 l H H' → H t = none → H s = none → H' t = some (.tup [.ref s, .int L]) → Sorts H' s xs ps → 1 ≤ ps.length → ps.length ≤ 6 → 6 ≤ L → L ≤ 5100 → Q (.ref t) H'
theorem Paired.snoc {α β : Type} {F : α → β → Prop} {a : α} {b : β} (h : F a b) : ∀ {xs : List α} {ys : List β}, Paired F xs ys → Paired F (xs ++ [a]) (ys ++ [b])
  | _, _, .nil => .cons h .nil
  | _, _, .cons z r => .cons z (Paired.snoc h r)
theorem pick3 {a b c : V} {k : Int} (h0 : 0 ≤ k) (h1 : k < 3) : ∃ v, atI ([a, b, c] : List V) k = some v ∧ (v = a ∨ v = b ∨ v = c) := by
  have hk : k = 0 ∨ k = 1 ∨ k = 2 := by omega
  rcases hk with rfl | rfl | rfl
  · exact ⟨a, rfl, .inl rfl⟩
  · exact ⟨b, rfl, .inr (.inl rfl)⟩
  · exact ⟨c, rfl, .inr (.inr rfl)⟩
theorem ok_slab {f fD : Addr} {fd dD : FuncData} (F : Fun K "_law_slab" "_law_slab" s__law_slab f fd) (B : Bi mg) (b_range : mg "range" = none)
    (G__law_draw : FnOk P w K mg base CX0 1 fD dD ["_law_well", "_law_many"] spDraw) (m__law_draw : mg "_law_draw" = some (.ref fD)) (k__law_draw : PySem.W.keepIn K (.ref fD) = true) (b__law_draw : Binds K dD ["_law_well", "_law_many"] []) : FnOk P w K mg base CX0 2 f fd ["_law_well"] spSlab := by
  refine F.ok sc__law_slab (fun vs H Q E h => ?_) (fun cdv A outer s H vs Q E hr h => ?_)
  · obtain ⟨l, rfl, _⟩ := h
    rfl
  · obtain ⟨l, rfl, hw, q⟩ := h
    refine ⟨_, (pss_cons (ps_set (i := 1) sc__law_slab.nd rfl (Or.inl rfl) (pe_call G__law_draw (hr.mono (by decide)) rfl m__law_draw k__law_draw b__law_draw .nil pass0 (pa_cons (pv 0) (pa_cons pe_int pa_nil))))
      (pss_cons (ps_set (i := 2) sc__law_slab.nd rfl (Or.inl rfl) (pe_lst pa_nil))
      (pss_cons (ps_for PassesOwn.never rfl (pi_range1 (by rfl) b_range (pa_cons (pe_op op_add pe_int (pe_call G__law_draw (hr.mono (by decide)) rfl m__law_draw k__law_draw b__law_draw .nil pass0 (pa_cons (pv 0) (pa_cons (pe_ix ix_list (pe_lst (pa_cons pe_int (pa_cons pe_int (pa_cons pe_int pa_nil)))) (pv 1) (fun _ _ => rfl)) pa_nil)))) pa_nil)) (pg_name (i := 3) sc__law_slab.nd rfl (Or.inl rfl))
      (pss_one (ps_expr (pe_bm PySem.F.plainAttrs_list PySem.F.slot_list_append PySem.F.type_list_append mt_append (pv 2) (pa_cons (pe_tup (pa_cons (pe_op op_add pe_int (pe_call G__law_draw (hr.mono (by decide)) rfl m__law_draw k__law_draw b__law_draw .nil pass0 (pa_cons (pv 0) (pa_cons (pe_ix ix_list (pe_lst (pa_cons pe_int (pa_cons pe_int (pa_cons pe_int pa_nil)))) (pv 1) (fun _ _ => rfl)) pa_nil)))) (pa_cons (pe_op op_add pe_int (pe_call G__law_draw (hr.mono (by decide)) rfl m__law_draw k__law_draw b__law_draw .nil pass0 (pa_cons (pv 0) (pa_cons (pe_ix ix_list (pe_lst (pa_cons pe_int (pa_cons pe_int (pa_cons pe_int pa_nil)))) (pv 1) (fun _ _ => rfl)) pa_nil)))) pa_nil))) pa_nil)))))
      (pss_one (ps_ret (pe_tup (pa_cons (pv 2) (pa_cons (pe_ix ix_list (pe_lst (pa_cons (pe_op op_add pe_int (pe_call G__law_draw (hr.mono (by decide)) rfl m__law_draw k__law_draw b__law_draw .nil pass0 (pa_cons (pv 0) (pa_cons pe_int pa_nil)))) (pa_cons (pe_op op_add pe_int (pe_call G__law_draw (hr.mono (by decide)) rfl m__law_draw k__law_draw b__law_draw .nil pass0 (pa_cons (pv 0) (pa_cons pe_int pa_nil)))) (pa_cons (pe_op op_add pe_int (pe_call G__law_draw (hr.mono (by decide)) rfl m__law_draw k__law_draw b__law_draw .nil pass0 (pa_cons (pv 0) (pa_cons pe_int pa_nil)))) pa_nil)))) (pv 1) (fun _ _ => rfl)) pa_nil)))))))), ?_⟩
    refine ⟨.ref l, rfl, l, 3, rfl, hw, by decide, by decide, fun kd H1 kd0 kd1 S1 => ?_⟩
    refine ⟨(by show 0 ≤ sizeLine; decide), fun s ns => ?_⟩
    generalize h2 : upd H1 s _ = H2
    obtain ⟨t2, e2⟩ := eqU h2 ns
    have S2 := S1.same t2
    -- range(1 + draw(well, [3, 4, 6][kind]))
    refine ⟨.ref l, rfl, (by show 3 ≤ sizeLine; decide), fun p3 n3 => ?_⟩
    generalize h3 : upd H2 p3 _ = H3
    obtain ⟨t3, e3⟩ := eqU h3 n3
    have S3 := S2.same t3
    obtain ⟨v3, hv3, o3⟩ := pick3 (a := .int 3) (b := .int 4) (c := .int 6) kd0 kd1
    obtain ⟨m3, rfl, m30, m31⟩ : ∃ m : Int, v3 = .int m ∧ 3 ≤ m ∧ m ≤ 6 := by
      rcases o3 with rfl | rfl | rfl
      · exact ⟨3, rfl, by decide, by decide⟩
      · exact ⟨4, rfl, by decide, by decide⟩
      · exact ⟨6, rfl, by decide, by decide⟩
    refine ⟨.int kd, rfl, p3, _, kd, .int m3, rfl, rfl, SqL.of e3, hv3, l, m3, rfl, S3.well, by omega, by omega, fun n4 H4 n40 n41 S4' => ?_⟩
    have S4 := S3.trans S4'
    have nsl : s ≠ l := fun e => by
      obtain ⟨x, y, z, w⟩ := S1.well
      rw [e, w] at ns
      cases ns
    have e4 : H4 s = some (.lst []) := S4'.but _ _ (t3 _ _ e2) nsl
    refine ⟨1, n4, rfl, rfl, 1 + n4, rfl, by omega, by omega, for_range (lo := 0) (n := (1 + n4).toNat) (fun i σ H5 => ∃ y3 xs ps, σ = [some (.ref l), some (.int kd), some (.ref s), y3] ∧ St1 l H H5 ∧ Sorts H5 s xs ps ∧ ps.length = i)
      ⟨none, [], [], rfl, S4, ⟨e4, .nil, fun q hq => absurd hq List.not_mem_nil⟩, rfl⟩ ?_ ?_⟩
    · rintro i σ H5 hi ⟨y3, xs, ps, rfl, S5, so, hl⟩
      refine ⟨.ref s, rfl, .inl ⟨rfl, _, SqL.of so.ls⟩, ?_⟩
      refine ⟨.ref l, rfl, (by show 3 ≤ sizeLine; decide), fun p6 n6 => ?_⟩
      generalize h6 : upd H5 p6 _ = H6
      obtain ⟨t6, e6⟩ := eqU h6 n6
      have S6 := S5.same t6
      obtain ⟨v6, hv6, o6⟩ := pick3 (a := .int 4) (b := .int 9) (c := .int 200) kd0 kd1
      obtain ⟨m6, rfl, m60, m61⟩ : ∃ m : Int, v6 = .int m ∧ 1 ≤ m ∧ m ≤ 200 := by
        rcases o6 with rfl | rfl | rfl
        · exact ⟨4, rfl, by decide, by decide⟩
        · exact ⟨9, rfl, by decide, by decide⟩
        · exact ⟨200, rfl, by decide, by decide⟩
      refine ⟨.int kd, rfl, p6, _, kd, .int m6, rfl, rfl, SqL.of e6, hv6, l, m6, rfl, S6.well, by omega, by omega, fun n7 H7 n70 n71 S7' => ?_⟩
      have S7 := S6.trans S7'
      refine ⟨1, n7, rfl, rfl, .ref l, rfl, (by show 3 ≤ sizeLine; decide), fun p8 n8 => ?_⟩
      generalize h8 : upd H7 p8 _ = H8
      obtain ⟨t8, e8⟩ := eqU h8 n8
      have S8 := S7.same t8
      obtain ⟨v8, hv8, o8⟩ := pick3 (a := .int 4) (b := .int 8) (c := .int 20) kd0 kd1
      obtain ⟨m8, rfl, m80, m81⟩ : ∃ m : Int, v8 = .int m ∧ 1 ≤ m ∧ m ≤ 20 := by
        rcases o8 with rfl | rfl | rfl
        · exact ⟨4, rfl, by decide, by decide⟩
        · exact ⟨8, rfl, by decide, by decide⟩
        · exact ⟨20, rfl, by decide, by decide⟩
      refine ⟨.int kd, rfl, p8, _, kd, .int m8, rfl, rfl, SqL.of e8, hv8, l, m8, rfl, S8.well, by omega, by omega, fun n9 H9 n90 n91 S9' => ?_⟩
      have S9 := S8.trans S9'
      refine ⟨1, n9, rfl, rfl, (by show 2 ≤ sizeLine; decide), fun t10 n10 => ?_⟩
      generalize h10 : upd H9 t10 _ = H10
      obtain ⟨t10', e10⟩ := eqU h10 n10
      have S10 := S9.same t10'
      have W5 := S5.well
      have S59 : St1 l H5 H9 := (((St1.refl W5).same t6).trans S7').same t8 |>.trans S9'
      have so9 : H9 s = some (.lst xs) := S59.but _ _ so.ls nsl
      have so10 : H10 s = some (.lst xs) := t10' _ _ so9
      have pr10 : PairsAt H10 xs ps := PairsAt.keep t10' (PairsAt.keepB W5 S59.but so.pr)
      have hxl : xs.length = ps.length := Paired.length so.pr
      refine ⟨s, xs, _, rfl, rfl, so10, small1000 (by omega), ?_⟩
      refine ⟨some (.int (0 + i)), xs ++ [.ref t10], ps ++ [(1 + n7, 1 + n9)], rfl, ⟨fun b o z n => ?_, ?_⟩, ⟨upd_same, ?_, ?_⟩, by rw [List.length_append, hl]; rfl⟩
      · have ns0 : H s = none := S1.free hw ns
        rw [upd_ne (ne_of_none z ns0)]
        exact S10.but b o z n
      · obtain ⟨x, y, z, w⟩ := S10.well
        exact ⟨x, y, z, by rw [upd_ne (Ne.symm nsl)]; exact w⟩
      · have hz : PairAt (upd H10 s (.lst (xs ++ [.ref t10]))) (.ref t10) (1 + n7, 1 + n9) := ⟨t10, rfl, by
          rw [upd_ne (ne_of_none so9 n10).symm]
          exact e10⟩
        exact Paired.snoc hz (pairs_upd so10 pr10)
      · intro q hq
        rcases List.mem_append.mp hq with h | h
        · exact so.rg q h
        · rw [List.mem_singleton.mp h]
          exact ⟨⟨by show 1 ≤ 1 + n7; omega, by show 1 + n7 ≤ 200; omega⟩, by show 1 ≤ 1 + n9; omega, by show 1 + n9 ≤ 20; omega⟩
    · rintro σ H5 ⟨y3, xs, ps, rfl, S5, so, hl⟩
      refine ⟨.ref s, rfl, .ref l, rfl, l, 20, rfl, S5.well, by decide, by decide, fun n11 H11 n110 n111 S11' => ⟨6, n11, rfl, rfl, ?_⟩⟩
      refine ⟨.ref l, rfl, l, 100, rfl, S11'.well, by decide, by decide, fun n12 H12 n120 n121 S12' => ⟨20, n12, rfl, rfl, ?_⟩⟩
      refine ⟨.ref l, rfl, l, 5000, rfl, S12'.well, by decide, by decide, fun n13 H13 n130 n131 S13' => ⟨100, n13, rfl, rfl, ?_⟩⟩
      refine ⟨(by show 3 ≤ sizeLine; decide), fun p14 n14 => ?_⟩
      generalize h14 : upd H13 p14 _ = H14
      obtain ⟨t14, e14⟩ := eqU h14 n14
      have S513 : St1 l H5 H13 := (S11'.trans S12').trans S13'
      have S514 := S513.same t14
      obtain ⟨v14, hv14, o14⟩ := pick3 (a := .int (6 + n11)) (b := .int (20 + n12)) (c := .int (100 + n13)) kd0 kd1
      obtain ⟨L, rfl, L0, L1⟩ : ∃ m : Int, v14 = .int m ∧ 6 ≤ m ∧ m ≤ 5100 := by
        rcases o14 with rfl | rfl | rfl
        · exact ⟨_, rfl, by omega, by omega⟩
        · exact ⟨_, rfl, by omega, by omega⟩
        · exact ⟨_, rfl, by omega, by omega⟩
      refine ⟨.int kd, rfl, p14, _, kd, .int L, rfl, rfl, SqL.of e14, hv14, (by show 2 ≤ sizeLine; decide), fun t15 n15 => ?_⟩
      generalize h15 : upd H14 t15 _ = H15
      obtain ⟨t15', e15⟩ := eqU h15 n15
      have S515 := S514.same t15'
      have so15 : Sorts H15 s xs ps := ⟨S515.but _ _ so.ls nsl, PairsAt.keepB S5.well S515.but so.pr, so.rg⟩
      exact q H15 t15 s xs ps L (S5.trans S515) ((S5.trans S514).free hw n15) (S1.free hw ns) e15 so15 (by omega) (by omega) L0 L1
end
end K01
set_option Elab.async false
set_option linter.all false
set_option maxRecDepth 100000
set_option maxHeartbeats 4000000
namespace K01
open PySem PySem.Spec PyProof.Rows L2 XV SL
section
variable {P : Program} {w : World} {K : PySem.W.Frag} {mg : Str → Option Value} {base : Heap}
def badV (H : Hp) (cls lim : V) : V := match badI H cls lim with
  | some i => .int i
  | none => .non
def spBad : Sp := fun vs H Q _ => ∃ cls lim : V, vs = [cls, lim] ∧ Ty H cls ∧ Ty H lim ∧ (∀ (a : Addr) (xs : List V), cls = .ref a → H a = some (.lst xs) → xs.length ≤ 1000 ∧ ∀ x ∈ xs, TyI H x) ∧ ∀ H', Same H H' → Q (badV H cls lim) H'
theorem ok_bad {f fW : Addr} {fd dW : FuncData} (F : Fun K "_law_bad" "_law_bad" s__law_bad f fd) (B : Bi mg)
    (G__law_within : FnOk P w K mg base CX0 1 fW dW ["_law_value", "_law_low", "_law_high"] spBetween) (m__law_within : mg "_law_within" = some (.ref fW)) (k__law_within : PySem.W.keepIn K (.ref fW) = true) (b__law_within : Binds K dW ["_law_value", "_law_low", "_law_high"] []) : FnOk P w K mg base CX0 2 f fd ["_law_sorts", "_law_most"] spBad := by
  refine F.ok sc__law_bad (fun vs H Q E h => ?_) (fun cdv A outer s H vs Q E hr h => ?_)
  · obtain ⟨cls, lim, rfl, _⟩ := h
    rfl
  · obtain ⟨cls, lim, rfl, ⟨t, hk⟩, hl, hI, q0⟩ := h
    have q : ∀ i, badI H cls lim = some i → ∀ H', Same H H' → Q (.int i) H' := fun i e H' s => by
      have z := q0 H' s
      unfold badV at z
      rw [e] at z
      exact z
    refine ⟨_, (pss_cons (ps_if (PW.pt (pw_or (pt_not (pt_val (pe_callB call_isi (by rfl) B.b_isinstance (by decide +kernel) (pa_cons (pv 0) (pa_cons (pe_bltn (v := V.ty "list") rfl B.b_list (by decide +kernel) rfl) pa_nil))))) (pw_or (pt_not (pt_chain op_le op_le pe_int (pe_callB call_len_seq (by rfl) B.b_len (by decide +kernel) (pa_cons (pv 0) pa_nil)) pe_int)) (pw_or1 (pt_not (pt_val (pe_call G__law_within (hr.mono (by decide)) rfl m__law_within k__law_within b__law_within .nil pass0 (pa_cons (pv 1) (pa_cons pe_int (pa_cons (pe_op op_pow pe_int pe_int) pa_nil)))))))))) (pss_one (ps_ret (pe_un un_neg pe_int))) pss_nil)
      (pss_cons (ps_for PassesOwn.never rfl (pi_enum (by rfl) B.b_enumerate (pa_cons (pv 0) pa_nil)) (pg_tup rfl (pgs_cons (pg_name (i := 2) sc__law_bad.nd rfl (Or.inl rfl)) (pgs_cons (pg_name (i := 3) sc__law_bad.nd rfl (Or.inl rfl)) pgs_nil)))
      (pss_cons (ps_if (PW.pt (pw_or (pt_not (pt_val (pe_callB call_isi (by rfl) B.b_isinstance (by decide +kernel) (pa_cons (pv 3) (pa_cons (pe_bltn (v := V.ty "tuple") rfl B.b_tuple (by decide +kernel) rfl) pa_nil))))) (pw_or1 (pt_cmpR op_ne (pe_callB call_len_seq (by rfl) B.b_len (by decide +kernel) (pa_cons (pv 3) pa_nil)) pe_int (nomark _))))) (pss_one (ps_ret (pv 2))) pss_nil)
      (pss_one (ps_if (PW.pt (pw_or (pt_not (pt_val (pe_call G__law_within (hr.mono (by decide)) rfl m__law_within k__law_within b__law_within .nil pass0 (pa_cons (pe_ix ix_tup (pv 3) pe_int (fun _ _ => rfl)) (pa_cons pe_int (pa_cons pe_int pa_nil)))))) (pw_or1 (pt_not (pt_val (pe_call G__law_within (hr.mono (by decide)) rfl m__law_within k__law_within b__law_within .nil pass0 (pa_cons (pe_ix ix_tup (pv 3) pe_int (fun _ _ => rfl)) (pa_cons pe_int (pa_cons pe_int pa_nil))))))))) (pss_one (ps_ret (pv 2))) pss_nil))))
      (pss_one (ps_ret pe_non)))), ?_⟩
    refine ⟨cls, rfl, cls, .ty "list", .type t, .type "list", _, rfl, .ty _, hk.ty, kit_ty (kb_list hk.mem), _, rfl, ?_⟩
    cases hk with
    | int i => exact iteT (iteT ⟨1, rfl, q (-1) rfl _ (Same.refl _)⟩)
    | bl b => exact iteT (iteT ⟨1, rfl, q (-1) rfl _ (Same.refl _)⟩)
    | non => exact iteT (iteT ⟨1, rfl, q (-1) rfl _ (Same.refl _)⟩)
    | str z => exact iteT (iteT ⟨1, rfl, q (-1) rfl _ (Same.refl _)⟩)
    | @tup a xs e =>
      refine iteT (iteT ⟨1, rfl, q (-1) ?_ _ (Same.refl _)⟩)
      show (match H a with | some (.lst xs) => _ | _ => some (-1)) = some (-1)
      rw [e]
    | @dict a kvs e =>
      refine iteT (iteT ⟨1, rfl, q (-1) ?_ _ (Same.refl _)⟩)
      show (match H a with | some (.lst xs) => _ | _ => some (-1)) = some (-1)
      rw [e]
    | @lst a xs e =>
      refine iteF ?_
      have hb : badI H (.ref a) lim = if (decide (1 ≤ xs.length) && decide (xs.length ≤ 6)) = true then (if inB lim 0 1000000 = true then badL H xs else some (-1)) else some (-1) := by
        show (match H a with | some (.lst xs) => _ | _ => some (-1)) = _
        rw [e]
      rw [← inB_len] at hb
      have hb2 : inB (.int xs.length) 1 6 = (decide ((1 : Int) ≤ xs.length) && decide ((xs.length : Int) ≤ 6)) := rfl
      refine ⟨_, rfl, a, xs, rfl, .inl (SqL.of e), _, _, rfl, rfl, _, rfl, ?_⟩
      by_cases c0 : (1 : Int) ≤ xs.length
      rotate_left
      · rw [decide_eq_false c0]
        rw [hb2, decide_eq_false c0, Bool.false_and, if_neg Bool.false_ne_true] at hb
        exact iteF ⟨_, rfl, iteT (iteT ⟨1, rfl, q (-1) hb _ (Same.refl _)⟩)⟩
      rw [decide_eq_true c0]
      refine iteT ⟨_, _, rfl, rfl, _, rfl, ?_⟩
      by_cases c1 : (xs.length : Int) ≤ 6
      rotate_left
      · rw [decide_eq_false c1]
        rw [hb2, decide_eq_false c1, Bool.and_false, if_neg Bool.false_ne_true] at hb
        exact iteT (iteT ⟨1, rfl, q (-1) hb _ (Same.refl _)⟩)
      rw [decide_eq_true c1]
      rw [hb2, decide_eq_true c0, decide_eq_true c1, Bool.true_and, if_pos rfl] at hb
      refine iteF ?_
      refine ⟨lim, rfl, 10, 6, rfl, rfl, ⟨by decide, by decide, by decide⟩, lim, 0, 1000000, rfl, hl, _, rfl, ?_⟩
      cases c2 : inB lim 0 1000000 with
      | false =>
        rw [c2, if_neg Bool.false_ne_true] at hb
        exact iteT ⟨1, rfl, q (-1) hb _ (Same.refl _)⟩
      | true =>
        rw [c2, if_pos rfl] at hb
        refine iteF ?_
        obtain ⟨hlen, hIt⟩ := hI a xs rfl e
        refine ⟨.ref a, rfl, a, xs, rfl, SqL.of e, for_it (walk_enum (K := K) (a := a) (xs := xs)) (fun i σ H4 => ∃ y3 y4, σ = [some (.ref a), some lim, y3, y4] ∧ Same H H4 ∧ ∀ (j : Nat) x, j < i → xs[j]? = some x → scB H x = true) ⟨_, _, rfl, Same.refl _, fun j x hj => absurd hj (Nat.not_lt_zero _)⟩
          (fun i σ H4 _ ⟨_, _, _, z, _⟩ => SqL.of (z _ _ e)) ?_ ?_⟩
        · rintro j x σ H4 H5 hj ⟨y3, y4, rfl, S4, hs⟩ ⟨T', x1, x2, rfl, nT, rfl, g1, g2⟩
          cases g1
          have g2' : xs[j]? = some x2 := g2
          generalize h6 : upd H4 T' _ = H6
          obtain ⟨t6, e6⟩ := eqU h6 nT
          have S6 := S4.trans t6
          have hx2 := hIt x2 (List.mem_of_getElem? g2')
          obtain ⟨⟨t2, hk2⟩, hit⟩ := hx2.keep S6
          have ret : ∀ (c3 : scB H x2 = false) {R : Prop}, (Q (.int j) H6 → R) → R := fun c3 R h => h (q j (hb.trans (badL_some g2' c3 fun i x hi hx => hs i x hi hx)) _ S6)
          have eqs : scB H6 x2 = scB H x2 := scB_keep hx2.1 S6
          refine ⟨T', _, rfl, SqT.of e6, rfl, _, _, rfl, _, _, rfl, rfl, ?_⟩
          refine ⟨x2, rfl, x2, .ty "tuple", .type t2, .type "tuple", _, rfl, .ty _, hk2.ty, kit_ty (kb_tuple hk2.mem), _, rfl, ?_⟩
          cases hk2 with
          | int i => exact iteT (iteT ⟨_, rfl, ret rfl fun z => z⟩)
          | bl b => exact iteT (iteT ⟨_, rfl, ret rfl fun z => z⟩)
          | non => exact iteT (iteT ⟨_, rfl, ret rfl fun z => z⟩)
          | str z => exact iteT (iteT ⟨_, rfl, ret rfl fun z => z⟩)
          | @lst a2 xs2 e2 =>
            refine iteT (iteT ⟨_, rfl, ret ?_ fun z => z⟩)
            rw [← eqs]
            show (match H6 a2 with | some (.tup [y, z]) => inB y 1 1000 && inB z 1 60 | _ => false) = false
            rw [e2]
          | @dict a2 xs2 e2 =>
            refine iteT (iteT ⟨_, rfl, ret ?_ fun z => z⟩)
            rw [← eqs]
            show (match H6 a2 with | some (.tup [y, z]) => inB y 1 1000 && inB z 1 60 | _ => false) = false
            rw [e2]
          | @tup a2 xs2 e2 =>
            refine iteF ?_
            have ys := hit a2 xs2 rfl e2
            have es : scB H6 (.ref a2) = (match (some (.tup xs2) : Option HO) with | some (.tup [y, z]) => inB y 1 1000 && inB z 1 60 | _ => false) := by
              show (match H6 a2 with | some (.tup [y, z]) => inB y 1 1000 && inB z 1 60 | _ => false) = _
              rw [e2]
            refine ⟨_, rfl, a2, xs2, rfl, .inr (SqT.of e2), rfl, _, rfl, ?_⟩
            by_cases c : xs2.length = 2
            · match xs2, c with
              | [y, z], _ =>
                have es' : scB H (.ref a2) = (inB y 1 1000 && inB z 1 60) := eqs.symm.trans es
                refine iteF ?_
                refine ⟨_, rfl, a2, _, 0, y, rfl, rfl, SqT.of e2, rfl, y, 1, 1000, rfl, ys y (by simp), _, rfl, ?_⟩
                cases c1 : inB y 1 1000 with
                | false => exact iteT (iteT ⟨_, rfl, ret (by rw [es', c1, Bool.false_and]) fun z => z⟩)
                | true =>
                  refine iteF ?_
                  refine ⟨_, rfl, a2, _, 1, z, rfl, rfl, SqT.of e2, rfl, z, 1, 60, rfl, ys z (by simp), _, rfl, ?_⟩
                  cases c2 : inB z 1 60 with
                  | false => exact iteT ⟨_, rfl, ret (by rw [es', c1, c2, Bool.and_false]) fun z => z⟩
                  | true =>
                    refine iteF ⟨_, _, rfl, S6, fun i x hi hx => ?_⟩
                    by_cases ei : i = j
                    · subst ei
                      rw [g2'] at hx
                      cases hx
                      rw [es', c1, c2]
                      rfl
                    · exact hs i x (by omega) hx
            · have n2 : decide (V.int (xs2.length : Int) = V.int 2) = false := decide_eq_false fun z => c (by have := V.int.inj z; omega)
              rw [n2]
              refine iteT ⟨_, rfl, ret ?_ fun z => z⟩
              rw [← eqs, es]
              match xs2, c with
              | [], _ => rfl
              | [_], _ => rfl
              | [_, _], c => exact absurd rfl c
              | _ :: _ :: _ :: _, _ => rfl
        · rintro σ H4 ⟨y3, y4, rfl, S4, hs⟩
          have hnone : badL H xs = none := badL_none fun i x hx => hs i x (List.getElem?_eq_some_iff.mp hx).1 hx
          have z := q0 H4 S4
          unfold badV at z
          rw [hb, hnone] at z
          exact z
end
end K01
set_option Elab.async false
set_option linter.all false
set_option maxRecDepth 100000
set_option maxHeartbeats 4000000
namespace K01
open PySem PySem.Spec PyProof.Rows L2 XV SL
def flat : V → Bool
  | .int _ => true
  | .bl _ => true
  | .non => true
  | .str _ => true
  | _ => false
theorem flat_ty {H : Hp} {x : V} (h : flat x = true) : Ty H x := by
  cases x with
  | int i => exact ⟨_, .int i⟩
  | bl b => exact ⟨_, .bl b⟩
  | non => exact ⟨_, .non⟩
  | str z => exact ⟨_, .str z⟩
  | _ => cases h
/-- an item as the bent lists hold it: nothing of it is the well -/
def TyF (l : Addr) (H : Hp) (x : V) : Prop := Ty H x ∧ x ≠ .ref l ∧ ∀ (a : Addr) (xs : List V), x = .ref a → H a = some (.tup xs) → ∀ y ∈ xs, flat y = true
theorem TyF.ty {l : Addr} {H : Hp} {x : V} (h : TyF l H x) : TyI H x := ⟨h.1, fun a xs e z y hy => flat_ty (h.2.2 a xs e z y hy)⟩
theorem TyF.keepB {l : Addr} {H H' : Hp} {x : V} (h : TyF l H x) (k : But l H H') : TyF l H' x := by
  obtain ⟨⟨t, hk⟩, hn, hf⟩ := h
  have up : ∀ {a : Addr} {o : HO}, x = .ref a → H a = some o → H' a = some o := fun {a o} e z => k a o z fun q => hn (by rw [e, q])
  refine ⟨?_, hn, fun a xs e z => ?_⟩
  · cases hk with
    | int i => exact ⟨_, .int i⟩
    | bl b => exact ⟨_, .bl b⟩
    | non => exact ⟨_, .non⟩
    | str z => exact ⟨_, .str z⟩
    | lst e => exact ⟨_, .lst (up rfl e)⟩
    | tup e => exact ⟨_, .tup (up rfl e)⟩
    | dict e => exact ⟨_, .dict (up rfl e)⟩
  · obtain ⟨o, eo⟩ : ∃ o, H a = some o := by
      subst e
      exact Ty.here ⟨t, hk⟩
    have z2 := up e eo
    rw [z] at z2
    have z3 := Option.some.inj z2
    subst z3
    exact hf a xs e eo
theorem but_same {l : Addr} {H H' : Hp} (s : Same H H') : But l H H' := fun b o z _ => s b o z
theorem TyF.tup {l t : Addr} {H : Hp} {xs : List V} (e : H t = some (.tup xs)) (n : t ≠ l) (f : ∀ y ∈ xs, flat y = true) : TyF l H (.ref t) :=
  ⟨⟨_, .tup e⟩, fun z => n (V.ref.inj z), fun a ys ea ez => by
    cases ea
    rw [e] at ez
    cases ez
    exact f⟩
theorem TyF.lst {l t : Addr} {H : Hp} {xs : List V} (e : H t = some (.lst xs)) (n : t ≠ l) : TyF l H (.ref t) :=
  ⟨⟨_, .lst e⟩, fun z => n (V.ref.inj z), fun a ys ea ez => by
    cases ea
    rw [e] at ez
    cases ez⟩
theorem TyF.none {l : Addr} {H : Hp} : TyF l H .non := ⟨⟨_, .non⟩, fun z => (nomatch z), fun a ys ea => (nomatch ea)⟩
theorem pickAll {xs : List V} {k : Int} {R : V → Prop} (h : ∀ x ∈ xs, R x) (h0 : 0 ≤ k) (h1 : k < xs.length) : ∃ v, atI xs k = some v ∧ R v := by
  have hk : k.toNat < xs.length := by omega
  have e : k = ((k.toNat : Nat) : Int) := by omega
  have z : atI xs ((k.toNat : Nat) : Int) = some xs[k.toNat] := atI_nat (List.getElem?_eq_getElem hk)
  rw [← e] at z
  exact ⟨_, z, h _ (List.getElem_mem hk)⟩
theorem cut_mem {xs : List V} {lo hi : Option Int} {x : V} (h : x ∈ cutV xs lo hi) : x ∈ xs := List.mem_of_mem_drop (List.mem_of_mem_take h)
section
variable {P : Program} {w : World} {K : PySem.W.Frag} {mg : Str → Option Value} {base : Heap}
/-- a list of such items at s -/
structure Bent (l : Addr) (H : Hp) (s : Addr) (xs : List V) (n : Nat) : Prop where
  ls : H s = some (.lst xs)
  ne : s ≠ l
  it : ∀ x ∈ xs, TyF l H x
  len : xs.length ≤ n
theorem Bent.keepB {l : Addr} {H H' : Hp} {s : Addr} {xs : List V} {n : Nat} (h : Bent l H s xs n) (k : But l H H') : Bent l H' s xs n := ⟨k _ _ h.ls h.ne, h.ne, fun x hx => (h.it x hx).keepB k, h.len⟩
def bnd : Nat → Nat
  | 0 => 6
  | 1 => 13
  | _ => 27
def spBent : Sp := fun vs H Q _ => ∃ (l s : Addr) (xs : List V), vs = [.ref l, .ref s] ∧ Well H l ∧ Bent l H s xs 6 ∧ ∀ H' s' xs', St1 l H H' → Bent l H' s' xs' 27 → Q (.ref s') H'
theorem ok_bent {f fD : Addr} {fd dD : FuncData} (F : Fun K "_law_bent" "_law_bent" s__law_bent f fd) (B : Bi mg) (b_range : mg "range" = none)
    (G__law_draw : FnOk P w K mg base CX0 1 fD dD ["_law_well", "_law_many"] spDraw) (m__law_draw : mg "_law_draw" = some (.ref fD)) (k__law_draw : PySem.W.keepIn K (.ref fD) = true) (b__law_draw : Binds K dD ["_law_well", "_law_many"] []) : FnOk P w K mg base CX0 2 f fd ["_law_well", "_law_sorts"] spBent := by
  refine F.ok sc__law_bent (fun vs H Q E h => ?_) (fun cdv A outer s H vs Q E hr h => ?_)
  · obtain ⟨l, s, xs, rfl, _⟩ := h
    rfl
  · obtain ⟨l, s0, xs0, rfl, hw, hb, q⟩ := h
    refine ⟨_, (pss_cons (ps_for PassesOwn.never rfl (pi_range1 (by rfl) b_range (pa_cons (pe_op op_add pe_int (pe_call G__law_draw (hr.mono (by decide)) rfl m__law_draw k__law_draw b__law_draw .nil pass0 (pa_cons (pv 0) (pa_cons pe_int pa_nil)))) pa_nil)) (pg_name (i := 2) sc__law_bent.nd rfl (Or.inl rfl))
      (pss_cons (ps_set (i := 3) sc__law_bent.nd rfl (Or.inl rfl) (pe_call G__law_draw (hr.mono (by decide)) rfl m__law_draw k__law_draw b__law_draw .nil pass0 (pa_cons (pv 0) (pa_cons (pe_op op_add (pe_callB call_len_seq (by rfl) B.b_len (by decide +kernel) (pa_cons (pv 1) pa_nil)) pe_int) pa_nil))))
      (pss_cons (ps_set (i := 4) sc__law_bent.nd rfl (Or.inl rfl) (pe_lst (pa_cons (pe_tup (pa_cons pe_int (pa_cons pe_int pa_nil))) (pa_cons (pe_tup (pa_cons pe_int (pa_cons pe_int pa_nil))) (pa_cons (pe_tup (pa_cons pe_int (pa_cons pe_int pa_nil))) (pa_cons (pe_tup (pa_cons pe_int (pa_cons pe_int pa_nil))) (pa_cons (pe_tup (pa_cons pe_bl (pa_cons pe_int pa_nil))) (pa_cons (pe_tup (pa_cons pe_int (pa_cons pe_bl pa_nil))) (pa_cons (pe_lst (pa_cons pe_int (pa_cons pe_int pa_nil))) (pa_cons (pe_tup (pa_cons pe_int pa_nil)) (pa_cons (pe_tup (pa_cons pe_int (pa_cons pe_int (pa_cons pe_int pa_nil)))) pa_nil)))))))))))
      (pss_cons (ps_set (i := 4) sc__law_bent.nd rfl (Or.inl rfl) (pe_op op_catS (pv 4) (pe_lst (pa_cons pe_non (pa_cons (pe_tup (pa_cons pe_str (pa_cons pe_int pa_nil))) (pa_cons (pe_tup (pa_cons pe_int (pa_cons pe_int pa_nil))) pa_nil))))))
      (pss_cons (ps_set (i := 5) sc__law_bent.nd rfl (Or.inl rfl) (pe_call G__law_draw (hr.mono (by decide)) rfl m__law_draw k__law_draw b__law_draw .nil pass0 (pa_cons (pv 0) (pa_cons pe_int pa_nil))))
      (pss_one (ps_if (pt_cmpR op_eq (pv 5) pe_int (nomark _)) (pss_one (ps_set (i := 1) sc__law_bent.nd rfl (Or.inl rfl) (pe_op op_catS (pe_slice sl_list (pv 1) po_none (po_some (pv 3))) (pe_slice sl_list (pv 1) (po_some (pe_op op_add (pv 3) pe_int)) po_none)))) (pss_one (ps_set (i := 1) sc__law_bent.nd rfl (Or.inl rfl) (pe_op op_catS (pe_op op_catS (pe_slice sl_list (pv 1) po_none (po_some (pv 3))) (pe_lst (pa_cons (pe_ix ix_list (pv 4) (pe_call G__law_draw (hr.mono (by decide)) rfl m__law_draw k__law_draw b__law_draw .nil pass0 (pa_cons (pv 0) (pa_cons pe_int pa_nil))) (fun _ _ => rfl)) pa_nil))) (pe_slice sl_list (pv 1) (po_some (pe_op op_add (pv 3) (pe_callTy call_int1 (by rfl) B.b_int (by decide +kernel) (pa_cons (pe_cmpR op_eq (pv 5) pe_int (nomark _)) pa_nil)))) po_none)))))))))))
      (pss_one (ps_ret (pv 1)))), ?_⟩
    refine ⟨.ref l, rfl, l, 2, rfl, hw, by decide, by decide, fun nt H1 nt0 nt1 S1 => ?_⟩
    refine ⟨1, nt, rfl, rfl, 1 + nt, rfl, by omega, by omega, for_range (lo := 0) (n := (1 + nt).toNat) (fun i σ H5 => ∃ (s : Addr) (xs : List V) (y2 y3 y4 y5 : Option V), σ = [some (.ref l), some (.ref s), y2, y3, y4, y5] ∧ St1 l H H5 ∧ Bent l H5 s xs (bnd i))
      ⟨s0, xs0, none, none, none, none, rfl, S1, hb.keepB S1.but⟩ ?_ ?_⟩
    · rintro i σ H2 hi ⟨s, xs, y2, y3, y4, y5, rfl, S2, hbt⟩
      have hlx : xs.length ≤ 27 := Nat.le_trans hbt.len (by unfold bnd; split <;> decide)
      -- at
      refine ⟨.ref l, rfl, _, rfl, s, xs, rfl, .inl (SqL.of hbt.ls), _, _, rfl, rfl, l, _, rfl, S2.well, by omega, by omega, fun at_ H3 at0 at1 S3' => ?_⟩
      have S3 := S2.trans S3'
      have R3 := S3'
      refine ⟨(by show 2 ≤ sizeLine; decide), fun u0 nu0 => ?_⟩
      generalize h4 : upd H3 u0 _ = H4
      obtain ⟨t4, eu0⟩ := eqU h4 nu0
      have S4 := S3.same t4
      have R4 := R3.same t4
      have neu0 : u0 ≠ l := fun e => by
        obtain ⟨x, y, z, q⟩ := S3.well
        rw [e, q] at nu0
        cases nu0
      refine ⟨(by show 2 ≤ sizeLine; decide), fun u1 nu1 => ?_⟩
      generalize h5 : upd H4 u1 _ = H5
      obtain ⟨t5, eu1⟩ := eqU h5 nu1
      have S5 := S4.same t5
      have R5 := R4.same t5
      have neu1 : u1 ≠ l := fun e => by
        obtain ⟨x, y, z, q⟩ := S4.well
        rw [e, q] at nu1
        cases nu1
      replace eu0 := t5 _ _ eu0
      refine ⟨(by show 2 ≤ sizeLine; decide), fun u2 nu2 => ?_⟩
      generalize h6 : upd H5 u2 _ = H6
      obtain ⟨t6, eu2⟩ := eqU h6 nu2
      have S6 := S5.same t6
      have R6 := R5.same t6
      have neu2 : u2 ≠ l := fun e => by
        obtain ⟨x, y, z, q⟩ := S5.well
        rw [e, q] at nu2
        cases nu2
      replace eu0 := t6 _ _ eu0
      replace eu1 := t6 _ _ eu1
      refine ⟨(by show 2 ≤ sizeLine; decide), fun u3 nu3 => ?_⟩
      generalize h7 : upd H6 u3 _ = H7
      obtain ⟨t7, eu3⟩ := eqU h7 nu3
      have S7 := S6.same t7
      have R7 := R6.same t7
      have neu3 : u3 ≠ l := fun e => by
        obtain ⟨x, y, z, q⟩ := S6.well
        rw [e, q] at nu3
        cases nu3
      replace eu0 := t7 _ _ eu0
      replace eu1 := t7 _ _ eu1
      replace eu2 := t7 _ _ eu2
      refine ⟨(by show 2 ≤ sizeLine; decide), fun u4 nu4 => ?_⟩
      generalize h8 : upd H7 u4 _ = H8
      obtain ⟨t8, eu4⟩ := eqU h8 nu4
      have S8 := S7.same t8
      have R8 := R7.same t8
      have neu4 : u4 ≠ l := fun e => by
        obtain ⟨x, y, z, q⟩ := S7.well
        rw [e, q] at nu4
        cases nu4
      replace eu0 := t8 _ _ eu0
      replace eu1 := t8 _ _ eu1
      replace eu2 := t8 _ _ eu2
      replace eu3 := t8 _ _ eu3
      refine ⟨(by show 2 ≤ sizeLine; decide), fun u5 nu5 => ?_⟩
      generalize h9 : upd H8 u5 _ = H9
      obtain ⟨t9, eu5⟩ := eqU h9 nu5
      have S9 := S8.same t9
      have R9 := R8.same t9
      have neu5 : u5 ≠ l := fun e => by
        obtain ⟨x, y, z, q⟩ := S8.well
        rw [e, q] at nu5
        cases nu5
      replace eu0 := t9 _ _ eu0
      replace eu1 := t9 _ _ eu1
      replace eu2 := t9 _ _ eu2
      replace eu3 := t9 _ _ eu3
      replace eu4 := t9 _ _ eu4
      refine ⟨(by show 2 ≤ sizeLine; decide), fun u6 nu6 => ?_⟩
      generalize h10 : upd H9 u6 _ = H10
      obtain ⟨t10, eu6⟩ := eqU h10 nu6
      have S10 := S9.same t10
      have R10 := R9.same t10
      have neu6 : u6 ≠ l := fun e => by
        obtain ⟨x, y, z, q⟩ := S9.well
        rw [e, q] at nu6
        cases nu6
      replace eu0 := t10 _ _ eu0
      replace eu1 := t10 _ _ eu1
      replace eu2 := t10 _ _ eu2
      replace eu3 := t10 _ _ eu3
      replace eu4 := t10 _ _ eu4
      replace eu5 := t10 _ _ eu5
      refine ⟨(by show 1 ≤ sizeLine; decide), fun u7 nu7 => ?_⟩
      generalize h11 : upd H10 u7 _ = H11
      obtain ⟨t11, eu7⟩ := eqU h11 nu7
      have S11 := S10.same t11
      have R11 := R10.same t11
      have neu7 : u7 ≠ l := fun e => by
        obtain ⟨x, y, z, q⟩ := S10.well
        rw [e, q] at nu7
        cases nu7
      replace eu0 := t11 _ _ eu0
      replace eu1 := t11 _ _ eu1
      replace eu2 := t11 _ _ eu2
      replace eu3 := t11 _ _ eu3
      replace eu4 := t11 _ _ eu4
      replace eu5 := t11 _ _ eu5
      replace eu6 := t11 _ _ eu6
      refine ⟨(by show 3 ≤ sizeLine; decide), fun u8 nu8 => ?_⟩
      generalize h12 : upd H11 u8 _ = H12
      obtain ⟨t12, eu8⟩ := eqU h12 nu8
      have S12 := S11.same t12
      have R12 := R11.same t12
      have neu8 : u8 ≠ l := fun e => by
        obtain ⟨x, y, z, q⟩ := S11.well
        rw [e, q] at nu8
        cases nu8
      replace eu0 := t12 _ _ eu0
      replace eu1 := t12 _ _ eu1
      replace eu2 := t12 _ _ eu2
      replace eu3 := t12 _ _ eu3
      replace eu4 := t12 _ _ eu4
      replace eu5 := t12 _ _ eu5
      replace eu6 := t12 _ _ eu6
      replace eu7 := t12 _ _ eu7
      refine ⟨(by show 9 ≤ sizeLine; decide), fun v0 nv0 => ?_⟩
      generalize h13 : upd H12 v0 _ = H13
      obtain ⟨t13, ev0⟩ := eqU h13 nv0
      have S13 := S12.same t13
      have R13 := R12.same t13
      have nev0 : v0 ≠ l := fun e => by
        obtain ⟨x, y, z, q⟩ := S12.well
        rw [e, q] at nv0
        cases nv0
      replace eu0 := t13 _ _ eu0
      replace eu1 := t13 _ _ eu1
      replace eu2 := t13 _ _ eu2
      replace eu3 := t13 _ _ eu3
      replace eu4 := t13 _ _ eu4
      replace eu5 := t13 _ _ eu5
      replace eu6 := t13 _ _ eu6
      replace eu7 := t13 _ _ eu7
      replace eu8 := t13 _ _ eu8
      refine ⟨.ref v0, rfl, ?_⟩
      refine ⟨(by show 2 ≤ sizeLine; decide), fun u9 nu9 => ?_⟩
      generalize h14 : upd H13 u9 _ = H14
      obtain ⟨t14, eu9⟩ := eqU h14 nu9
      have S14 := S13.same t14
      have R14 := R13.same t14
      have neu9 : u9 ≠ l := fun e => by
        obtain ⟨x, y, z, q⟩ := S13.well
        rw [e, q] at nu9
        cases nu9
      replace eu0 := t14 _ _ eu0
      replace eu1 := t14 _ _ eu1
      replace eu2 := t14 _ _ eu2
      replace eu3 := t14 _ _ eu3
      replace eu4 := t14 _ _ eu4
      replace eu5 := t14 _ _ eu5
      replace eu6 := t14 _ _ eu6
      replace eu7 := t14 _ _ eu7
      replace eu8 := t14 _ _ eu8
      replace ev0 := t14 _ _ ev0
      refine ⟨(by show 2 ≤ sizeLine; decide), fun u10 nu10 => ?_⟩
      generalize h15 : upd H14 u10 _ = H15
      obtain ⟨t15, eu10⟩ := eqU h15 nu10
      have S15 := S14.same t15
      have R15 := R14.same t15
      have neu10 : u10 ≠ l := fun e => by
        obtain ⟨x, y, z, q⟩ := S14.well
        rw [e, q] at nu10
        cases nu10
      replace eu0 := t15 _ _ eu0
      replace eu1 := t15 _ _ eu1
      replace eu2 := t15 _ _ eu2
      replace eu3 := t15 _ _ eu3
      replace eu4 := t15 _ _ eu4
      replace eu5 := t15 _ _ eu5
      replace eu6 := t15 _ _ eu6
      replace eu7 := t15 _ _ eu7
      replace eu8 := t15 _ _ eu8
      replace ev0 := t15 _ _ ev0
      replace eu9 := t15 _ _ eu9
      refine ⟨(by show 3 ≤ sizeLine; decide), fun v1 nv1 => ?_⟩
      generalize h16 : upd H15 v1 _ = H16
      obtain ⟨t16, ev1⟩ := eqU h16 nv1
      have S16 := S15.same t16
      have R16 := R15.same t16
      have nev1 : v1 ≠ l := fun e => by
        obtain ⟨x, y, z, q⟩ := S15.well
        rw [e, q] at nv1
        cases nv1
      replace eu0 := t16 _ _ eu0
      replace eu1 := t16 _ _ eu1
      replace eu2 := t16 _ _ eu2
      replace eu3 := t16 _ _ eu3
      replace eu4 := t16 _ _ eu4
      replace eu5 := t16 _ _ eu5
      replace eu6 := t16 _ _ eu6
      replace eu7 := t16 _ _ eu7
      replace eu8 := t16 _ _ eu8
      replace ev0 := t16 _ _ ev0
      replace eu9 := t16 _ _ eu9
      replace eu10 := t16 _ _ eu10
      refine ⟨v0, v1, _, _, rfl, rfl, SqL.of ev0, SqL.of ev1, (by show 12 ≤ sizeLine; decide), ?_⟩
      intro v2 nv2
      generalize h17 : upd H16 v2 _ = H17
      obtain ⟨t17, ev2⟩ := eqU h17 nv2
      have S17 := S16.same t17
      have R17 := R16.same t17
      have nev2 : v2 ≠ l := fun e => by
        obtain ⟨x, y, z, q⟩ := S16.well
        rw [e, q] at nv2
        cases nv2
      replace eu0 := t17 _ _ eu0
      replace eu1 := t17 _ _ eu1
      replace eu2 := t17 _ _ eu2
      replace eu3 := t17 _ _ eu3
      replace eu4 := t17 _ _ eu4
      replace eu5 := t17 _ _ eu5
      replace eu6 := t17 _ _ eu6
      replace eu7 := t17 _ _ eu7
      replace eu8 := t17 _ _ eu8
      replace ev0 := t17 _ _ ev0
      replace eu9 := t17 _ _ eu9
      replace eu10 := t17 _ _ eu10
      replace ev1 := t17 _ _ ev1
      have all : ∀ x ∈ ([.ref u0, .ref u1, .ref u2, .ref u3, .ref u4, .ref u5, .ref u6, .ref u7, .ref u8] ++ [.non, .ref u9, .ref u10] : List V), TyF l H17 x := by
        intro x hx
        simp only [List.mem_append, List.mem_cons, List.not_mem_nil, or_false] at hx
        rcases hx with (rfl | rfl | rfl | rfl | rfl | rfl | rfl | rfl | rfl) | (rfl | rfl | rfl)
        · exact .tup eu0 neu0 (by decide)
        · exact .tup eu1 neu1 (by decide)
        · exact .tup eu2 neu2 (by decide)
        · exact .tup eu3 neu3 (by decide)
        · exact .tup eu4 neu4 (by decide)
        · exact .tup eu5 neu5 (by decide)
        · exact .lst eu6 neu6
        · exact .tup eu7 neu7 (by decide)
        · exact .tup eu8 neu8 (by decide)
        · exact .none
        · exact .tup eu9 neu9 (by decide)
        · exact .tup eu10 neu10 (by decide)
      -- the turn
      have hn : i = 0 ∨ i = 1 := by omega
      have fin : ∀ {n : Nat}, n ≤ xs.length + xs.length + 1 → n ≤ bnd (i + 1) := fun {n} h => by
        have z := hbt.len
        rcases hn with rfl | rfl
        · have z' : xs.length ≤ 6 := z
          show n ≤ 13
          omega
        · have z' : xs.length ≤ 13 := z
          show n ≤ 27
          omega
      refine ⟨.ref l, rfl, l, 3, rfl, S17.well, by decide, by decide, fun tn H18 tn0 tn1 S18' => ?_⟩
      have S18 := S17.trans S18'
      have R18 := R17.trans S18'
      have b18 := hbt.keepB R18.but
      have lv18 := S18'.but _ _ ev2 nev2
      have all18 : ∀ x ∈ ([.ref u0, .ref u1, .ref u2, .ref u3, .ref u4, .ref u5, .ref u6, .ref u7, .ref u8] ++ [.non, .ref u9, .ref u10] : List V), TyF l H18 x := fun x hx => (all x hx).keepB S18'.but
      refine ⟨_, rfl, rfl, _, rfl, ite2 (fun _ => ?_) (fun _ => ?_)⟩
      · -- one left out
        refine ⟨.ref s, rfl, .int at_, rfl, at_, rfl, s, xs, rfl, SqL.of b18.ls, fun c1 m1 => ?_⟩
        generalize h19 : upd H18 c1 _ = H19
        obtain ⟨t19, f1⟩ := eqU h19 m1
        refine ⟨.ref s, rfl, .int at_, rfl, at_, 1, rfl, rfl, _, rfl, s, xs, rfl, SqL.of (t19 _ _ b18.ls), fun c2 m2 => ?_⟩
        generalize h20 : upd H19 c2 _ = H20
        obtain ⟨t20, f2⟩ := eqU h20 m2
        have l1 := cutV_length xs none (some at_)
        have l2 := cutV_length xs (some (at_ + 1)) none
        refine ⟨c1, c2, _, _, rfl, rfl, SqL.of (t20 _ _ f1), SqL.of f2, Nat.le_of_lt (small1000 (by omega)), fun c3 m3 => ?_⟩
        generalize h21 : upd H20 c3 _ = H21
        obtain ⟨t21, f3⟩ := eqU h21 m3
        have T21 : Same H18 H21 := (t19.trans t20).trans t21
        have nc3 : c3 ≠ l := fun e => by
          obtain ⟨x, y, z, q⟩ := ((S18.same t19).same t20).well
          rw [e, q] at m3
          cases m3
        refine ⟨c3, _, _, _, _, _, rfl, S18.same T21, ⟨f3, nc3, fun x hx => ?_, ?_⟩⟩
        · have hm : x ∈ xs := (List.mem_append.mp hx).elim cut_mem cut_mem
          exact (b18.it x hm).keepB (but_same T21)
        · refine fin ?_
          rw [List.length_append]
          omega
      · -- one put in, or in another's place
        refine ⟨.ref s, rfl, .int at_, rfl, at_, rfl, s, xs, rfl, SqL.of b18.ls, fun c1 m1 => ?_⟩
        generalize h19 : upd H18 c1 _ = H19
        obtain ⟨t19, f1⟩ := eqU h19 m1
        refine ⟨.ref v2, rfl, .ref l, rfl, l, 12, rfl, (S18.same t19).well, by decide, by decide, fun od H20 od0 od1 S20' => ?_⟩
        have nc1 : c1 ≠ l := fun e => by
          obtain ⟨x, y, z, q⟩ := S18.well
          rw [e, q] at m1
          cases m1
        have S20 := (S18.same t19).trans S20'
        have K20 : But l H18 H20 := fun b o z n => S20'.but _ _ (t19 _ _ z) n
        have b20 := b18.keepB K20
        have f1' := S20'.but _ _ f1 nc1
        obtain ⟨v, hv, tv⟩ := pickAll (k := od) all18 od0 od1
        refine ⟨v2, _, od, v, rfl, rfl, SqL.of (K20 _ _ lv18 nev2), hv, (by show 1 ≤ sizeLine; decide), fun c2 m2 => ?_⟩
        generalize h21 : upd H20 c2 _ = H21
        obtain ⟨t21, f2⟩ := eqU h21 m2
        have l1 := cutV_length xs none (some at_)
        refine ⟨c1, c2, _, _, rfl, rfl, SqL.of (t21 _ _ f1'), SqL.of f2, (by show _ + 1 ≤ _; exact Nat.le_of_lt (small1000 (by omega))), fun c3 m3 => ?_⟩
        generalize h22 : upd H21 c3 _ = H22
        obtain ⟨t22, f3⟩ := eqU h22 m3
        have T22 : Same H20 H22 := t21.trans t22
        refine ⟨.ref s, rfl, .int at_, rfl, .int tn, rfl, rfl, .inr ⟨_, rfl, at_, _, rfl, rfl, _, rfl, s, xs, rfl, SqL.of (T22 _ _ b20.ls), fun c4 m4 => ?_⟩⟩
        generalize hcut : cutV xs (some (at_ + _)) none = ys
        have l2 : ys.length ≤ xs.length := by
          rw [← hcut]
          exact cutV_length _ _ _
        have ym : ∀ x ∈ ys, x ∈ xs := fun x hx => by
          rw [← hcut] at hx
          exact cut_mem hx
        generalize h23 : upd H22 c4 _ = H23
        obtain ⟨t23, f4⟩ := eqU h23 m4
        refine ⟨c3, c4, _, _, rfl, rfl, SqL.of (t23 _ _ f3), SqL.of f4, (by rw [List.length_append]; show _ + 1 + _ ≤ _; exact Nat.le_of_lt (small1000 (by omega))), fun c5 m5 => ?_⟩
        generalize h24 : upd H23 c5 _ = H24
        obtain ⟨t24, f5⟩ := eqU h24 m5
        have T24 : Same H20 H24 := (T22.trans t23).trans t24
        have nc5 : c5 ≠ l := fun e => by
          obtain ⟨x, y, z, q⟩ := ((S20.same T22).same t23).well
          rw [e, q] at m5
          cases m5
        refine ⟨c5, _, _, _, _, _, rfl, S20.same T24, ⟨f5, nc5, fun x hx => ?_, ?_⟩⟩
        · rcases List.mem_append.mp hx with h | h
          · rcases List.mem_append.mp h with h | h
            · exact (b20.it x (cut_mem h)).keepB (but_same T24)
            · rw [List.mem_singleton.mp h]
              exact (tv.keepB K20).keepB (but_same T24)
          · exact (b20.it x (ym x h)).keepB (but_same T24)
        · refine fin ?_
          rw [List.length_append, List.length_append]
          show _ + 1 + _ ≤ _
          omega
    · rintro σ H2 ⟨s, xs, y2, y3, y4, y5, rfl, S2, hbt⟩
      refine ⟨.ref s, rfl, q H2 s xs S2 (⟨hbt.ls, hbt.ne, hbt.it, Nat.le_trans hbt.len (by unfold bnd; split <;> decide)⟩)⟩
end
end K01
set_option Elab.async false
set_option linter.all false
set_option maxRecDepth 100000
set_option maxHeartbeats 4000000
namespace K01
open PySem PySem.Spec PyProof.Rows L2 XV SL LamX
/-- what the two classes of errors tell the clauses -/
structure Two (K : PySem.W.Frag) (mg : Str → Option Value) (CS CN : Addr) : Prop where
  gS : mg "NoSlab" = some (.ref CS)
  gN : mg "NoClass" = some (.ref CN)
  ss : PySem.W.exmOne K (.ref CS) (.ref CS) = some true
  ns : PySem.W.exmOne K (.ref CN) (.ref CS) = some false
  nn : PySem.W.exmOne K (.ref CN) (.ref CN) = some true
  fS : XfC K CS
  fN : XfC K CN
  nS : PySem.W.findIn K (.ref CS) "index" = some none
  nN : PySem.W.findIn K (.ref CN) "number" = some none
/-- what leaves is told -/
def Told (CS CN : Addr) (Q : VK) : XK := fun cls d H' =>
  (∃ (v : V) (dd : Addr), cls = .ref CS ∧ d = some dd ∧ H' dd = some (.xd [("index", v)]) ∧ ∀ p H'', H' p = none → Same H' H'' → H'' p = some (.tup [.str "slab", v]) → Q (.ref p) H'') ∨
    ∃ (v : V) (dd : Addr), cls = .ref CN ∧ d = some dd ∧ H' dd = some (.xd [("number", v)]) ∧ ∀ p H'', H' p = none → Same H' H'' → H'' p = some (.tup [.str "class", v]) → Q (.ref p) H''
def TRz (CS CN : Addr) : (XK → Hp → VK → Prop) → Hp → VK → Prop := fun tl H Q => tl (Told CS CN Q) H (fun _ H' => Q .non H')
theorem raised_gives {X : Cx} {g : Addr} {cdg : Value} {q : Str} {CS CN : Addr} (T : Two X.K X.mg CS CN) :
    GivesToS X ["_law_ask", "_law_found", "e"] "_law_raised" (defScope s__law_raised) g cdg (defBody s__law_raised) "_law_ask" q (TRz CS CN) := by
  intro f c' s H Q tl act hc h
  refine ⟨_, pss_cons (ps_set (i := 1) sc__law_raised.nd rfl (Or.inl rfl) pe_non) (pss_cons (ps_try_manyAs (i := 2) (n := "e")
      (tb := fun W D σ H => ∃ Ech : XK, (∀ cls d H', Ech cls d H' → W cls d σ H') ∧ σ[0]? = some (some (.ref f)) ∧ H c' = some (CodeO c' q) ∧ tl Ech H (fun _ H1 => D.nx σ H1)) (Wout := fun _ _ _ _ => False)
      rfl rfl sc__law_raised.nd rfl rfl L2.takes0 (fun W pn xe tk _ => ?_)
      (.cons (c := .ref CS) ⟨rfl, rfl, .inl T.gS⟩ (fun a oe cls d pn hz hf => pss_one (ps_set (i := 1) sc__law_raised.nd rfl (Or.inl rfl) (pe_tup (pa_cons pe_str (pa_cons (L2.pe_xf T.fS T.nS hz hf (pv 2)) pa_nil)))))
        (.cons (c := .ref CN) ⟨rfl, rfl, .inl T.gN⟩ (fun a oe cls d pn hz hf => pss_one (ps_set (i := 1) sc__law_raised.nd rfl (Or.inl rfl) (pe_tup (pa_cons pe_str (pa_cons (L2.pe_xf T.fN T.nN hz hf (pv 2)) pa_nil))))) .nil)))
      (pss_one (ps_ret (pv 1)))), ?_⟩
  · refine ⟨fun pins s' σ H' D I h' => ?_⟩
    obtain ⟨Ech, hW, h1, h2, h3⟩ := h'
    exact (pss_one (ps_expr (act W pn xe (fun _ => Ech) _ _ tk))).run pins s' σ H' D I ⟨h1, h2, hW, h3⟩
  · refine ⟨Told CS CN Q, fun cls d H' ht => ?_, rfl, hc, ?_⟩
    · rcases ht with ⟨v, dd, rfl, rfl, e, k⟩ | ⟨v, dd, rfl, rfl, e, k⟩
      · refine ⟨true, T.ss, fun _ a na => ?_, fun z => Bool.noConfusion z⟩
        refine ⟨.ref a, rfl, rfl, rfl, dd, _, v, rfl, e, rfl, (by show 2 ≤ sizeLine; decide), fun p np => ?_⟩
        exact ⟨_, rfl, k p _ np (same_upd np) upd_same⟩
      · refine ⟨false, T.ns, fun z => Bool.noConfusion z, fun _ => ⟨true, T.nn, fun _ a na => ?_, fun z => Bool.noConfusion z⟩⟩
        refine ⟨.ref a, rfl, rfl, rfl, dd, _, v, rfl, e, rfl, (by show 2 ≤ sizeLine; decide), fun p np => ?_⟩
        exact ⟨_, rfl, k p _ np (same_upd np) upd_same⟩
    · have e : (fun (_ : V) (H1 : Hp) => ∃ v, ([some (.ref f), some .non, none] : L2.St)[1]? = some (some v) ∧ Q v H1) = fun _ H' => Q .non H' := by
        funext _ H1
        exact propext ⟨fun ⟨v, ev, z⟩ => by cases ev; exact z, fun z => ⟨_, rfl, z⟩⟩
      show tl (Told CS CN Q) H (fun (_ : V) (H1 : Hp) => ∃ v, ([some (.ref f), some .non, none] : L2.St)[1]? = some (some v) ∧ Q v H1)
      rw [e]
      exact h
end K01
set_option Elab.async false
set_option linter.all false
set_option maxRecDepth 100000
set_option maxHeartbeats 4000000
namespace XV
open PySem PySem.Spec PyProof.Rows L2
/-- two tuples of the same items, asked for a difference -/
def rNeT (K : PySem.W.Frag) : R2 := fun x y H Q => ∃ (a b : Addr) (xs : List V), x = .ref a ∧ y = .ref b ∧ SqT K H a xs ∧ SqT K H b xs ∧ (∀ z ∈ xs, flatB z = true ∨ ∃ c, z = .ref c) ∧ Q (.bl false) H
theorem op_neT {X : Cx} (hu : X.A.units < cLine) : OpR X (compareOp .NotEq) (rNeT X.K) := by
  intro pins s σ H x y v u Q I rx ry h
  obtain ⟨a, b, xs, rfl, rfl, ha, hb, hf, q⟩ := h
  cases rx
  cases ry
  obtain ⟨its, r1, p1, z1⟩ := I.tuple ha
  obtain ⟨its2, r2, p2, z2⟩ := I.tuple hb
  have e1 := r1.length
  have e2 := r2.length
  have hsz : its.toArray.size = its2.toArray.size := by
    rw [List.size_toArray, List.size_toArray, ← e1, ← e2]
  have t1 : s.heap.IsTuple a its.toArray := let ⟨o, h1, h2, n, h3⟩ := p1; ⟨o, h1, h2, n, h3⟩
  have t2 : s.heap.IsTuple b its2.toArray := let ⟨o, h1, h2, n, h3⟩ := p2; ⟨o, h1, h2, n, h3⟩
  refine SeqAt.RcNeAt.tuples (e := fun _ => true) t1 t2 hu (fun j h1 h2 => ?_) X.prog X.w _ _ ?_
  · have h1' : j < its.length := by simpa using h1
    have hj : j < xs.length := by omega
    obtain ⟨u1, g1, q1⟩ := r1.get (List.getElem?_eq_getElem hj)
    obtain ⟨u2, g2, q2⟩ := r2.get (List.getElem?_eq_getElem hj)
    have f1 : its.toArray[j] = u1 := by
      have := (List.getElem?_eq_some_iff.mp g1).2
      simpa using this
    have f2 : its2.toArray[j] = u2 := by
      have := (List.getElem?_eq_some_iff.mp g2).2
      simpa using this
    rw [f1, f2]
    rcases hf _ (List.getElem_mem hj) with c | ⟨c, e⟩
    · exact eqAt_same q1 q2 c
    · rw [e] at q1 q2
      cases q1
      cases q2
      exact SeqAt.EqAt.same _
  · have e : (!((List.range (min its.toArray.size its2.toArray.size)).all (fun _ => true) && its.toArray.size == its2.toArray.size)) = false := by
      rw [hsz]
      simp
    rw [e]
    exact ⟨.bl false, H, I, rfl, q⟩
end XV
namespace K01
open PySem PySem.Spec PyProof.Rows L2 XV SL LamX
theorem K7.keepN {H H' : Hp} {x : V} {t : String} (h : K7 H x t) (k : ExtN H H') : K7 H' x t := by
  cases h with
  | int i => exact .int i
  | bl b => exact .bl b
  | non => exact .non
  | str z => exact .str z
  | lst e => exact .lst (k _ _ e fun q z => by cases z)
  | tup e => exact .tup (k _ _ e fun q z => by cases z)
  | dict e => exact .dict (k _ _ e fun q z => by cases z)
theorem Ty.keepN {H H' : Hp} {x : V} (h : Ty H x) (k : ExtN H H') : Ty H' x := let ⟨t, z⟩ := h; ⟨t, K7.keepN z k⟩
theorem Ty.plain {H : Hp} {a : Addr} (h : Ty H (.ref a)) : ∃ o, H a = some o ∧ ∀ q, o ≠ .tbl q := by
  obtain ⟨t, z⟩ := h
  cases z with
  | lst e => exact ⟨_, e, fun q z => by cases z⟩
  | tup e => exact ⟨_, e, fun q z => by cases z⟩
  | dict e => exact ⟨_, e, fun q z => by cases z⟩
theorem TyI.keepN {H H' : Hp} {x : V} (h : TyI H x) (k : ExtN H H') : TyI H' x := by
  refine ⟨Ty.keepN h.1 k, fun a xs ex e y hy => ?_⟩
  subst ex
  obtain ⟨o, eo, n⟩ := Ty.plain h.1
  have z := k _ _ eo n
  rw [e] at z
  have z2 := Option.some.inj z
  subst z2
  exact Ty.keepN (h.2 a xs rfl eo y hy) k
theorem scB_keepN {H H' : Hp} {x : V} (h : Ty H x) (k : ExtN H H') : scB H' x = scB H x := by
  cases x with
  | ref a =>
    obtain ⟨o, e, n⟩ := Ty.plain h
    show (match H' a with | some (.tup [y, z]) => inB y 1 1000 && inB z 1 60 | _ => false) = (match H a with | some (.tup [y, z]) => inB y 1 1000 && inB z 1 60 | _ => false)
    rw [e, k _ _ e n]
  | _ => rfl
/-- what may be asked for a slab's classes -/
def Okc (H : Hp) (cls : V) : Prop := Ty H cls ∧ ∀ (a : Addr) (xs : List V), cls = .ref a → H a = some (.lst xs) → xs.length ≤ 1000 ∧ ∀ x ∈ xs, TyI H x
theorem Okc.keepN {H H' : Hp} {cls : V} (h : Okc H cls) (k : ExtN H H') : Okc H' cls := by
  refine ⟨Ty.keepN h.1 k, fun a xs ea e => ?_⟩
  subst ea
  obtain ⟨o, eo, n⟩ := Ty.plain h.1
  have z := k _ _ eo n
  rw [e] at z
  have z2 := Option.some.inj z
  subst z2
  obtain ⟨h1, h2⟩ := h.2 a xs rfl eo
  exact ⟨h1, fun x hx => TyI.keepN (h2 x hx) k⟩
theorem findIdx_congr {α : Type} {p q : α → Bool} : ∀ {xs : List α}, (∀ x ∈ xs, p x = q x) → xs.findIdx? p = xs.findIdx? q
  | [], _ => rfl
  | x :: xs, h => by
    rw [List.findIdx?_cons, List.findIdx?_cons, h x List.mem_cons_self, findIdx_congr fun y hy => h y (List.mem_cons_of_mem _ hy)]
theorem badI_keepN {H H' : Hp} {cls lim : V} (h : Okc H cls) (k : ExtN H H') : badI H' cls lim = badI H cls lim := by
  cases cls with
  | ref a =>
    obtain ⟨o, e, n⟩ := Ty.plain h.1
    have e' := k _ _ e n
    unfold badI
    simp only [e, e']
    cases o with
    | lst xs =>
      have z : badL H' xs = badL H xs := by
        unfold badL
        rw [findIdx_congr fun x hx => by rw [scB_keepN ((h.2 a xs rfl e).2 x hx).1 k]]
      simp only [z]
    | _ => rfl
  | _ => rfl
theorem init_any {C CS x dx : Addr} {H1 : Hp} {cls lim : V} {Q1 : Hp → Prop} {E : XK} (nx : H1 x = none) (ndx : H1 dx = none) (hc : Okc H1 cls) (hl : Ty H1 lim)
    (kE : ∀ i, badI H1 cls lim = some i → Rz CS "index" (.int i) H1 E)
    (kQ : badI H1 cls lim = none → ∀ (a : Addr) (xs : List V) (L : Int) (l : Addr) (H2 : Hp), cls = .ref a → lim = .int L → H1 a = some (.lst xs) → H1 l = none → l ≠ x → Same H1 H2 → SlabAt C H2 x l xs L → Q1 H2) :
    spInit C CS (.ref x :: ([cls, lim] ++ [])) (upd (upd H1 dx (.own x)) x (.ins C dx [])) (fun v H2 => v = .non ∧ Q1 H2) E := by
  have S0 : Same H1 (upd (upd H1 dx (.own x)) x (.ins C dx [])) := fun b o e => by
    rw [upd_ne (ne_of_none e nx), upd_ne (ne_of_none e ndx)]
    exact e
  have hc' := hc.keepN (ExtN.of S0)
  refine ⟨x, dx, cls, lim, rfl, upd_same, hc'.1, hl.keep S0, hc'.2, fun i e => (kE i (by rw [badI_keepN hc (ExtN.of S0)] at e; exact e)).keep S0, fun a xs L e ec el ea l H' nl hk sl => ⟨rfl, ?_⟩⟩
  rw [badI_keepN hc (ExtN.of S0)] at e
  have ea' : H1 a = some (.lst xs) := by
    subst ec
    obtain ⟨o, eo, _⟩ := Ty.plain hc.1
    have z := S0 _ _ eo
    rw [ea] at z
    rw [eo, ← z]
  refine kQ e a xs L l H' ec el ea' (S0.free nl) (fun z => ?_) (fun b o z => hk b o (S0 b o z) (ne_of_none z nx)) sl
  rw [z, upd_same] at nl
  cases nl
/-! ### what stands throughout -/
structure Ctx (C : Addr) (T : List (Addr × Str)) (l s p lp : Addr) (xs : List V) (ps : List (Int × Int)) (L : Int) (H0 H : Hp) : Prop where
  R : ∀ b o, H0 b = some o → b ≠ l → (∀ q, o ≠ .tbl q) → H b = some o
  W : Well H l
  ls : H s = some (.lst xs)
  pr : PairsAt H xs ps
  sl : SlabAt C H p lp xs L
  tb : Tabs T H
  n1 : s ≠ l
  n2 : lp ≠ l
theorem tabs_but {T : List (Addr × Str)} {l : Addr} {H H' : Hp} {ys : List V} (h : Tabs T H) (hl : H l = some (.lst ys)) (k : But l H H') : Tabs T H' := fun p hp => by
  obtain ⟨ps, h1, h2, h3⟩ := h p hp
  refine ⟨ps, k _ _ h1 (fun e => by rw [e, hl] at h1; cases h1), h2, fun pos cv hc => ?_⟩
  obtain ⟨c, e1, e2⟩ := h3 pos cv hc
  exact ⟨c, e1, k _ _ e2 (fun e => by rw [e, hl] at e2; cases e2)⟩
section
variable {C : Addr} {T : List (Addr × Str)} {l s p lp : Addr} {xs : List V} {ps : List (Int × Int)} {L : Int} {H0 H H' : Hp}
theorem PairsAt.keepN (k : ExtN H H') : ∀ {xs : List V} {ps : List (Int × Int)}, PairsAt H xs ps → PairsAt H' xs ps
  | _, _, .nil => .nil
  | _, _, .cons ⟨t, e, z⟩ r => .cons ⟨t, e, k _ _ z fun q y => by cases y⟩ (PairsAt.keepN k r)
theorem Ctx.ext (c : Ctx C T l s p lp xs ps L H0 H) (k : ExtN H H') (t : Tabs T H') : Ctx C T l s p lp xs ps L H0 H' where
  R := fun b o e n z => k _ _ (c.R b o e n z) z
  W := let ⟨x, y, z, e⟩ := c.W; ⟨x, y, z, k _ _ e fun q z => by cases z⟩
  ls := k _ _ c.ls fun q z => by cases z
  pr := PairsAt.keepN k c.pr
  sl := ⟨let ⟨dx, e⟩ := c.sl.ob; ⟨dx, k _ _ e fun q z => by cases z⟩, k _ _ c.sl.ls fun q z => by cases z⟩
  tb := t
  n1 := c.n1
  n2 := c.n2
theorem Ctx.same (c : Ctx C T l s p lp xs ps L H0 H) (k : Same H H') : Ctx C T l s p lp xs ps L H0 H' := c.ext (ExtN.of k) (c.tb.ext k)
theorem Ctx.st1 (c : Ctx C T l s p lp xs ps L H0 H) (k : St1 l H H') : Ctx C T l s p lp xs ps L H0 H' where
  R := fun b o e n z => k.but _ _ (c.R b o e n z) n
  W := k.well
  ls := k.but _ _ c.ls c.n1
  pr := PairsAt.keepB c.W k.but c.pr
  sl := ⟨let ⟨dx, e⟩ := c.sl.ob; ⟨dx, k.but _ _ e fun q => by
      obtain ⟨x, y, z, w⟩ := c.W
      rw [q, w] at e
      cases e⟩, k.but _ _ c.sl.ls c.n2⟩
  tb := let ⟨x, y, z, e⟩ := c.W; tabs_but c.tb e k.but
  n1 := c.n1
  n2 := c.n2
/-- a list of one's own is written -/
theorem Ctx.own (c : Ctx C T l s p lp xs ps L H0 H) {a : Addr} {ys : List V} (ha : H a = some (.lst ys)) (h0 : H0 a = none) (na : a ≠ l) (ns : a ≠ s) (np : a ≠ lp) (k : But a H H') : Ctx C T l s p lp xs ps L H0 H' where
  R := fun b o e n z => k _ _ (c.R b o e n z) fun q => by rw [q, h0] at e; cases e
  W := let ⟨x, y, z, e⟩ := c.W; ⟨x, y, z, k _ _ e na.symm⟩
  ls := k _ _ c.ls ns.symm
  pr := by
    have go : ∀ {zs : List V} {qs : List (Int × Int)}, PairsAt H zs qs → PairsAt H' zs qs := by
      intro zs qs h
      induction h with
      | nil => exact .nil
      | cons h _ ih =>
        obtain ⟨t, e, z⟩ := h
        exact .cons ⟨t, e, k _ _ z fun q => by rw [q, ha] at z; cases z⟩ ih
    exact go c.pr
  sl := ⟨let ⟨dx, e⟩ := c.sl.ob; ⟨dx, k _ _ e fun q => by rw [q, ha] at e; cases e⟩, k _ _ c.sl.ls np.symm⟩
  tb := tabs_but c.tb ha k
  n1 := c.n1
  n2 := c.n2
end
theorem pairs_tyI {H : Hp} : ∀ {xs : List V} {ps : List (Int × Int)}, PairsAt H xs ps → ∀ x ∈ xs, TyI H x
  | _, _, .nil, x, hx => absurd hx List.not_mem_nil
  | _, _, .cons ⟨t, e, z⟩ r, x, hx => by
    rcases List.mem_cons.mp hx with h | h
    · subst h
      subst e
      refine ⟨⟨_, .tup z⟩, fun a ys ea ez y hy => ?_⟩
      cases ea
      rw [z] at ez
      cases ez
      simp only [List.mem_cons, List.not_mem_nil, or_false] at hy
      rcases hy with rfl | rfl
      · exact ⟨_, .int _⟩
      · exact ⟨_, .int _⟩
    · exact pairs_tyI r x h
/-- good pairs: from 1 to 1000 and from 1 to 60 -/
def Good (ps : List (Int × Int)) : Prop := ∀ q ∈ ps, (1 ≤ q.1 ∧ q.1 ≤ 1000) ∧ 1 ≤ q.2 ∧ q.2 ≤ 60
theorem pairs_sc {H : Hp} : ∀ {xs : List V} {ps : List (Int × Int)}, PairsAt H xs ps → Good ps → ∀ x ∈ xs, scB H x = true
  | _, _, .nil, _, x, hx => absurd hx List.not_mem_nil
  | _, q :: ps, .cons ⟨t, e, z⟩ r, g, x, hx => by
    rcases List.mem_cons.mp hx with h | h
    · subst h
      subst e
      obtain ⟨⟨h1, h2⟩, h3, h4⟩ := g q List.mem_cons_self
      show (match H t with | some (.tup [y, z]) => inB y 1 1000 && inB z 1 60 | _ => false) = true
      rw [z]
      show ((decide (1 ≤ q.1) && decide (q.1 ≤ 1000)) && (decide (1 ≤ q.2) && decide (q.2 ≤ 60))) = true
      simp [h1, h2, h3, h4]
    · exact pairs_sc r (fun y hy => g y (List.mem_cons_of_mem _ hy)) x h
theorem good_bad {H : Hp} {a : Addr} {xs : List V} {ps : List (Int × Int)} {L : Int} (ha : H a = some (.lst xs)) (pr : PairsAt H xs ps) (g : Good ps) (h1 : 1 ≤ ps.length) (h6 : ps.length ≤ 6) (l0 : 0 ≤ L) (l1 : L ≤ 1000000) : badI H (.ref a) (.int L) = none := by
  have e : xs.length = ps.length := Paired.length pr
  have n1 : (decide (1 ≤ xs.length) && decide (xs.length ≤ 6)) = true := by
    rw [e]
    simp [h1, h6]
  have n2 : inB (.int L) 0 1000000 = true := by
    show (decide (0 ≤ L) && decide (L ≤ 1000000)) = true
    simp [l0, l1]
  have n3 : badL H xs = none := badL_none fun i y hy => pairs_sc pr g y (List.mem_of_getElem? hy)
  show (match H a with | some (.lst xs) => if (decide (1 ≤ xs.length) && decide (xs.length ≤ 6)) = true then (if inB (.int L) 0 1000000 = true then badL H xs else some (-1)) else some (-1) | _ => some (-1)) = none
  rw [ha]
  show (if (decide (1 ≤ xs.length) && decide (xs.length ≤ 6)) = true then (if inB (.int L) 0 1000000 = true then badL H xs else some (-1)) else some (-1)) = none
  rw [if_pos n1, if_pos n2, n3]
theorem okc_pairs {H : Hp} {a : Addr} {xs : List V} {ps : List (Int × Int)} (ha : H a = some (.lst xs)) (pr : PairsAt H xs ps) (h6 : ps.length ≤ 1000) : Okc H (.ref a) :=
  ⟨⟨_, .lst ha⟩, fun b ys eb ez => by
    cases eb
    rw [ha] at ez
    cases ez
    exact ⟨by rw [Paired.length pr]; exact h6, pairs_tyI pr⟩⟩
/-- Slab(a, M) of good pairs -/
theorem make_ok {C CS x dx a : Addr} {H1 : Hp} {xs : List V} {ps : List (Int × Int)} {M : Int} {Q1 : Hp → Prop} {E : XK} (nx : H1 x = none) (ndx : H1 dx = none) (ha : H1 a = some (.lst xs)) (pr : PairsAt H1 xs ps) (g : Good ps) (h1 : 1 ≤ ps.length) (h6 : ps.length ≤ 6) (l0 : 0 ≤ M) (l1 : M ≤ 1000000)
    (kQ : ∀ (l : Addr) (H2 : Hp), H1 l = none → l ≠ x → Same H1 H2 → SlabAt C H2 x l xs M → Q1 H2) :
    spInit C CS (.ref x :: ([.ref a, .int M] ++ [])) (upd (upd H1 dx (.own x)) x (.ins C dx [])) (fun v H2 => v = .non ∧ Q1 H2) E := by
  refine init_any nx ndx (okc_pairs ha pr (by omega)) ⟨_, .int M⟩ (fun i e => by rw [good_bad ha pr g h1 h6 l0 l1] at e; cases e) (fun _ a' xs' L' lp H4 ea eL exs nlp nlpp t4 sl => ?_)
  cases ea
  cases eL
  rw [ha] at exs
  cases exs
  exact kQ lp H4 nlp nlpp t4 sl
theorem eq_slab {K : PySem.W.Frag} {mg : Str → Option Value} {C p l p' l' : Addr} {H : Hp} {xs xs' : List V} {ps ps' : List (Int × Int)} {L L' : Int} {neg : Bool} {Q : VK} (T : SlabC K mg C) (s1 : SlabAt C H p l xs L) (pr : PairsAt H xs ps) (hn : ps.length ≤ 1000) (s2 : SlabAt C H p' l' xs' L') (pr' : PairsAt H xs' ps') (hn' : ps'.length ≤ 1000)
    (b : Bool) (hb : ((decide (ps = ps') && decide (L = L')) ^^ neg) = b) (q : Q (.bl b) H) : rEqI K C (spEqS C) neg (.ref p) (.ref p') H Q := by
  obtain ⟨dx, ob⟩ := s1.ob
  obtain ⟨dx', ob'⟩ := s2.ob
  exact ⟨p, dx, _, .ref C, rfl, ob, T.ty ob', T.fC, p, l, xs, ps, L, .ref p', rfl, s1, pr, hn, .inr ⟨p', l', xs', ps', L', rfl, s2, pr', hn', _, rfl, by rw [hb]; exact q⟩⟩
theorem eq_tupS {K : PySem.W.Frag} {mg : Str → Option Value} {C p l t : Addr} {H : Hp} {xs zs : List V} {ps : List (Int × Int)} {L : Int} {neg : Bool} {Q : VK} (T : SlabC K mg C) (s1 : SlabAt C H p l xs L) (pr : PairsAt H xs ps) (hn : ps.length ≤ 1000) (et : H t = some (.tup zs))
    (b : Bool) (hb : (false ^^ neg) = b) (q : Q (.bl b) H) : rEqI K C (spEqS C) neg (.ref p) (.ref t) H Q := by
  obtain ⟨dx, ob⟩ := s1.ob
  exact ⟨p, dx, _, .type "tuple", rfl, ob, (K7.tup et).ty, T.fT, p, l, xs, ps, L, .ref t, rfl, s1, pr, hn, .inl ⟨t, zs, rfl, et, _, rfl, by rw [hb]; exact q⟩⟩
/-- a list written that holds none of the pairs -/
theorem pairs_put {H : Hp} {D : Addr} {ys zs : List V} (e : H D = some (.lst ys)) : ∀ {xs : List V} {ps : List (Int × Int)}, PairsAt H xs ps → PairsAt (upd H D (.lst zs)) xs ps
  | _, _, .nil => .nil
  | _, _, .cons ⟨t, ex, z⟩ r => .cons ⟨t, ex, by rw [upd_ne (fun y => by rw [y, e] at z; cases z)]; exact z⟩ (pairs_put e r)
theorem cut_take {xs : List V} {i : Nat} (h : i ≤ xs.length) : cutV xs none (some (i : Int)) = xs.take i := by
  unfold cutV
  rw [HT.sIx_none, HT.sIx_nat]
  simp only [List.drop_zero, Nat.sub_zero]
  congr 1
  omega
theorem cut_drop {xs : List V} {i : Nat} {k : Int} (e : k = (i : Int)) (h : i ≤ xs.length) : cutV xs (some k) none = xs.drop i := by
  subst e
  unfold cutV
  rw [HT.sIx_none, HT.sIx_nat]
  have e : min i xs.length = i := by omega
  rw [e, List.take_of_length_le (by rw [List.length_drop]; exact Nat.le_refl _)]
theorem pairs_take {H : Hp} : ∀ {xs : List V} {ps : List (Int × Int)} (i : Nat), PairsAt H xs ps → PairsAt H (xs.take i) (ps.take i)
  | _, _, _, .nil => by simpa using Paired.nil
  | _, _, 0, _ => .nil
  | _, _, i + 1, .cons h r => .cons h (pairs_take i r)
theorem pairs_drop {H : Hp} : ∀ {xs : List V} {ps : List (Int × Int)} (i : Nat), PairsAt H xs ps → PairsAt H (xs.drop i) (ps.drop i)
  | _, _, _, .nil => by simpa using Paired.nil
  | _, _, 0, h => h
  | _, _, i + 1, .cons _ r => pairs_drop i r
theorem pairs_app {H : Hp} : ∀ {xs : List V} {ps : List (Int × Int)} {ys : List V} {qs : List (Int × Int)}, PairsAt H xs ps → PairsAt H ys qs → PairsAt H (xs ++ ys) (ps ++ qs)
  | _, _, _, _, .nil, h => h
  | _, _, _, _, .cons h r, z => .cons h (pairs_app r z)
theorem pairs_rev {H : Hp} : ∀ {xs : List V} {ps : List (Int × Int)}, PairsAt H xs ps → PairsAt H xs.reverse ps.reverse
  | _, _, .nil => .nil
  | _, _, .cons h r => by
    rw [List.reverse_cons, List.reverse_cons]
    exact pairs_app (pairs_rev r) (.cons h .nil)
theorem put_ne {ps : List (Int × Int)} {i : Nat} {q r : Int × Int} (e : ps[i]? = some q) (n : r ≠ q) : ps ≠ ps.take i ++ [r] ++ ps.drop (i + 1) := fun z => by
  have hi : i < ps.length := (List.getElem?_eq_some_iff.mp e).1
  have h : (ps.take i ++ [r] ++ ps.drop (i + 1))[i]? = some r := by
    rw [List.append_assoc, List.getElem?_append_right (by rw [List.length_take]; omega)]
    have : i - (ps.take i).length = 0 := by rw [List.length_take]; omega
    rw [this]
    rfl
  rw [← z, e] at h
  exact n (Option.some.inj h).symm
theorem put_good {ps : List (Int × Int)} {i : Nat} {r : Int × Int} (g : Good ps) (hr : (1 ≤ r.1 ∧ r.1 ≤ 1000) ∧ 1 ≤ r.2 ∧ r.2 ≤ 60) : Good (ps.take i ++ [r] ++ ps.drop (i + 1)) := fun q hq => by
  rcases List.mem_append.mp hq with h | h
  · rcases List.mem_append.mp h with h | h
    · exact g q (List.mem_of_mem_take h)
    · rw [List.mem_singleton.mp h]
      exact hr
  · exact g q (List.mem_of_mem_drop h)
theorem put_len {ps : List (Int × Int)} {i : Nat} {r : Int × Int} (hi : i < ps.length) : (ps.take i ++ [r] ++ ps.drop (i + 1)).length = ps.length := by
  simp only [List.length_append, List.length_take, List.length_drop, List.length_cons, List.length_nil]
  omega
/-- two ways meet -/
theorem meet {G : Prop} {R : Hp → Prop} (C : Hp → Prop) (h : (∀ HM, R HM → C HM) → G) (h2 : ∀ HM, R HM → C HM) : G := h h2
end K01
set_option Elab.async false
set_option linter.all false
set_option maxRecDepth 100000
set_option maxHeartbeats 8000000
namespace K01
open PySem PySem.Spec PyProof.Rows L2 XV SL LamX
structure AD where
  C : Addr
  CS : Addr
  CN : Addr
  fI : Addr
  dI : FuncData
  fL : Addr
  dL : FuncData
  fE : Addr
  dE : FuncData
  fc : Addr
  dc : FuncData
  fl : Addr
  dl : FuncData
  fb : Addr
  db : FuncData
  fs : Addr
  ds : FuncData
  f1 : Addr
  d1 : FuncData
  f2 : Addr
  d2 : FuncData
  f3 : Addr
  d3 : FuncData
  f4 : Addr
  d4 : FuncData
  fR : Addr
structure RF (P : Program) (w : World) (K : PySem.W.Frag) (mg : Str → Option Value) (base : Heap) (A : AD) : Prop where
  B : Bi mg
  b_range : mg "range" = none
  SC : SlabC K mg A.C
  MK : Mk K A.C A.fI
  GI : FnOk P w K mg base (L2.CX P w) 4 A.fI A.dI ["self", "classes", "limit"] (spInit A.C A.CS)
  bI : Binds K A.dI ["self", "classes", "limit"] []
  GL : FnOk P w K mg base CX0 1 A.fL A.dL ["self"] (spLen A.C)
  bL : Binds K A.dL ["self"] []
  le : PySem.W.findIn K (.ref A.C) "__len__" = some (some (.ref A.fL))
  lf : PySem.W.isFn K (.ref A.fL) = true
  GE : FnOk P w K mg base CX0 1 A.fE A.dE ["self", "other"] (spEqS A.C)
  bE : Binds K A.dE ["self", "other"] []
  ee : PySem.W.findIn K (.ref A.C) "__eq__" = some (some (.ref A.fE))
  ef : PySem.W.isFn K (.ref A.fE) = true
  en : PySem.W.findIn K (.ref A.C) "__ne__" = some (some (.builtin "object.__ne__"))
  Gc : FnOk P w K mg base CX0 1 A.fc A.dc ["self"] (spClasses A.C)
  bc : Binds K A.dc ["self"] []
  mc : Meth K A.C "classes" A.fc
  Gl : FnOk P w K mg base CX0 1 A.fl A.dl ["self"] (spLimit A.C)
  bl : Binds K A.dl ["self"] []
  ml : Meth K A.C "limit" A.fl
  Gb : FnOk P w K mg base (L2.CX P w) 4 A.fb A.db ["self", "number"] (spBytes A.C A.CN true)
  bb : Binds K A.db ["self", "number"] []
  mb : Meth K A.C "bytes_of" A.fb
  Gs : FnOk P w K mg base (L2.CX P w) 4 A.fs A.ds ["self", "number"] (spBytes A.C A.CN false)
  bs : Binds K A.ds ["self", "number"] []
  ms : Meth K A.C "slots_of" A.fs
  T2 : Two K mg A.CS A.CN
  G1 : FnOk P w K mg base CX0 1 A.f1 A.d1 ["_law_well", "_law_many"] spDraw
  m1 : mg "_law_draw" = some (.ref A.f1)
  k1 : PySem.W.keepIn K (.ref A.f1) = true
  b1 : Binds K A.d1 ["_law_well", "_law_many"] []
  G2 : FnOk P w K mg base CX0 2 A.f2 A.d2 ["_law_well"] spSlab
  m2 : mg "_law_slab" = some (.ref A.f2)
  k2 : PySem.W.keepIn K (.ref A.f2) = true
  b2 : Binds K A.d2 ["_law_well"] []
  G3 : FnOk P w K mg base CX0 2 A.f3 A.d3 ["_law_sorts", "_law_most"] spBad
  m3 : mg "_law_bad" = some (.ref A.f3)
  k3 : PySem.W.keepIn K (.ref A.f3) = true
  b3 : Binds K A.d3 ["_law_sorts", "_law_most"] []
  G4 : FnOk P w K mg base CX0 2 A.f4 A.d4 ["_law_well", "_law_sorts"] spBent
  m4 : mg "_law_bent" = some (.ref A.f4)
  k4 : PySem.W.keepIn K (.ref A.f4) = true
  b4 : Binds K A.d4 ["_law_well", "_law_sorts"] []
  mR : mg "_law_raised" = some (.ref A.fR)
  kR : PySem.W.keepIn K (.ref A.fR) = true
  lR : ∃ (oc : Value) (od : Option Addr) (kV doc pm : Value) (an : Option Addr) (cdv ct : Value) (osl : Array (Option Value)), K.lookup A.fR = some ⟨oc, od, .func (PySem.W.fnOf "_law_raised" "_law_raised" (defArgs s__law_raised) (defBody s__law_raised) (defScope s__law_raised) .none kV doc pm an cdv ct), osl⟩ ∧
    PySem.W.codeIn K cdv "_law_raised" = true
def spRight (T : List (Addr × Str)) : Sp := fun vs H Q _ => ∃ l : Addr, vs = [.ref l] ∧ Well H l ∧ Tabs T H ∧ ∀ H', (∀ b o, H b = some o → b ≠ l → (∀ q, o ≠ .tbl q) → H' b = some o) → Tabs T H' → Q (.bl true) H'
theorem shSlab (i : Int) : SeqAt.shaped (.tuple [.str "slab", .int i]) = true := by
  show (PyData.canLay0 (.tuple [.str "slab", .int i]) && decide (PyData.depth (.tuple [.str "slab", .int i]) ≤ 64)) = true
  rw [Bool.and_eq_true]
  refine ⟨?_, decide_eq_true ?_⟩
  · simp only [PyData.canLay0, PyData.canLayAll0, Bool.and_true]
    decide +kernel
  · simp [PyData.depth, PyData.depthAll]
section
variable {P : Program} {w : World} {K : PySem.W.Frag} {mg : Str → Option Value} {base : Heap}
theorem ok_right {A : AD} {T : List (Addr × Str)} {f c PT : Addr} {oc : Value} {od an : Option Addr} {kV doc pm ct : Value} {osl : Array (Option Value)} (R : RF P w K mg base A)
    (lk : K.lookup f = some ⟨oc, od, .func (PySem.W.fnOf "_law_right" "_law_right" (defArgs s__law_right) (defBody s__law_right) (defScope s__law_right) .none kV doc pm an (.ref c) ct), osl⟩) (hcd : PySem.W.codeIn K (.ref c) "_law_right" = true)
    (TB : TabB base mg c PT) (hmT : (PT, (("_law_right" : Str) ++ (".<locals>." : Str)) ++ ("<lambda>" : Str)) ∈ T) (huT : ∀ p ∈ T, p.1 = PT → p.2 = (("_law_right" : Str) ++ (".<locals>." : Str)) ++ ("<lambda>" : Str)) :
    FnOk P w K mg base CX0 8 f (PySem.W.fnOf "_law_right" "_law_right" (defArgs s__law_right) (defBody s__law_right) (defScope s__law_right) .none kV doc pm an (.ref c) ct) ["_law_well"] (spRight T) := by
  have B := R.B
  obtain ⟨ocR, odR, kVR, docR, pmR, anR, cdvR, ctR, oslR, lkR, hcR⟩ := R.lR
  have bR : Binds K (PySem.W.fnOf "_law_raised" "_law_raised" (defArgs s__law_raised) (defBody s__law_raised) (defScope s__law_raised) .none kVR docR pmR anR cdvR ctR) ["_law_ask"] [] := Binds.all fun us hl => match us, hl with | [_], _ => rfl
  refine fn_of lk hcd sc__law_right (fun vs H Q E h => ?_) (fun Ar outer s H vs Q E hr h => ?_)
  · obtain ⟨l, rfl, _⟩ := h
    rfl
  · obtain ⟨l, rfl, hw, hT, k⟩ := h
    have X0 : ∀ {t : TS}, PSs (cxOf CX0 P w K mg base ["_law_well", "_law_sorts", "_law_most", "_law_handed", "_law_slab_here", "_law_told", "_law_at", "_law_near", "_law_odd", "_law_bad_here", "_law_some", "_law_due", "_law_k"] "_law_right" (defScope s__law_right) f (.ref c) Ar outer s H E).nox (defBody s__law_right) t → t { nx := fun _ H' => Q .non H', rt := Q } (L2.start ["_law_well", "_law_sorts", "_law_most", "_law_handed", "_law_slab_here", "_law_told", "_law_at", "_law_near", "_law_odd", "_law_bad_here", "_law_some", "_law_due", "_law_k"] [.ref l]) H →
      ∃ t, PSs (cxOf CX0 P w K mg base ["_law_well", "_law_sorts", "_law_most", "_law_handed", "_law_slab_here", "_law_told", "_law_at", "_law_near", "_law_odd", "_law_bad_here", "_law_some", "_law_due", "_law_k"] "_law_right" (defScope s__law_right) f (.ref c) Ar outer s H E) (defBody s__law_right) t ∧ t { nx := fun _ H' => Q .non H', rt := Q } (L2.start ["_law_well", "_law_sorts", "_law_most", "_law_handed", "_law_slab_here", "_law_told", "_law_at", "_law_near", "_law_odd", "_law_bad_here", "_law_some", "_law_due", "_law_k"] [.ref l]) H := fun a b => ⟨_, a.nox, b⟩
    refine X0 ((pss_cons (ps_asg (pe_call R.G2 (hr.mono (by decide)) rfl R.m2 R.k2 R.b2 .nil pass0 (pa_cons (pv 0) pa_nil)) (pg_tup rfl (pgs_cons (pg_name (i := 1) sc__law_right.nd rfl (Or.inl rfl)) (pgs_cons (pg_name (i := 2) sc__law_right.nd rfl (Or.inr rfl)) pgs_nil))))
      (pss_cons (ps_set (i := 3) sc__law_right.nd rfl (Or.inl rfl) (pe_callTy call_list_of (by rfl) B.b_list (by decide +kernel) (pa_cons (pv 1) pa_nil)))
      (pss_cons (ps_set (i := 4) sc__law_right.nd rfl (Or.inr rfl) (pe_make R.MK R.GI (hr.mono (by decide)) rfl R.SC.gC R.bI .nil passL (pa_cons (pv 3) (pa_cons (pv 2) pa_nil))))
      (pss_cons (ps_expr (pe_bm PySem.F.plainAttrs_list PySem.F.slot_list_append PySem.F.type_list_append mt_append (pv 3) (pa_cons (pe_tup (pa_cons pe_int (pa_cons pe_int pa_nil))) pa_nil)))
      (pss_cons (ps_set (i := 5) sc__law_right.nd rfl (Or.inl rfl) (pe_meth0 (pv 4) R.SC.cl R.mc R.Gc (hr.mono (by decide)) R.bc .nil pass0))
      (pss_cons (ps_expr (pe_bm0 PySem.F.plainAttrs_list PySem.F.slot_list_clear PySem.F.type_list_clear mt_clear (pv 5)))
      (pss_cons (ps_if (PW.pt (pw_or (pt_cmpR (op_neD hr.units) (pe_meth0 (pv 4) R.SC.cl R.mc R.Gc (hr.mono (by decide)) R.bc .nil pass0) (pv 1) (nomark _)) (pw_or (pt_cmpR op_ne (pe_meth0 (pv 4) R.SC.cl R.ml R.Gl (hr.mono (by decide)) R.bl .nil pass0) (pv 2) (nomark _)) (pw_or1 (pt_cmpR op_ne (pe_callB (call_lenI R.GL R.le R.lf R.bL (hr.mono (by decide))) (by rfl) B.b_len (by decide +kernel) (pa_cons (pv 4) pa_nil)) (pe_callB call_len_seq (by rfl) B.b_len (by decide +kernel) (pa_cons (pv 1) pa_nil)) (nomark _)))))) (pss_one (ps_ret pe_bl)) pss_nil)
      (pss_cons (ps_if (pt_cmpR (op_neD hr.units) (pe_lc (own := [("_law_k", 12)]) (g := gName 12) (tt := tYes) (by rfl) sc__law_right.nd (pi_range1 (by rfl) R.b_range (pa_cons (pe_callB call_len_seq (by rfl) B.b_len (by decide +kernel) (pa_cons (pv 1) pa_nil)) pa_nil)) (blkOk_by (own := [("_law_k", 12)]) (N := ["_law_well", "_law_sorts", "_law_most", "_law_handed", "_law_slab_here", "_law_told", "_law_at", "_law_near", "_law_odd", "_law_bad_here", "_law_some", "_law_due", "_law_k"]) (sc := defScope s__law_right) (by decide +kernel)) (fun _ _ _ _ _ => pg_name (i := 12) sc__law_right.nd rfl (Or.inl rfl)) (fun _ _ _ _ _ => pts_nil) (fun _ _ _ _ _ => (pe_tup (pa_cons (pe_meth (pv 4) R.SC.cl R.mb R.Gb (hr.mono (by decide)) R.bb .nil passL (pa_cons (pv 12) pa_nil)) (pa_cons (pe_meth (pv 4) R.SC.cl R.ms R.Gs (hr.mono (by decide)) R.bs .nil passL (pa_cons (pv 12) pa_nil)) pa_nil))))) (pv 1) (nomark _)) (pss_one (ps_ret pe_bl)) pss_nil)
      (pss_cons (ps_if (PW.pt (pw_or (pt_cmpR (op_neI R.GE R.ee R.ef R.bE (hr.mono (by decide)) R.en R.SC.mr) (pv 4) (pe_make R.MK R.GI (hr.mono (by decide)) rfl R.SC.gC R.bI .nil passL (pa_cons (pe_callTy call_list_of (by rfl) B.b_list (by decide +kernel) (pa_cons (pv 1) pa_nil)) (pa_cons (pv 2) pa_nil))) (nomark _)) (pw_or (pt_cmpR (op_eqI R.GE R.ee R.ef R.bE (hr.mono (by decide))) (pv 4) (pe_tup (pa_cons (pv 1) (pa_cons (pv 2) pa_nil))) (nomark _)) (pw_or1 (pt_cmpR (op_eqI R.GE R.ee R.ef R.bE (hr.mono (by decide))) (pv 4) (pe_make R.MK R.GI (hr.mono (by decide)) rfl R.SC.gC R.bI .nil passL (pa_cons (pv 1) (pa_cons (pe_op op_add (pv 2) pe_int) pa_nil))) (nomark _)))))) (pss_one (ps_ret pe_bl)) pss_nil)
      (pss_cons (ps_set (i := 6) sc__law_right.nd rfl (Or.inl rfl) (pe_call R.G1 (hr.mono (by decide)) rfl R.m1 R.k1 R.b1 .nil pass0 (pa_cons (pv 0) (pa_cons (pe_callB call_len_seq (by rfl) B.b_len (by decide +kernel) (pa_cons (pv 1) pa_nil)) pa_nil))))
      (pss_cons (ps_for PassesOwn.never rfl (pi_list (pe_lst (pa_cons (pe_tup (pa_cons (pe_op op_add (pe_ix ix_tup (pe_ix ix_list (pv 1) (pv 6) (fun _ _ => rfl)) pe_int (fun _ _ => rfl)) pe_int) (pa_cons (pe_ix ix_tup (pe_ix ix_list (pv 1) (pv 6) (fun _ _ => rfl)) pe_int (fun _ _ => rfl)) pa_nil))) (pa_cons (pe_tup (pa_cons (pe_ix ix_tup (pe_ix ix_list (pv 1) (pv 6) (fun _ _ => rfl)) pe_int (fun _ _ => rfl)) (pa_cons (pe_op op_add (pe_ix ix_tup (pe_ix ix_list (pv 1) (pv 6) (fun _ _ => rfl)) pe_int (fun _ _ => rfl)) pe_int) pa_nil))) pa_nil)))) (pg_name (i := 7) sc__law_right.nd rfl (Or.inl rfl))
      (pss_one (ps_if (pt_cmpR (op_eqI R.GE R.ee R.ef R.bE (hr.mono (by decide))) (pv 4) (pe_make R.MK R.GI (hr.mono (by decide)) rfl R.SC.gC R.bI .nil passL (pa_cons (pe_op op_catS (pe_op op_catS (pe_slice sl_list (pv 1) po_none (po_some (pv 6))) (pe_lst (pa_cons (pv 7) pa_nil))) (pe_slice sl_list (pv 1) (po_some (pe_op op_add (pv 6) pe_int)) po_none)) (pa_cons (pv 2) pa_nil))) (nomark _)) (pss_one (ps_ret pe_bl)) pss_nil)))
      (pss_cons (ps_if (PW.pt (pw_and (pt_cmpR op_lt (pe_callB call_len_seq (by rfl) B.b_len (by decide +kernel) (pa_cons (pv 1) pa_nil)) pe_int (nomark _)) (pw_and1 (pt_cmpR (op_eqI R.GE R.ee R.ef R.bE (hr.mono (by decide))) (pv 4) (pe_make R.MK R.GI (hr.mono (by decide)) rfl R.SC.gC R.bI .nil passL (pa_cons (pe_op op_catS (pv 1) (pe_lst (pa_cons (pe_tup (pa_cons pe_int (pa_cons pe_int pa_nil))) pa_nil))) (pa_cons (pv 2) pa_nil))) (nomark _))))) (pss_one (ps_ret pe_bl)) pss_nil)
      (pss_cons (ps_if (PW.pt (pw_and (pt_cmpR (op_neD hr.units) (pv 1) (pe_revL (pv 1)) (nomark _)) (pw_and1 (pt_cmpR (op_eqI R.GE R.ee R.ef R.bE (hr.mono (by decide))) (pv 4) (pe_make R.MK R.GI (hr.mono (by decide)) rfl R.SC.gC R.bI .nil passL (pa_cons (pe_revL (pv 1)) (pa_cons (pv 2) pa_nil))) (nomark _))))) (pss_one (ps_ret pe_bl)) pss_nil)
      (pss_cons (ps_for PassesOwn.never rfl (pi_list (pe_lst (pa_cons (pe_callB call_len_seq (by rfl) B.b_len (by decide +kernel) (pa_cons (pv 1) pa_nil)) (pa_cons (pe_un un_neg pe_int) (pa_cons pe_bl (pa_cons pe_non (pa_cons pe_str (pa_cons (pe_lst (pa_cons pe_int pa_nil)) (pa_cons pe_dnewK pa_nil))))))))) (pg_name (i := 8) sc__law_right.nd rfl (Or.inr rfl))
      (pss_cons (ps_if (pt_cmpR (op_neT hr.units0) (pe_lamcallS (T := T) (k := 5) rfl R.mR R.kR lkR hcR bR sc__law_raised rfl (Or.inl rfl) (raised_gives R.T2) TB rfl hmT huT (hr.mono (by decide)) (lamS_by (sc := defScope s__law_right) (by decide +kernel)) rfl (fun _ _ _ _ _ => rfl) (fun A outer s H E f c' hr2 => (pe_meth (pv 4) R.SC.cl R.mb R.Gb (hr2.mono (by decide)) R.bb .nil (passes_call (takes_of rfl rfl rfl rfl) (fun _ _ _ _ h => h)) (pa_cons (pv 8) pa_nil)))) (pe_tup (pa_cons pe_str (pa_cons (pv 8) pa_nil))) (nomark _)) (pss_one (ps_ret pe_bl)) pss_nil)
      (pss_one (ps_if (pt_cmpR (op_neT hr.units0) (pe_lamcallS (T := T) (k := 5) rfl R.mR R.kR lkR hcR bR sc__law_raised rfl (Or.inl rfl) (raised_gives R.T2) TB rfl hmT huT (hr.mono (by decide)) (lamS_by (sc := defScope s__law_right) (by decide +kernel)) rfl (fun _ _ _ _ _ => rfl) (fun A outer s H E f c' hr2 => (pe_meth (pv 4) R.SC.cl R.ms R.Gs (hr2.mono (by decide)) R.bs .nil (passes_call (takes_of rfl rfl rfl rfl) (fun _ _ _ _ h => h)) (pa_cons (pv 8) pa_nil)))) (pe_tup (pa_cons pe_str (pa_cons (pv 8) pa_nil))) (nomark _)) (pss_one (ps_ret pe_bl)) pss_nil))))
      (pss_cons (ps_set (i := 9) sc__law_right.nd rfl (Or.inl rfl) (pe_call R.G4 (hr.mono (by decide)) rfl R.m4 R.k4 R.b4 .nil pass0 (pa_cons (pv 0) (pa_cons (pv 1) pa_nil))))
      (pss_cons (ps_for PassesOwn.never rfl (pi_list (pe_lst (pa_cons (pv 9) (pa_cons (pe_callTy call_tuple_of (by rfl) B.b_tuple (by decide +kernel) (pa_cons (pv 1) pa_nil)) (pa_cons pe_non (pa_cons pe_dnewK (pa_cons (pe_lst pa_nil) (pa_cons (pe_op op_rep (pe_lst (pa_cons (pe_tup (pa_cons pe_int (pa_cons pe_int pa_nil))) pa_nil)) pe_int) pa_nil)))))))) (pg_name (i := 10) sc__law_right.nd rfl (Or.inr rfl))
      (pss_cons (ps_set (i := 11) sc__law_right.nd rfl (Or.inl rfl) (pe_call R.G3 (hr.mono (by decide)) rfl R.m3 R.k3 R.b3 .nil pass0 (pa_cons (pv 10) (pa_cons (pv 2) pa_nil))))
      (pss_one (ps_if (pt_cmpR (op_neD hr.units) (pe_lamcallS (T := T) (k := 5) rfl R.mR R.kR lkR hcR bR sc__law_raised rfl (Or.inl rfl) (raised_gives R.T2) TB rfl hmT huT (hr.mono (by decide)) (lamS_by (sc := defScope s__law_right) (by decide +kernel)) rfl (fun _ _ _ _ _ => rfl) (fun A outer s H E f c' hr2 => (pe_make R.MK R.GI (hr2.mono (by decide)) rfl R.SC.gC R.bI .nil (passes_call (takes_of rfl rfl rfl rfl) (fun _ _ _ _ h => h)) (pa_cons (pv 10) (pa_cons (pv 2) pa_nil))))) (pe_ix ix_list (pe_lst (pa_cons (pe_tup (pa_cons pe_str (pa_cons (pv 11) pa_nil))) (pa_cons pe_non pa_nil))) (pe_callTy call_int1 (by rfl) B.b_int (by decide +kernel) (pa_cons (pe_cmpR op_isN (pv 11) pe_non (nomark _)) pa_nil)) (fun _ _ => rfl)) (nomark _)) (pss_one (ps_ret pe_bl)) pss_nil))))
      (pss_cons (ps_for PassesOwn.never rfl (pi_list (pe_lst (pa_cons (pe_un un_neg pe_int) (pa_cons (pe_op op_add (pe_op op_pow pe_int pe_int) pe_int) (pa_cons pe_bl (pa_cons pe_non (pa_cons pe_str (pa_cons (pe_lst (pa_cons pe_int pa_nil)) pa_nil)))))))) (pg_name (i := 8) sc__law_right.nd rfl (Or.inr rfl))
      (pss_one (ps_if (pt_cmpR (op_neD hr.units) (pe_lamcallS (T := T) (k := 5) rfl R.mR R.kR lkR hcR bR sc__law_raised rfl (Or.inl rfl) (raised_gives R.T2) TB rfl hmT huT (hr.mono (by decide)) (lamS_by (sc := defScope s__law_right) (by decide +kernel)) rfl (fun _ _ _ _ _ => rfl) (fun A outer s H E f c' hr2 => (pe_make R.MK R.GI (hr2.mono (by decide)) rfl R.SC.gC R.bI .nil (passes_call (takes_of rfl rfl rfl rfl) (fun _ _ _ _ h => h)) (pa_cons (pe_lst (pa_cons pe_non pa_nil)) (pa_cons (pv 8) pa_nil))))) (pe_tup (pa_cons pe_str (pa_cons (pe_un un_neg pe_int) pa_nil))) (nomark _)) (pss_one (ps_ret pe_bl)) pss_nil)))
      (pss_one (ps_ret pe_bl)))))))))))))))))))) ?_
    
    have nwl : ∀ {b : Addr} {H' : Hp}, Well H' l → H' b = none → b ≠ l := fun {b H'} hw n e => by
      obtain ⟨x, y, z, q⟩ := hw
      rw [e, q] at n
      cases n
    -- the classes and the limit
    refine ⟨.ref l, rfl, l, rfl, hw, fun H1 t s xs ps L S1 nt0 ns0 et so h1 h6 l6 l51 => ?_⟩
    refine ⟨t, _, rfl, SqT.of et, rfl, _, _, rfl, _, _, rfl, rfl, ?_⟩
    have good : Good ps := fun q hq => by
      have z := so.rg q hq
      omega
    have hxl : xs.length = ps.length := Paired.length so.pr
    -- handed = list(sorts)
    refine ⟨.ref s, rfl, s, xs, rfl, .inl (SqL.of so.ls), fun hd nhd => ?_⟩
    generalize h2 : upd H1 hd _ = H2
    obtain ⟨t2, ehd⟩ := eqU h2 nhd
    have W2 : Well H2 l := (S1.same t2).well
    -- Slab(handed, most)
    refine ⟨.ref hd, rfl, .int L, rfl, fun p dx np ndx npd => ?_⟩
    refine init_any np ndx (okc_pairs ehd (PairsAt.keep t2 so.pr) (by omega)) ⟨_, .int L⟩ (fun i e => by rw [good_bad ehd (PairsAt.keep t2 so.pr) good h1 h6 (by omega) (by omega)] at e; cases e) (fun _ a xs' L' lp H4 ea eL exs nlp nlpp t4 sl => ?_)
    cases ea
    cases eL
    rw [ehd] at exs
    cases exs
    have hd0 : H hd = none := S1.free hw nhd
    have hdl : hd ≠ l := nwl S1.well nhd
    have hds : hd ≠ s := (ne_of_none so.ls nhd).symm
    have hdlp : hd ≠ lp := ne_of_none ehd nlp
    have c4 : Ctx A.C T l s p lp xs ps L H H4 := {
      R := fun b o e n z => t4 _ _ (t2 _ _ (S1.but b o e n))
      W := let ⟨x, y, z, e⟩ := W2; ⟨x, y, z, t4 _ _ e⟩
      ls := t4 _ _ (t2 _ _ so.ls)
      pr := PairsAt.keep t4 (PairsAt.keep t2 so.pr)
      sl := sl
      tb := by
        obtain ⟨x, y, z, e⟩ := hw
        exact ((tabs_but hT e S1.but).ext t2).ext t4
      n1 := nwl hw ns0
      n2 := nwl W2 nlp }
    have ehd4 := t4 _ _ ehd
    -- handed.append((1, 1))
    refine ⟨.ref hd, rfl, .inl ⟨rfl, _, SqL.of ehd4⟩, (by show 2 ≤ sizeLine; decide), fun t5 nt5 => ?_⟩
    generalize h5 : upd H4 t5 _ = H5
    obtain ⟨t5', et5⟩ := eqU h5 nt5
    refine ⟨hd, xs, _, rfl, rfl, t5' _ _ ehd4, small1000 (by omega), ?_⟩
    generalize h6' : upd H5 hd _ = H6
    obtain ⟨b6, e6⟩ := eqL h6'
    have c6 := (c4.same t5').own (t5' _ _ ehd4) hd0 hdl hds hdlp b6
    -- told = slab.classes(); told.clear()
    obtain ⟨dx6, ob6⟩ := c6.sl.ob
    refine ⟨.ref p, rfl, p, dx6, _, rfl, ob6, pk_no _ _ (by decide +kernel) (by decide +kernel), p, lp, xs, L, rfl, c6.sl, fun td H7 ntd t7 e7 => ?_⟩
    have c7 := c6.same t7
    refine ⟨.ref td, rfl, .inl ⟨rfl, _, SqL.of e7⟩, td, xs, rfl, rfl, e7, ?_⟩
    generalize h8 : upd H7 td _ = H8
    obtain ⟨b8, e8⟩ := eqL h8
    have td0 : H td = none := by
      cases z : H td with
      | none => rfl
      | some o =>
        by_cases e : td = l
        · obtain ⟨x, y, z, w⟩ := c6.W
          rw [e, w] at ntd
          cases ntd
        · cases o with
          | tbl q =>
            exfalso
            have z4 := S1.but _ _ z e
            have z5 := b6 _ _ (t5' _ _ (t4 _ _ (t2 _ _ z4))) (fun q => by rw [q] at z4; rw [nhd] at z4; cases z4)
            rw [ntd] at z5
            cases z5
          | _ =>
            have z6 := c6.R _ _ z e (fun q z => by cases z)
            rw [ntd] at z6
            cases z6
    have c8 := c7.own e7 td0 (nwl c6.W ntd) (ne_of_none c6.ls ntd).symm (ne_of_none c6.sl.ls ntd).symm b8
    -- the first test
    obtain ⟨dx8, ob8⟩ := c8.sl.ob
    refine ⟨.ref p, rfl, p, dx8, _, rfl, ob8, pk_no _ _ (by decide +kernel) (by decide +kernel), p, lp, xs, L, rfl, c8.sl, fun q9 H9 nq9 t9 e9 => ?_⟩
    have c9 := c8.same t9
    refine ⟨.ref s, rfl, _, _, .lst (SqL.of e9) (dpPairs c9.pr), .lst (SqL.of c9.ls) (dpPairs c9.pr), dPairs_shaped ps, dPairs_shaped ps, _, rfl, ?_⟩
    rw [dPairs_eqv, decide_eq_true rfl]
    refine iteF ?_
    obtain ⟨dx9, ob9⟩ := c9.sl.ob
    refine ⟨.ref p, rfl, p, dx9, _, rfl, ob9, pk_no _ _ (by decide +kernel) (by decide +kernel), p, lp, xs, L, rfl, c9.sl, .int L, rfl, rfl, _, rfl, ?_⟩
    rw [decide_eq_true rfl]
    refine iteF ?_
    refine ⟨.ref p, rfl, p, dx9, _, rfl, ob9, p, lp, xs, L, rfl, c9.sl, xs.length, rfl, (by omega), .ref s, rfl, s, xs, rfl, .inl (SqL.of c9.ls), rfl, _, rfl, ?_⟩
    rw [decide_eq_true rfl]
    refine iteF ?_
    -- all pairs, one by one
    refine ⟨.ref s, rfl, s, xs, rfl, .inl (SqL.of c9.ls), xs.length, rfl, (by omega), (by omega), fun D nD => ?_⟩
    refine lc_range (lo := 0) (n := xs.length) (fun i HI => Same H9 HI ∧ ∃ acc, HI D = some (.lst acc) ∧ PairsAt HI acc (ps.take i)) ⟨same_upd nD, _, upd_same, .nil⟩ ?_ ?_
    · rintro i HI hi ⟨sI, acc, eI, pI⟩
      have cI := c9.same sI
      obtain ⟨dxI, obI⟩ := cI.sl.ob
      obtain ⟨q, eq⟩ : ∃ q, ps[i]? = some q := ⟨ps[i]'(by omega), List.getElem?_eq_getElem (by omega)⟩
      have nb : inB (.int (0 + (i : Int))) 0 ((ps.length : Int) - 1) = false → False := fun z => by
        have z2 : (decide ((0 : Int) ≤ 0 + (i : Int)) && decide (0 + (i : Int) ≤ (ps.length : Int) - 1)) = false := z
        rw [decide_eq_true (by omega), decide_eq_true (by omega)] at z2
        cases z2
      have ei : ∀ j : Nat, V.int (0 + (i : Int)) = V.int (j : Int) → j = i := fun j z => by
        have := V.int.inj z
        omega
      refine ⟨rfl, ?_⟩
      unfold tYes
      refine iteT ?_
      refine ⟨.ref p, rfl, p, dxI, _, rfl, obI, pk_no _ _ (by decide +kernel) (by decide +kernel), _, rfl, p, lp, xs, ps, L, _, rfl, cI.sl, cI.pr, ⟨_, .int _⟩, fun j q' ej eq' => ?_, fun z => (nb z).elim⟩
      have ej' := ei j ej
      subst ej'
      rw [eq] at eq'
      cases eq'
      refine ⟨.ref p, rfl, p, dxI, _, rfl, obI, pk_no _ _ (by decide +kernel) (by decide +kernel), _, rfl, p, lp, xs, ps, L, _, rfl, cI.sl, cI.pr, ⟨_, .int _⟩, fun j' q' ej' eq' => ?_, fun z => (nb z).elim⟩
      have ej2 := ei j' ej'
      subst ej2
      rw [eq] at eq'
      cases eq'
      refine ⟨(by show 2 ≤ sizeLine; decide), fun tq ntq => ?_⟩
      generalize hq' : upd HI tq _ = HJ
      obtain ⟨tJ, eJ⟩ := eqU hq' ntq
      have eDJ := tJ _ _ eI
      have hla : acc.length = j' := by
        have z := Paired.length pI
        rw [List.length_take] at z
        omega
      refine ⟨acc, eDJ, small1000 (by omega), ?_, acc ++ [.ref tq], upd_same, ?_⟩
      · have bJ : Same H9 HJ := sI.trans tJ
        exact fun b o z => by
          rw [upd_ne (ne_of_none z nD)]
          exact bJ _ _ z
      · have pJ := PairsAt.keep tJ pI
        rw [List.take_add_one, eq]
        refine Paired.snoc ⟨tq, rfl, ?_⟩ (pairs_put eDJ pJ)
        rw [upd_ne (fun y => by rw [y, eDJ] at eJ; cases eJ)]
        exact eJ
    · rintro HI ⟨sI, acc, eI, pI⟩
      rw [List.take_of_length_le (by omega)] at pI
      have c10 := c9.same sI
      refine ⟨.ref s, rfl, _, _, .lst (SqL.of eI) (dpPairs pI), .lst (SqL.of c10.ls) (dpPairs c10.pr), dPairs_shaped ps, dPairs_shaped ps, _, rfl, ?_⟩
      rw [dPairs_eqv, decide_eq_true rfl]
      refine iteF ?_
      -- equality: the same made anew, a tuple, another limit
      refine ⟨.ref p, rfl, .ref s, rfl, s, xs, rfl, .inl (SqL.of c10.ls), fun ls nls => ?_⟩
      generalize h11 : upd HI ls _ = H11
      obtain ⟨t11, e11⟩ := eqU h11 nls
      have c11 := c10.same t11
      refine ⟨.int L, rfl, fun x dx nx ndx _ => make_ok nx ndx e11 c11.pr good h1 h6 (by omega) (by omega) (fun l' H12 nl _ t12 sl' => ?_)⟩
      have c12 := c11.same t12
      refine eq_slab R.SC c12.sl c12.pr (by omega) sl' c12.pr (by omega) false (by simp) ⟨_, rfl, iteF ?_⟩
      refine ⟨.ref p, rfl, .ref s, rfl, .int L, rfl, (by show 2 ≤ sizeLine; decide), fun tq ntq => ?_⟩
      generalize h13 : upd H12 tq _ = H13
      obtain ⟨t13, e13⟩ := eqU h13 ntq
      have c13 := c12.same t13
      refine eq_tupS R.SC c13.sl c13.pr (by omega) e13 false rfl ⟨_, rfl, iteF ?_⟩
      refine ⟨.ref p, rfl, .ref s, rfl, .int L, rfl, L, 1, rfl, rfl, fun x2 dx2 nx2 ndx2 _ => make_ok nx2 ndx2 c13.ls c13.pr good h1 h6 (by omega) (by omega) (fun l2 H14 nl2 _ t14 sl2 => ?_)⟩
      have c14 := c13.same t14
      refine eq_slab R.SC c14.sl c14.pr (by omega) sl2 c14.pr (by omega) false (by simp; omega) ⟨_, rfl, iteF ?_⟩
      -- a place is drawn
      refine ⟨.ref l, rfl, .ref s, rfl, s, xs, rfl, .inl (SqL.of c14.ls), l, xs.length, rfl, c14.W, (by omega), (by omega), fun n H15 n0 n1 st15 => ?_⟩
      have c15 := c14.st1 st15
      obtain ⟨i, rfl⟩ : ∃ i : Nat, n = (i : Int) := ⟨n.toNat, by omega⟩
      have hi : i < ps.length := by omega
      obtain ⟨q, eq⟩ : ∃ q, ps[i]? = some q := ⟨ps[i], List.getElem?_eq_getElem hi⟩
      obtain ⟨y, ey⟩ : ∃ y, xs[i]? = some y := ⟨xs[i]'(by omega), List.getElem?_eq_getElem (by omega)⟩
      obtain ⟨ty, rfl, ety⟩ := (show PairAt H15 y q from by
        obtain ⟨q', e1, e2⟩ := pairs_get c15.pr ey
        rw [eq] at e1
        cases e1
        exact e2)
      -- two near ones
      refine ⟨.ref s, rfl, .int i, rfl, s, xs, i, _, rfl, rfl, SqL.of c15.ls, atI_nat ey, ty, _, 0, _, rfl, rfl, SqT.of ety, rfl, q.1, 1, rfl, rfl, ?_⟩
      refine ⟨.ref s, rfl, .int i, rfl, s, xs, i, _, rfl, rfl, SqL.of c15.ls, atI_nat ey, ty, _, 1, _, rfl, rfl, SqT.of ety, rfl, ?_⟩
      refine ⟨(by show 2 ≤ sizeLine; decide), fun na nna => ?_⟩
      generalize h16 : upd H15 na _ = H16
      obtain ⟨t16, ena⟩ := eqU h16 nna
      have c16 := c15.same t16
      have ety16 := t16 _ _ ety
      refine ⟨.ref s, rfl, .int i, rfl, s, xs, i, _, rfl, rfl, SqL.of c16.ls, atI_nat ey, ty, _, 0, _, rfl, rfl, SqT.of ety16, rfl, ?_⟩
      refine ⟨.ref s, rfl, .int i, rfl, s, xs, i, _, rfl, rfl, SqL.of c16.ls, atI_nat ey, ty, _, 1, _, rfl, rfl, SqT.of ety16, rfl, q.2, 1, rfl, rfl, ?_⟩
      refine ⟨(by show 2 ≤ sizeLine; decide), fun nb nnb => ?_⟩
      generalize h17 : upd H16 nb _ = H17
      obtain ⟨t17, enb⟩ := eqU h17 nnb
      have c17 := c16.same t17
      replace ena := t17 _ _ ena
      refine ⟨(by show 2 ≤ sizeLine; decide), fun nn nnn => ?_⟩
      generalize h18 : upd H17 nn _ = H18
      obtain ⟨t18, enn⟩ := eqU h18 nnn
      have c18 := c17.same t18
      replace ena := t18 _ _ ena
      replace enb := t18 _ _ enb
      refine ⟨nn, rfl, ⟨_, SqL.of enn⟩, ?_⟩
      refine for_list (xs := [.ref na, .ref nb]) (fun _ σ HN => (∃ v7, σ = [some (.ref l), some (.ref s), some (.int L), some (.ref hd), some (.ref p), some (.ref td), some (.int i), v7, none, none, none, none, none]) ∧ Ctx A.C T l s p lp xs ps L H HN ∧ Same H18 HN) ⟨⟨_, rfl⟩, c18, Same.refl _⟩ (fun j σ HN _ z => SqL.of (z.2.2 _ _ enn)) ?_ ?_
      · rintro j x σ HN hj ⟨⟨v7, rfl⟩, cN, sN⟩
        obtain ⟨nr, r, rfl, enr, hr1, hr2⟩ : ∃ nr r, x = .ref nr ∧ HN nr = some (.tup [.int r.1, .int r.2]) ∧ r ≠ q ∧ ((1 ≤ r.1 ∧ r.1 ≤ 1000) ∧ 1 ≤ r.2 ∧ r.2 ≤ 60) := by
          have rq := so.rg q (List.mem_of_getElem? eq)
          match j, hj with
          | 0, hj =>
            cases hj
            exact ⟨na, (q.1 + 1, q.2), rfl, sN _ _ ena, fun z => by have := congrArg Prod.fst z; simp at this; omega, by simp; omega⟩
          | 1, hj =>
            cases hj
            exact ⟨nb, (q.1, q.2 + 1), rfl, sN _ _ enb, fun z => by have := congrArg Prod.snd z; simp at this; omega, by simp; omega⟩
        refine ⟨.ref p, rfl, .ref s, rfl, .int i, rfl, i, rfl, s, xs, rfl, SqL.of cN.ls, fun a1 na1 => ?_⟩
        rw [cut_take (by omega)]
        generalize hq1 : upd HN a1 _ = HN1
        obtain ⟨u1, ea1⟩ := eqU hq1 na1
        have cN1 := cN.same u1
        refine ⟨.ref nr, rfl, (by show 1 ≤ sizeLine; decide), fun a2 na2 => ?_⟩
        generalize hq2 : upd HN1 a2 _ = HN2
        obtain ⟨u2, ea2⟩ := eqU hq2 na2
        have cN2 := cN1.same u2
        have k1 : (xs.take i).length ≤ 6 := by rw [List.length_take]; omega
        refine ⟨a1, a2, _, _, rfl, rfl, SqL.of (u2 _ _ ea1), SqL.of ea2, Nat.le_of_lt (small1000 (by simp only [List.length_cons, List.length_nil]; omega)), fun a3 na3 => ?_⟩
        generalize hq3 : upd HN2 a3 _ = HN3
        obtain ⟨u3, ea3⟩ := eqU hq3 na3
        have cN3 := cN2.same u3
        refine ⟨.ref s, rfl, .int i, rfl, i, 1, rfl, rfl, _, rfl, s, xs, rfl, SqL.of cN3.ls, fun a4 na4 => ?_⟩
        rw [cut_drop (i := i + 1) (by omega) (by omega)]
        generalize hq4 : upd HN3 a4 _ = HN4
        obtain ⟨u4, ea4⟩ := eqU hq4 na4
        have cN4 := cN3.same u4
        have k2 : (xs.drop (i + 1)).length ≤ 6 := by rw [List.length_drop]; omega
        refine ⟨a3, a4, _, _, rfl, rfl, SqL.of (u4 _ _ ea3), SqL.of ea4, Nat.le_of_lt (small1000 (by simp only [List.length_append, List.length_cons, List.length_nil]; omega)), fun a5 na5 => ?_⟩
        generalize hq5 : upd HN4 a5 _ = HN5
        obtain ⟨u5, ea5⟩ := eqU hq5 na5
        have cN5 := cN4.same u5
        have enr5 : PairAt HN5 (.ref nr) r := ⟨nr, rfl, u5 _ _ (u4 _ _ (u3 _ _ (u2 _ _ (u1 _ _ enr))))⟩
        have p5 : PairsAt HN5 (xs.take i ++ [.ref nr] ++ xs.drop (i + 1)) (ps.take i ++ [r] ++ ps.drop (i + 1)) := pairs_app (pairs_app (pairs_take i cN5.pr) (.cons enr5 .nil)) (pairs_drop (i + 1) cN5.pr)
        have gl : (ps.take i ++ [r] ++ ps.drop (i + 1)).length = ps.length := put_len hi
        refine ⟨.int L, rfl, fun x3 dx3 nx3 ndx3 _ => make_ok nx3 ndx3 ea5 p5 (put_good good hr2) (by omega) (by omega) (by omega) (by omega) (fun l3 HN6 nl3 _ u6 sl3 => ?_)⟩
        have cN6 := cN5.same u6
        refine eq_slab R.SC cN6.sl cN6.pr (by omega) sl3 (PairsAt.keep u6 p5) (by omega) false (by rw [decide_eq_false (put_ne eq hr1)]; rfl) ⟨_, rfl, iteF ?_⟩
        exact ⟨⟨_, rfl⟩, cN6, sN.trans (u1.trans (u2.trans (u3.trans (u4.trans (u5.trans u6)))))⟩
      · rintro σ HN ⟨⟨v7, rfl⟩, cN, sN⟩
        clear sN
        refine ⟨.ref s, rfl, s, xs, rfl, .inl (SqL.of cN.ls), xs.length, 6, rfl, rfl, _, rfl, ?_⟩
        apply meet (R := fun HM => Ctx A.C T l s p lp xs ps L H HM)
        · intro k1
          by_cases hlt : xs.length < 6
          · rw [decide_eq_true (show (xs.length : Int) < 6 by omega)]
            refine iteT ?_
            refine ⟨.ref p, rfl, .ref s, rfl, (by show 2 ≤ sizeLine; decide), fun b1 nb1 => ?_⟩
            generalize hq1 : upd HN b1 _ = HN1
            obtain ⟨u1, eb1⟩ := eqU hq1 nb1
            have cN1 := cN.same u1
            refine ⟨(by show 1 ≤ sizeLine; decide), fun b2 nb2 => ?_⟩
            generalize hq2 : upd HN1 b2 _ = HN2
            obtain ⟨u2, eb2⟩ := eqU hq2 nb2
            have cN2 := cN1.same u2
            refine ⟨s, b2, _, _, rfl, rfl, SqL.of cN2.ls, SqL.of eb2, Nat.le_of_lt (small1000 (by simp only [List.length_cons, List.length_nil]; omega)), fun b3 nb3 => ?_⟩
            generalize hq3 : upd HN2 b3 _ = HN3
            obtain ⟨u3, eb3⟩ := eqU hq3 nb3
            have cN3 := cN2.same u3
            have p3 : PairsAt HN3 (xs ++ [.ref b1]) (ps ++ [(1, 1)]) := pairs_app cN3.pr (.cons ⟨b1, rfl, u3 _ _ (u2 _ _ eb1)⟩ .nil)
            have g3 : Good (ps ++ [(1, 1)]) := fun q hq => by
              rcases List.mem_append.mp hq with h | h
              · exact good q h
              · rw [List.mem_singleton.mp h]
                decide
            have gl : (ps ++ [((1 : Int), (1 : Int))]).length = ps.length + 1 := by simp
            refine ⟨.int L, rfl, fun x3 dx3 nx3 ndx3 _ => make_ok nx3 ndx3 eb3 p3 g3 (by omega) (by omega) (by omega) (by omega) (fun l3 HN6 nl3 _ u6 sl3 => ?_)⟩
            have cN6 := cN3.same u6
            refine eq_slab R.SC cN6.sl cN6.pr (by omega) sl3 (PairsAt.keep u6 p3) (by omega) false (by rw [decide_eq_false (fun z => by have := congrArg List.length z; omega)]; rfl) ⟨_, rfl, iteF ?_⟩
            exact k1 _ cN6
          · rw [decide_eq_false (show ¬ (xs.length : Int) < 6 by omega)]
            exact iteF (iteF (k1 _ cN))
        · clear cN
          intro HN cN
          -- the other way round
          refine ⟨.ref s, rfl, .ref s, rfl, s, xs, rfl, SqL.of cN.ls, fun r1 nr1 => ?_⟩
          generalize hq1 : upd HN r1 _ = HN1
          obtain ⟨u1, er1⟩ := eqU hq1 nr1
          have cN1 := cN.same u1
          refine ⟨_, _, .lst (SqL.of cN1.ls) (dpPairs cN1.pr), .lst (SqL.of er1) (dpPairs (pairs_rev cN1.pr)), dPairs_shaped _, dPairs_shaped _, _, rfl, ?_⟩
          rw [dPairs_eqv]
          clear u1 cN
          apply meet (R := fun HM => Ctx A.C T l s p lp xs ps L H HM)
          · intro k1
            by_cases hrv : ps = ps.reverse
            · rw [decide_eq_true hrv]
              exact iteF (iteF (k1 _ cN1))
            · rw [decide_eq_false hrv]
              refine iteT ?_
              refine ⟨.ref p, rfl, .ref s, rfl, s, xs, rfl, SqL.of cN1.ls, fun r2 nr2 => ?_⟩
              generalize hq2 : upd HN1 r2 _ = HN2
              obtain ⟨u2, er2⟩ := eqU hq2 nr2
              have cN2 := cN1.same u2
              have gr : Good ps.reverse := fun q hq => good q (List.mem_reverse.mp hq)
              have gl : ps.reverse.length = ps.length := List.length_reverse
              refine ⟨.int L, rfl, fun x3 dx3 nx3 ndx3 _ => make_ok nx3 ndx3 er2 (pairs_rev cN2.pr) gr (by omega) (by omega) (by omega) (by omega) (fun l3 HN6 nl3 _ u6 sl3 => ?_)⟩
              have cN6 := cN2.same u6
              refine eq_slab R.SC cN6.sl cN6.pr (by omega) sl3 (pairs_rev cN6.pr) (by omega) false (by rw [decide_eq_false hrv]; rfl) ⟨_, rfl, iteF ?_⟩
              exact k1 _ cN6
          · clear cN1 er1 nr1 hq1 HN1 HN r1
            intro HN cN
            -- what is no class
            refine ⟨.ref s, rfl, s, xs, rfl, .inl (SqL.of cN.ls), 1, rfl, (by show 1 ≤ sizeLine; decide), fun o0 no0 => ?_⟩
            generalize hq1 : upd HN o0 _ = HN1
            obtain ⟨u1, eo0⟩ := eqU hq1 no0
            have cN1 := cN.same u1
            refine fun o1 no1 => ?_
            generalize hq2 : upd HN1 o1 _ = HN2
            obtain ⟨u2, eo1⟩ := eqU hq2 no1
            have cN2 := cN1.same u2
            have eo0' := u2 _ _ eo0
            refine ⟨(by show 7 ≤ sizeLine; decide), fun ol nol => ?_⟩
            generalize hq3 : upd HN2 ol _ = HX
            obtain ⟨u3, eol⟩ := eqU hq3 nol
            have cX := cN2.same u3
            have eo0X := u3 _ _ eo0'
            have eo1X := u3 _ _ eo1
            clear cN cN1 cN2 u1 u2 u3 eo0 eo0' eo1 hq1 hq2 hq3
            refine ⟨ol, rfl, ⟨_, SqL.of eol⟩, ?_⟩
            refine for_list (xs := [.int (xs.length : Int), .int (-1), .bl true, .non, .str "0", .ref o0, .ref o1]) (fun _ σ HN => (∃ v8, σ = [some (.ref l), some (.ref s), some (.int L), some (.ref hd), some (.ref p), some (.ref td), some (.int i), v7, v8, none, none, none, none]) ∧ Ctx A.C T l s p lp xs ps L H HN ∧ ExtN HX HN) ⟨⟨_, rfl⟩, cX, ExtN.of (Same.refl _)⟩ (fun j σ HN _ z => SqL.of (z.2.2 _ _ eol fun q y => by cases y)) ?_ ?_
            · rintro j x σ HN hj ⟨⟨v8, rfl⟩, cN, sN⟩
              obtain ⟨tyx, nbx, fx⟩ : Ty HN x ∧ inB x 0 ((ps.length : Int) - 1) = false ∧ (flatB x = true ∨ ∃ c, x = .ref c) := by
                match j, hj with
                | 0, hj =>
                  cases hj
                  refine ⟨⟨_, .int _⟩, ?_, .inl rfl⟩
                  show (decide ((0 : Int) ≤ (xs.length : Int)) && decide ((xs.length : Int) ≤ (ps.length : Int) - 1)) = false
                  rw [decide_eq_false (show ¬ (xs.length : Int) ≤ (ps.length : Int) - 1 by omega), Bool.and_false]
                | 1, hj =>
                  cases hj
                  exact ⟨⟨_, .int _⟩, rfl, .inl rfl⟩
                | 2, hj =>
                  cases hj
                  exact ⟨⟨_, .bl _⟩, rfl, .inl rfl⟩
                | 3, hj =>
                  cases hj
                  exact ⟨⟨_, .non⟩, rfl, .inl rfl⟩
                | 4, hj =>
                  cases hj
                  exact ⟨⟨_, .str _⟩, rfl, .inl rfl⟩
                | 5, hj =>
                  cases hj
                  exact ⟨⟨_, .lst (sN _ _ eo0X fun q y => by cases y)⟩, rfl, .inr ⟨_, rfl⟩⟩
                | 6, hj =>
                  cases hj
                  exact ⟨⟨_, .dict (sN _ _ eo1X fun q y => by cases y)⟩, rfl, .inr ⟨_, rfl⟩⟩
              refine ⟨cN.tb, fun HL1 xL1 TL1 => ?_⟩
              have cL1 := cN.ext xL1 TL1
              obtain ⟨dx1, ob1⟩ := cL1.sl.ob
              refine ⟨.ref p, rfl, p, dx1, _, rfl, ob1, pk_no _ _ (by decide +kernel) (by decide +kernel), x, rfl, p, lp, xs, ps, L, x, rfl, cL1.sl, cL1.pr, Ty.keepN tyx xL1, fun i' q' ex eq' => ?_, fun _ d HR1 nd tr1 ed => .inr ⟨x, d, rfl, rfl, ed, fun pt1 HT1 npt tt1 ept1 => ?_⟩⟩
              · subst ex
                have hi' := (List.getElem?_eq_some_iff.mp eq').1
                have nb2 : (decide ((0 : Int) ≤ (i' : Int)) && decide ((i' : Int) ≤ (ps.length : Int) - 1)) = false := nbx
                rw [decide_eq_true (by omega), decide_eq_true (by omega)] at nb2
                cases nb2
              have cT1 := (cL1.same tr1).same tt1
              refine ⟨x, rfl, (by show 2 ≤ sizeLine; decide), fun py1 npy => ?_⟩
              generalize hy1 : upd HT1 py1 _ = HY1
              obtain ⟨uy1, epy1⟩ := eqU hy1 npy
              have cNa := cT1.same uy1
              have sNa : ExtN HX HY1 := sN.trans (xL1.trans ((ExtN.of tr1).trans ((ExtN.of tt1).trans (ExtN.of uy1))))
              have tyxa : Ty HY1 x := Ty.keepN tyx (xL1.trans ((ExtN.of tr1).trans ((ExtN.of tt1).trans (ExtN.of uy1))))
              refine ⟨pt1, py1, _, rfl, rfl, SqT.of (uy1 _ _ ept1), SqT.of epy1, fun z hz => ?_, _, rfl, iteF ?_⟩
              · simp only [List.mem_cons, List.not_mem_nil, or_false] at hz
                rcases hz with rfl | rfl
                · exact .inl rfl
                · exact fx
              refine ⟨cNa.tb, fun HL2 xL2 TL2 => ?_⟩
              have cL2 := cNa.ext xL2 TL2
              obtain ⟨dx2, ob2⟩ := cL2.sl.ob
              refine ⟨.ref p, rfl, p, dx2, _, rfl, ob2, pk_no _ _ (by decide +kernel) (by decide +kernel), x, rfl, p, lp, xs, ps, L, x, rfl, cL2.sl, cL2.pr, Ty.keepN tyxa xL2, fun i' q' ex eq' => ?_, fun _ d HR2 nd tr2 ed => .inr ⟨x, d, rfl, rfl, ed, fun pt2 HT2 npt tt2 ept2 => ?_⟩⟩
              · subst ex
                have hi' := (List.getElem?_eq_some_iff.mp eq').1
                have nb2 : (decide ((0 : Int) ≤ (i' : Int)) && decide ((i' : Int) ≤ (ps.length : Int) - 1)) = false := nbx
                rw [decide_eq_true (by omega), decide_eq_true (by omega)] at nb2
                cases nb2
              have cT2 := (cL2.same tr2).same tt2
              refine ⟨x, rfl, (by show 2 ≤ sizeLine; decide), fun py2 npy => ?_⟩
              generalize hy2 : upd HT2 py2 _ = HY2
              obtain ⟨uy2, epy2⟩ := eqU hy2 npy
              have cNb := cT2.same uy2
              have sNb : ExtN HX HY2 := sNa.trans (xL2.trans ((ExtN.of tr2).trans ((ExtN.of tt2).trans (ExtN.of uy2))))
              have tyxb : Ty HY2 x := Ty.keepN tyxa (xL2.trans ((ExtN.of tr2).trans ((ExtN.of tt2).trans (ExtN.of uy2))))
              refine ⟨pt2, py2, _, rfl, rfl, SqT.of (uy2 _ _ ept2), SqT.of epy2, fun z hz => ?_, _, rfl, iteF ?_⟩
              · simp only [List.mem_cons, List.not_mem_nil, or_false] at hz
                rcases hz with rfl | rfl
                · exact .inl rfl
                · exact fx
              exact ⟨⟨_, rfl⟩, cNb, sNb⟩
            · rintro σ HN ⟨⟨v8, rfl⟩, cN, sN⟩
              clear cX sN eol eo0X eo1X no0 no1 nol HX HN1 HN2
              -- bent
              have neW : ∀ {a : Addr} {ys : List V}, HN a = some (.tup ys) → a ≠ l := fun {a ys} e q => by
                obtain ⟨w1, w2, w3, w4⟩ := cN.W
                rw [q, w4] at e
                cases e
              have bt0 : Bent l HN s xs 6 := ⟨cN.ls, cN.n1, fun x hx => by
                obtain ⟨j, hj⟩ := List.mem_iff_getElem?.mp hx
                obtain ⟨q', _, t', rfl, et'⟩ := pairs_get cN.pr hj
                refine TyF.tup et' (neW et') fun y hy => ?_
                simp only [List.mem_cons, List.not_mem_nil, or_false] at hy
                rcases hy with rfl | rfl <;> rfl, by omega⟩
              refine ⟨.ref l, rfl, .ref s, rfl, l, s, xs, rfl, cN.W, bt0, fun HB sb xb stb bt => ?_⟩
              have cB := cN.st1 stb
              have okB : Okc HB (.ref sb) := ⟨⟨_, .lst bt.ls⟩, fun a ys ea e => by
                cases ea
                rw [bt.ls] at e
                cases e
                exact ⟨by have := bt.len; omega, fun x hx => (bt.it x hx).ty⟩⟩
              clear neW bt0
              -- the six of them
              refine ⟨.ref sb, rfl, .ref s, rfl, s, xs, rfl, .inl ⟨SqL.of cB.ls, fun g1 ng1 => ?_⟩⟩
              generalize hg1 : upd HB g1 _ = HG1
              obtain ⟨w1, eg1⟩ := eqU hg1 ng1
              have cG1 := cB.same w1
              refine fun g2 ng2 => ?_
              generalize hg2 : upd HG1 g2 _ = HG2
              obtain ⟨w2, eg2⟩ := eqU hg2 ng2
              have cG2 := cG1.same w2
              refine ⟨(by show 0 ≤ sizeLine; decide), fun g3 ng3 => ?_⟩
              generalize hg3 : upd HG2 g3 _ = HG3
              obtain ⟨w3, eg3⟩ := eqU hg3 ng3
              have cG3 := cG2.same w3
              refine ⟨(by show 2 ≤ sizeLine; decide), fun g4 ng4 => ?_⟩
              generalize hg4 : upd HG3 g4 _ = HG4
              obtain ⟨w4, eg4⟩ := eqU hg4 ng4
              have cG4 := cG3.same w4
              refine ⟨(by show 1 ≤ sizeLine; decide), fun g5 ng5 => ?_⟩
              generalize hg5 : upd HG4 g5 _ = HG5
              obtain ⟨w5, eg5⟩ := eqU hg5 ng5
              have cG5 := cG4.same w5
              refine ⟨g5, 7, _, rfl, rfl, eg5, by decide, by decide, (by show 1 * 7 ≤ sizeLine; decide), fun g6 ng6 => ?_⟩
              generalize hg6 : upd HG5 g6 _ = HG6
              obtain ⟨w6, eg6⟩ := eqU hg6 ng6
              have cG6 := cG5.same w6
              refine ⟨(by show 6 ≤ sizeLine; decide), fun g7 ng7 => ?_⟩
              generalize hg7 : upd HG6 g7 _ = HG7
              obtain ⟨w7, eg7⟩ := eqU hg7 ng7
              have cG7 := cG6.same w7
              have okX : ∀ x ∈ ([.ref sb, .ref g1, .non, .ref g2, .ref g3, .ref g6] : List V), Okc HG7 x := by
                intro x hx
                simp only [List.mem_cons, List.not_mem_nil, or_false] at hx
                have v6 := w7
                have v5 := w6.trans v6
                have v4 := w5.trans v5
                have v3 := w4.trans v4
                have v2 := w3.trans v3
                have v1 := w2.trans v2
                rcases hx with rfl | rfl | rfl | rfl | rfl | rfl
                · exact okB.keepN (ExtN.of (w1.trans v1))
                · have e' := v1 _ _ eg1
                  refine ⟨⟨_, .tup e'⟩, fun a ys ea e => ?_⟩
                  cases ea
                  rw [e'] at e
                  cases e
                · exact ⟨⟨_, .non⟩, fun a ys ea => nomatch ea⟩
                · have e' := v2 _ _ eg2
                  refine ⟨⟨_, .dict e'⟩, fun a ys ea e => ?_⟩
                  cases ea
                  rw [e'] at e
                  cases e
                · have e' := v3 _ _ eg3
                  refine ⟨⟨_, .lst e'⟩, fun a ys ea e => ?_⟩
                  cases ea
                  rw [e'] at e
                  cases e
                  exact ⟨Nat.zero_le _, fun x hx => absurd hx List.not_mem_nil⟩
                · have e' := v6 _ _ eg6
                  have e4 := v4 _ _ eg4
                  refine ⟨⟨_, .lst e'⟩, fun a ys ea e => ?_⟩
                  cases ea
                  rw [e'] at e
                  cases e
                  refine ⟨(by show 7 ≤ 1000; decide), fun x hx => ?_⟩
                  have ex : x = .ref g4 := by
                    obtain ⟨l1, h1, h2⟩ := List.mem_flatten.mp hx
                    rw [(List.mem_replicate.mp h1).2] at h2
                    exact List.mem_singleton.mp h2
                  subst ex
                  refine ⟨⟨_, .tup e4⟩, fun b zs eb ez y hy => ?_⟩
                  cases eb
                  rw [e4] at ez
                  cases ez
                  simp only [List.mem_cons, List.not_mem_nil, or_false] at hy
                  rcases hy with rfl | rfl
                  · exact ⟨_, .int _⟩
                  · exact ⟨_, .int _⟩
              clear hg1 hg2 hg3 hg4 hg5 hg6 hg7 w1 w2 w3 w4 w5 w6 w7 ng1 ng2 ng3 ng4 ng5 ng6 cG1 cG2 cG3 cG4 cG5 cG6 eg1 eg2 eg3 eg4 eg5 eg6
              refine ⟨g7, rfl, ⟨_, SqL.of eg7⟩, ?_⟩
              refine for_list (xs := [.ref sb, .ref g1, .non, .ref g2, .ref g3, .ref g6]) (fun _ σ HN => (∃ v10 v11, σ = [some (.ref l), some (.ref s), some (.int L), some (.ref hd), some (.ref p), some (.ref td), some (.int i), v7, v8, some (.ref sb), v10, v11, none]) ∧ Ctx A.C T l s p lp xs ps L H HN ∧ ExtN HG7 HN) ⟨⟨_, _, rfl⟩, cG7, ExtN.refl _⟩ (fun j σ HN _ z => SqL.of (z.2.2 _ _ eg7 fun q y => by cases y)) ?_ ?_
              · rintro j x σ HN hj ⟨⟨v10, v11, rfl⟩, cN, sN⟩
                have ok := (okX x (List.mem_of_getElem? hj)).keepN sN
                refine ⟨x, rfl, .int L, rfl, x, .int L, rfl, ok.1, ⟨_, .int L⟩, ok.2, fun HD sD => ?_⟩
                have cD := cN.same sD
                have okD := ok.keepN (ExtN.of sD)
                have eb := badI_keepN (lim := .int L) ok (ExtN.of sD)
                have sND : ExtN HG7 HD := sN.trans (ExtN.of sD)
                cases hbi : badI HN x (.int L) with
                | none =>
                  have ev : badV HN x (.int L) = .non := by
                    unfold badV
                    rw [hbi]
                  rw [ev]
                  refine ⟨cD.tb, fun HL xL TL => ?_⟩
                  have cL := cD.ext xL TL
                  have okL := okD.keepN xL
                  have ebL : badI HL x (.int L) = none := by rw [badI_keepN okD xL, eb, hbi]
                  refine ⟨x, rfl, .int L, rfl, fun y dy ny ndy _ => init_any ny ndy okL ⟨_, .int L⟩ (fun i e => by rw [ebL] at e; cases e) (fun _ a' xs' L' lq H2 ea eL exs nlq nlqy t2 sl2 => ?_)⟩
                  have c2 := cL.same t2
                  refine ⟨.non, rfl, (by show 2 ≤ sizeLine; decide), fun j1 nj1 => ?_⟩
                  generalize hj1 : upd H2 j1 _ = HJ1
                  obtain ⟨q1, ej1⟩ := eqU hj1 nj1
                  refine ⟨(by show 2 ≤ sizeLine; decide), fun j2 nj2 => ?_⟩
                  generalize hj2 : upd HJ1 j2 _ = HJ2
                  obtain ⟨q2, ej2⟩ := eqU hj2 nj2
                  refine ⟨.non, rfl, rfl, .inr ⟨_, rfl, j2, _, 1, .non, rfl, (by simp), SqL.of ej2, rfl, ?_⟩⟩
                  refine ⟨_, _, .non, .non, rfl, rfl, _, rfl, iteF ?_⟩
                  exact ⟨⟨_, _, rfl⟩, (c2.same q1).same q2, sND.trans (xL.trans ((ExtN.of t2).trans ((ExtN.of q1).trans (ExtN.of q2))))⟩
                | some ix =>
                  have ev : badV HN x (.int L) = .int ix := by
                    unfold badV
                    rw [hbi]
                  rw [ev]
                  refine ⟨cD.tb, fun HL xL TL => ?_⟩
                  have cL := cD.ext xL TL
                  have okL := okD.keepN xL
                  have ebL : badI HL x (.int L) = some ix := by rw [badI_keepN okD xL, eb, hbi]
                  refine ⟨x, rfl, .int L, rfl, fun y dy ny ndy _ => init_any ny ndy okL ⟨_, .int L⟩ (fun i' e d HR nd tr ed => .inl ⟨.int i', d, rfl, rfl, ed, fun pt HT npt tt ept => ?_⟩) (fun e => by rw [ebL] at e; cases e)⟩
                  rw [ebL] at e
                  cases e
                  have cT := (cL.same tr).same tt
                  refine ⟨.int ix, rfl, (by show 2 ≤ sizeLine; decide), fun j1 nj1 => ?_⟩
                  generalize hj1 : upd HT j1 _ = HJ1
                  obtain ⟨q1, ej1⟩ := eqU hj1 nj1
                  refine ⟨(by show 2 ≤ sizeLine; decide), fun j2 nj2 => ?_⟩
                  generalize hj2 : upd HJ1 j2 _ = HJ2
                  obtain ⟨q2, ej2⟩ := eqU hj2 nj2
                  refine ⟨.int ix, rfl, rfl, .inr ⟨_, rfl, j2, _, 0, .ref j1, rfl, (by simp), SqL.of ej2, rfl, ?_⟩⟩
                  have sh := shSlab ix
                  refine ⟨_, _, .tup (SqT.of (q2 _ _ (q1 _ _ ept))) (.cons (.str _) (.cons (.int _) .nil)), .tup (SqT.of (q2 _ _ ej1)) (.cons (.str _) (.cons (.int _) .nil)), sh, sh, _, rfl, ?_⟩
                  rw [SeqAt.eqv_refl _ (SeqAt.canLay_of_shaped sh)]
                  refine iteF ?_
                  exact ⟨⟨_, _, rfl⟩, (cT.same q1).same q2, sND.trans (xL.trans ((ExtN.of tr).trans ((ExtN.of tt).trans ((ExtN.of q1).trans (ExtN.of q2)))))⟩
              · rintro σ HN ⟨⟨v10, v11, rfl⟩, cN, sN⟩
                clear sN okX eg7 ng7 okB stb bt cB
                refine ⟨1, rfl, 10, 6, rfl, rfl, (by unfold CPow; decide), _, 1, rfl, rfl, (by show 1 ≤ sizeLine; decide), fun g1 ng1 => ?_⟩
                generalize hg1 : upd HN g1 _ = HG1
                obtain ⟨w1, eg1⟩ := eqU hg1 ng1
                have cG1 := cN.same w1
                refine ⟨(by show 6 ≤ sizeLine; decide), fun g2 ng2 => ?_⟩
                generalize hg2 : upd HG1 g2 _ = HG2
                obtain ⟨w2, eg2⟩ := eqU hg2 ng2
                have cG2 := cG1.same w2
                replace eg1 := w2 _ _ eg1
                refine ⟨g2, rfl, ⟨_, SqL.of eg2⟩, ?_⟩
                refine for_list (xs := [.int (-1), .int (10 ^ 6 + 1), .bl true, .non, .str "9", .ref g1]) (fun _ σ HN => (∃ v8, σ = [some (.ref l), some (.ref s), some (.int L), some (.ref hd), some (.ref p), some (.ref td), some (.int i), v7, v8, some (.ref sb), v10, v11, none]) ∧ Ctx A.C T l s p lp xs ps L H HN ∧ ExtN HG2 HN) ⟨⟨_, rfl⟩, cG2, ExtN.refl _⟩ (fun j σ HN _ z => SqL.of (z.2.2 _ _ eg2 fun q y => by cases y)) ?_ ?_
                · rintro j x σ HN2 hj ⟨⟨v8', rfl⟩, cN2, sN2⟩
                  obtain ⟨tyx, nbx⟩ : Ty HN2 x ∧ inB x 0 1000000 = false := by
                    match j, hj with
                    | 0, hj =>
                      cases hj
                      exact ⟨⟨_, .int _⟩, rfl⟩
                    | 1, hj =>
                      cases hj
                      exact ⟨⟨_, .int _⟩, by decide⟩
                    | 2, hj =>
                      cases hj
                      exact ⟨⟨_, .bl _⟩, rfl⟩
                    | 3, hj =>
                      cases hj
                      exact ⟨⟨_, .non⟩, rfl⟩
                    | 4, hj =>
                      cases hj
                      exact ⟨⟨_, .str _⟩, rfl⟩
                    | 5, hj =>
                      cases hj
                      exact ⟨⟨_, .lst (sN2 _ _ eg1 fun q y => by cases y)⟩, rfl⟩
                  refine ⟨cN2.tb, fun HL xL TL => ?_⟩
                  have cL := cN2.ext xL TL
                  refine ⟨(by show 1 ≤ sizeLine; decide), fun m1 nm1 => ?_⟩
                  generalize hm1 : upd HL m1 _ = HM1
                  obtain ⟨r1, em1⟩ := eqU hm1 nm1
                  have cM := cL.same r1
                  have tyM : Ty HM1 x := Ty.keepN (Ty.keepN tyx xL) (ExtN.of r1)
                  have okM : Okc HM1 (.ref m1) := ⟨⟨_, .lst em1⟩, fun a ys ea e => by
                    cases ea
                    rw [em1] at e
                    cases e
                    refine ⟨(by show 1 ≤ 1000; decide), fun x hx => ?_⟩
                    rw [List.mem_singleton.mp hx]
                    exact ⟨⟨_, .non⟩, fun b zs eb => nomatch eb⟩⟩
                  have ebM : badI HM1 (.ref m1) x = some (-1) := by
                    show (match HM1 m1 with | some (.lst xs) => if (decide (1 ≤ xs.length) && decide (xs.length ≤ 6)) = true then (if inB x 0 1000000 = true then badL HM1 xs else some (-1)) else some (-1) | _ => some (-1)) = some (-1)
                    rw [em1]
                    show (if _ = true then (if inB x 0 1000000 = true then badL HM1 _ else some (-1)) else some (-1)) = some (-1)
                    rw [nbx]
                    rfl
                  refine ⟨x, rfl, fun y dy ny ndy _ => init_any ny ndy okM tyM (fun i' e d HR nd tr ed => .inl ⟨.int i', d, rfl, rfl, ed, fun pt HT npt tt ept => ?_⟩) (fun e => by rw [ebM] at e; cases e)⟩
                  rw [ebM] at e
                  cases e
                  have cT := (cM.same tr).same tt
                  refine ⟨1, rfl, (by show 2 ≤ sizeLine; decide), fun j1 nj1 => ?_⟩
                  generalize hj1 : upd HT j1 _ = HJ1
                  obtain ⟨q1, ej1⟩ := eqU hj1 nj1
                  have sh := shSlab (-1)
                  refine ⟨_, _, .tup (SqT.of (q1 _ _ ept)) (.cons (.str _) (.cons (.int _) .nil)), .tup (SqT.of ej1) (.cons (.str _) (.cons (.int _) .nil)), sh, sh, _, rfl, ?_⟩
                  rw [SeqAt.eqv_refl _ (SeqAt.canLay_of_shaped sh)]
                  refine iteF ?_
                  exact ⟨⟨_, rfl⟩, cT.same q1, sN2.trans (xL.trans ((ExtN.of r1).trans ((ExtN.of tr).trans ((ExtN.of tt).trans (ExtN.of q1)))))⟩
                · rintro σ HN3 ⟨⟨v8', rfl⟩, cN3, sN3⟩
                  exact k _ cN3.R cN3.tb

end
end K01
set_option Elab.async false
set_option linter.all false
set_option maxRecDepth 100000
set_option maxHeartbeats 4000000
namespace K01
open PySem PySem.Spec PyProof.Rows L2 XV SL LamX
theorem cut_int {ms : List Int} {lo hi : Option Int} {i : Nat} {y : V} (h : (cutV (ms.map V.int) lo hi)[i]? = some y) : ∃ z, y = V.int z := by
  have hm : y ∈ ms.map V.int := List.mem_of_mem_drop (List.mem_of_mem_take (List.mem_of_getElem? h))
  obtain ⟨z, _, e⟩ := List.mem_map.mp hm
  exact ⟨z, e.symm⟩
section
variable {P : Program} {w : World} {K : PySem.W.Frag} {mg : Str → Option Value} {base : Heap}
def spLaw (K : PySem.W.Frag) (T : List (Addr × Str)) : Sp := fun vs H Q _ => ∃ (a : Addr) (ns : List Int), vs = [.ref a] ∧ SqL K H a (ns.map V.int) ∧ ns.length ≤ 63 ∧ Tabs T H ∧ ∀ H', Q (.bl true) H'
theorem ok_law {A : AD} {T : List (Addr × Str)} {f fR : Addr} {fd dR : FuncData} (F : Fun K "law" "law" s_law f fd) (R : RF P w K mg base A)
    (GR : FnOk P w K mg base CX0 8 fR dR ["_law_well"] (spRight T)) (mR : mg "_law_right" = some (.ref fR)) (kR : PySem.W.keepIn K (.ref fR) = true) (bR : Binds K dR ["_law_well"] []) :
    FnOk P w K mg base CX0 9 f fd ["_law_script"] (spLaw K T) := by
  have B := R.B
  refine F.ok sc_law (fun vs H Q E h => ?_) (fun cdv Ar outer s H vs Q E hr h => ?_)
  · obtain ⟨a, ns, rfl, _⟩ := h
    rfl
  · obtain ⟨a, ns, rfl, hS, hlen, hT, k⟩ := h
    refine ⟨_, (pss_cons (ps_for PassesOwn.never rfl (pi_enum (by rfl) B.b_enumerate (pa_cons (pe_slice sl_list (pe_op op_catS (pv 0) (pe_lst (pa_cons pe_int pa_nil))) po_none (po_some pe_int)) pa_nil)) (pg_tup rfl (pgs_cons (pg_name (i := 1) sc_law.nd rfl (Or.inl rfl)) (pgs_cons (pg_name (i := 2) sc_law.nd rfl (Or.inl rfl)) pgs_nil)))
      (pss_one (ps_if (pt_not (pt_val (pe_call GR (hr.mono (by decide)) rfl mR kR bR .nil pass0 (pa_cons (pe_lst (pa_cons (pe_op op_mul (pv 2) (pe_callTy call_int1 (by rfl) B.b_int (by decide +kernel) (pa_cons (pe_cmpR op_ge (pv 2) (pe_op op_pow pe_int pe_int) (nomark _)) pa_nil))) (pa_cons (pe_op op_add (pe_op op_mod (pe_callTy call_int1 (by rfl) B.b_int (by decide +kernel) (pa_cons (pv 2) pa_nil)) pe_int) (pe_op op_mul pe_int (pv 1))) (pa_cons pe_int pa_nil)))) pa_nil)))) (pss_one (ps_ret pe_bl)) pss_nil)))
      (pss_one (ps_ret (pe_and (pe_cmpR op_eq (pe_meth0 (pe_make R.MK R.GI (hr.mono (by decide)) rfl R.SC.gC R.bI .nil passL (pa_cons (pe_op op_rep (pe_lst (pa_cons (pe_tup (pa_cons pe_int (pa_cons pe_int pa_nil))) pa_nil)) pe_int) (pa_cons (pe_op op_pow pe_int pe_int) pa_nil))) R.SC.cl R.ml R.Gl (hr.mono (by decide)) R.bl .nil pass0) (pe_op op_pow pe_int pe_int) (nomark _)) (pe_one (pe_cmpR op_eq (pe_meth0 (pe_make R.MK R.GI (hr.mono (by decide)) rfl R.SC.gC R.bI .nil passL (pa_cons (pe_lst (pa_cons (pe_tup (pa_cons pe_int (pa_cons pe_int pa_nil))) pa_nil)) (pa_cons pe_int pa_nil))) R.SC.cl R.ml R.Gl (hr.mono (by decide)) R.bl .nil pass0) pe_int (nomark _))))))), ?_⟩
    refine ⟨.ref a, rfl, (by show 1 ≤ sizeLine; decide), fun p1 np1 => ?_⟩
    generalize h1 : upd _ p1 _ = H1
    obtain ⟨t1, e1⟩ := eqU h1 np1
    refine ⟨a, p1, _, _, rfl, rfl, t1.seq hS, SqL.of e1, (by rw [List.length_map, sizeLine_eq]; show ns.length + 1 ≤ _; omega), fun p2 np2 => ?_⟩
    have ec : ns.map V.int ++ [V.int 0] = (ns ++ [0]).map V.int := by simp
    rw [ec]
    generalize h2 : upd _ p2 _ = H2
    obtain ⟨t2, e2⟩ := eqU h2 np2
    refine ⟨6, rfl, p2, _, rfl, SqL.of e2, fun p3 np3 => ?_⟩
    generalize hcut : cutV _ _ _ = L
    have hint : ∀ (i : Nat) (y : V), L[i]? = some y → ∃ z, y = V.int z := fun i y h => by
      subst hcut
      exact cut_int h
    generalize h3 : upd _ p3 _ = H3
    obtain ⟨t3, e3⟩ := eqU h3 np3
    have T3 : Tabs T H3 := ((hT.ext t1).ext t2).ext t3
    refine ⟨p3, L, rfl, SqL.of e3, for_it (walk_enum (K := K) (a := p3) (xs := L)) (fun i σ H4 => ∃ y1 y2, σ = [some (.ref a), y1, y2] ∧ H4 p3 = some (.lst L) ∧ Tabs T H4) ⟨_, _, rfl, e3, T3⟩ (fun i σ H4 _ ⟨_, _, _, z, _⟩ => SqL.of z) ?_ ?_⟩
    · rintro j x σ H4 H5 hj ⟨y1, y2, rfl, e4, T4⟩ ⟨T', x1, x2, rfl, nT, rfl, g1, g2⟩
      cases g1
      obtain ⟨z, rfl⟩ := hint j x2 g2
      generalize h6 : upd H4 T' _ = H6
      obtain ⟨t6, e6⟩ := eqU h6 nT
      refine ⟨T', _, rfl, SqT.of e6, rfl, _, _, rfl, _, _, rfl, rfl, ?_⟩
      refine ⟨.int z, rfl, .int z, rfl, 10, 18, rfl, rfl, ⟨by decide, by decide, by decide⟩, z, _, rfl, rfl, .inr ⟨_, rfl, z, _, rfl, rfl, .inr ?_, ?_⟩⟩
      · split
        · exact ⟨by decide, by decide⟩
        · exact ⟨by decide, by decide⟩
      refine ⟨.int z, rfl, .inl ⟨z, rfl, z, 2147483647, rfl, rfl, (by show (0 : Int) < 2147483647; decide), .int j, rfl, 7919, j, rfl, rfl, .inl ⟨by decide, by decide⟩, _, _, rfl, rfl, ?_⟩⟩
      refine ⟨(by show 3 ≤ sizeLine; decide), fun l nl => ?_⟩
      generalize h7 : upd _ l _ = H7
      obtain ⟨t7, e7⟩ := eqU h7 nl
      have e4' := t7 _ _ (t6 _ _ e4)
      refine ⟨l, rfl, ⟨_, _, _, e7⟩, (T4.ext t6).ext t7, fun H8 b8 T8 => ⟨_, rfl, iteF ?_⟩⟩
      refine ⟨_, _, rfl, b8 _ _ e4' (ne_of_none (t6 _ _ e4) nl) (fun q y => by cases y), T8⟩
    · rintro σ H4 ⟨y1, y2, rfl, e4, T4⟩
      refine ⟨(by show 2 ≤ sizeLine; decide), fun b1 nb1 => ?_⟩
      generalize hq1 : upd H4 b1 _ = HN1
      obtain ⟨u1, eb1⟩ := eqU hq1 nb1
      refine ⟨(by show 1 ≤ sizeLine; decide), fun b2 nb2 => ?_⟩
      generalize hq2 : upd HN1 b2 _ = HN2
      obtain ⟨u2, eb2⟩ := eqU hq2 nb2
      refine ⟨b2, 6, _, rfl, rfl, eb2, by decide, by decide, (by show 1 * 6 ≤ sizeLine; decide), fun b3 nb3 => ?_⟩
      generalize hq3 : upd HN2 b3 _ = HN3
      obtain ⟨u3, eb3⟩ := eqU hq3 nb3
      have pa : PairAt HN3 (.ref b1) (1000, 60) := ⟨b1, rfl, u3 _ _ (u2 _ _ eb1)⟩
      have p3 : PairsAt HN3 [.ref b1, .ref b1, .ref b1, .ref b1, .ref b1, .ref b1] [(1000, 60), (1000, 60), (1000, 60), (1000, 60), (1000, 60), (1000, 60)] := .cons pa (.cons pa (.cons pa (.cons pa (.cons pa (.cons pa .nil)))))
      refine ⟨10, 6, rfl, rfl, (by unfold CPow; decide), fun x3 dx3 nx3 ndx3 _ => make_ok nx3 ndx3 eb3 p3 (by unfold Good; decide) (by decide) (by decide) (by decide) (by decide) (fun l3 HN6 nl3 _ u6 sl3 => ?_)⟩
      obtain ⟨dx, ob⟩ := sl3.ob
      refine ⟨x3, dx, _, rfl, ob, pk_no _ _ (by decide +kernel) (by decide +kernel), x3, l3, _, _, rfl, sl3, ?_⟩
      refine ⟨10, 6, rfl, rfl, (by unfold CPow; decide), rfl, _, rfl, ?_⟩
      rw [decide_eq_true rfl]
      refine iteT ?_
      refine ⟨(by show 2 ≤ sizeLine; decide), fun b4 nb4 => ?_⟩
      generalize hq4 : upd HN6 b4 _ = HN7
      obtain ⟨u4, eb4⟩ := eqU hq4 nb4
      refine ⟨(by show 1 ≤ sizeLine; decide), fun b5 nb5 => ?_⟩
      generalize hq5 : upd HN7 b5 _ = HN8
      obtain ⟨u5, eb5⟩ := eqU hq5 nb5
      have p5 : PairsAt HN8 [.ref b4] [(1, 1)] := .cons ⟨b4, rfl, u5 _ _ eb4⟩ .nil
      refine fun x6 dx6 nx6 ndx6 _ => make_ok nx6 ndx6 eb5 p5 (by unfold Good; decide) (by decide) (by decide) (by decide) (by decide) (fun l6 HN9 nl6 _ u9 sl6 => ?_)
      obtain ⟨dx', ob'⟩ := sl6.ob
      refine ⟨x6, dx', _, rfl, ob', pk_no _ _ (by decide +kernel) (by decide +kernel), x6, l6, _, _, rfl, sl6, rfl, ?_⟩
      show Q (.bl (decide (V.int 0 = V.int 0))) HN9
      rw [decide_eq_true rfl]
      exact k _
end
/-! ### what the top has written -/
/-- a def of the top, found -/
def DefAt (K : PySem.W.Frag) (mg : Str → Option Value) (x : Str) (st : Stmt) : Prop := ∃ f fd, Fun K x x st f fd ∧ mg x = some (.ref f)
theorem def_mk {K : PySem.W.Frag} {h : Heap} {mg : Str → Option Value} {x : Str} {st : Stmt} {f : Addr} {oc : Value} {od an : Option Addr} {osl : Array (Option Value)} {kV doc pm cdv ct : Value} (X : K.In h) (G : h.Ns mainGlobals mg)
    (a : PySem.W.nsIn K mainGlobals x = some (some (.ref f))) (l : K.lookup f = some ⟨oc, od, .func (PySem.W.fnOf x x (defArgs st) (defBody st) (defScope st) .none kV doc pm an cdv ct), osl⟩)
    (c : PySem.W.codeIn K cdv x = true) (k : PySem.W.keepIn K (.ref f) = true) : DefAt K mg x st := ⟨f, _, fun_mk l c k, PySem.W.mg_of X G a⟩
/-- the table of code objects of the def y of the top: empty -/
def TabOf (h : Heap) (mg : Str → Option Value) (y : Str) : Prop := ∃ (fb : Addr) (o : Obj) (fd : FuncData) (c P : Addr), mg y = some (.ref fb) ∧ h.get? fb = some o ∧ o.data = .func fd ∧ fd.code = .ref c ∧ PySem.W.CodeHd h c P ∧ h.get? P = some { cls := .none, data := .fields #[] }
theorem no_tab {K : PySem.W.Frag} {h : Heap} {P : Addr} (X : K.In h) (n : PySem.W.noTabs K = true) (e : h.get? P = some { cls := .none, data := .fields #[] }) : K.lookup P = none := by
  cases q : K.lookup P with
  | none => rfl
  | some o =>
    have e2 := X _ _ q
    rw [e] at e2
    cases e2
    have h2 := List.all_eq_true.mp n (P, _) (PySem.W.mem_of_lookupK q)
    exact absurd (show false = true from h2) Bool.false_ne_true
/-- the end of a law one of whose defs makes lambdas -/
theorem walk_ofY {l : PySem.W.OpenLaw} {n k : Nat} {q : Program} {loose : List Str} {XP : (Str → Option Value) → Heap → Prop} {YP : World → Heap → Prop} {d : DefRec} {K : Params → PySem.W.Frag} {x : Str} (y : Str)
    (hn : l.most = some n) (hn2 : n ≤ sizeLine) (hdf : d.params.defaults = []) (hr : Room k callerA) (hrec : ((recsOf q).any fun e => e.name == y) = true) (hY : ∀ (w : World) (h : Heap), YP w h → (K w.params).In h)
    (F : ∀ (w : World) (mg : Str → Option Value) (fa : Addr) (h : Heap), (K w.params).In h → h.Ns mainGlobals mg → mg d.name = some (.ref fa) → TabOf h mg y → LawAtS l w (K w.params) CX0 k n x mg fa h) :
    PySem.W.WalkO q loose XP YP l.row.toRowW d [] (fun f vs => PySem.call f vs) := by
  refine Att.attach_callB hn hdf fun w s₀ s₁ mg mb fa o pm cd doc a vs ns G Y ho hd hcd hmg hobj hints hlen hbits hg => ?_
  have KX := hY w _ Y
  have own : TabOf s₁.heap mg y := by
    obtain ⟨dL, hm, hn1⟩ := List.any_eq_true.mp hrec
    have hn2 : dL.name = y := beq_iff_eq.mp hn1
    obtain ⟨a', o', fd', c', P', h1, h2, h3, h4, h5, h6⟩ := G.T.tab dL hm
    rw [hn2] at h1
    exact ⟨a', o', fd', c', P', h1, h2, h3, h4, PySem.W.CodeHd.of h5 h6, h6.2⟩
  obtain ⟨fd, cs, sp, hT, nT, C, hb, hsp, hF⟩ := F w mg fa _ KX G.T.g hmg own
  exact law_callTs KX G.T.g G.T.b G.T.builtins G.T.nolimit hg hT nT C G.T.bmain hobj hints (Nat.le_trans hlen hn2) hr hF hb (fun H hH hS => hsp H a ns hlen hbits hH hS) fun H e s' z => z
/-- the facts of the top -/
theorem all_mk {l : PySem.W.OpenLaw} {w : World} {K : PySem.W.Frag} {h : Heap} {mg : Str → Option Value} {fa : Addr} (X : K.In h) (G : h.Ns mainGlobals mg) (hfa : mg "law" = some (.ref fa)) (nt : PySem.W.noTabs K = true) (tb : TabOf h mg "_law_right")
    {C : Addr}
    {fI : Addr} {ocI kVI docI pmI cdI ctI : Value} {odI anI : Option Addr} {slI : Array (Option Value)}
    {fL : Addr} {ocL kVL docL pmL cdL ctL : Value} {odL anL : Option Addr} {slL : Array (Option Value)}
    {fE : Addr} {ocE kVE docE pmE cdE ctE : Value} {odE anE : Option Addr} {slE : Array (Option Value)}
    {fc : Addr} {occ kVc docc pmc cdc ctc : Value} {odc anc : Option Addr} {slc : Array (Option Value)}
    {fl : Addr} {ocl kVl docl pml cdl ctl : Value} {odl anl : Option Addr} {sll : Array (Option Value)}
    {fb : Addr} {ocb kVb docb pmb cdb ctb : Value} {odb anb : Option Addr} {slb : Array (Option Value)}
    {fs : Addr} {ocs kVs docs pms cds cts : Value} {ods ans : Option Addr} {sls : Array (Option Value)}
    {fz : Addr} {ocz kVz docz pmz cdz ctz : Value} {odz anz : Option Addr} {slz : Array (Option Value)}
    {CS NS : Addr} {nmS qS : Str} {bsS : List Value} {snS : List Str} {subS : List Value} {abS : Bool} {colS : Option Bool} {ddS : Option Addr} {m0S m1S m2S m3S m5S : Option Value} {SS : Addr}
    {fXS : Addr} {ocXS kVXS docXS pmXS cdXS ctXS : Value} {odXS anXS : Option Addr} {slXS : Array (Option Value)}
    {CN NN : Addr} {nmN qN : Str} {bsN : List Value} {snN : List Str} {subN : List Value} {abN : Bool} {colN : Option Bool} {ddN : Option Addr} {m0N m1N m2N m3N m5N : Option Value} {SN : Addr}
    {fXN : Addr} {ocXN kVXN docXN pmXN cdXN ctXN : Value} {odXN anXN : Option Addr} {slXN : Array (Option Value)}
    {tclasses : Tok}
    {tsize : Tok}
    {tslots : Tok}
    {tlimit : Tok}
    (gC : PySem.W.nsIn K mainGlobals "Slab" = some (some (.ref C)))
    (pg : PySem.W.plainGet K C Str.empty = true)
    (hd : PySem.W.hasDictIn K C = true)
    (po : PySem.W.plainOver K C = true)
    (sa : PySem.W.findIn K (.ref C) "__setattr__" = some (some (.builtin "object.__setattr__")))
    (nP : PySem.W.findIn K (.ref C) "pairs" = some none)
    (nB : PySem.W.findIn K (.ref C) "bound" = some none)
    (ca : PySem.W.findIn K (.ref C) "__class__" = some (some (.builtin "object.__class__")))
    (sp : PySem.W.specialIn K (.builtin "object.__class__") "__get__" = some (some (.builtin "getset_descriptor.__get__")))
    (tk : PySem.W.takesIn K (.builtin "object.__class__") = some true)
    (mr : PySem.W.mroIn K C (.type "object") = some true)
    (kI : PySem.W.kitOne K (.ref C) (.ref C) = some true)
    (kT : PySem.W.kitOne K (.type "tuple") (.ref C) = some false)
    (fT : PySem.W.notFirst K C (.type "tuple") = true)
    (fC : PySem.W.notFirst K C (.ref C) = true)
    (mk : PySem.W.makesIn K C = true)
    (kC : PySem.W.keepIn K (.ref C) = true)
    (en : PySem.W.findIn K (.ref C) "__ne__" = some (some (.builtin "object.__ne__")))
    (a_I : PySem.W.findIn K (.ref C) "__init__" = some (some (.ref fI)))
    (i_I : PySem.W.isFn K (.ref fI) = true)
    (l_I : K.lookup fI = some ⟨ocI, odI, .func (PySem.W.fnOf "__init__" "Slab.__init__" (defArgs s_init) (defBody s_init) (defScope s_init) .none kVI docI pmI anI cdI ctI), slI⟩)
    (c_I : PySem.W.codeIn K cdI "Slab.__init__" = true)
    (k_I : PySem.W.keepIn K (.ref fI) = true)
    (a_L : PySem.W.findIn K (.ref C) "__len__" = some (some (.ref fL)))
    (i_L : PySem.W.isFn K (.ref fL) = true)
    (l_L : K.lookup fL = some ⟨ocL, odL, .func (PySem.W.fnOf "__len__" "Slab.__len__" (defArgs s_len) (defBody s_len) (defScope s_len) .none kVL docL pmL anL cdL ctL), slL⟩)
    (c_L : PySem.W.codeIn K cdL "Slab.__len__" = true)
    (k_L : PySem.W.keepIn K (.ref fL) = true)
    (a_E : PySem.W.findIn K (.ref C) "__eq__" = some (some (.ref fE)))
    (i_E : PySem.W.isFn K (.ref fE) = true)
    (l_E : K.lookup fE = some ⟨ocE, odE, .func (PySem.W.fnOf "__eq__" "Slab.__eq__" (defArgs s_eq) (defBody s_eq) (defScope s_eq) .none kVE docE pmE anE cdE ctE), slE⟩)
    (c_E : PySem.W.codeIn K cdE "Slab.__eq__" = true)
    (k_E : PySem.W.keepIn K (.ref fE) = true)
    (a_c : PySem.W.findIn K (.ref C) "classes" = some (some (.ref fc)))
    (i_c : PySem.W.isFn K (.ref fc) = true)
    (l_c : K.lookup fc = some ⟨occ, odc, .func (PySem.W.fnOf "classes" "Slab.classes" (defArgs s_classes) (defBody s_classes) (defScope s_classes) .none kVc docc pmc anc cdc ctc), slc⟩)
    (c_c : PySem.W.codeIn K cdc "Slab.classes" = true)
    (k_c : PySem.W.keepIn K (.ref fc) = true)
    (a_l : PySem.W.findIn K (.ref C) "limit" = some (some (.ref fl)))
    (i_l : PySem.W.isFn K (.ref fl) = true)
    (l_l : K.lookup fl = some ⟨ocl, odl, .func (PySem.W.fnOf "limit" "Slab.limit" (defArgs s_limit) (defBody s_limit) (defScope s_limit) .none kVl docl pml anl cdl ctl), sll⟩)
    (c_l : PySem.W.codeIn K cdl "Slab.limit" = true)
    (k_l : PySem.W.keepIn K (.ref fl) = true)
    (a_b : PySem.W.findIn K (.ref C) "bytes_of" = some (some (.ref fb)))
    (i_b : PySem.W.isFn K (.ref fb) = true)
    (l_b : K.lookup fb = some ⟨ocb, odb, .func (PySem.W.fnOf "bytes_of" "Slab.bytes_of" (defArgs s_bytes_of) (defBody s_bytes_of) (defScope s_bytes_of) .none kVb docb pmb anb cdb ctb), slb⟩)
    (c_b : PySem.W.codeIn K cdb "Slab.bytes_of" = true)
    (k_b : PySem.W.keepIn K (.ref fb) = true)
    (a_s : PySem.W.findIn K (.ref C) "slots_of" = some (some (.ref fs)))
    (i_s : PySem.W.isFn K (.ref fs) = true)
    (l_s : K.lookup fs = some ⟨ocs, ods, .func (PySem.W.fnOf "slots_of" "Slab.slots_of" (defArgs s_slots_of) (defBody s_slots_of) (defScope s_slots_of) .none kVs docs pms ans cds cts), sls⟩)
    (c_s : PySem.W.codeIn K cds "Slab.slots_of" = true)
    (k_s : PySem.W.keepIn K (.ref fs) = true)
    (a_z : PySem.W.findIn K (.ref C) "size_class" = some (some (.ref fz)))
    (i_z : PySem.W.isFn K (.ref fz) = true)
    (l_z : K.lookup fz = some ⟨ocz, odz, .func (PySem.W.fnOf "size_class" "Slab.size_class" (defArgs s_size_class) (defBody s_size_class) (defScope s_size_class) .none kVz docz pmz anz cdz ctz), slz⟩)
    (c_z : PySem.W.codeIn K cdz "Slab.size_class" = true)
    (k_z : PySem.W.keepIn K (.ref fz) = true)
    (gS : PySem.W.nsIn K mainGlobals "NoSlab" = some (some (.ref CS)))
    (xS : K.lookup CS = some (excClassObj nmS qS CS NS bsS [.ref SS, .type "ValueError", .type "Exception", .type "BaseException", .type "object"] true snS subS abS colS ddS m0S m1S m2S m3S m5S "ValueError.__new__"))
    (saS : PySem.W.findIn K (.ref CS) "__setattr__" = some (some (.builtin "object.__setattr__")))
    (exS : PySem.W.subIn K (.ref CS) (.type "BaseException") = some true)
    (tyS : PySem.W.typeIn K (.ref CS) = some (.type "type"))
    (kcS : PySem.W.keepIn K (.ref CS) = true)
    (inS : PySem.W.findIn K (.ref CS) "__init__" = some (some (.ref fXS)))
    (tiS : PySem.W.typeIn K (.ref fXS) = some (.type "function"))
    (nfS : PySem.W.findIn K (.ref CS) "index" = some none)
    (gaS : PySem.W.findIn K (.ref CS) "__getattribute__" = some (some (.builtin "BaseException.__getattribute__")))
    (ggS : PySem.W.findIn K (.ref CS) "__getattr__" = some none)
    (hdS : PySem.W.hasDictIn K CS = true)
    (l_XS : K.lookup fXS = some ⟨ocXS, odXS, .func (PySem.W.fnOf "__init__" "NoSlab.__init__" (defArgs s_iNoSlab) (defBody s_iNoSlab) (defScope s_iNoSlab) .none kVXS docXS pmXS anXS cdXS ctXS), slXS⟩)
    (c_XS : PySem.W.codeIn K cdXS "NoSlab.__init__" = true)
    (k_XS : PySem.W.keepIn K (.ref fXS) = true)
    (gN : PySem.W.nsIn K mainGlobals "NoClass" = some (some (.ref CN)))
    (xN : K.lookup CN = some (excClassObj nmN qN CN NN bsN [.ref SN, .type "ValueError", .type "Exception", .type "BaseException", .type "object"] true snN subN abN colN ddN m0N m1N m2N m3N m5N "ValueError.__new__"))
    (saN : PySem.W.findIn K (.ref CN) "__setattr__" = some (some (.builtin "object.__setattr__")))
    (exN : PySem.W.subIn K (.ref CN) (.type "BaseException") = some true)
    (tyN : PySem.W.typeIn K (.ref CN) = some (.type "type"))
    (kcN : PySem.W.keepIn K (.ref CN) = true)
    (inN : PySem.W.findIn K (.ref CN) "__init__" = some (some (.ref fXN)))
    (tiN : PySem.W.typeIn K (.ref fXN) = some (.type "function"))
    (nfN : PySem.W.findIn K (.ref CN) "number" = some none)
    (gaN : PySem.W.findIn K (.ref CN) "__getattribute__" = some (some (.builtin "BaseException.__getattribute__")))
    (ggN : PySem.W.findIn K (.ref CN) "__getattr__" = some none)
    (hdN : PySem.W.hasDictIn K CN = true)
    (l_XN : K.lookup fXN = some ⟨ocXN, odXN, .func (PySem.W.fnOf "__init__" "NoClass.__init__" (defArgs s_iNoClass) (defBody s_iNoClass) (defScope s_iNoClass) .none kVXN docXN pmXN anXN cdXN ctXN), slXN⟩)
    (c_XN : PySem.W.codeIn K cdXN "NoClass.__init__" = true)
    (k_XN : PySem.W.keepIn K (.ref fXN) = true)
    (eSS : PySem.W.exmOne K (.ref CS) (.ref CS) = some true)
    (eNS : PySem.W.exmOne K (.ref CN) (.ref CS) = some false)
    (eNN : PySem.W.exmOne K (.ref CN) (.ref CN) = some true)
    (b_int : PySem.W.nsIn K mainGlobals "int" = some none)
    (b_bool : PySem.W.nsIn K mainGlobals "bool" = some none)
    (b_tuple : PySem.W.nsIn K mainGlobals "tuple" = some none)
    (b_list : PySem.W.nsIn K mainGlobals "list" = some none)
    (b_len : PySem.W.nsIn K mainGlobals "len" = some none)
    (b_isinstance : PySem.W.nsIn K mainGlobals "isinstance" = some none)
    (b_enumerate : PySem.W.nsIn K mainGlobals "enumerate" = some none)
    (b_range : PySem.W.nsIn K mainGlobals "range" = some none)
    (n_classes : PySem.W.nsIn K mainGlobals "MOST_CLASSES" = some (some (.int 6 tclasses)))
    (n_size : PySem.W.nsIn K mainGlobals "MOST_SIZE" = some (some (.int 1000 tsize)))
    (n_slots : PySem.W.nsIn K mainGlobals "MOST_SLOTS" = some (some (.int 60 tslots)))
    (n_limit : PySem.W.nsIn K mainGlobals "MOST_LIMIT" = some (some (.int 1000000 tlimit)))
    (d0 : DefAt K mg "is_between" s_is_between)
    (d1 : DefAt K mg "is_size_class" s_is_size_class)
    (d2 : DefAt K mg "_law_draw" s__law_draw)
    (d3 : DefAt K mg "_law_slab" s__law_slab)
    (d4 : DefAt K mg "_law_within" s__law_within)
    (d5 : DefAt K mg "_law_bad" s__law_bad)
    (d6 : DefAt K mg "_law_raised" s__law_raised)
    (d7 : DefAt K mg "_law_bent" s__law_bent)
    (d8 : DefAt K mg "_law_right" s__law_right)
    (d9 : DefAt K mg "law" s_law) :
    LawAtS l w K CX0 9 63 "_law_script" mg fa h := by
  have FI := fun_mk (st := s_init) l_I c_I k_I
  have bI := FI.binds (ps := ["self", "classes", "limit"]) fun _ _ _ _ _ _ us hl => match us, hl with | [_, _, _], _ => rfl
  have FL := fun_mk (st := s_len) l_L c_L k_L
  have bL := FL.binds (ps := ["self"]) fun _ _ _ _ _ _ us hl => match us, hl with | [_], _ => rfl
  have FE := fun_mk (st := s_eq) l_E c_E k_E
  have bE := FE.binds (ps := ["self", "other"]) fun _ _ _ _ _ _ us hl => match us, hl with | [_, _], _ => rfl
  have Fc := fun_mk (st := s_classes) l_c c_c k_c
  have bc := Fc.binds (ps := ["self"]) fun _ _ _ _ _ _ us hl => match us, hl with | [_], _ => rfl
  have Fl := fun_mk (st := s_limit) l_l c_l k_l
  have bl := Fl.binds (ps := ["self"]) fun _ _ _ _ _ _ us hl => match us, hl with | [_], _ => rfl
  have Fb := fun_mk (st := s_bytes_of) l_b c_b k_b
  have bb := Fb.binds (ps := ["self", "number"]) fun _ _ _ _ _ _ us hl => match us, hl with | [_, _], _ => rfl
  have Fs := fun_mk (st := s_slots_of) l_s c_s k_s
  have bs := Fs.binds (ps := ["self", "number"]) fun _ _ _ _ _ _ us hl => match us, hl with | [_, _], _ => rfl
  have Fz := fun_mk (st := s_size_class) l_z c_z k_z
  have bz := Fz.binds (ps := ["self", "number"]) fun _ _ _ _ _ _ us hl => match us, hl with | [_, _], _ => rfl
  have FXS := fun_mk (st := s_iNoSlab) l_XS c_XS k_XS
  have bXS := FXS.binds (ps := ["self", "index"]) fun _ _ _ _ _ _ us hl => match us, hl with | [_, _], _ => rfl
  have TS : XCls K CS fXS "index" := ⟨⟨⟨_, _, _, _, _, _, _, _, _, _, _, _, _, _, _, xS, (show PySem.HandSPX.refsVE PySem.HandSPX.veTail = true by decide +kernel)⟩, saS, exS, tyS, kcS⟩, inS, tiS, nfS, gaS, ggS, hdS⟩
  have FXN := fun_mk (st := s_iNoClass) l_XN c_XN k_XN
  have bXN := FXN.binds (ps := ["self", "number"]) fun _ _ _ _ _ _ us hl => match us, hl with | [_, _], _ => rfl
  have TN : XCls K CN fXN "number" := ⟨⟨⟨_, _, _, _, _, _, _, _, _, _, _, _, _, _, _, xN, (show PySem.HandSPX.refsVE PySem.HandSPX.veTail = true by decide +kernel)⟩, saN, exN, tyN, kcN⟩, inN, tiN, nfN, gaN, ggN, hdN⟩
  obtain ⟨g0, e0, D0, m0⟩ := d0
  have v0 := D0.binds (ps := ["value", "low", "high"]) fun _ _ _ _ _ _ us hl => match us, hl with | [_, _, _], _ => rfl
  obtain ⟨g1, e1, D1, m1⟩ := d1
  have v1 := D1.binds (ps := ["item"]) fun _ _ _ _ _ _ us hl => match us, hl with | [_], _ => rfl
  obtain ⟨g2, e2, D2, m2⟩ := d2
  have v2 := D2.binds (ps := ["_law_well", "_law_many"]) fun _ _ _ _ _ _ us hl => match us, hl with | [_, _], _ => rfl
  obtain ⟨g3, e3, D3, m3⟩ := d3
  have v3 := D3.binds (ps := ["_law_well"]) fun _ _ _ _ _ _ us hl => match us, hl with | [_], _ => rfl
  obtain ⟨g4, e4, D4, m4⟩ := d4
  have v4 := D4.binds (ps := ["_law_value", "_law_low", "_law_high"]) fun _ _ _ _ _ _ us hl => match us, hl with | [_, _, _], _ => rfl
  obtain ⟨g5, e5, D5, m5⟩ := d5
  have v5 := D5.binds (ps := ["_law_sorts", "_law_most"]) fun _ _ _ _ _ _ us hl => match us, hl with | [_, _], _ => rfl
  obtain ⟨g6, e6, D6, m6⟩ := d6
  have v6 := D6.binds (ps := ["_law_ask"]) fun _ _ _ _ _ _ us hl => match us, hl with | [_], _ => rfl
  obtain ⟨g7, e7, D7, m7⟩ := d7
  have v7 := D7.binds (ps := ["_law_well", "_law_sorts"]) fun _ _ _ _ _ _ us hl => match us, hl with | [_, _], _ => rfl
  obtain ⟨g8, e8, D8, m8⟩ := d8
  have v8 := D8.binds (ps := ["_law_well"]) fun _ _ _ _ _ _ us hl => match us, hl with | [_], _ => rfl
  obtain ⟨g9, e9, D9, m9⟩ := d9
  have v9 := D9.binds (ps := ["_law_script"]) fun _ _ _ _ _ _ us hl => match us, hl with | [_], _ => rfl
  have z := hfa.symm.trans m9
  cases z
  have B : Bi mg := ⟨PySem.W.mg_none_of X G b_int, PySem.W.mg_none_of X G b_bool, PySem.W.mg_none_of X G b_tuple, PySem.W.mg_none_of X G b_list, PySem.W.mg_none_of X G b_len, PySem.W.mg_none_of X G b_isinstance, PySem.W.mg_none_of X G b_enumerate, ⟨_, PySem.W.mg_of X G n_classes⟩, ⟨_, PySem.W.mg_of X G n_size⟩, ⟨_, PySem.W.mg_of X G n_slots⟩, ⟨_, PySem.W.mg_of X G n_limit⟩⟩
  have br : mg "range" = none := PySem.W.mg_none_of X G b_range
  have SC : SlabC K mg C := ⟨⟨pg, hd, po, sa⟩, nP, nB, ca, sp, tk, mr, PySem.W.mg_of X G gC, kI, kT, fT, fC⟩
  have gs := PySem.W.mg_of X G gS
  have gn := PySem.W.mg_of X G gN
  have RR : ∀ base : Heap, RF l.prog w K mg base ⟨C, CS, CN, fI, _, fL, _, fE, _, fc, _, fl, _, fb, _, fs, _, g2, _, g3, _, g5, _, g7, _, g6⟩ := fun base =>
    have Gb := ok_between (P := l.prog) (w := w) (base := base) D0 B
    have Gc := ok_sc (P := l.prog) (w := w) (base := base) D1 B Gb m0 D0.kp v0
    have GD := ok_draw (P := l.prog) (w := w) (base := base) D2 B
    have GW := ok_within (P := l.prog) (w := w) (base := base) D4 B
    have IS := ok_iNoSlab (P := l.prog) (w := w) (mg := mg) (base := base) FXS TS
    have IN := ok_iNoClass (P := l.prog) (w := w) (mg := mg) (base := base) FXN TN
    have Gz := ok_cls (P := l.prog) (w := w) (base := base) Fz B SC Gb m0 D0.kp v0 TN IN bXN gn
    { B := B, b_range := br, SC := SC, MK := ⟨mk, a_I, i_I, kC⟩
      GI := ok_init FI B SC TS IS bXS gs Gb m0 D0.kp v0 Gc m1 D1.kp v1, bI := bI
      GL := ok_len FL B SC, bL := bL, le := a_L, lf := i_L
      GE := ok_eq FE B SC, bE := bE, ee := a_E, ef := i_E, en := en
      Gc := ok_classes Fc B SC, bc := bc, mc := ⟨a_c, i_c, k_c⟩
      Gl := ok_limit Fl SC, bl := bl, ml := ⟨a_l, i_l, k_l⟩
      Gb := ok_bytes_of Fb SC Gz ⟨a_z, i_z, k_z⟩ bz, bb := bb, mb := ⟨a_b, i_b, k_b⟩
      Gs := ok_slots_of Fs SC Gz ⟨a_z, i_z, k_z⟩ bz, bs := bs, ms := ⟨a_s, i_s, k_s⟩
      T2 := ⟨gs, gn, eSS, eNS, eNN, ⟨gaS, ggS, exS, hdS⟩, ⟨gaN, ggN, exN, hdN⟩, nfS, nfN⟩
      G1 := GD, m1 := m2, k1 := D2.kp, b1 := v2
      G2 := ok_slab D3 B br GD m2 D2.kp v2, m2 := m3, k2 := D3.kp, b2 := v3
      G3 := ok_bad D5 B GW m4 D4.kp v4, m3 := m5, k3 := D5.kp, b3 := v5
      G4 := ok_bent D7 B br GD m2 D2.kp v2, m4 := m7, k4 := D7.kp, b4 := v7
      mR := m6, kR := D6.kp, lR := by
        obtain ⟨oc, od, kV, doc, pm, an, cdv, ct, osl, rfl, lk, hcd⟩ := D6.ex
        exact ⟨oc, od, kV, doc, pm, an, cdv, ct, osl, lk, hcd⟩ }
  obtain ⟨fb', o', fd', c', P', h1, h2, h3, h4, h5, h6⟩ := tb
  rw [m8] at h1
  cases h1
  have k8 := D8.kp
  obtain ⟨oc, od, kV, doc, pm, an, cdv, ct, osl, rfl, lk, hcd⟩ := D8.ex
  have h2' := X _ _ lk
  rw [h2] at h2'
  cases h2'
  cases h3
  have ecd : cdv = .ref c' := h4
  subst ecd
  refine ⟨e9, [(c', P')], spLaw K [(P', (("_law_right" : Str) ++ (".<locals>." : Str)) ++ ("<lambda>" : Str))], fun p hp => ?_, fun p hp => ?_, fun p hp => ?_, fun s u => ?_, fun H a ns hl _ hH hS => ?_, fun base hK hG hB => ?_⟩
  · rw [List.mem_singleton.mp hp]
    exact h6
  · rw [List.mem_singleton.mp hp]
    exact no_tab X nt h6
  · rw [List.mem_singleton.mp hp]
    exact h5
  · obtain ⟨oc, od, kV, doc, pm, an, cdv, ct, osl, rfl, _, _⟩ := D9.ex
    exact .of_eq rfl
  · refine ⟨a, ns, rfl, hS, hl, fun p hp => ?_, fun _ => rfl⟩
    rw [List.mem_singleton.mp hp]
    exact .nil (hH (c', P') List.mem_cons_self)
  · have R := RR base
    have GR := ok_right R lk hcd (hB (c', P') List.mem_cons_self) (T := [(P', (("_law_right" : Str) ++ (".<locals>." : Str)) ++ ("<lambda>" : Str))]) List.mem_cons_self (fun p hp _ => by rw [List.mem_singleton.mp hp])
    exact ok_law D9 R GR m8 k8 v8
end K01
open PySem PySem.W PyProof.Rows
set_option Elab.async false
set_option linter.all false
set_option maxRecDepth 100000 in
set_option maxHeartbeats 0 in
theorem PySem.Challenge.cw_slabpins_k01_slabs_holds : PySem.Challenge.rw_slabpins_k01_slabs.Holds := by
  w_on; o_law; k_head; (case hw => w_witness2)
  k_fill
  refine K01.walk_ofY (l := PySem.Challenge.rw_slabpins_k01_slabs) (n := 63) (k := 9) (x := "_law_script") "_law_right" rfl (by decide) rfl ⟨rfl, by decide, by decide⟩ (by kernel_rfl) (fun w h Y => PySem.W.km_in_of Y) ?F
  case F =>
    intro w mg fa h KX G hmg tb
    refine' K01.all_mk KX G hmg ?zz_nt tb ?zz_gC ?zz_pg ?zz_hd ?zz_po ?zz_sa ?zz_nP ?zz_nB ?zz_ca ?zz_sp ?zz_tk ?zz_mr ?zz_kI ?zz_kT ?zz_fT ?zz_fC ?zz_mk ?zz_kC ?zz_en ?zz_a_I ?zz_i_I ?zz_l_I ?zz_c_I ?zz_k_I ?zz_a_L ?zz_i_L ?zz_l_L ?zz_c_L ?zz_k_L ?zz_a_E ?zz_i_E ?zz_l_E ?zz_c_E ?zz_k_E ?zz_a_c ?zz_i_c ?zz_l_c ?zz_c_c ?zz_k_c ?zz_a_l ?zz_i_l ?zz_l_l ?zz_c_l ?zz_k_l ?zz_a_b ?zz_i_b ?zz_l_b ?zz_c_b ?zz_k_b ?zz_a_s ?zz_i_s ?zz_l_s ?zz_c_s ?zz_k_s ?zz_a_z ?zz_i_z ?zz_l_z ?zz_c_z ?zz_k_z ?zz_gS ?zz_xS ?zz_saS ?zz_exS ?zz_tyS ?zz_kcS ?zz_inS ?zz_tiS ?zz_nfS ?zz_gaS ?zz_ggS ?zz_hdS ?zz_l_XS ?zz_c_XS ?zz_k_XS ?zz_gN ?zz_xN ?zz_saN ?zz_exN ?zz_tyN ?zz_kcN ?zz_inN ?zz_tiN ?zz_nfN ?zz_gaN ?zz_ggN ?zz_hdN ?zz_l_XN ?zz_c_XN ?zz_k_XN ?zz_eSS ?zz_eNS ?zz_eNN ?zz_b_int ?zz_b_bool ?zz_b_tuple ?zz_b_list ?zz_b_len ?zz_b_isinstance ?zz_b_enumerate ?zz_b_range ?zz_n_classes ?zz_n_size ?zz_n_slots ?zz_n_limit ?zzd0 ?zzd1 ?zzd2 ?zzd3 ?zzd4 ?zzd5 ?zzd6 ?zzd7 ?zzd8 ?zzd9
    case zz_nt => kernel_rfl
    case zz_gC => k_is
    case zz_pg => k_is
    case zz_hd => k_is
    case zz_po => k_is
    case zz_sa => k_is
    case zz_nP => k_is
    case zz_nB => k_is
    case zz_ca => k_is
    case zz_sp => k_is
    case zz_tk => k_is
    case zz_mr => k_is
    case zz_kI => kit_is
    case zz_kT => kit_is
    case zz_fT => k_is
    case zz_fC => k_is
    case zz_mk => k_is
    case zz_kC => k_is
    case zz_en => k_is
    case zz_a_I => k_is
    case zz_i_I => k_is
    case zz_l_I => k_is
    case zz_c_I => k_is
    case zz_k_I => k_is
    case zz_a_L => k_is
    case zz_i_L => k_is
    case zz_l_L => k_is
    case zz_c_L => k_is
    case zz_k_L => k_is
    case zz_a_E => k_is
    case zz_i_E => k_is
    case zz_l_E => k_is
    case zz_c_E => k_is
    case zz_k_E => k_is
    case zz_a_c => k_is
    case zz_i_c => k_is
    case zz_l_c => k_is
    case zz_c_c => k_is
    case zz_k_c => k_is
    case zz_a_l => k_is
    case zz_i_l => k_is
    case zz_l_l => k_is
    case zz_c_l => k_is
    case zz_k_l => k_is
    case zz_a_b => k_is
    case zz_i_b => k_is
    case zz_l_b => k_is
    case zz_c_b => k_is
    case zz_k_b => k_is
    case zz_a_s => k_is
    case zz_i_s => k_is
    case zz_l_s => k_is
    case zz_c_s => k_is
    case zz_k_s => k_is
    case zz_a_z => k_is
    case zz_i_z => k_is
    case zz_l_z => k_is
    case zz_c_z => k_is
    case zz_k_z => k_is
    case zz_gS => k_is
    case zz_xS => k_is
    case zz_saS => k_is
    case zz_exS => k_is
    case zz_tyS => k_is
    case zz_kcS => k_is
    case zz_inS => k_is
    case zz_tiS => k_is
    case zz_nfS => k_is
    case zz_gaS => k_is
    case zz_ggS => k_is
    case zz_hdS => k_is
    case zz_l_XS => k_is
    case zz_c_XS => k_is
    case zz_k_XS => k_is
    case zz_gN => k_is
    case zz_xN => k_is
    case zz_saN => k_is
    case zz_exN => k_is
    case zz_tyN => k_is
    case zz_kcN => k_is
    case zz_inN => k_is
    case zz_tiN => k_is
    case zz_nfN => k_is
    case zz_gaN => k_is
    case zz_ggN => k_is
    case zz_hdN => k_is
    case zz_l_XN => k_is
    case zz_c_XN => k_is
    case zz_k_XN => k_is
    case zz_eSS => kts_exm
    case zz_eNS => kts_exm
    case zz_eNN => kts_exm
    case zz_b_int => k_is
    case zz_b_bool => k_is
    case zz_b_tuple => k_is
    case zz_b_list => k_is
    case zz_b_len => k_is
    case zz_b_isinstance => k_is
    case zz_b_enumerate => k_is
    case zz_b_range => k_is
    case zz_n_classes => k_is
    case zz_n_size => k_is
    case zz_n_slots => k_is
    case zz_n_limit => k_is
    case zzd0 => (refine' K01.def_mk KX G ?zza0 ?zzl0 ?zzc0 ?zzk0; (case zza0 => k_is); (case zzl0 => k_is); (case zzc0 => k_is); (case zzk0 => k_is))
    case zzd1 => (refine' K01.def_mk KX G ?zza1 ?zzl1 ?zzc1 ?zzk1; (case zza1 => k_is); (case zzl1 => k_is); (case zzc1 => k_is); (case zzk1 => k_is))
    case zzd2 => (refine' K01.def_mk KX G ?zza2 ?zzl2 ?zzc2 ?zzk2; (case zza2 => k_is); (case zzl2 => k_is); (case zzc2 => k_is); (case zzk2 => k_is))
    case zzd3 => (refine' K01.def_mk KX G ?zza3 ?zzl3 ?zzc3 ?zzk3; (case zza3 => k_is); (case zzl3 => k_is); (case zzc3 => k_is); (case zzk3 => k_is))
    case zzd4 => (refine' K01.def_mk KX G ?zza4 ?zzl4 ?zzc4 ?zzk4; (case zza4 => k_is); (case zzl4 => k_is); (case zzc4 => k_is); (case zzk4 => k_is))
    case zzd5 => (refine' K01.def_mk KX G ?zza5 ?zzl5 ?zzc5 ?zzk5; (case zza5 => k_is); (case zzl5 => k_is); (case zzc5 => k_is); (case zzk5 => k_is))
    case zzd6 => (refine' K01.def_mk KX G ?zza6 ?zzl6 ?zzc6 ?zzk6; (case zza6 => k_is); (case zzl6 => k_is); (case zzc6 => k_is); (case zzk6 => k_is))
    case zzd7 => (refine' K01.def_mk KX G ?zza7 ?zzl7 ?zzc7 ?zzk7; (case zza7 => k_is); (case zzl7 => k_is); (case zzc7 => k_is); (case zzk7 => k_is))
    case zzd8 => (refine' K01.def_mk KX G ?zza8 ?zzl8 ?zzc8 ?zzk8; (case zza8 => k_is); (case zzl8 => k_is); (case zzc8 => k_is); (case zzk8 => k_is))
    case zzd9 => (refine' K01.def_mk KX G ?zza9 ?zzl9 ?zzc9 ?zzk9; (case zza9 => k_is); (case zzl9 => k_is); (case zzc9 => k_is); (case zzk9 => k_is))
#print axioms PySem.Challenge.cw_slabpins_k01_slabs_holds
