import PyProof.Rows.All
import Wide.All
import OpenK.AllK
import Wide.FinOn
import KE.KExcIs
import HandS.ForMost
import HandS.Exc
import HandS.ExcOwn
import HandS.ExcInit
import HandS.ExcValue
import HandS.ExcBuiltin
import HandS.IsInst
import HandS.Walk
import HandS.EndBits
import PySem.Challenge.RW_slabpins_k19_exceptions
set_option Elab.async false
set_option linter.all false
set_option maxRecDepth 100000
set_option maxHeartbeats 4000000
namespace PySem
namespace KwX
open PySem.W PySem.Calls PyProof.Rows PySem.HandSPX
section
variable {M : Model} {A : Around} {E : Value → Shared → Prop} {h : Heap} {g : Array GenState} {d : Drawn} {t : Nat} {os : OsState} {kw : List (Str × Value)}
variable {nm q : Str} {C N : Addr} {bs bm bmB : List Value} {hdct : Bool} {sn : List Str} {sub : List Value} {ab : Bool} {col : Option Bool} {dd : Option Addr} {k0 k1 k2 k3 k5 : Option Value} {B newId initId : String}
theorem kwNewCheck (F : ExcBaseFacts B newId initId bmB) (hT : ∀ X : String, bm.contains (.type X) = bmB.contains (.type X)) {rest : List Value} {Q : Unit → Shared → Prop}
    (hC : h.get? C = some (excClassObj nm q C N bs bm hdct sn sub ab col dd k0 k1 k2 k3 k5 newId)) (hq : Q () ⟨h, g, d, t, os⟩) : wpAny M A (checkBuiltinCall newId ⟨.ref C :: rest, kw⟩) Q E ⟨h, g, d, t, os⟩ := by
  have inB : (Value.ref C :: bm).contains (.type B) = true := by rw [List.contains_cons, hT, F.hasB, Bool.or_true]
  have nStar := F.noStar
  simp only [checkBuiltinCall, F.newKind, F.newSplit, F.newRow]
  repeat (first | refine wpAny_loadPart_at hC ?_ | (refine wpAny_isSubtype_exc hC ?_; rw [inB]) | refine wpAny_staticBase_exc hC ?_ | refine wpAny_madeBy_exc hC ?_ | simp only [bne_self_eq_false, Bool.false_eq_true, if_false] | wp_step)
  exact hq
end
section
variable {prog : Program} {w : World} {A : Around} {E : Value → Shared → Prop} {R : Result → Shared → Prop} {h : Heap} {g : Array GenState} {d : Drawn} {t : Nat} {os : OsState} {kw : List (Str × Value)}
variable {nm q : Str} {C N : Addr} {bs bm bmB : List Value} {hdct : Bool} {sn : List Str} {sub : List Value} {ab : Bool} {col : Option Bool} {dd : Option Addr} {k0 k1 k2 k3 k5 : Option Value} {B newId initId : String}
theorem kwNew (F : ExcBaseFacts B newId initId bmB) (hT : ∀ X : String, bm.contains (.type X) = bmB.contains (.type X)) {rest : List Value}
    (hC : h.get? C = some (excClassObj nm q C N bs bm hdct sn sub ab col dd k0 k1 k2 k3 k5 newId))
    (hq : R (.ok (.ret (.ref (h.objs.size + 1)))) ⟨(h.push (W.kdv_tup rest)).push (excO C h.objs.size), g, d, t, os⟩) (hrest : rest.length ≤ sizeLine) :
    codeAny (model prog w) A (.builtin newId ⟨.ref C :: rest, kw⟩) R ⟨h, g, d, t, os⟩ := by
  have hends := F.ends
  have inB : (Value.ref C :: bm).contains (.type B) = true := by rw [List.contains_cons, hT, F.hasB, Bool.or_true]
  have inA : (Value.ref C :: bm).contains (.type "AttributeError") = false := by rw [List.contains_cons, hT, F.noAttr]; rfl
  have inN : (Value.ref C :: bm).contains (.type "NameError") = false := by rw [List.contains_cons, hT, F.noName]; rfl
  refine codeAny_builtinAt F.entry ?_
  unfold Builtin.«BaseException.__new__»
  refine wpAt_bind ?_
  show wpAt _ _ _ (stack >>= _) _ _ _
  refine wpAt_bind (wpAt_stack fun p below => wpAt_of_wpAny ?_)
  wp_walk
  refine wpAt_of_wpAny ?_
  rw [F.owner]
  repeat (first | with_reducible refine wpAny_madeHere_exc F.canon hC ?_ | with_reducible refine wpAny_loadPart_at hC ?_ | (with_reducible refine wpAny_isSubtype_exc hC ?_; first | rw [inB] | rw [inA] | rw [inN]) | wp_step)
  show R _ _
  rw [Heap.size_push]
  exact hq
theorem kwTypeCall (F : ExcBaseFacts B newId initId bmB) (hT : ∀ X : String, bm.contains (.type X) = bmB.contains (.type X)) {rest : List Value} {fI : Addr} {Q : Fin → Shared → Prop}
    (hC : h.get? C = some (excClassObj nm q C N bs bm hdct sn sub ab col dd k0 k1 k2 k3 k5 newId))
    (hi : W.Looks (model prog w) h (typeLookup (.ref C) "__init__") (some (.ref fI))) (hb : ∀ self, W.Looks (model prog w) h (bindSpecial (.ref fI) self) (.ref fI, [self])) (hrest : rest.length ≤ sizeLine)
    (hq : codeAny (model prog w) A (.call (.ref fI) ⟨.ref (h.objs.size + 1) :: rest, kw⟩)
      (fun r s' => match r with | .ok (.ret v) => v = .none ∧ Q (.done (.ret (.ref (h.objs.size + 1)))) s' | .ok _ => False | .error e => E e s')
      ⟨(h.push (W.kdv_tup rest)).push (excO C h.objs.size), g, d, t, os⟩) :
    wpAny (model prog w) A (Builtin.«type.__call__» ⟨.ref C :: rest, kw⟩) Q E ⟨h, g, d, t, os⟩ := by
  repeat (first | with_reducible refine wpAny_loadPart_at hC ?_ | with_reducible refine wpAny_madeBy_exc hC ?_ | wp_step)
  refine codeAny_call_builtin_code (Code.quiet_builtin _ F.quiet) (kwNewCheck F hT hC ?_)
  refine kwNew F hT hC ?_ hrest
  show wpAny _ _ _ _ _ _
  have k : ∀ b o, h.get? b = some o → ((h.push (W.kdv_tup rest)).push (excO C h.objs.size)).get? b = some o := fun b o e => Heap.get?_push_of_some _ (Heap.get?_push_of_some _ e)
  have hC₁ := k _ _ hC
  have hget : ((h.push (W.kdv_tup rest)).push (excO C h.objs.size)).get? (h.objs.size + 1) = some (excO C h.objs.size) := by heap_get
  have inC : (Value.ref C :: bm).contains (.ref C) = true := by simp
  have i1 := hi.keeps k
  have b1 := (hb (.ref (h.objs.size + 1))).keeps k
  unfold isInstance
  repeat (first | with_reducible refine wpAny_loadPart_at hget ?_ | (with_reducible refine wpAny_isSubtype_exc hC₁ ?_; rw [inC]) | wp_step)
  show wpAny _ _ (typeLookup (.ref C) _) _ _ _
  refine i1.at ?_
  refine wpAny_holding (wpAny_bind (b1.at ?_))
  refine wpAny_bind (wpAny_call (codeAny_mono hq fun r s' z => ?_))
  rcases r with e | (v | _ | _ | _) <;> first | exact z | exact z.elim | skip
  obtain ⟨rfl, z⟩ := z
  first
    | exact wpAny_pure (wpAny_pure z)
    | (wp_walk; exact z)
theorem kwCall (F : ExcBaseFacts B newId initId bmB) (hT : ∀ X : String, bm.contains (.type X) = bmB.contains (.type X)) {rest : List Value} {fI : Addr}
    (hC : h.get? C = some (excClassObj nm q C N bs bm hdct sn sub ab col dd k0 k1 k2 k3 k5 newId))
    (hi : W.Looks (model prog w) h (typeLookup (.ref C) "__init__") (some (.ref fI))) (hb : ∀ self, W.Looks (model prog w) h (bindSpecial (.ref fI) self) (.ref fI, [self])) (hrest : rest.length ≤ sizeLine)
    (hq : codeAny (model prog w) (A.under (.builtin "type.__call__" ⟨.ref C :: rest, kw⟩)) (.call (.ref fI) ⟨.ref (h.objs.size + 1) :: rest, kw⟩) (W.InitBack (h.objs.size + 1) R)
      ⟨(h.push (W.kdv_tup rest)).push (excO C h.objs.size), g, d, t, os⟩) :
    codeAny (model prog w) A (.call (.ref C) ⟨rest, kw⟩) R ⟨h, g, d, t, os⟩ := by
  have f1 := tc_lookup
  have f2 := tc_bind (.ref C)
  have hTy : (⟨h, g, d, t, os⟩ : Shared).TypeIs (.ref C) "type" := ⟨_, hC, rfl⟩
  refine codeAny_of_tree ?_
  show wpAny _ _ (callAny (.ref C) _) _ _ _
  repeat (any_goals (first | assumption | with_reducible refine wpAny_loadPart_at hC ?_ | wp_step))
  refine ⟨rfl, ?_⟩
  refine codeAny_call_builtin_at (Code.quiet_builtin _ (by decide +kernel)) entry_typeCall (wpAny_check_type_call_sub hC (kwTypeCall F hT hC hi hb hrest ?_))
  refine codeAny_mono hq fun r s' z => ?_
  rcases r with e | (v | _ | _ | _) <;> exact z
end
end KwX
end PySem
set_option Elab.async false
set_option linter.all false
set_option maxRecDepth 100000
set_option maxHeartbeats 4000000
namespace XV
open PySem PySem.Spec PyProof.Rows L2

/-- what the written part tells of an own class of exceptions at C: one field f, its maker at fI -/
structure XCls (K : PySem.W.Frag) (C fI : Addr) (f : Str) : Prop where
  ox : OexC K C
  ini : PySem.W.findIn K (.ref C) "__init__" = some (some (.ref fI))
  tyI : PySem.W.typeIn K (.ref fI) = some (.type "function")
  noF : PySem.W.findIn K (.ref C) f = some none
  ga : PySem.W.findIn K (.ref C) "__getattribute__" = some (some (.builtin "BaseException.__getattribute__"))
  gg : PySem.W.findIn K (.ref C) "__getattr__" = some none
  hd : PySem.W.hasDictIn K C = true
/-- the exception at a, its dict at dx: what is there behind its making -/
def mkE (H : Hp) (a dx C : Addr) (f : Str) (v : V) : Hp := upd (upd H dx (exd dx [(f, v)])) a (exo a C (some dx))
/-- at a stands an exception of the class at C whose field f is v -/
def ExAt (H : Hp) (a C : Addr) (f : Str) (v : V) : Prop := ∃ dx, H a = some (exo a C (some dx)) ∧ H dx = some (exd dx [(f, v)])
theorem mkE_at {H : Hp} {a dx C : Addr} {f : Str} {v : V} (ne : dx ≠ a) : ExAt (mkE H a dx C f v) a C f v :=
  ⟨dx, upd_same, by unfold mkE; rw [upd_ne ne, upd_same]⟩
theorem mkE_same {H : Hp} {a dx C : Addr} {f : Str} {v : V} (ha : H a = none) (hd : H dx = none) : Same H (mkE H a dx C f v) := fun b o e => by
  unfold mkE
  rw [upd_ne (ne_of_none e ha), upd_ne (ne_of_none e hd)]
  exact e
theorem ExAt.keep {H H' : Hp} {a C : Addr} {f : Str} {v : V} (h : ExAt H a C f v) (k : Same H H') : ExAt H' a C f v :=
  let ⟨dx, h1, h2⟩ := h
  ⟨dx, k _ _ h1, k _ _ h2⟩
/-- the maker's promise -/
def spIni (C : Addr) (f : Str) : Sp := fun vs H Q _ => ∃ (a : Addr) (v : V), vs = [.ref a, v] ∧ H a = some (exo a C none) ∧ ∀ dx, H dx = none → dx ≠ a → Q .non (upd (upd H dx (exd dx [(f, v)])) a (exo a C (some dx)))
/-- C(v) as a value -/
def tMkX (C : Addr) (f : Str) (t : TA) : TE := fun σ H Q => t σ H fun vs H1 => ∃ v, vs = [v] ∧ ∀ a dx, H1 a = none → H1 dx = none → dx ≠ a → Q (.ref a) (mkE H1 a dx C f v)
section
variable {X : Cx} {CX : CXT} {k : Nat} {C fI : Addr} {fd : FuncData} {x f : Str} {p pos : Pos} {e : Expr} {es : List Expr} {kws : List Keyword} {t tk : TA}
theorem run_mkX {pins : List (Addr × Obj)} {σ : L2.St} {H : Hp} {s : Shared} {Q : VK} {v : V} {u : Value} {us : List Value} {kw : List (Str × Value)} (T : XCls X.K C fI f) (F1 : FnOk X.prog X.w X.K X.mg X.base CX k fI fd (["self", f] : List Str) (spIni C f)) (hr : Room (k + 1) X.A)
    (hb : ∀ (s : Shared) (y : Value), BindsTo s fd ⟨y :: us, kw⟩ ((["self", f] : List Str).zip [y, u])) (hx : Passes CX X E0) (hus : us.length ≤ 1) (I : Inv X pins σ H s) (r : RelV v u)
    (h : ∀ a dx, H a = none → H dx = none → dx ≠ a → Q (.ref a) (mkE H a dx C f v)) : wpAny (model X.prog X.w) X.A (call (.ref C) us kw) (EP X pins σ Q) X.xe s := by
  obtain ⟨nm, q, N, bs, bm, sn, sub, ab, col, dd, k0, k1, k2, k3, k5, hC, hbm⟩ := T.ox.cls
  obtain ⟨hp, g, dr, tk', os⟩ := s
  have hsz : hp.objs.size ≤ hp.objs.size + 1 := Nat.le_succ _
  have hn : H (hp.objs.size + 1) = none := I.hok.fresh hsz
  have kk : ∀ b o, hp.get? b = some o → ((hp.push (PySem.W.kdv_tup us)).push (PySem.HandSPX.excO C hp.objs.size)).get? b = some o := fun b o z => Heap.get?_push_of_some _ (Heap.get?_push_of_some _ z)
  have hget : ((hp.push (PySem.W.kdv_tup us)).push (PySem.HandSPX.excO C hp.objs.size)).get? (hp.objs.size + 1) = some (PySem.HandSPX.excO C hp.objs.size) := by heap_get
  have I2 : Inv X pins σ (upd H (hp.objs.size + 1) (exo (hp.objs.size + 1) C none)) ⟨(hp.push (PySem.W.kdv_tup us)).push (PySem.HandSPX.excO C hp.objs.size), g, dr, tk', os⟩ :=
    I.laid (t' := tk') (a := hp.objs.size + 1) (o := exo (hp.objs.size + 1) C none) (h' := (hp.push (PySem.W.kdv_tup us)).push (PySem.HandSPX.excO C hp.objs.size)) kk hsz (exo_ok hget)
  have r2 : Vals [V.ref (hp.objs.size + 1), v] [Value.ref (hp.objs.size + 1), u] := .cons rfl (.cons r .nil)
  have hq : spIni C f [V.ref (hp.objs.size + 1), v] (upd H (hp.objs.size + 1) (exo (hp.objs.size + 1) C none)) (fun v' H2 => v' = .non ∧ Q (.ref (hp.objs.size + 1)) H2) E0 := by
    refine ⟨_, _, rfl, upd_same, fun dx n ne => ⟨rfl, ?_⟩⟩
    have nd : H dx = none := by rw [upd_ne ne] at n; exact n
    have z := h (hp.objs.size + 1) dx hn nd ne
    have e : upd (upd (upd H (hp.objs.size + 1) (exo (hp.objs.size + 1) C none)) dx (exd dx [(f, v)])) (hp.objs.size + 1) (exo (hp.objs.size + 1) C (some dx)) = mkE H (hp.objs.size + 1) dx C f v := by
      funext b
      unfold mkE upd
      by_cases h1 : b = hp.objs.size + 1
      · simp only [if_pos h1]
      · by_cases h2 : b = dx
        · simp only [if_neg h1, if_pos h2]
        · simp only [if_neg h1, if_neg h2]
    rw [e]
    exact z
  have hus' : us.length ≤ sizeLine := by
    rw [sizeLine_eq]
    omega
  refine wpAny_call (PySem.KwX.kwCall F.excBase_ValueError (fun Y => PySem.HandSPX.refsVE_contains Y bm hbm) (I.kIn _ _ hC) (PySem.W.looks_findIn I.kIn T.ini) (fun self => PySem.W.bind_fn I.kIn self T.tyI) hus'
    (codeAny_mono (F1.run _ X.stack _ _ ⟨Value.ref (hp.objs.size + 1) :: us, kw⟩ [Value.ref (hp.objs.size + 1), u] _ _ E0 (hr.make C us kw) (I2.env0.make C us kw) (hb _ _) r2 hq) fun r s' hq' => ?_))
  cases r with
  | error er => exact hx pins σ _ _ er s' I2 hq'
  | ok fl =>
    cases fl with
    | ret u' =>
      obtain ⟨v', H', I3, rv, ev, q3⟩ := I2.after hq'
      subst ev
      exact ⟨rv, ⟨V.ref (hp.objs.size + 1), H', I3, rfl, q3⟩⟩
    | next => exact False.elim hq'
    | brk => exact False.elim hq'
    | cont => exact False.elim hq'
/-- C(e) -/
theorem pe_mkX (T : XCls X.K C fI f) (F1 : FnOk X.prog X.w X.K X.mg X.base CX k fI fd (["self", f] : List Str) (spIni C f)) (hr : Room (k + 1) X.A) (hb : Binds X.K fd (["self", f] : List Str) []) (hb2 : ∀ (s : Shared) (y u : Value), BindsTo s fd ⟨[y, u], []⟩ ((["self", f] : List Str).zip [y, u]))
    (hx : Passes CX X E0) (hg : Gl X x) (hm : X.mg x = some (.ref C)) (ha : PA X (e :: es) t)
    (hdb : (x == ("__debug__" : Str)) = false := by decide) (he : starEach (e :: es) X.env = (false, eval e X.env) :: starEach es X.env := by rfl) (hpl : (backTo pos (starEach es X.env)).any (·.1) = false := by rfl) :
    PE X (.Call (.Name x p) (e :: es) [] pos) (tMkX C f t) := by
  refine ⟨fun pins s σ H Q I h => ?_⟩
  refine wpAny_Call_Name_kw (ld_glob I hg hm ?_ hdb)
  refine PySem.W.callWith_K (h₀ := X.base) I.ok.mod.kin T.ox.kC (thn (ha.run pos pins s σ H _ I h) fun us s1 ⟨vs, H1, I1, r, v, ev, q⟩ => ⟨I1.kIn, ?_⟩) he hpl
  subst ev
  cases r with
  | cons rv rn =>
    cases rn
    exact run_mkX T F1 hr (fun s y => hb2 s y _) hx (Nat.le_refl _) I1 rv q
/-- C(f=e) -/
theorem pe_mkXK (T : XCls X.K C fI f) (F1 : FnOk X.prog X.w X.K X.mg X.base CX k fI fd (["self", f] : List Str) (spIni C f)) (hr : Room (k + 1) X.A) (hb2 : ∀ (s : Shared) (y u : Value), BindsTo s fd ⟨[y], ([f] : List Str).zip [u]⟩ ((["self", f] : List Str).zip [y, u]))
    (hx : Passes CX X E0) (hg : Gl X x) (hm : X.mg x = some (.ref C)) (hkw : PK X kws tk)
    (hall : (backToKw pos (keywordEach kws X.env)).all (·.1.isSome) = true := by rfl) (hks : (backToKw pos (keywordEach kws X.env)).filterMap (·.1) = [f] := by rfl) (hdb : (x == ("__debug__" : Str)) = false := by decide)
    (hpl : ((backTo pos (starEach [] X.env)).any (·.1) || (backToKw pos (keywordEach kws X.env)).any (·.1.isNone)) = false := by rfl) :
    PE X (.Call (.Name x p) [] kws pos) (tMkX C f tk) := by
  refine ⟨fun pins s σ H Q I h => ?_⟩
  refine wpAny_Call_Name_kw (ld_glob I hg hm ?_ hdb)
  refine PySem.W.callWith_KW0 (h₀ := X.base) I.ok.mod.kin T.ox.kC hall ?_ hpl
  refine thn (hkw.run pos pins s σ H _ I h) fun ws s2 ⟨zs, H2, I2, rz, v, ev, q2⟩ => ⟨I2.kIn, ?_⟩
  subst ev
  cases rz with
  | cons rv rn =>
    cases rn
    rw [hks]
    exact run_mkX T F1 hr (fun s y => hb2 s y _) hx (Nat.zero_le _) I2 rv q2
end
theorem exo_inst {P : Program} {w : World} {H : Hp} {h : Heap} {a C dx : Addr} {f : Str} {v : V} (hok : HOk P w H h) (ha : H a = some (exo a C (some dx))) (hd : H dx = some (exd dx [(f, v)])) :
    ∃ (oe od : Obj) (u : Value), PySem.W.InstAt h a oe C (some od) ∧ PySem.W.lookIn f od = some (some u) ∧ RelV v u := by
  obtain ⟨t1, e1⟩ := exo_at hok ha
  obtain ⟨mA, hns, rel⟩ := exd_at hok hd
  obtain ⟨od, ho, hl⟩ := lookIn_ns hns
  have l : List.lookup f [(f, v)] = some v := by simp [List.lookup]
  obtain ⟨u, hu, ru⟩ := RelO.some_of (v := v) (o := mA f) (by rw [← l]; exact rel f)
  exact ⟨_, od, u, ⟨e1, rfl, rfl, ho⟩, by rw [hl, hu], ru⟩
/-- e.f -/
def tXf (K : PySem.W.Frag) (f : Str) (te : TE) : TE := fun σ H Q => te σ H fun x H1 => ∃ (a C fI : Addr) (v : V), x = .ref a ∧ XCls K C fI f ∧ ExAt H1 a C f v ∧ Q v H1
section
variable {X : Cx} {f : Str} {pos : Pos} {e : Expr} {te : TE}
theorem pe_xf (he : PE X e te) (hb : attributeBase e f X.env (eval e X.env) = eval e X.env := by rfl) : PE X (.Attribute e f pos) (tXf X.K f te) := by
  refine ⟨fun pins s σ H Q I h => ?_⟩
  refine attr_of hb (thn (he.run pins s σ H _ I h) fun u s1 hh => ?_)
  obtain ⟨x, H1, I1, rx, a, C, fI, v, ex, T, ⟨dx, ea, ed⟩, q⟩ := hh
  subst ex
  obtain rfl : u = Value.ref a := rx
  obtain ⟨oe, od, u, J, hl, ru⟩ := exo_inst I1.hok ea ed
  exact HandSPX.exc_get I1.kIn J T.ga T.gg T.ox.exC (PySem.W.findObj_own T.hd T.noF rfl hl) (handed_of ru) ⟨v, H1, I1.tok _, ru, q⟩
end
/-- what isinstance asks of such a class -/
structure XIs (K : PySem.W.Frag) (C : Addr) : Prop where
  cl : (PySem.W.clsIn K C).isSome = true
  ga : PySem.W.findIn K (.ref C) "__getattribute__" = some (some (.builtin "BaseException.__getattribute__"))
  gg : PySem.W.findIn K (.ref C) "__getattr__" = some none
  exC : PySem.W.subIn K (.ref C) (.type "BaseException") = some true
  ca : PySem.W.findIn K (.ref C) "__class__" = some (some (.builtin "object.__class__"))
  sp : PySem.W.specialIn K (.builtin "object.__class__") "__get__" = some (some (.builtin "getset_descriptor.__get__"))
  tk : PySem.W.takesIn K (.builtin "object.__class__") = some true
  mr : PySem.W.mroIn K C (.type "object") = some true
/-- isinstance(e, c), e such an exception -/
def rIsX (K : PySem.W.Frag) : List V → Hp → VK → Prop := fun xs H Q => ∃ (a C : Addr) (f : Str) (v c : V) (u : Value) (b : Bool), xs = [.ref a, c] ∧ ClsV c u ∧ XIs K C ∧ ExAt H a C f v ∧ PySem.W.kitOne K (.ref C) u = some b ∧ Q (.bl b) H
theorem call_isX {X : Cx} : CallR X (.builtin "isinstance") (rIsX X.K) := by
  intro pins s σ H xs us Q I r h
  obtain ⟨a, C, f, v, c, u, b, rfl, k, T, ⟨dx, ea, ed⟩, e, q⟩ := h
  obtain ⟨u1, u2, rfl, r1, r2⟩ := vals2 r
  have e2 := k.eq r2
  subst e2
  obtain rfl : u1 = Value.ref a := r1
  obtain ⟨oe, od, _, J, _, _⟩ := exo_inst I.hok ea ed
  exact PySem.W.kia_one (PySem.W.kitx_exc T.cl T.ga T.gg T.exC T.ca T.sp T.tk T.mr) I.kIn J e (fun z => nomatch z) fun tk => ⟨.bl b, H, I.tok tk, rfl, q⟩
/-- an exception of a built-in class, as a value -/
def bxo (a : Addr) (T : String) : HO := .ext fun h => ∃ o, h.get? a = some o ∧ o.cls = .type T
def tMkB (T : String) (t : TA) : TE := fun σ H Q => t σ H fun vs H1 => vs.length ≤ sizeLine ∧ ∀ a, H1 a = none → Q (.ref a) (upd H1 a (bxo a T))
def rIsB (K : PySem.W.Frag) (T : String) : List V → Hp → VK → Prop := fun xs H Q => ∃ (a : Addr) (c : V) (u : Value) (b : Bool), xs = [.ref a, c] ∧ ClsV c u ∧ H a = some (bxo a T) ∧ PySem.W.kitOne K (.type T) u = some b ∧ Q (.bl b) H
theorem call_isB_VE {X : Cx} : CallR X (.builtin "isinstance") (rIsB X.K "ValueError") := by
  intro pins s σ H xs us Q I r h
  obtain ⟨a, c, u, b, rfl, k, ea, e, q⟩ := h
  obtain ⟨u1, u2, rfl, r1, r2⟩ := vals2 r
  have e2 := k.eq r2
  subst e2
  obtain rfl : u1 = Value.ref a := r1
  have x : ObjOk X.prog X.w H s.heap a (.ext fun h => ∃ o, h.get? a = some o ∧ o.cls = .type "ValueError") := I.hok a _ ea
  obtain ⟨⟨o, h1, h2⟩, _⟩ := x
  exact PySem.W.kia_one (PySem.W.kitx_bexc PySem.F.excAttr_ValueError PySem.F.lkClass_ValueError PySem.F.soClass_ValueError (by decide +kernel)) I.kIn ⟨o, h1, h2⟩ e (fun z => nomatch z) fun tk => ⟨.bl b, H, I.tok tk, rfl, q⟩
end XV
namespace XV
open PySem PySem.Spec PyProof.Rows L2
section
variable {X : Cx} {T N I : String} {x : Str} {p pos : Pos} {e : Expr} {es : List Expr} {t : TA}
/-- T(e, ..), a built-in class of exceptions, as a value -/
theorem pe_mkB (F : ExcB T N I) (hg : Gl X x) (hm : X.mg x = none) (hv : bootBuiltins x = some (.type T)) (ha : PA X (e :: es) t) (hn : x ≠ "__name__" := by decide) (hdb : (x == ("__debug__" : Str)) = false := by decide)
    (he : starEach (e :: es) X.env = (false, eval e X.env) :: starEach es X.env := by rfl) (hpl : (backTo pos (starEach es X.env)).any (·.1) = false := by rfl) :
    PE X (.Call (.Name x p) (e :: es) [] pos) (tMkB T t) := by
  refine ⟨fun pins s σ H Q J h => ?_⟩
  refine wpAny_Call_Name_kw (ld_blt J hg hm hv ?_ hn hdb)
  refine PyProof.Rows.callWith_type1 (thn (ha.run pos pins s σ H _ J h) fun us s1 hh => ?_) he hpl
  obtain ⟨vs, H1, I1, r1, q0, q1⟩ := hh
  obtain ⟨hp1, g1, d1, tk1, os1⟩ := s1
  refine wpAny_call_exc F.call (fun h' a mk => ?_) (Nat.le_trans (Nat.le_of_eq r1.length.symm) q0)
  obtain ⟨t0, eo, _, _⟩ := mk.there
  have na : H1 a = none := I1.hok.gone mk.new
  have new : ObjOk X.prog X.w (upd H1 a (bxo a T)) h' a (bxo a T) := ⟨⟨_, eo, rfl⟩, ⟨_, eo⟩, fun h1 h2 ⟨o, z1, z2⟩ k => ⟨o, k _ z1, z2⟩⟩
  exact ⟨.ref a, _, I1.laidN (t' := tk1) (a := a) (o := bxo a T) mk.keeps mk.new na new, rfl, q1 a na⟩
end
end XV
set_option Elab.async false
set_option linter.all false
set_option maxRecDepth 100000
set_option maxHeartbeats 4000000
namespace K19
open PySem PySem.Spec PyProof.Rows L2 XV
local macro_rules | `(tactic| walk_at "rd") => `(tactic| repeat (first | refine And.intro rfl ?_ | refine And.intro (by assumption) ?_ | refine And.intro (SqL.of upd_same) ?_ | refine And.intro upd_same ?_ | refine And.intro (by first | decide | (dsimp only; decide) | (dsimp only; omega)) ?_ | refine And.intro ⟨by decide, by decide⟩ ?_ | refine And.intro (Or.inl ⟨by omega, by omega⟩) ?_ | refine And.intro (Or.inr ⟨by decide, by decide⟩) ?_ | refine And.intro (Or.inl ⟨by decide, by decide⟩) ?_ | refine Or.inl (Exists.intro _ (And.intro rfl ?_)) | refine Or.inr (Exists.intro _ (And.intro rfl ?_)) | apply Exists.intro))
/-! ### the text by places -/
def topS (i : Nat) : Stmt := PySem.Challenge.pw_slabpins_k19_exceptions.main.body.getD i (.Pass ⟨0, 0, 0, 0⟩)
abbrev s__law_draw : Stmt := topS 13
theorem sc__law_draw : FnScope ["_law_well", "_law_many", "_law_found", "_law_figure"] ["_law_well", "_law_many"] (defScope s__law_draw) := ⟨rfl, rfl, rfl, by decide +kernel, rfl, by decide +kernel, by decide +kernel⟩
abbrev s__law_taken : Stmt := topS 14
theorem sc__law_taken : FnScope ["_law_e", "_law_first"] ["_law_e"] (defScope s__law_taken) := ⟨rfl, rfl, rfl, by decide +kernel, rfl, by decide +kernel, by decide +kernel⟩
abbrev s__law_by_place : Stmt := topS 15
theorem sc__law_by_place : FnScope ["_law_x", "_law_some"] ["_law_x"] (defScope s__law_by_place) := ⟨rfl, rfl, rfl, by decide +kernel, rfl, by decide +kernel, by decide +kernel⟩
abbrev s__law_by_name : Stmt := topS 16
theorem sc__law_by_name : FnScope ["_law_x", "_law_some"] ["_law_x"] (defScope s__law_by_name) := ⟨rfl, rfl, rfl, by decide +kernel, rfl, by decide +kernel, by decide +kernel⟩
abbrev s__law_fields : Stmt := topS 17
theorem sc__law_fields : FnScope ["_law_some", "_law_found"] ["_law_some"] (defScope s__law_fields) := ⟨rfl, rfl, rfl, by decide +kernel, rfl, by decide +kernel, by decide +kernel⟩
abbrev s__law_right : Stmt := topS 18
theorem sc__law_right : FnScope ["_law_well", "_law_x", "_law_some", "_law_spot", "_law_e", "_law_k"] ["_law_well"] (defScope s__law_right) := ⟨rfl, rfl, rfl, by decide +kernel, rfl, by decide +kernel, by decide +kernel⟩
abbrev s_law : Stmt := topS 19
theorem sc_law : FnScope ["_law_script", "_law_k", "_law_cell"] ["_law_script"] (defScope s_law) := ⟨rfl, rfl, rfl, by decide +kernel, rfl, by decide +kernel, by decide +kernel⟩
abbrev s_i0 : Stmt := inClass (topS 2) 0
theorem sc_i0 : FnScope ["self", "index"] ["self", "index"] (defScope s_i0) := ⟨rfl, rfl, rfl, by decide +kernel, rfl, by decide +kernel, by decide +kernel⟩
abbrev s_i1 : Stmt := inClass (topS 3) 0
theorem sc_i1 : FnScope ["self", "number"] ["self", "number"] (defScope s_i1) := ⟨rfl, rfl, rfl, by decide +kernel, rfl, by decide +kernel, by decide +kernel⟩
abbrev s_i2 : Stmt := inClass (topS 4) 0
theorem sc_i2 : FnScope ["self", "index"] ["self", "index"] (defScope s_i2) := ⟨rfl, rfl, rfl, by decide +kernel, rfl, by decide +kernel, by decide +kernel⟩
abbrev s_i3 : Stmt := inClass (topS 5) 0
theorem sc_i3 : FnScope ["self", "index"] ["self", "index"] (defScope s_i3) := ⟨rfl, rfl, rfl, by decide +kernel, rfl, by decide +kernel, by decide +kernel⟩
abbrev s_i4 : Stmt := inClass (topS 6) 0
theorem sc_i4 : FnScope ["self", "index"] ["self", "index"] (defScope s_i4) := ⟨rfl, rfl, rfl, by decide +kernel, rfl, by decide +kernel, by decide +kernel⟩
abbrev s_i5 : Stmt := inClass (topS 7) 0
theorem sc_i5 : FnScope ["self", "pins"] ["self", "pins"] (defScope s_i5) := ⟨rfl, rfl, rfl, by decide +kernel, rfl, by decide +kernel, by decide +kernel⟩
abbrev s_i6 : Stmt := inClass (topS 8) 0
theorem sc_i6 : FnScope ["self", "numbers"] ["self", "numbers"] (defScope s_i6) := ⟨rfl, rfl, rfl, by decide +kernel, rfl, by decide +kernel, by decide +kernel⟩
abbrev s_i7 : Stmt := inClass (topS 9) 0
theorem sc_i7 : FnScope ["self", "pages"] ["self", "pages"] (defScope s_i7) := ⟨rfl, rfl, rfl, by decide +kernel, rfl, by decide +kernel, by decide +kernel⟩
abbrev s_i8 : Stmt := inClass (topS 10) 0
theorem sc_i8 : FnScope ["self", "index"] ["self", "index"] (defScope s_i8) := ⟨rfl, rfl, rfl, by decide +kernel, rfl, by decide +kernel, by decide +kernel⟩
abbrev s_i9 : Stmt := inClass (topS 11) 0
theorem sc_i9 : FnScope ["self", "most"] ["self", "most"] (defScope s_i9) := ⟨rfl, rfl, rfl, by decide +kernel, rfl, by decide +kernel, by decide +kernel⟩

/-! ### a draw: below its bound; the list changes at its own places -/
def spDraw : Sp := fun vs H Q _ => ∃ (l : Addr) (m a b c : Int), vs = [.ref l, .int m] ∧ H l = some (.lst [.int a, .int b, .int c]) ∧ 0 < m ∧ m < 1073741824 ∧
  ∀ n a' c', 0 ≤ n → n < m → Q (.int n) (upd H l (.lst [.int a', .int b, .int c']))
section
variable {P : Program} {w : World} {K : PySem.W.Frag} {mg : Str → Option Value} {base : Heap}
structure Bi (mg : Str → Option Value) : Prop where
  b_int : mg "int" = none
  b_enumerate : mg "enumerate" = none
  b_range : mg "range" = none
  b_isinstance : mg "isinstance" = none
  b_ValueError : mg "ValueError" = none
theorem ok_draw {f : Addr} {fd : FuncData} (F : Fun K "_law_draw" "_law_draw" s__law_draw f fd) (T : Bi mg) : FnOk P w K mg base CX0 1 f fd ["_law_well", "_law_many"] spDraw := by
  refine F.ok sc__law_draw (fun vs H Q E h => ?_) (fun cdv A outer s H vs Q E hr h => ?_)
  · obtain ⟨l, m, a, b, c, rfl, _⟩ := h
    rfl
  · obtain ⟨l, m, a, b, c, rfl, hl, hm, hm2, k⟩ := h
    refine ⟨_, (pss_cons (ps_if (pt_cmpR op_gt (pe_ix ix_list (pv 0) pe_int (fun _ _ => rfl)) pe_int (nomark _)) (pss_cons (ps_set (i := 2) sc__law_draw.nd rfl (Or.inl rfl) (pe_op op_mod (pe_callTy call_int1 (by rfl) T.b_int (by decide +kernel) (pa_cons (pe_ix ix_list (pv 0) pe_int (fun _ _ => rfl)) pa_nil)) (pv 1)))
      (pss_cons (ps_asg (pe_op op_fdiv (pe_ix ix_list (pv 0) pe_int (fun _ _ => rfl)) (pv 1)) (pg_sub (pv 0) pe_int set_list))
      (pss_one (ps_ret (pv 2))))) pss_nil)
      (pss_cons (ps_asg (pe_op op_add (pe_ix ix_list (pv 0) pe_int (fun _ _ => rfl)) pe_int) (pg_sub (pv 0) pe_int set_list))
      (pss_cons (ps_set (i := 3) sc__law_draw.nd rfl (Or.inl rfl) (pe_op op_mod (pe_callTy call_int1 (by rfl) T.b_int (by decide +kernel) (pa_cons (pe_op op_mul (pe_op op_add (pe_op op_add (pe_ix ix_list (pv 0) pe_int (fun _ _ => rfl)) (pe_op op_mul pe_int (pe_ix ix_list (pv 0) pe_int (fun _ _ => rfl)))) pe_int) pe_int) pa_nil)) pe_int))
      (pss_cons (ps_set (i := 3) sc__law_draw.nd rfl (Or.inl rfl) (pe_op op_mod (pe_callTy call_int1 (by rfl) T.b_int (by decide +kernel) (pa_cons (pe_op op_mul (pv 3) (pe_op op_add (pe_op op_fdiv (pv 3) pe_int) pe_int)) pa_nil)) pe_int))
      (pss_one (ps_ret (pe_op op_mod (pe_callTy call_int1 (by rfl) T.b_int (by decide +kernel) (pa_cons (pe_op op_mod (pe_callTy call_int1 (by rfl) T.b_int (by decide +kernel) (pa_cons (pe_op op_mul (pv 3) (pe_op op_add (pe_op op_fdiv (pv 3) pe_int) pe_int)) pa_nil)) pe_int) pa_nil)) (pv 1)))))))), ?_⟩
    have hL : SqL K H l [.int a, .int b, .int c] := SqL.of hl
    refine ⟨.ref l, rfl, l, _, 0, .int a, rfl, rfl, hL, rfl, a, 0, rfl, rfl, _, rfl, ite2 (fun e => ?_) (fun e => ?_)⟩
    · -- well[0] > 0
      refine ⟨.ref l, rfl, l, _, 0, .int a, rfl, rfl, hL, rfl, .inl ⟨a, rfl, .int m, rfl, a, m, rfl, rfl, hm, ?_⟩⟩
      refine ⟨.ref l, rfl, l, _, 0, .int a, rfl, rfl, hL, rfl, .int m, rfl, a, m, rfl, rfl, ⟨hm, hm2⟩, .ref l, rfl, l, _, 0, 0, rfl, rfl, hl, rfl, ?_⟩
      exact ⟨.int (a % m), rfl, k _ _ _ (Int.emod_nonneg _ (by omega)) (Int.emod_lt_of_pos _ hm)⟩
    · walk_at "rd"
      exact k _ _ _ (Int.emod_nonneg _ (by omega)) (Int.emod_lt_of_pos _ hm)
end
end K19
set_option Elab.async false
set_option linter.all false
set_option maxRecDepth 100000
set_option maxHeartbeats 4000000
namespace K19
open PySem PySem.Spec PyProof.Rows L2 XV
/-! ### the ten classes -/
structure EA where
  c : Nat → Addr
  i : Nat → Addr
  fd : Nat → FuncData
  S : Addr
def errF (n : Nat) : Str := (["index", "number", "index", "index", "index", "pins", "numbers", "pages", "index", "most"] : List Str).getD n "index"
section
variable {P : Program} {w : World} {K : PySem.W.Frag} {mg : Str → Option Value} {base : Heap}
theorem ok_i0 {C fI : Addr} {fd : FuncData} (F : Fun K "__init__" "NoSlab.__init__" s_i0 fI fd) (T : XCls K C fI "index") : FnOk P w K mg base CX0 1 fI fd ["self", "index"] (spIni C "index") := by
  refine F.ok sc_i0 (fun vs H Q E h => ?_) (fun cdv A outer s H vs Q E hr h => ?_)
  · obtain ⟨a, v, rfl, _⟩ := h
    rfl
  · obtain ⟨a, v, rfl, ha, k⟩ := h
    exact ⟨_, pss_one (ps_ost (pv 0) (pv 1)), _, rfl, _, rfl, a, C, rfl, T.ox, T.noF, .inl ⟨ha, fun dx n ne => k dx n ne⟩⟩
theorem ok_i1 {C fI : Addr} {fd : FuncData} (F : Fun K "__init__" "NoClass.__init__" s_i1 fI fd) (T : XCls K C fI "number") : FnOk P w K mg base CX0 1 fI fd ["self", "number"] (spIni C "number") := by
  refine F.ok sc_i1 (fun vs H Q E h => ?_) (fun cdv A outer s H vs Q E hr h => ?_)
  · obtain ⟨a, v, rfl, _⟩ := h
    rfl
  · obtain ⟨a, v, rfl, ha, k⟩ := h
    exact ⟨_, pss_one (ps_ost (pv 0) (pv 1)), _, rfl, _, rfl, a, C, rfl, T.ox, T.noF, .inl ⟨ha, fun dx n ne => k dx n ne⟩⟩
theorem ok_i2 {C fI : Addr} {fd : FuncData} (F : Fun K "__init__" "NoTable.__init__" s_i2 fI fd) (T : XCls K C fI "index") : FnOk P w K mg base CX0 1 fI fd ["self", "index"] (spIni C "index") := by
  refine F.ok sc_i2 (fun vs H Q E h => ?_) (fun cdv A outer s H vs Q E hr h => ?_)
  · obtain ⟨a, v, rfl, _⟩ := h
    rfl
  · obtain ⟨a, v, rfl, ha, k⟩ := h
    exact ⟨_, pss_one (ps_ost (pv 0) (pv 1)), _, rfl, _, rfl, a, C, rfl, T.ox, T.noF, .inl ⟨ha, fun dx n ne => k dx n ne⟩⟩
theorem ok_i3 {C fI : Addr} {fd : FuncData} (F : Fun K "__init__" "NoSteps.__init__" s_i3 fI fd) (T : XCls K C fI "index") : FnOk P w K mg base CX0 1 fI fd ["self", "index"] (spIni C "index") := by
  refine F.ok sc_i3 (fun vs H Q E h => ?_) (fun cdv A outer s H vs Q E hr h => ?_)
  · obtain ⟨a, v, rfl, _⟩ := h
    rfl
  · obtain ⟨a, v, rfl, ha, k⟩ := h
    exact ⟨_, pss_one (ps_ost (pv 0) (pv 1)), _, rfl, _, rfl, a, C, rfl, T.ox, T.noF, .inl ⟨ha, fun dx n ne => k dx n ne⟩⟩
theorem ok_i4 {C fI : Addr} {fd : FuncData} (F : Fun K "__init__" "NoCertificate.__init__" s_i4 fI fd) (T : XCls K C fI "index") : FnOk P w K mg base CX0 1 fI fd ["self", "index"] (spIni C "index") := by
  refine F.ok sc_i4 (fun vs H Q E h => ?_) (fun cdv A outer s H vs Q E hr h => ?_)
  · obtain ⟨a, v, rfl, _⟩ := h
    rfl
  · obtain ⟨a, v, rfl, ha, k⟩ := h
    exact ⟨_, pss_one (ps_ost (pv 0) (pv 1)), _, rfl, _, rfl, a, C, rfl, T.ox, T.noF, .inl ⟨ha, fun dx n ne => k dx n ne⟩⟩
theorem ok_i5 {C fI : Addr} {fd : FuncData} (F : Fun K "__init__" "NoPins.__init__" s_i5 fI fd) (T : XCls K C fI "pins") : FnOk P w K mg base CX0 1 fI fd ["self", "pins"] (spIni C "pins") := by
  refine F.ok sc_i5 (fun vs H Q E h => ?_) (fun cdv A outer s H vs Q E hr h => ?_)
  · obtain ⟨a, v, rfl, _⟩ := h
    rfl
  · obtain ⟨a, v, rfl, ha, k⟩ := h
    exact ⟨_, pss_one (ps_ost (pv 0) (pv 1)), _, rfl, _, rfl, a, C, rfl, T.ox, T.noF, .inl ⟨ha, fun dx n ne => k dx n ne⟩⟩
theorem ok_i6 {C fI : Addr} {fd : FuncData} (F : Fun K "__init__" "Stuck.__init__" s_i6 fI fd) (T : XCls K C fI "numbers") : FnOk P w K mg base CX0 1 fI fd ["self", "numbers"] (spIni C "numbers") := by
  refine F.ok sc_i6 (fun vs H Q E h => ?_) (fun cdv A outer s H vs Q E hr h => ?_)
  · obtain ⟨a, v, rfl, _⟩ := h
    rfl
  · obtain ⟨a, v, rfl, ha, k⟩ := h
    exact ⟨_, pss_one (ps_ost (pv 0) (pv 1)), _, rfl, _, rfl, a, C, rfl, T.ox, T.noF, .inl ⟨ha, fun dx n ne => k dx n ne⟩⟩
theorem ok_i7 {C fI : Addr} {fd : FuncData} (F : Fun K "__init__" "NoPages.__init__" s_i7 fI fd) (T : XCls K C fI "pages") : FnOk P w K mg base CX0 1 fI fd ["self", "pages"] (spIni C "pages") := by
  refine F.ok sc_i7 (fun vs H Q E h => ?_) (fun cdv A outer s H vs Q E hr h => ?_)
  · obtain ⟨a, v, rfl, _⟩ := h
    rfl
  · obtain ⟨a, v, rfl, ha, k⟩ := h
    exact ⟨_, pss_one (ps_ost (pv 0) (pv 1)), _, rfl, _, rfl, a, C, rfl, T.ox, T.noF, .inl ⟨ha, fun dx n ne => k dx n ne⟩⟩
theorem ok_i8 {C fI : Addr} {fd : FuncData} (F : Fun K "__init__" "NoRows.__init__" s_i8 fI fd) (T : XCls K C fI "index") : FnOk P w K mg base CX0 1 fI fd ["self", "index"] (spIni C "index") := by
  refine F.ok sc_i8 (fun vs H Q E h => ?_) (fun cdv A outer s H vs Q E hr h => ?_)
  · obtain ⟨a, v, rfl, _⟩ := h
    rfl
  · obtain ⟨a, v, rfl, ha, k⟩ := h
    exact ⟨_, pss_one (ps_ost (pv 0) (pv 1)), _, rfl, _, rfl, a, C, rfl, T.ox, T.noF, .inl ⟨ha, fun dx n ne => k dx n ne⟩⟩
theorem ok_i9 {C fI : Addr} {fd : FuncData} (F : Fun K "__init__" "TooMany.__init__" s_i9 fI fd) (T : XCls K C fI "most") : FnOk P w K mg base CX0 1 fI fd ["self", "most"] (spIni C "most") := by
  refine F.ok sc_i9 (fun vs H Q E h => ?_) (fun cdv A outer s H vs Q E hr h => ?_)
  · obtain ⟨a, v, rfl, _⟩ := h
    rfl
  · obtain ⟨a, v, rfl, ha, k⟩ := h
    exact ⟨_, pss_one (ps_ost (pv 0) (pv 1)), _, rfl, _, rfl, a, C, rfl, T.ox, T.noF, .inl ⟨ha, fun dx n ne => k dx n ne⟩⟩
/-- what the top has made of the ten classes -/
structure Errs (P : Program) (w : World) (K : PySem.W.Frag) (mg : Str → Option Value) (base : Heap) (A : EA) : Prop where
  isx : ∀ n, n < 10 → XIs K (A.c n)
  cls : ∀ n, n < 10 → XCls K (A.c n) (A.i n) (errF n)
  kit : ∀ i j, i < 10 → j < 10 → PySem.W.kitOne K (.ref (A.c i)) (.ref (A.c j)) = some (decide (i = j))
  kitS : ∀ i, i < 10 → PySem.W.kitOne K (.ref (A.c i)) (.ref A.S) = some true
  kitV : ∀ i, i < 10 → PySem.W.kitOne K (.ref (A.c i)) (.type "ValueError") = some true
  kitVS : PySem.W.kitOne K (.type "ValueError") (.ref A.S) = some false
  gS : mg "SlabError" = some (.ref A.S)
  ini : ∀ n, n < 10 → FnOk P w K mg base CX0 1 (A.i n) (A.fd n) ["self", errF n] (spIni (A.c n) (errF n))
  bd : ∀ n, n < 10 → Binds K (A.fd n) ["self", errF n] []
  bp : ∀ n, n < 10 → ∀ (s : Shared) (y u : Value), BindsTo s (A.fd n) ⟨[y, u], []⟩ ((["self", errF n] : List Str).zip [y, u])
  bk : ∀ n, n < 10 → ∀ (s : Shared) (y u : Value), BindsTo s (A.fd n) ⟨[y], ([errF n] : List Str).zip [u]⟩ ((["self", errF n] : List Str).zip [y, u])
  g0 : mg "NoSlab" = some (.ref (A.c 0))
  g1 : mg "NoClass" = some (.ref (A.c 1))
  g2 : mg "NoTable" = some (.ref (A.c 2))
  g3 : mg "NoSteps" = some (.ref (A.c 3))
  g4 : mg "NoCertificate" = some (.ref (A.c 4))
  g5 : mg "NoPins" = some (.ref (A.c 5))
  g6 : mg "Stuck" = some (.ref (A.c 6))
  g7 : mg "NoPages" = some (.ref (A.c 7))
  g8 : mg "NoRows" = some (.ref (A.c 8))
  g9 : mg "TooMany" = some (.ref (A.c 9))
/-! ### _law_taken -/
def tks (n : Nat) : List V := (List.range 10).map fun i => V.bl (decide (n = i))
def spTaken (A : EA) : Sp := fun vs H Q _ => ∃ (a : Addr) (n : Nat) (v : V), vs = [.ref a] ∧ n < 10 ∧ ExAt H a (A.c n) (errF n) v ∧ ∀ H' q, Same H H' → H' q = some (.lst (tks n)) → Q (.ref q) H'
theorem eqU {H H1 : Hp} {p : Addr} {o : HO} (e : upd H p o = H1) (n : H p = none) : Same H H1 ∧ H1 p = some o := by
  subst e
  exact ⟨fun b u z => by rw [upd_ne (ne_of_none z n)]; exact z, upd_same⟩
theorem eqE {H H1 : Hp} {a d C : Addr} {f : Str} {v : V} (e : mkE H a d C f v = H1) (na : H a = none) (nd : H d = none) (ne : d ≠ a) : Same H H1 ∧ ExAt H1 a C f v := by
  subst e
  exact ⟨mkE_same na nd, mkE_at ne⟩
theorem same_upd {H : Hp} {p : Addr} {o : HO} (h : H p = none) : Same H (upd H p o) := fun b u e => by
  rw [upd_ne (ne_of_none e h)]
  exact e
theorem ok_taken {A : EA} {f : Addr} {fd : FuncData} (F : Fun K "_law_taken" "_law_taken" s__law_taken f fd) (B : Bi mg) (T : Errs P w K mg base A) : FnOk P w K mg base CX0 1 f fd ["_law_e"] (spTaken A) := by
  refine F.ok sc__law_taken (fun vs H Q E h => ?_) (fun cdv Ar outer s H vs Q E hr h => ?_)
  · obtain ⟨a, n, v, rfl, _⟩ := h
    rfl
  · obtain ⟨a, n, v, rfl, hn, hE, k⟩ := h
    refine ⟨_, (pss_cons (ps_set (i := 1) sc__law_taken.nd rfl (Or.inl rfl) (pe_lst (pa_cons (pe_callB call_isX (by rfl) B.b_isinstance (by decide +kernel) (pa_cons (pv 0) (pa_cons (pe_glob (v := V.ref (A.c 0)) rfl T.g0 rfl) pa_nil))) (pa_cons (pe_callB call_isX (by rfl) B.b_isinstance (by decide +kernel) (pa_cons (pv 0) (pa_cons (pe_glob (v := V.ref (A.c 1)) rfl T.g1 rfl) pa_nil))) (pa_cons (pe_callB call_isX (by rfl) B.b_isinstance (by decide +kernel) (pa_cons (pv 0) (pa_cons (pe_glob (v := V.ref (A.c 2)) rfl T.g2 rfl) pa_nil))) (pa_cons (pe_callB call_isX (by rfl) B.b_isinstance (by decide +kernel) (pa_cons (pv 0) (pa_cons (pe_glob (v := V.ref (A.c 3)) rfl T.g3 rfl) pa_nil))) pa_nil))))))
      (pss_cons (ps_set (i := 1) sc__law_taken.nd rfl (Or.inl rfl) (pe_op op_cat (pv 1) (pe_lst (pa_cons (pe_callB call_isX (by rfl) B.b_isinstance (by decide +kernel) (pa_cons (pv 0) (pa_cons (pe_glob (v := V.ref (A.c 4)) rfl T.g4 rfl) pa_nil))) (pa_cons (pe_callB call_isX (by rfl) B.b_isinstance (by decide +kernel) (pa_cons (pv 0) (pa_cons (pe_glob (v := V.ref (A.c 5)) rfl T.g5 rfl) pa_nil))) (pa_cons (pe_callB call_isX (by rfl) B.b_isinstance (by decide +kernel) (pa_cons (pv 0) (pa_cons (pe_glob (v := V.ref (A.c 6)) rfl T.g6 rfl) pa_nil))) pa_nil))))))
      (pss_one (ps_ret (pe_op op_cat (pv 1) (pe_lst (pa_cons (pe_callB call_isX (by rfl) B.b_isinstance (by decide +kernel) (pa_cons (pv 0) (pa_cons (pe_glob (v := V.ref (A.c 7)) rfl T.g7 rfl) pa_nil))) (pa_cons (pe_callB call_isX (by rfl) B.b_isinstance (by decide +kernel) (pa_cons (pv 0) (pa_cons (pe_glob (v := V.ref (A.c 8)) rfl T.g8 rfl) pa_nil))) (pa_cons (pe_callB call_isX (by rfl) B.b_isinstance (by decide +kernel) (pa_cons (pv 0) (pa_cons (pe_glob (v := V.ref (A.c 9)) rfl T.g9 rfl) pa_nil))) pa_nil))))))))), ?_⟩
    refine ⟨.ref a, rfl, a, A.c n, errF n, v, .ref (A.c 0), .ref (A.c 0), decide (n = 0), rfl, .own _, T.isx n hn, hE, T.kit n 0 hn (by decide), ?_⟩
    refine ⟨.ref a, rfl, a, A.c n, errF n, v, .ref (A.c 1), .ref (A.c 1), decide (n = 1), rfl, .own _, T.isx n hn, hE, T.kit n 1 hn (by decide), ?_⟩
    refine ⟨.ref a, rfl, a, A.c n, errF n, v, .ref (A.c 2), .ref (A.c 2), decide (n = 2), rfl, .own _, T.isx n hn, hE, T.kit n 2 hn (by decide), ?_⟩
    refine ⟨.ref a, rfl, a, A.c n, errF n, v, .ref (A.c 3), .ref (A.c 3), decide (n = 3), rfl, .own _, T.isx n hn, hE, T.kit n 3 hn (by decide), ?_⟩
    refine ⟨(by show 4 ≤ sizeLine; decide), fun p1 np1 => ?_⟩
    generalize hH1 : upd _ p1 _ = H1
    obtain ⟨tH1, lp1⟩ := eqU hH1 np1
    have sH1 : Same H H1 := tH1
    refine ⟨.ref p1, rfl, ?_⟩
    refine ⟨.ref a, rfl, a, A.c n, errF n, v, .ref (A.c 4), .ref (A.c 4), decide (n = 4), rfl, .own _, T.isx n hn, (hE.keep sH1), T.kit n 4 hn (by decide), ?_⟩
    refine ⟨.ref a, rfl, a, A.c n, errF n, v, .ref (A.c 5), .ref (A.c 5), decide (n = 5), rfl, .own _, T.isx n hn, (hE.keep sH1), T.kit n 5 hn (by decide), ?_⟩
    refine ⟨.ref a, rfl, a, A.c n, errF n, v, .ref (A.c 6), .ref (A.c 6), decide (n = 6), rfl, .own _, T.isx n hn, (hE.keep sH1), T.kit n 6 hn (by decide), ?_⟩
    refine ⟨(by show 3 ≤ sizeLine; decide), fun p2 np2 => ?_⟩
    generalize hH2 : upd _ p2 _ = H2
    obtain ⟨tH2, lp2⟩ := eqU hH2 np2
    have sH2 : Same H H2 := (sH1).trans tH2
    refine ⟨p1, p2, _, _, rfl, rfl, tH2 _ _ lp1, lp2, (by show 7 ≤ sizeLine; decide), fun p3 np3 => ?_⟩
    generalize hH3 : upd _ p3 _ = H3
    obtain ⟨tH3, lp3⟩ := eqU hH3 np3
    have sH3 : Same H H3 := (sH2).trans tH3
    refine ⟨.ref p3, rfl, ?_⟩
    refine ⟨.ref a, rfl, a, A.c n, errF n, v, .ref (A.c 7), .ref (A.c 7), decide (n = 7), rfl, .own _, T.isx n hn, (hE.keep sH3), T.kit n 7 hn (by decide), ?_⟩
    refine ⟨.ref a, rfl, a, A.c n, errF n, v, .ref (A.c 8), .ref (A.c 8), decide (n = 8), rfl, .own _, T.isx n hn, (hE.keep sH3), T.kit n 8 hn (by decide), ?_⟩
    refine ⟨.ref a, rfl, a, A.c n, errF n, v, .ref (A.c 9), .ref (A.c 9), decide (n = 9), rfl, .own _, T.isx n hn, (hE.keep sH3), T.kit n 9 hn (by decide), ?_⟩
    refine ⟨(by show 3 ≤ sizeLine; decide), fun p4 np4 => ?_⟩
    generalize hH4 : upd _ p4 _ = H4
    obtain ⟨tH4, lp4⟩ := eqU hH4 np4
    have sH4 : Same H H4 := (sH3).trans tH4
    refine ⟨p3, p4, _, _, rfl, rfl, tH4 _ _ lp3, lp4, (by show 10 ≤ sizeLine; decide), fun p5 np5 => ?_⟩
    generalize hH5 : upd _ p5 _ = H5
    obtain ⟨tH5, lp5⟩ := eqU hH5 np5
    have sH5 : Same H H5 := (sH4).trans tH5
    exact k _ p5 sH5 lp5
/-! ### the making, by place and by name -/
def spMk (A : EA) : Sp := fun vs H Q _ => ∃ x : V, vs = [x] ∧ ∀ H' q (as : List Addr), as.length = 10 → Same H H' → H' q = some (.lst (as.map V.ref)) → (∀ n a, as[n]? = some a → ExAt H' a (A.c n) (errF n) x) → Q (.ref q) H'
theorem ok_by_place {A : EA} {f : Addr} {fd : FuncData} (F : Fun K "_law_by_place" "_law_by_place" s__law_by_place f fd) (T : Errs P w K mg base A) : FnOk P w K mg base CX0 3 f fd ["_law_x"] (spMk A) := by
  refine F.ok sc__law_by_place (fun vs H Q E h => ?_) (fun cdv Ar outer s H vs Q E hr h => ?_)
  · obtain ⟨x, rfl, _⟩ := h
    rfl
  · obtain ⟨x, rfl, k⟩ := h
    refine ⟨_, (pss_cons (ps_set (i := 1) sc__law_by_place.nd rfl (Or.inl rfl) (pe_lst (pa_cons (pe_mkX (T.cls 0 (by decide)) (T.ini 0 (by decide)) (hr.mono (by decide)) (T.bd 0 (by decide)) (T.bp 0 (by decide)) pass0 rfl T.g0 (pa_cons (pv 0) pa_nil)) (pa_cons (pe_mkX (T.cls 1 (by decide)) (T.ini 1 (by decide)) (hr.mono (by decide)) (T.bd 1 (by decide)) (T.bp 1 (by decide)) pass0 rfl T.g1 (pa_cons (pv 0) pa_nil)) (pa_cons (pe_mkX (T.cls 2 (by decide)) (T.ini 2 (by decide)) (hr.mono (by decide)) (T.bd 2 (by decide)) (T.bp 2 (by decide)) pass0 rfl T.g2 (pa_cons (pv 0) pa_nil)) (pa_cons (pe_mkX (T.cls 3 (by decide)) (T.ini 3 (by decide)) (hr.mono (by decide)) (T.bd 3 (by decide)) (T.bp 3 (by decide)) pass0 rfl T.g3 (pa_cons (pv 0) pa_nil)) (pa_cons (pe_mkX (T.cls 4 (by decide)) (T.ini 4 (by decide)) (hr.mono (by decide)) (T.bd 4 (by decide)) (T.bp 4 (by decide)) pass0 rfl T.g4 (pa_cons (pv 0) pa_nil)) (pa_cons (pe_mkX (T.cls 5 (by decide)) (T.ini 5 (by decide)) (hr.mono (by decide)) (T.bd 5 (by decide)) (T.bp 5 (by decide)) pass0 rfl T.g5 (pa_cons (pv 0) pa_nil)) (pa_cons (pe_mkX (T.cls 6 (by decide)) (T.ini 6 (by decide)) (hr.mono (by decide)) (T.bd 6 (by decide)) (T.bp 6 (by decide)) pass0 rfl T.g6 (pa_cons (pv 0) pa_nil)) pa_nil)))))))))
      (pss_one (ps_ret (pe_op op_cat (pv 1) (pe_lst (pa_cons (pe_mkX (T.cls 7 (by decide)) (T.ini 7 (by decide)) (hr.mono (by decide)) (T.bd 7 (by decide)) (T.bp 7 (by decide)) pass0 rfl T.g7 (pa_cons (pv 0) pa_nil)) (pa_cons (pe_mkX (T.cls 8 (by decide)) (T.ini 8 (by decide)) (hr.mono (by decide)) (T.bd 8 (by decide)) (T.bp 8 (by decide)) pass0 rfl T.g8 (pa_cons (pv 0) pa_nil)) (pa_cons (pe_mkX (T.cls 9 (by decide)) (T.ini 9 (by decide)) (hr.mono (by decide)) (T.bd 9 (by decide)) (T.bp 9 (by decide)) pass0 rfl T.g9 (pa_cons (pv 0) pa_nil)) pa_nil)))))))), ?_⟩
    have S0 : Same H H := Same.refl H
    refine ⟨x, rfl, x, rfl, fun a0 d0 na0 nd0 ne0 => ?_⟩
    generalize hH1 : mkE _ a0 d0 _ _ _ = H1
    obtain ⟨tH1, E0⟩ := eqE hH1 na0 nd0 ne0
    have sH1 : Same H H1 := (S0).trans tH1
    refine ⟨x, rfl, x, rfl, fun a1 d1 na1 nd1 ne1 => ?_⟩
    generalize hH2 : mkE _ a1 d1 _ _ _ = H2
    obtain ⟨tH2, E1⟩ := eqE hH2 na1 nd1 ne1
    have sH2 : Same H H2 := (sH1).trans tH2
    replace E0 := E0.keep tH2
    refine ⟨x, rfl, x, rfl, fun a2 d2 na2 nd2 ne2 => ?_⟩
    generalize hH3 : mkE _ a2 d2 _ _ _ = H3
    obtain ⟨tH3, E2⟩ := eqE hH3 na2 nd2 ne2
    have sH3 : Same H H3 := (sH2).trans tH3
    replace E0 := E0.keep tH3
    replace E1 := E1.keep tH3
    refine ⟨x, rfl, x, rfl, fun a3 d3 na3 nd3 ne3 => ?_⟩
    generalize hH4 : mkE _ a3 d3 _ _ _ = H4
    obtain ⟨tH4, E3⟩ := eqE hH4 na3 nd3 ne3
    have sH4 : Same H H4 := (sH3).trans tH4
    replace E0 := E0.keep tH4
    replace E1 := E1.keep tH4
    replace E2 := E2.keep tH4
    refine ⟨x, rfl, x, rfl, fun a4 d4 na4 nd4 ne4 => ?_⟩
    generalize hH5 : mkE _ a4 d4 _ _ _ = H5
    obtain ⟨tH5, E4⟩ := eqE hH5 na4 nd4 ne4
    have sH5 : Same H H5 := (sH4).trans tH5
    replace E0 := E0.keep tH5
    replace E1 := E1.keep tH5
    replace E2 := E2.keep tH5
    replace E3 := E3.keep tH5
    refine ⟨x, rfl, x, rfl, fun a5 d5 na5 nd5 ne5 => ?_⟩
    generalize hH6 : mkE _ a5 d5 _ _ _ = H6
    obtain ⟨tH6, E5⟩ := eqE hH6 na5 nd5 ne5
    have sH6 : Same H H6 := (sH5).trans tH6
    replace E0 := E0.keep tH6
    replace E1 := E1.keep tH6
    replace E2 := E2.keep tH6
    replace E3 := E3.keep tH6
    replace E4 := E4.keep tH6
    refine ⟨x, rfl, x, rfl, fun a6 d6 na6 nd6 ne6 => ?_⟩
    generalize hH7 : mkE _ a6 d6 _ _ _ = H7
    obtain ⟨tH7, E6⟩ := eqE hH7 na6 nd6 ne6
    have sH7 : Same H H7 := (sH6).trans tH7
    replace E0 := E0.keep tH7
    replace E1 := E1.keep tH7
    replace E2 := E2.keep tH7
    replace E3 := E3.keep tH7
    replace E4 := E4.keep tH7
    replace E5 := E5.keep tH7
    refine ⟨(by show 7 ≤ sizeLine; decide), fun p1 np1 => ?_⟩
    generalize hH8 : upd _ p1 _ = H8
    obtain ⟨tH8, lp1⟩ := eqU hH8 np1
    have sH8 : Same H H8 := (sH7).trans tH8
    replace E0 := E0.keep tH8
    replace E1 := E1.keep tH8
    replace E2 := E2.keep tH8
    replace E3 := E3.keep tH8
    replace E4 := E4.keep tH8
    replace E5 := E5.keep tH8
    replace E6 := E6.keep tH8
    refine ⟨.ref p1, rfl, ?_⟩
    refine ⟨x, rfl, x, rfl, fun a7 d7 na7 nd7 ne7 => ?_⟩
    generalize hH9 : mkE _ a7 d7 _ _ _ = H9
    obtain ⟨tH9, E7⟩ := eqE hH9 na7 nd7 ne7
    have sH9 : Same H H9 := (sH8).trans tH9
    replace E0 := E0.keep tH9
    replace E1 := E1.keep tH9
    replace E2 := E2.keep tH9
    replace E3 := E3.keep tH9
    replace E4 := E4.keep tH9
    replace E5 := E5.keep tH9
    replace E6 := E6.keep tH9
    replace lp1 := tH9 _ _ lp1
    refine ⟨x, rfl, x, rfl, fun a8 d8 na8 nd8 ne8 => ?_⟩
    generalize hH10 : mkE _ a8 d8 _ _ _ = H10
    obtain ⟨tH10, E8⟩ := eqE hH10 na8 nd8 ne8
    have sH10 : Same H H10 := (sH9).trans tH10
    replace E0 := E0.keep tH10
    replace E1 := E1.keep tH10
    replace E2 := E2.keep tH10
    replace E3 := E3.keep tH10
    replace E4 := E4.keep tH10
    replace E5 := E5.keep tH10
    replace E6 := E6.keep tH10
    replace E7 := E7.keep tH10
    replace lp1 := tH10 _ _ lp1
    refine ⟨x, rfl, x, rfl, fun a9 d9 na9 nd9 ne9 => ?_⟩
    generalize hH11 : mkE _ a9 d9 _ _ _ = H11
    obtain ⟨tH11, E9⟩ := eqE hH11 na9 nd9 ne9
    have sH11 : Same H H11 := (sH10).trans tH11
    replace E0 := E0.keep tH11
    replace E1 := E1.keep tH11
    replace E2 := E2.keep tH11
    replace E3 := E3.keep tH11
    replace E4 := E4.keep tH11
    replace E5 := E5.keep tH11
    replace E6 := E6.keep tH11
    replace E7 := E7.keep tH11
    replace E8 := E8.keep tH11
    replace lp1 := tH11 _ _ lp1
    refine ⟨(by show 3 ≤ sizeLine; decide), fun p2 np2 => ?_⟩
    generalize hH12 : upd _ p2 _ = H12
    obtain ⟨tH12, lp2⟩ := eqU hH12 np2
    have sH12 : Same H H12 := (sH11).trans tH12
    replace E0 := E0.keep tH12
    replace E1 := E1.keep tH12
    replace E2 := E2.keep tH12
    replace E3 := E3.keep tH12
    replace E4 := E4.keep tH12
    replace E5 := E5.keep tH12
    replace E6 := E6.keep tH12
    replace E7 := E7.keep tH12
    replace E8 := E8.keep tH12
    replace E9 := E9.keep tH12
    replace lp1 := tH12 _ _ lp1
    refine ⟨p1, p2, _, _, rfl, rfl, lp1, lp2, (by show 10 ≤ sizeLine; decide), fun p3 np3 => ?_⟩
    generalize hH13 : upd _ p3 _ = H13
    obtain ⟨tH13, lp3⟩ := eqU hH13 np3
    have sH13 : Same H H13 := (sH12).trans tH13
    replace E0 := E0.keep tH13
    replace E1 := E1.keep tH13
    replace E2 := E2.keep tH13
    replace E3 := E3.keep tH13
    replace E4 := E4.keep tH13
    replace E5 := E5.keep tH13
    replace E6 := E6.keep tH13
    replace E7 := E7.keep tH13
    replace E8 := E8.keep tH13
    replace E9 := E9.keep tH13
    refine k _ p3 [a0, a1, a2, a3, a4, a5, a6, a7, a8, a9] rfl sH13 lp3 fun n a h => ?_
    match n, h with
    | 0, h => cases h; exact E0
    | 1, h => cases h; exact E1
    | 2, h => cases h; exact E2
    | 3, h => cases h; exact E3
    | 4, h => cases h; exact E4
    | 5, h => cases h; exact E5
    | 6, h => cases h; exact E6
    | 7, h => cases h; exact E7
    | 8, h => cases h; exact E8
    | 9, h => cases h; exact E9
    | n + 10, h => simp at h
theorem ok_by_name {A : EA} {f : Addr} {fd : FuncData} (F : Fun K "_law_by_name" "_law_by_name" s__law_by_name f fd) (T : Errs P w K mg base A) : FnOk P w K mg base CX0 3 f fd ["_law_x"] (spMk A) := by
  refine F.ok sc__law_by_name (fun vs H Q E h => ?_) (fun cdv Ar outer s H vs Q E hr h => ?_)
  · obtain ⟨x, rfl, _⟩ := h
    rfl
  · obtain ⟨x, rfl, k⟩ := h
    refine ⟨_, (pss_cons (ps_set (i := 1) sc__law_by_name.nd rfl (Or.inl rfl) (pe_lst (pa_cons (pe_mkXK (T.cls 0 (by decide)) (T.ini 0 (by decide)) (hr.mono (by decide)) (T.bk 0 (by decide)) pass0 rfl T.g0 (pk_cons (pv 0) pk_nil)) (pa_cons (pe_mkXK (T.cls 1 (by decide)) (T.ini 1 (by decide)) (hr.mono (by decide)) (T.bk 1 (by decide)) pass0 rfl T.g1 (pk_cons (pv 0) pk_nil)) (pa_cons (pe_mkXK (T.cls 2 (by decide)) (T.ini 2 (by decide)) (hr.mono (by decide)) (T.bk 2 (by decide)) pass0 rfl T.g2 (pk_cons (pv 0) pk_nil)) (pa_cons (pe_mkXK (T.cls 3 (by decide)) (T.ini 3 (by decide)) (hr.mono (by decide)) (T.bk 3 (by decide)) pass0 rfl T.g3 (pk_cons (pv 0) pk_nil)) pa_nil))))))
      (pss_cons (ps_set (i := 1) sc__law_by_name.nd rfl (Or.inl rfl) (pe_op op_cat (pv 1) (pe_lst (pa_cons (pe_mkXK (T.cls 4 (by decide)) (T.ini 4 (by decide)) (hr.mono (by decide)) (T.bk 4 (by decide)) pass0 rfl T.g4 (pk_cons (pv 0) pk_nil)) (pa_cons (pe_mkXK (T.cls 5 (by decide)) (T.ini 5 (by decide)) (hr.mono (by decide)) (T.bk 5 (by decide)) pass0 rfl T.g5 (pk_cons (pv 0) pk_nil)) (pa_cons (pe_mkXK (T.cls 6 (by decide)) (T.ini 6 (by decide)) (hr.mono (by decide)) (T.bk 6 (by decide)) pass0 rfl T.g6 (pk_cons (pv 0) pk_nil)) pa_nil))))))
      (pss_one (ps_ret (pe_op op_cat (pv 1) (pe_lst (pa_cons (pe_mkXK (T.cls 7 (by decide)) (T.ini 7 (by decide)) (hr.mono (by decide)) (T.bk 7 (by decide)) pass0 rfl T.g7 (pk_cons (pv 0) pk_nil)) (pa_cons (pe_mkXK (T.cls 8 (by decide)) (T.ini 8 (by decide)) (hr.mono (by decide)) (T.bk 8 (by decide)) pass0 rfl T.g8 (pk_cons (pv 0) pk_nil)) (pa_cons (pe_mkXK (T.cls 9 (by decide)) (T.ini 9 (by decide)) (hr.mono (by decide)) (T.bk 9 (by decide)) pass0 rfl T.g9 (pk_cons (pv 0) pk_nil)) pa_nil))))))))), ?_⟩
    have S0 : Same H H := Same.refl H
    refine ⟨x, rfl, x, rfl, fun a0 d0 na0 nd0 ne0 => ?_⟩
    generalize hH1 : mkE _ a0 d0 _ _ _ = H1
    obtain ⟨tH1, E0⟩ := eqE hH1 na0 nd0 ne0
    have sH1 : Same H H1 := (S0).trans tH1
    refine ⟨x, rfl, x, rfl, fun a1 d1 na1 nd1 ne1 => ?_⟩
    generalize hH2 : mkE _ a1 d1 _ _ _ = H2
    obtain ⟨tH2, E1⟩ := eqE hH2 na1 nd1 ne1
    have sH2 : Same H H2 := (sH1).trans tH2
    replace E0 := E0.keep tH2
    refine ⟨x, rfl, x, rfl, fun a2 d2 na2 nd2 ne2 => ?_⟩
    generalize hH3 : mkE _ a2 d2 _ _ _ = H3
    obtain ⟨tH3, E2⟩ := eqE hH3 na2 nd2 ne2
    have sH3 : Same H H3 := (sH2).trans tH3
    replace E0 := E0.keep tH3
    replace E1 := E1.keep tH3
    refine ⟨x, rfl, x, rfl, fun a3 d3 na3 nd3 ne3 => ?_⟩
    generalize hH4 : mkE _ a3 d3 _ _ _ = H4
    obtain ⟨tH4, E3⟩ := eqE hH4 na3 nd3 ne3
    have sH4 : Same H H4 := (sH3).trans tH4
    replace E0 := E0.keep tH4
    replace E1 := E1.keep tH4
    replace E2 := E2.keep tH4
    refine ⟨(by show 4 ≤ sizeLine; decide), fun p1 np1 => ?_⟩
    generalize hH5 : upd _ p1 _ = H5
    obtain ⟨tH5, lp1⟩ := eqU hH5 np1
    have sH5 : Same H H5 := (sH4).trans tH5
    replace E0 := E0.keep tH5
    replace E1 := E1.keep tH5
    replace E2 := E2.keep tH5
    replace E3 := E3.keep tH5
    refine ⟨.ref p1, rfl, ?_⟩
    refine ⟨x, rfl, x, rfl, fun a4 d4 na4 nd4 ne4 => ?_⟩
    generalize hH6 : mkE _ a4 d4 _ _ _ = H6
    obtain ⟨tH6, E4⟩ := eqE hH6 na4 nd4 ne4
    have sH6 : Same H H6 := (sH5).trans tH6
    replace E0 := E0.keep tH6
    replace E1 := E1.keep tH6
    replace E2 := E2.keep tH6
    replace E3 := E3.keep tH6
    replace lp1 := tH6 _ _ lp1
    refine ⟨x, rfl, x, rfl, fun a5 d5 na5 nd5 ne5 => ?_⟩
    generalize hH7 : mkE _ a5 d5 _ _ _ = H7
    obtain ⟨tH7, E5⟩ := eqE hH7 na5 nd5 ne5
    have sH7 : Same H H7 := (sH6).trans tH7
    replace E0 := E0.keep tH7
    replace E1 := E1.keep tH7
    replace E2 := E2.keep tH7
    replace E3 := E3.keep tH7
    replace E4 := E4.keep tH7
    replace lp1 := tH7 _ _ lp1
    refine ⟨x, rfl, x, rfl, fun a6 d6 na6 nd6 ne6 => ?_⟩
    generalize hH8 : mkE _ a6 d6 _ _ _ = H8
    obtain ⟨tH8, E6⟩ := eqE hH8 na6 nd6 ne6
    have sH8 : Same H H8 := (sH7).trans tH8
    replace E0 := E0.keep tH8
    replace E1 := E1.keep tH8
    replace E2 := E2.keep tH8
    replace E3 := E3.keep tH8
    replace E4 := E4.keep tH8
    replace E5 := E5.keep tH8
    replace lp1 := tH8 _ _ lp1
    refine ⟨(by show 3 ≤ sizeLine; decide), fun p2 np2 => ?_⟩
    generalize hH9 : upd _ p2 _ = H9
    obtain ⟨tH9, lp2⟩ := eqU hH9 np2
    have sH9 : Same H H9 := (sH8).trans tH9
    replace E0 := E0.keep tH9
    replace E1 := E1.keep tH9
    replace E2 := E2.keep tH9
    replace E3 := E3.keep tH9
    replace E4 := E4.keep tH9
    replace E5 := E5.keep tH9
    replace E6 := E6.keep tH9
    replace lp1 := tH9 _ _ lp1
    refine ⟨p1, p2, _, _, rfl, rfl, lp1, lp2, (by show 7 ≤ sizeLine; decide), fun p3 np3 => ?_⟩
    generalize hH10 : upd _ p3 _ = H10
    obtain ⟨tH10, lp3⟩ := eqU hH10 np3
    have sH10 : Same H H10 := (sH9).trans tH10
    replace E0 := E0.keep tH10
    replace E1 := E1.keep tH10
    replace E2 := E2.keep tH10
    replace E3 := E3.keep tH10
    replace E4 := E4.keep tH10
    replace E5 := E5.keep tH10
    replace E6 := E6.keep tH10
    refine ⟨.ref p3, rfl, ?_⟩
    refine ⟨x, rfl, x, rfl, fun a7 d7 na7 nd7 ne7 => ?_⟩
    generalize hH11 : mkE _ a7 d7 _ _ _ = H11
    obtain ⟨tH11, E7⟩ := eqE hH11 na7 nd7 ne7
    have sH11 : Same H H11 := (sH10).trans tH11
    replace E0 := E0.keep tH11
    replace E1 := E1.keep tH11
    replace E2 := E2.keep tH11
    replace E3 := E3.keep tH11
    replace E4 := E4.keep tH11
    replace E5 := E5.keep tH11
    replace E6 := E6.keep tH11
    replace lp3 := tH11 _ _ lp3
    refine ⟨x, rfl, x, rfl, fun a8 d8 na8 nd8 ne8 => ?_⟩
    generalize hH12 : mkE _ a8 d8 _ _ _ = H12
    obtain ⟨tH12, E8⟩ := eqE hH12 na8 nd8 ne8
    have sH12 : Same H H12 := (sH11).trans tH12
    replace E0 := E0.keep tH12
    replace E1 := E1.keep tH12
    replace E2 := E2.keep tH12
    replace E3 := E3.keep tH12
    replace E4 := E4.keep tH12
    replace E5 := E5.keep tH12
    replace E6 := E6.keep tH12
    replace E7 := E7.keep tH12
    replace lp3 := tH12 _ _ lp3
    refine ⟨x, rfl, x, rfl, fun a9 d9 na9 nd9 ne9 => ?_⟩
    generalize hH13 : mkE _ a9 d9 _ _ _ = H13
    obtain ⟨tH13, E9⟩ := eqE hH13 na9 nd9 ne9
    have sH13 : Same H H13 := (sH12).trans tH13
    replace E0 := E0.keep tH13
    replace E1 := E1.keep tH13
    replace E2 := E2.keep tH13
    replace E3 := E3.keep tH13
    replace E4 := E4.keep tH13
    replace E5 := E5.keep tH13
    replace E6 := E6.keep tH13
    replace E7 := E7.keep tH13
    replace E8 := E8.keep tH13
    replace lp3 := tH13 _ _ lp3
    refine ⟨(by show 3 ≤ sizeLine; decide), fun p4 np4 => ?_⟩
    generalize hH14 : upd _ p4 _ = H14
    obtain ⟨tH14, lp4⟩ := eqU hH14 np4
    have sH14 : Same H H14 := (sH13).trans tH14
    replace E0 := E0.keep tH14
    replace E1 := E1.keep tH14
    replace E2 := E2.keep tH14
    replace E3 := E3.keep tH14
    replace E4 := E4.keep tH14
    replace E5 := E5.keep tH14
    replace E6 := E6.keep tH14
    replace E7 := E7.keep tH14
    replace E8 := E8.keep tH14
    replace E9 := E9.keep tH14
    replace lp3 := tH14 _ _ lp3
    refine ⟨p3, p4, _, _, rfl, rfl, lp3, lp4, (by show 10 ≤ sizeLine; decide), fun p5 np5 => ?_⟩
    generalize hH15 : upd _ p5 _ = H15
    obtain ⟨tH15, lp5⟩ := eqU hH15 np5
    have sH15 : Same H H15 := (sH14).trans tH15
    replace E0 := E0.keep tH15
    replace E1 := E1.keep tH15
    replace E2 := E2.keep tH15
    replace E3 := E3.keep tH15
    replace E4 := E4.keep tH15
    replace E5 := E5.keep tH15
    replace E6 := E6.keep tH15
    replace E7 := E7.keep tH15
    replace E8 := E8.keep tH15
    replace E9 := E9.keep tH15
    refine k _ p5 [a0, a1, a2, a3, a4, a5, a6, a7, a8, a9] rfl sH15 lp5 fun n a h => ?_
    match n, h with
    | 0, h => cases h; exact E0
    | 1, h => cases h; exact E1
    | 2, h => cases h; exact E2
    | 3, h => cases h; exact E3
    | 4, h => cases h; exact E4
    | 5, h => cases h; exact E5
    | 6, h => cases h; exact E6
    | 7, h => cases h; exact E7
    | 8, h => cases h; exact E8
    | 9, h => cases h; exact E9
    | n + 10, h => simp at h
/-! ### the fields -/
def spFields (K : PySem.W.Frag) (A : EA) : Sp := fun vs H Q _ => ∃ (p : Addr) (as : List Addr) (x : V), vs = [.ref p] ∧ as.length = 10 ∧ H p = some (.lst (as.map V.ref)) ∧ (∀ n a, as[n]? = some a → ExAt H a (A.c n) (errF n) x) ∧
  ∀ H' q, Same H H' → H' q = some (.lst (List.replicate 10 x)) → Q (.ref q) H'
theorem ten {α : Type} : ∀ {l : List α}, l.length = 10 → ∃ a0 a1 a2 a3 a4 a5 a6 a7 a8 a9, l = [a0, a1, a2, a3, a4, a5, a6, a7, a8, a9]
  | [a0, a1, a2, a3, a4, a5, a6, a7, a8, a9], _ => ⟨a0, a1, a2, a3, a4, a5, a6, a7, a8, a9, rfl⟩
theorem ok_fields {A : EA} {f : Addr} {fd : FuncData} (F : Fun K "_law_fields" "_law_fields" s__law_fields f fd) (T : Errs P w K mg base A) : FnOk P w K mg base CX0 1 f fd ["_law_some"] (spFields K A) := by
  refine F.ok sc__law_fields (fun vs H Q E h => ?_) (fun cdv Ar outer s H vs Q E hr h => ?_)
  · obtain ⟨p, as, x, rfl, _⟩ := h
    rfl
  · obtain ⟨p, as, x, rfl, hl, hp, hE, k⟩ := h
    obtain ⟨a0, a1, a2, a3, a4, a5, a6, a7, a8, a9, rfl⟩ := ten hl
    refine ⟨_, (pss_cons (ps_set (i := 1) sc__law_fields.nd rfl (Or.inl rfl) (pe_lst (pa_cons (pe_xf (pe_ix ix_list (pv 0) pe_int (fun _ _ => rfl))) (pa_cons (pe_xf (pe_ix ix_list (pv 0) pe_int (fun _ _ => rfl))) (pa_cons (pe_xf (pe_ix ix_list (pv 0) pe_int (fun _ _ => rfl))) (pa_cons (pe_xf (pe_ix ix_list (pv 0) pe_int (fun _ _ => rfl))) pa_nil))))))
      (pss_cons (ps_set (i := 1) sc__law_fields.nd rfl (Or.inl rfl) (pe_op op_cat (pv 1) (pe_lst (pa_cons (pe_xf (pe_ix ix_list (pv 0) pe_int (fun _ _ => rfl))) (pa_cons (pe_xf (pe_ix ix_list (pv 0) pe_int (fun _ _ => rfl))) (pa_cons (pe_xf (pe_ix ix_list (pv 0) pe_int (fun _ _ => rfl))) pa_nil))))))
      (pss_one (ps_ret (pe_op op_cat (pv 1) (pe_lst (pa_cons (pe_xf (pe_ix ix_list (pv 0) pe_int (fun _ _ => rfl))) (pa_cons (pe_xf (pe_ix ix_list (pv 0) pe_int (fun _ _ => rfl))) (pa_cons (pe_xf (pe_ix ix_list (pv 0) pe_int (fun _ _ => rfl))) pa_nil))))))))), ?_⟩
    refine ⟨.ref p, rfl, p, _, 0, .ref a0, rfl, rfl, SqL.of hp, rfl, a0, A.c 0, A.i 0, x, rfl, T.cls 0 (by decide), (hE 0 _ rfl), ?_⟩
    refine ⟨.ref p, rfl, p, _, 1, .ref a1, rfl, rfl, SqL.of hp, rfl, a1, A.c 1, A.i 1, x, rfl, T.cls 1 (by decide), (hE 1 _ rfl), ?_⟩
    refine ⟨.ref p, rfl, p, _, 2, .ref a2, rfl, rfl, SqL.of hp, rfl, a2, A.c 2, A.i 2, x, rfl, T.cls 2 (by decide), (hE 2 _ rfl), ?_⟩
    refine ⟨.ref p, rfl, p, _, 3, .ref a3, rfl, rfl, SqL.of hp, rfl, a3, A.c 3, A.i 3, x, rfl, T.cls 3 (by decide), (hE 3 _ rfl), ?_⟩
    refine ⟨(by show 4 ≤ sizeLine; decide), fun p1 np1 => ?_⟩
    generalize hH1 : upd _ p1 _ = H1
    obtain ⟨tH1, lp1⟩ := eqU hH1 np1
    have sH1 : Same H H1 := tH1
    refine ⟨.ref p1, rfl, ?_⟩
    refine ⟨.ref p, rfl, p, _, 4, .ref a4, rfl, rfl, SqL.of (sH1 _ _ hp), rfl, a4, A.c 4, A.i 4, x, rfl, T.cls 4 (by decide), ((hE 4 _ rfl).keep sH1), ?_⟩
    refine ⟨.ref p, rfl, p, _, 5, .ref a5, rfl, rfl, SqL.of (sH1 _ _ hp), rfl, a5, A.c 5, A.i 5, x, rfl, T.cls 5 (by decide), ((hE 5 _ rfl).keep sH1), ?_⟩
    refine ⟨.ref p, rfl, p, _, 6, .ref a6, rfl, rfl, SqL.of (sH1 _ _ hp), rfl, a6, A.c 6, A.i 6, x, rfl, T.cls 6 (by decide), ((hE 6 _ rfl).keep sH1), ?_⟩
    refine ⟨(by show 3 ≤ sizeLine; decide), fun p2 np2 => ?_⟩
    generalize hH2 : upd _ p2 _ = H2
    obtain ⟨tH2, lp2⟩ := eqU hH2 np2
    have sH2 : Same H H2 := (sH1).trans tH2
    refine ⟨p1, p2, _, _, rfl, rfl, tH2 _ _ lp1, lp2, (by show 7 ≤ sizeLine; decide), fun p3 np3 => ?_⟩
    generalize hH3 : upd _ p3 _ = H3
    obtain ⟨tH3, lp3⟩ := eqU hH3 np3
    have sH3 : Same H H3 := (sH2).trans tH3
    refine ⟨.ref p3, rfl, ?_⟩
    refine ⟨.ref p, rfl, p, _, 7, .ref a7, rfl, rfl, SqL.of (sH3 _ _ hp), rfl, a7, A.c 7, A.i 7, x, rfl, T.cls 7 (by decide), ((hE 7 _ rfl).keep sH3), ?_⟩
    refine ⟨.ref p, rfl, p, _, 8, .ref a8, rfl, rfl, SqL.of (sH3 _ _ hp), rfl, a8, A.c 8, A.i 8, x, rfl, T.cls 8 (by decide), ((hE 8 _ rfl).keep sH3), ?_⟩
    refine ⟨.ref p, rfl, p, _, 9, .ref a9, rfl, rfl, SqL.of (sH3 _ _ hp), rfl, a9, A.c 9, A.i 9, x, rfl, T.cls 9 (by decide), ((hE 9 _ rfl).keep sH3), ?_⟩
    refine ⟨(by show 3 ≤ sizeLine; decide), fun p4 np4 => ?_⟩
    generalize hH4 : upd _ p4 _ = H4
    obtain ⟨tH4, lp4⟩ := eqU hH4 np4
    have sH4 : Same H H4 := (sH3).trans tH4
    refine ⟨p3, p4, _, _, rfl, rfl, tH4 _ _ lp3, lp4, (by show 10 ≤ sizeLine; decide), fun p5 np5 => ?_⟩
    generalize hH5 : upd _ p5 _ = H5
    obtain ⟨tH5, lp5⟩ := eqU hH5 np5
    have sH5 : Same H H5 := (sH4).trans tH5
    exact k _ p5 sH5 lp5
end
end K19
set_option Elab.async false
set_option linter.all false
set_option maxRecDepth 100000
set_option maxHeartbeats 4000000
namespace XV
open PySem PySem.Spec PyProof.Rows L2
/-- list + list, whatever they are -/
def rCatS (K : PySem.W.Frag) : R2 := fun x y H Q => ∃ l b xs zs, x = .ref l ∧ y = .ref b ∧ SqL K H l xs ∧ SqL K H b zs ∧ xs.length + zs.length ≤ sizeLine ∧ ∀ p, H p = none → Q (.ref p) (upd H p (.lst (xs ++ zs)))
theorem op_catS {X : Cx} : OpR X (binaryOp .Add) (rCatS X.K) := by
  intro pins s σ H x y v u Q I rx ry h
  obtain ⟨l, b, xs, zs, rfl, rfl, hH, hB, hz, q⟩ := h
  cases rx
  cases ry
  obtain ⟨its, r, p1, z1⟩ := I.list hH
  obtain ⟨its2, r2, p2, z2⟩ := I.list hB
  obtain ⟨⟨cls, dd, data, sl⟩, ho, hc, n, hd⟩ := p1.isList
  obtain ⟨⟨cls2, dd2, data2, sl2⟩, ho2, hc2, n2, hd2⟩ := p2.isList
  simp only at hc hd hc2 hd2
  subst hc hd hc2 hd2
  have hl := r.length
  have hl2 := r2.length
  have ea : its.toArray ++ its2.toArray = (its ++ its2).toArray := by simp
  refine concat_meets ⟨_, ho, rfl⟩ ⟨_, ho2, rfl⟩ noFill_list_add seq_list_add PySem.F.slot_list_add PySem.F.entry_list_add (PySem.F.args_list_add_2 _ _) (list_addW l b its.toArray its2.toArray n n2 dd dd2 sl sl2 (by rw [List.size_toArray, List.size_toArray]; omega)) ⟨ho, ho2, ?_⟩
  rw [ea]
  exact ⟨.ref _, _, I.lnew (t' := s.toks) (r.append r2) (by rw [List.length_append]; omega), rfl, q _ I.fresh⟩
end XV
namespace K19
open PySem PySem.Spec PyProof.Rows L2 XV
/-- all but l stays -/
def But (l : Addr) (H H' : Hp) : Prop := ∀ b o, H b = some o → b ≠ l → H' b = some o
theorem eqL {H H1 : Hp} {l : Addr} {o : HO} (e : upd H l o = H1) : But l H H1 ∧ H1 l = some o := by
  subst e
  exact ⟨fun b u z n => by rw [upd_ne n]; exact z, upd_same⟩
theorem tks_map (j : Nat) : tks j = ((List.range 10).map fun i => decide (j = i)).map V.bl := by
  unfold tks
  rw [List.map_map]
  rfl
/-- what the fields may hold -/
def Dx (H : Hp) (x : V) (d : PyData) : Prop := (x = .non ∧ d = .none) ∨ (∃ i, x = .int i ∧ d = .int i) ∨ (x = .str "v" ∧ d = .str "v") ∨ ∃ t, x = .ref t ∧ H t = some (.tup [.int 0, .int 1]) ∧ d = .tuple [.int 0, .int 1]
theorem Dx.keep {H H' : Hp} {x : V} {d : PyData} (h : Dx H x d) (k : Same H H') : Dx H' x d := by
  rcases h with h | h | h | ⟨t, h1, h2, h3⟩
  · exact .inl h
  · exact .inr (.inl h)
  · exact .inr (.inr (.inl h))
  · exact .inr (.inr (.inr ⟨t, h1, k _ _ h2, h3⟩))
theorem Dx.dp {K : PySem.W.Frag} {H : Hp} {x : V} {d : PyData} (h : Dx H x d) : Dp K H x d := by
  rcases h with ⟨rfl, rfl⟩ | ⟨i, rfl, rfl⟩ | ⟨rfl, rfl⟩ | ⟨t, rfl, h2, rfl⟩
  · exact .non
  · exact .int i
  · exact .str "v"
  · exact .tup (SqT.of h2) (.cons (.int 0) (.cons (.int 1) .nil))
theorem dpAll_rep {K : PySem.W.Frag} {H : Hp} {x : V} {d : PyData} (h : Dp K H x d) : ∀ n, DpAll K H (List.replicate n x) (List.replicate n d)
  | 0 => .nil
  | n + 1 => .cons h (dpAll_rep h n)
theorem Dx.sh {H : Hp} {x : V} {d : PyData} (h : Dx H x d) : SeqAt.shaped (.list (List.replicate 10 d)) = true := by
  rcases h with ⟨rfl, rfl⟩ | ⟨i, rfl, rfl⟩ | ⟨rfl, rfl⟩ | ⟨t, rfl, h2, rfl⟩
  · rfl
  · rfl
  · decide +kernel
  · rfl
theorem dpAll_bl {K : PySem.W.Frag} {H : Hp} : ∀ bs : List Bool, DpAll K H (bs.map V.bl) (bs.map PyData.bool)
  | [] => .nil
  | b :: bs => .cons (.bl b) (dpAll_bl bs)
section
variable {P : Program} {w : World} {K : PySem.W.Frag} {mg : Str → Option Value} {base : Heap}
def spRight : Sp := fun vs H Q _ => ∃ (l : Addr) (a b c : Int), vs = [.ref l] ∧ H l = some (.lst [.int a, .int b, .int c]) ∧ ∀ H', But l H H' → Q (.bl true) H'
theorem ok_right {A : EA} {f fD fP fN fF fT : Addr} {fd dD dP dN dF dT : FuncData} (F : Fun K "_law_right" "_law_right" s__law_right f fd) (B : Bi mg) (T : Errs P w K mg base A)
    (G__law_draw : FnOk P w K mg base CX0 1 fD dD ["_law_well", "_law_many"] spDraw) (m__law_draw : mg "_law_draw" = some (.ref fD)) (k__law_draw : PySem.W.keepIn K (.ref fD) = true) (b__law_draw : Binds K dD ["_law_well", "_law_many"] [])
    (G__law_by_place : FnOk P w K mg base CX0 3 fP dP ["_law_x"] (spMk A)) (m__law_by_place : mg "_law_by_place" = some (.ref fP)) (k__law_by_place : PySem.W.keepIn K (.ref fP) = true) (b__law_by_place : Binds K dP ["_law_x"] [])
    (G__law_by_name : FnOk P w K mg base CX0 3 fN dN ["_law_x"] (spMk A)) (m__law_by_name : mg "_law_by_name" = some (.ref fN)) (k__law_by_name : PySem.W.keepIn K (.ref fN) = true) (b__law_by_name : Binds K dN ["_law_x"] [])
    (G__law_fields : FnOk P w K mg base CX0 1 fF dF ["_law_some"] (spFields K A)) (m__law_fields : mg "_law_fields" = some (.ref fF)) (k__law_fields : PySem.W.keepIn K (.ref fF) = true) (b__law_fields : Binds K dF ["_law_some"] [])
    (G__law_taken : FnOk P w K mg base CX0 1 fT dT ["_law_e"] (spTaken A)) (m__law_taken : mg "_law_taken" = some (.ref fT)) (k__law_taken : PySem.W.keepIn K (.ref fT) = true) (b__law_taken : Binds K dT ["_law_e"] []) :
    FnOk P w K mg base CX0 4 f fd ["_law_well"] spRight := by
  refine F.ok sc__law_right (fun vs H Q E h => ?_) (fun cdv Ar outer s H vs Q E hr h => ?_)
  · obtain ⟨l, a, b, c, rfl, _⟩ := h
    rfl
  · obtain ⟨l, a, b, c, rfl, hl, k⟩ := h
    refine ⟨_, (pss_cons (ps_set (i := 1) sc__law_right.nd rfl (Or.inl rfl) (pe_ix ix_list (pe_lst (pa_cons (pe_call G__law_draw (hr.mono (by decide)) rfl m__law_draw k__law_draw b__law_draw .nil pass0 (pa_cons (pv 0) (pa_cons pe_int pa_nil))) (pa_cons (pe_un un_neg pe_int) (pa_cons pe_non (pa_cons pe_str (pa_cons (pe_tup (pa_cons pe_int (pa_cons pe_int pa_nil))) pa_nil)))))) (pe_call G__law_draw (hr.mono (by decide)) rfl m__law_draw k__law_draw b__law_draw .nil pass0 (pa_cons (pv 0) (pa_cons pe_int pa_nil))) (fun _ _ => rfl)))
      (pss_cons (ps_for PassesOwn.never rfl (pi_list (pe_lst (pa_cons (pe_call G__law_by_place (hr.mono (by decide)) rfl m__law_by_place k__law_by_place b__law_by_place .nil pass0 (pa_cons (pv 1) pa_nil)) (pa_cons (pe_call G__law_by_name (hr.mono (by decide)) rfl m__law_by_name k__law_by_name b__law_by_name .nil pass0 (pa_cons (pv 1) pa_nil)) pa_nil)))) (pg_name (i := 2) sc__law_right.nd rfl (Or.inl rfl))
      (pss_cons (ps_if (pt_cmpR (op_neD hr.units) (pe_call G__law_fields (hr.mono (by decide)) rfl m__law_fields k__law_fields b__law_fields .nil pass0 (pa_cons (pv 2) pa_nil)) (pe_op op_rep (pe_lst (pa_cons (pv 1) pa_nil)) pe_int) (nomark _)) (pss_one (ps_ret pe_bl)) pss_nil)
      (pss_one (ps_for PassesOwn.never rfl (pi_enum (by rfl) B.b_enumerate (pa_cons (pv 2) pa_nil)) (pg_tup rfl (pgs_cons (pg_name (i := 3) sc__law_right.nd rfl (Or.inr rfl)) (pgs_cons (pg_name (i := 4) sc__law_right.nd rfl (Or.inl rfl)) pgs_nil)))
      (pss_cons (ps_if (pt_cmpR (op_neD hr.units) (pe_call G__law_taken (hr.mono (by decide)) rfl m__law_taken k__law_taken b__law_taken .nil pass0 (pa_cons (pv 4) pa_nil)) (pe_lc (own := [("_law_k", 5)]) (g := gName 5) (tt := tYes) (by rfl) sc__law_right.nd (pi_range1 (by rfl) B.b_range (pa_cons pe_int pa_nil)) (blkOk_by (own := [("_law_k", 5)]) (N := ["_law_well", "_law_x", "_law_some", "_law_spot", "_law_e", "_law_k"]) (sc := defScope s__law_right) (by decide +kernel)) (fun _ _ _ _ _ => pg_name (i := 5) sc__law_right.nd rfl (Or.inl rfl)) (fun _ _ _ _ _ => pts_nil) (fun _ _ _ _ _ => (pe_cmpR op_eq (pv 5) (pv 3) (nomark _)))) (nomark _)) (pss_one (ps_ret pe_bl)) pss_nil)
      (pss_one (ps_if (PW.pt (pw_or (pt_not (pt_val (pe_callB call_isX (by rfl) B.b_isinstance (by decide +kernel) (pa_cons (pv 4) (pa_cons (pe_glob (v := V.ref A.S) rfl T.gS rfl) pa_nil))))) (pw_or1 (pt_not (pt_val (pe_callB call_isX (by rfl) B.b_isinstance (by decide +kernel) (pa_cons (pv 4) (pa_cons (pe_bltn (v := V.ty "ValueError") rfl B.b_ValueError (by decide +kernel) rfl) pa_nil)))))))) (pss_one (ps_ret pe_bl)) pss_nil)))))))
      (pss_one (ps_ret (pe_not (pe_callB call_isB_VE (by rfl) B.b_isinstance (by decide +kernel) (pa_cons (pe_mkB exb_ValueError rfl B.b_ValueError (by decide +kernel) (pa_cons pe_str pa_nil)) (pa_cons (pe_glob (v := V.ref A.S) rfl T.gS rfl) pa_nil)))))))), ?_⟩
    -- the value
    refine ⟨.ref l, rfl, l, 1000, a, b, c, rfl, hl, by decide, by decide, fun n0 a1 c1 p0 p1 => ?_⟩
    generalize h1 : upd _ l _ = H1
    obtain ⟨b1, l1⟩ := eqL h1
    refine ⟨1, rfl, (by show 2 ≤ sizeLine; decide), fun t nt => ?_⟩
    generalize h2 : upd _ t _ = H2
    obtain ⟨t2, e2⟩ := eqU h2 nt
    refine ⟨(by show 5 ≤ sizeLine; decide), fun p np => ?_⟩
    generalize h3 : upd _ p _ = H3
    obtain ⟨t3, e3⟩ := eqU h3 np
    have l3 := t3 _ _ (t2 _ _ l1)
    refine ⟨.ref l, rfl, l, 5, a1, b, c1, rfl, l3, by decide, by decide, fun m a2 c2 m0 m1 => ?_⟩
    generalize h4 : upd _ l _ = H4
    obtain ⟨b4, l4⟩ := eqL h4
    have ht4 : H4 t = some (.tup [.int 0, .int 1]) := b4 _ _ (t3 _ _ e2) (ne_of_none l1 nt).symm
    have hp4 := b4 _ _ e3 (ne_of_none (t2 _ _ l1) np).symm
    have B4 : But l H H4 := fun q o z n => b4 _ _ (t3 _ _ (t2 _ _ (b1 _ _ z n))) n
    obtain ⟨v, hv, d, hx⟩ : ∃ v, atI ([.int n0, .int (-1), .non, .str "v", .ref t] : List V) m = some v ∧ ∃ d, Dx H4 v d := by
      have hm : m = 0 ∨ m = 1 ∨ m = 2 ∨ m = 3 ∨ m = 4 := by omega
      rcases hm with rfl | rfl | rfl | rfl | rfl
      · exact ⟨_, rfl, _, .inr (.inl ⟨_, rfl, rfl⟩)⟩
      · exact ⟨_, rfl, _, .inr (.inl ⟨_, rfl, rfl⟩)⟩
      · exact ⟨_, rfl, _, .inl ⟨rfl, rfl⟩⟩
      · exact ⟨_, rfl, _, .inr (.inr (.inl ⟨rfl, rfl⟩))⟩
      · exact ⟨_, rfl, _, .inr (.inr (.inr ⟨_, rfl, ht4, rfl⟩))⟩
    refine ⟨p, _, m, v, rfl, rfl, SqL.of hp4, hv, ?_⟩
    -- the two lists
    refine ⟨v, rfl, v, rfl, fun H5 q1 as1 n5 s5 l5 E5 => ?_⟩
    refine ⟨v, rfl, v, rfl, fun H6 q2 as2 n6 s6 l6 E6 => ?_⟩
    refine ⟨(by show 2 ≤ sizeLine; decide), fun p7 np7 => ?_⟩
    generalize h7 : upd _ p7 _ = H7
    obtain ⟨t7, e7⟩ := eqU h7 np7
    have S7 : Same H4 H7 := (s5.trans s6).trans t7
    have B7 : But l H H7 := fun q o z n => S7 _ _ (B4 _ _ z n)
    have hx7 := hx.keep S7
    have two : ∀ (i : Nat) y, ([.ref q1, .ref q2] : List V)[i]? = some y → ∃ (q : Addr) (as : List Addr), y = .ref q ∧ as.length = 10 ∧ H7 q = some (.lst (as.map V.ref)) ∧ ∀ n a, as[n]? = some a → ExAt H7 a (A.c n) (errF n) v := fun i y h => by
      match i, h with
      | 0, h => cases h; exact ⟨q1, as1, rfl, n5, t7 _ _ (s6 _ _ l5), fun n a z => ((E5 n a z).keep s6).keep t7⟩
      | 1, h => cases h; exact ⟨q2, as2, rfl, n6, t7 _ _ l6, fun n a z => (E6 n a z).keep t7⟩
      | i + 2, h => simp at h
    refine ⟨p7, rfl, ⟨_, SqL.of e7⟩, for_list (K := K) (a := p7) (xs := [.ref q1, .ref q2]) (fun i σ H8 => ∃ y2 y3 y4, σ = [some (.ref l), some v, y2, y3, y4, none] ∧ Same H7 H8)
      ⟨none, none, none, rfl, Same.refl _⟩ (fun i σ H8 _ ⟨_, _, _, _, z⟩ => SqL.of (z _ _ e7)) ?_ ?_⟩
    · rintro i y σ H8 hi ⟨y2, y3, y4, rfl, S8⟩
      obtain ⟨q, as, rfl, nas, lq, Eq⟩ := two i y hi
      -- fields
      refine ⟨.ref q, rfl, q, as, v, rfl, nas, S8 _ _ lq, fun n a z => (Eq n a z).keep S8, fun H9 f9 s9 l9 => ?_⟩
      refine ⟨v, rfl, (by show 1 ≤ sizeLine; decide), fun p10 np10 => ?_⟩
      generalize h10 : upd _ p10 _ = H10
      obtain ⟨t10, e10⟩ := eqU h10 np10
      refine ⟨p10, 10, _, rfl, rfl, e10, by decide, by decide, (by show 1 * 10 ≤ sizeLine; decide), fun p11 np11 => ?_⟩
      generalize h11 : upd _ p11 _ = H11
      obtain ⟨t11, e11⟩ := eqU h11 np11
      have S11 : Same H7 H11 := ((S8.trans s9).trans t10).trans t11
      have hx11 := hx7.keep S11
      have dpl : ∀ z, H11 z = some (.lst (List.replicate 10 v)) → Dp K H11 (.ref z) (.list (List.replicate 10 d)) := fun z e => .lst (SqL.of e) (dpAll_rep hx11.dp 10)
      have sh := hx11.sh
      have er : PyData.eqv (.list (List.replicate 10 d)) (.list (List.replicate 10 d)) = true := SeqAt.eqv_refl _ (SeqAt.canLay_of_shaped sh)
      refine ⟨.list (List.replicate 10 d), .list (List.replicate 10 d), dpl _ (t11 _ _ (t10 _ _ l9)), dpl _ e11, sh, sh, _, rfl, ?_⟩
      rw [er]
      refine iteF ?_
      have lq11 := S11 _ _ lq
      have E11 : ∀ n a, as[n]? = some a → ExAt H11 a (A.c n) (errF n) v := fun n a z => (Eq n a z).keep S11
      refine ⟨.ref q, rfl, q, _, rfl, SqL.of lq11, for_it (walk_enum (K := K) (a := q) (xs := as.map V.ref)) (fun i σ H12 => ∃ y3 y4, σ = [some (.ref l), some v, some (.ref q), y3, y4, none] ∧ Same H11 H12) ⟨_, _, rfl, Same.refl _⟩
        (fun i σ H12 _ ⟨_, _, _, z⟩ => SqL.of (z _ _ lq11)) ?_ ?_⟩
      · rintro j x σ H12 H13 hj ⟨y3, y4, rfl, S12⟩ ⟨T', x1, x2, rfl, nT, rfl, e1, e2⟩
        cases e1
        generalize h14 : upd H12 T' _ = H14
        obtain ⟨t14, e14⟩ := eqU h14 nT
        obtain ⟨a, ha, rfl⟩ : ∃ a, as[j]? = some a ∧ x2 = V.ref a := by
          have e2' : (as.map V.ref)[j]? = some x2 := e2
          rw [List.getElem?_map] at e2'
          cases z : as[j]? with
          | none =>
            rw [z] at e2'
            cases e2'
          | some a =>
            rw [z] at e2'
            exact ⟨a, rfl, (Option.some.inj e2').symm⟩
        have hj10 : j < 10 := by
          rw [List.length_map, nas] at hj
          exact hj
        have S14 := S12.trans t14
        have Ea := (E11 j a ha).keep S14
        refine ⟨T', _, rfl, SqT.of e14, rfl, _, _, rfl, _, _, rfl, rfl, ?_⟩
        -- taken
        refine ⟨.ref a, rfl, a, j, v, rfl, hj10, Ea, fun H15 q15 s15 l15 => ?_⟩
        refine ⟨10, rfl, by decide, by decide, fun D nD => ?_⟩
        refine lc_range (lo := 0) (n := 10) (fun i H16 => Same H15 H16 ∧ H16 D = some (.lst ((List.range i).map fun k : Nat => V.bl (decide ((k : Int) = (j : Int)))))) ⟨same_upd nD, upd_same⟩ ?_ ?_
        · rintro i H16 hi ⟨s16, e16⟩
          refine ⟨rfl, ?_⟩
          unfold tYes
          refine iteT ?_
          refine ⟨_, rfl, _, rfl, rfl, _, e16, ?_, fun b o z => ?_, ?_⟩
          · rw [List.length_map, List.length_range]
            exact small1000 (by omega)
          · rw [upd_ne (ne_of_none z nD)]
            exact s16 _ _ z
          · rw [upd_same, List.range_succ, List.map_append]
            have ey : decide (V.int (0 + (i : Int)) = V.int (j : Int)) = decide ((i : Int) = (j : Int)) := by
              rw [Int.zero_add]
              exact decide_eq_decide.mpr ⟨V.int.inj, congrArg V.int⟩
            rw [ey]
            rfl
        · rintro H16 ⟨s16, e16⟩
          have eb : (List.range 10).map (fun k : Nat => V.bl (decide ((k : Int) = (j : Int)))) = tks j := by
            unfold tks
            refine List.map_congr_left fun k _ => congrArg V.bl (decide_eq_decide.mpr ⟨fun z => ?_, fun z => ?_⟩)
            · omega
            · omega
          rw [eb] at e16
          have e15 := s16 _ _ l15
          have dt : ∀ z, H16 z = some (.lst (tks j)) → Dp K H16 (.ref z) (.list (((List.range 10).map fun i => decide (j = i)).map PyData.bool)) := fun z e => .lst (SqL.of e) (by rw [tks_map]; exact dpAll_bl _)
          have sh : SeqAt.shaped (.list (((List.range 10).map fun i => decide (j = i)).map PyData.bool)) = true := rfl
          refine ⟨_, _, dt _ e15, dt _ e16, sh, sh, _, rfl, ?_⟩
          rw [SeqAt.eqv_refl _ (SeqAt.canLay_of_shaped sh)]
          refine iteF ?_
          have Eb := (Ea.keep s15).keep s16
          refine ⟨.ref a, rfl, a, A.c j, errF j, v, .ref A.S, .ref A.S, true, rfl, .own _, T.isx j hj10, Eb, T.kitS j hj10, _, rfl, ?_⟩
          refine iteF ?_
          refine ⟨.ref a, rfl, a, A.c j, errF j, v, .ty "ValueError", .type "ValueError", true, rfl, .ty _, T.isx j hj10, Eb, T.kitV j hj10, _, rfl, ?_⟩
          refine iteF ?_
          exact ⟨_, _, rfl, (S14.trans s15).trans s16⟩
      · rintro σ H12 ⟨y3, y4, rfl, S12⟩
        exact ⟨_, _, _, rfl, S11.trans S12⟩
    · rintro σ H8 ⟨y2, y3, y4, rfl, S8⟩
      refine ⟨(by decide), fun e ne => ?_⟩
      generalize h9 : upd _ e _ = H9
      obtain ⟨t9, e9⟩ := eqU h9 ne
      refine ⟨e, .ref A.S, .ref A.S, false, rfl, .own _, e9, T.kitVS, _, rfl, ?_⟩
      exact k _ fun q o z n => t9 _ _ (S8 _ _ (B7 _ _ z n))
end
end K19
set_option Elab.async false
set_option linter.all false
set_option maxRecDepth 100000
set_option maxHeartbeats 4000000
namespace K19
open PySem PySem.Spec PyProof.Rows L2 XV
theorem cut_int {ms : List Int} {lo hi : Option Int} {i : Nat} {y : V} (h : (cutV (ms.map V.int) lo hi)[i]? = some y) : ∃ z, y = V.int z := by
  have hm : y ∈ ms.map V.int := List.mem_of_mem_drop (List.mem_of_mem_take (List.mem_of_getElem? h))
  obtain ⟨z, _, e⟩ := List.mem_map.mp hm
  exact ⟨z, e.symm⟩
section
variable {P : Program} {w : World} {K : PySem.W.Frag} {mg : Str → Option Value} {base : Heap}
def spLaw (K : PySem.W.Frag) : Sp := fun vs H Q _ => ∃ (a : Addr) (ns : List Int), vs = [.ref a] ∧ SqL K H a (ns.map V.int) ∧ ns.length ≤ 63 ∧ ∀ H', Q (.bl true) H'
theorem ok_law {f fR : Addr} {fd dR : FuncData} (F : Fun K "law" "law" s_law f fd) (B : Bi mg)
    (G__law_right : FnOk P w K mg base CX0 4 fR dR ["_law_well"] spRight) (m__law_right : mg "_law_right" = some (.ref fR)) (k__law_right : PySem.W.keepIn K (.ref fR) = true) (b__law_right : Binds K dR ["_law_well"] []) :
    FnOk P w K mg base CX0 5 f fd ["_law_script"] (spLaw K) := by
  refine F.ok sc_law (fun vs H Q E h => ?_) (fun cdv Ar outer s H vs Q E hr h => ?_)
  · obtain ⟨a, ns, rfl, _⟩ := h
    rfl
  · obtain ⟨a, ns, rfl, hS, hlen, k⟩ := h
    refine ⟨_, (pss_cons (ps_for PassesOwn.never rfl (pi_enum (by rfl) B.b_enumerate (pa_cons (pe_slice sl_list (pe_op op_catS (pv 0) (pe_lst (pa_cons pe_int pa_nil))) po_none (po_some pe_int)) pa_nil)) (pg_tup rfl (pgs_cons (pg_name (i := 1) sc_law.nd rfl (Or.inl rfl)) (pgs_cons (pg_name (i := 2) sc_law.nd rfl (Or.inl rfl)) pgs_nil)))
      (pss_one (ps_if (pt_not (pt_val (pe_call G__law_right (hr.mono (by decide)) rfl m__law_right k__law_right b__law_right .nil pass0 (pa_cons (pe_lst (pa_cons (pe_op op_mul (pv 2) (pe_callTy call_int1 (by rfl) B.b_int (by decide +kernel) (pa_cons (pe_cmpR op_ge (pv 2) (pe_op op_pow pe_int pe_int) (nomark _)) pa_nil))) (pa_cons (pe_op op_add (pe_op op_mod (pe_callTy call_int1 (by rfl) B.b_int (by decide +kernel) (pa_cons (pv 2) pa_nil)) pe_int) (pe_op op_mul pe_int (pv 1))) (pa_cons pe_int pa_nil)))) pa_nil)))) (pss_one (ps_ret pe_bl)) pss_nil)))
      (pss_one (ps_ret pe_bl))), ?_⟩
    refine ⟨.ref a, rfl, (by show 1 ≤ sizeLine; decide), fun p1 np1 => ?_⟩
    generalize h1 : upd _ p1 _ = H1
    obtain ⟨t1, e1⟩ := eqU h1 np1
    refine ⟨a, p1, _, _, rfl, rfl, t1.seq hS, SqL.of e1, (by rw [List.length_map, sizeLine_eq]; show ns.length + 1 ≤ _; omega), fun p2 np2 => ?_⟩
    have ec : ns.map V.int ++ [V.int 0] = (ns ++ [0]).map V.int := by simp
    rw [ec]
    generalize h2 : upd _ p2 _ = H2
    obtain ⟨t2, e2⟩ := eqU h2 np2
    refine ⟨3, rfl, p2, _, rfl, SqL.of e2, fun p3 np3 => ?_⟩
    generalize hcut : cutV _ _ _ = L
    have hint : ∀ (i : Nat) (y : V), L[i]? = some y → ∃ z, y = V.int z := fun i y h => by
      subst hcut
      exact cut_int h
    generalize h3 : upd _ p3 _ = H3
    obtain ⟨t3, e3⟩ := eqU h3 np3
    refine ⟨p3, L, rfl, SqL.of e3, for_it (walk_enum (K := K) (a := p3) (xs := L)) (fun i σ H4 => ∃ y1 y2, σ = [some (.ref a), y1, y2] ∧ H4 p3 = some (.lst L)) ⟨_, _, rfl, e3⟩ (fun i σ H4 _ ⟨_, _, _, z⟩ => SqL.of z) ?_ ?_⟩
    · rintro j x σ H4 H5 hj ⟨y1, y2, rfl, e4⟩ ⟨T', x1, x2, rfl, nT, rfl, g1, g2⟩
      cases g1
      obtain ⟨z, rfl⟩ := hint j x2 g2
      generalize h6 : upd H4 T' _ = H6
      obtain ⟨t6, e6⟩ := eqU h6 nT
      refine ⟨T', _, rfl, SqT.of e6, rfl, _, _, rfl, _, _, rfl, rfl, ?_⟩
      refine ⟨.int z, rfl, .int z, rfl, 10, 18, rfl, rfl, ⟨by decide, by decide, by decide⟩, z, _, rfl, rfl, .inr ⟨_, rfl, z, _, rfl, rfl, .inr ?_, ?_⟩⟩
      · split
        · exact ⟨by decide, by decide⟩
        · exact ⟨by decide, by decide⟩
      refine ⟨.int z, rfl, .inl ⟨z, rfl, z, 2147483647, rfl, rfl, (by show (0 : Int) < 2147483647; decide), .int j, rfl, 7919, j, rfl, rfl, .inl ⟨by decide, by decide⟩, _, _, rfl, rfl, ?_⟩⟩
      refine ⟨(by show 3 ≤ sizeLine; decide), fun l nl => ?_⟩
      generalize h7 : upd _ l _ = H7
      obtain ⟨t7, e7⟩ := eqU h7 nl
      refine ⟨l, _, _, _, rfl, e7, fun H8 b8 => ⟨_, rfl, iteF ?_⟩⟩
      refine ⟨_, _, rfl, b8 _ _ (t7 _ _ (t6 _ _ e4)) (ne_of_none (t6 _ _ e4) nl)⟩
    · rintro σ H4 ⟨y1, y2, rfl, e4⟩
      exact k _
end
/-! ### what the top has written -/
/-- a def of the top, found -/
def DefAt (K : PySem.W.Frag) (mg : Str → Option Value) (x : Str) (st : Stmt) : Prop := ∃ f fd, Fun K x x st f fd ∧ mg x = some (.ref f)
theorem def_mk {K : PySem.W.Frag} {h : Heap} {mg : Str → Option Value} {x : Str} {st : Stmt} {f : Addr} {oc : Value} {od an : Option Addr} {osl : Array (Option Value)} {kV doc pm cdv ct : Value} (X : K.In h) (G : h.Ns mainGlobals mg)
    (a : PySem.W.nsIn K mainGlobals x = some (some (.ref f))) (l : K.lookup f = some ⟨oc, od, .func (PySem.W.fnOf x x (defArgs st) (defBody st) (defScope st) .none kV doc pm an cdv ct), osl⟩)
    (c : PySem.W.codeIn K cdv x = true) (k : PySem.W.keepIn K (.ref f) = true) : DefAt K mg x st := ⟨f, _, fun_mk l c k, PySem.W.mg_of X G a⟩
theorem errs_mk {P : Program} {w : World} {K : PySem.W.Frag} {h : Heap} {mg : Str → Option Value} {S : Addr} (X : K.In h) (G : h.Ns mainGlobals mg)
    {C0 f0 N0 : Addr} {nm0 q0 : Str} {bs0 : List Value} {sn0 : List Str} {sub0 : List Value} {ab0 : Bool} {col0 : Option Bool} {dd0 : Option Addr} {m00 m10 m20 m30 m50 : Option Value} {oc0 kV0 doc0 pm0 cd0 ct0 : Value} {od0 an0 : Option Addr} {sl0 : Array (Option Value)}
    {C1 f1 N1 : Addr} {nm1 q1 : Str} {bs1 : List Value} {sn1 : List Str} {sub1 : List Value} {ab1 : Bool} {col1 : Option Bool} {dd1 : Option Addr} {m01 m11 m21 m31 m51 : Option Value} {oc1 kV1 doc1 pm1 cd1 ct1 : Value} {od1 an1 : Option Addr} {sl1 : Array (Option Value)}
    {C2 f2 N2 : Addr} {nm2 q2 : Str} {bs2 : List Value} {sn2 : List Str} {sub2 : List Value} {ab2 : Bool} {col2 : Option Bool} {dd2 : Option Addr} {m02 m12 m22 m32 m52 : Option Value} {oc2 kV2 doc2 pm2 cd2 ct2 : Value} {od2 an2 : Option Addr} {sl2 : Array (Option Value)}
    {C3 f3 N3 : Addr} {nm3 q3 : Str} {bs3 : List Value} {sn3 : List Str} {sub3 : List Value} {ab3 : Bool} {col3 : Option Bool} {dd3 : Option Addr} {m03 m13 m23 m33 m53 : Option Value} {oc3 kV3 doc3 pm3 cd3 ct3 : Value} {od3 an3 : Option Addr} {sl3 : Array (Option Value)}
    {C4 f4 N4 : Addr} {nm4 q4 : Str} {bs4 : List Value} {sn4 : List Str} {sub4 : List Value} {ab4 : Bool} {col4 : Option Bool} {dd4 : Option Addr} {m04 m14 m24 m34 m54 : Option Value} {oc4 kV4 doc4 pm4 cd4 ct4 : Value} {od4 an4 : Option Addr} {sl4 : Array (Option Value)}
    {C5 f5 N5 : Addr} {nm5 q5 : Str} {bs5 : List Value} {sn5 : List Str} {sub5 : List Value} {ab5 : Bool} {col5 : Option Bool} {dd5 : Option Addr} {m05 m15 m25 m35 m55 : Option Value} {oc5 kV5 doc5 pm5 cd5 ct5 : Value} {od5 an5 : Option Addr} {sl5 : Array (Option Value)}
    {C6 f6 N6 : Addr} {nm6 q6 : Str} {bs6 : List Value} {sn6 : List Str} {sub6 : List Value} {ab6 : Bool} {col6 : Option Bool} {dd6 : Option Addr} {m06 m16 m26 m36 m56 : Option Value} {oc6 kV6 doc6 pm6 cd6 ct6 : Value} {od6 an6 : Option Addr} {sl6 : Array (Option Value)}
    {C7 f7 N7 : Addr} {nm7 q7 : Str} {bs7 : List Value} {sn7 : List Str} {sub7 : List Value} {ab7 : Bool} {col7 : Option Bool} {dd7 : Option Addr} {m07 m17 m27 m37 m57 : Option Value} {oc7 kV7 doc7 pm7 cd7 ct7 : Value} {od7 an7 : Option Addr} {sl7 : Array (Option Value)}
    {C8 f8 N8 : Addr} {nm8 q8 : Str} {bs8 : List Value} {sn8 : List Str} {sub8 : List Value} {ab8 : Bool} {col8 : Option Bool} {dd8 : Option Addr} {m08 m18 m28 m38 m58 : Option Value} {oc8 kV8 doc8 pm8 cd8 ct8 : Value} {od8 an8 : Option Addr} {sl8 : Array (Option Value)}
    {C9 f9 N9 : Addr} {nm9 q9 : Str} {bs9 : List Value} {sn9 : List Str} {sub9 : List Value} {ab9 : Bool} {col9 : Option Bool} {dd9 : Option Addr} {m09 m19 m29 m39 m59 : Option Value} {oc9 kV9 doc9 pm9 cd9 ct9 : Value} {od9 an9 : Option Addr} {sl9 : Array (Option Value)}
    (g0 : PySem.W.nsIn K mainGlobals "NoSlab" = some (some (.ref C0)))
    (x0 : K.lookup C0 = some (excClassObj nm0 q0 C0 N0 bs0 [.ref S, .type "ValueError", .type "Exception", .type "BaseException", .type "object"] true sn0 sub0 ab0 col0 dd0 m00 m10 m20 m30 m50 "ValueError.__new__"))
    (sa0 : PySem.W.findIn K (.ref C0) "__setattr__" = some (some (.builtin "object.__setattr__")))
    (ex0 : PySem.W.subIn K (.ref C0) (.type "BaseException") = some true)
    (ty0 : PySem.W.typeIn K (.ref C0) = some (.type "type"))
    (kc0 : PySem.W.keepIn K (.ref C0) = true)
    (in0 : PySem.W.findIn K (.ref C0) "__init__" = some (some (.ref f0)))
    (ti0 : PySem.W.typeIn K (.ref f0) = some (.type "function"))
    (nf0 : PySem.W.findIn K (.ref C0) "index" = some none)
    (ga0 : PySem.W.findIn K (.ref C0) "__getattribute__" = some (some (.builtin "BaseException.__getattribute__")))
    (gg0 : PySem.W.findIn K (.ref C0) "__getattr__" = some none)
    (hd0 : PySem.W.hasDictIn K C0 = true)
    (cl0 : PySem.W.isClsIn K C0 = true)
    (ca0 : PySem.W.findIn K (.ref C0) "__class__" = some (some (.builtin "object.__class__")))
    (mr0 : PySem.W.mroIn K C0 (.type "object") = some true)
    (l0 : K.lookup f0 = some ⟨oc0, od0, .func (PySem.W.fnOf "__init__" "NoSlab.__init__" (defArgs s_i0) (defBody s_i0) (defScope s_i0) .none kV0 doc0 pm0 an0 cd0 ct0), sl0⟩)
    (c0 : PySem.W.codeIn K cd0 "NoSlab.__init__" = true)
    (k0 : PySem.W.keepIn K (.ref f0) = true)
    (ks0 : PySem.W.kitOne K (.ref C0) (.ref S) = some true)
    (kv0 : PySem.W.kitOne K (.ref C0) (.type "ValueError") = some true)
    (g1 : PySem.W.nsIn K mainGlobals "NoClass" = some (some (.ref C1)))
    (x1 : K.lookup C1 = some (excClassObj nm1 q1 C1 N1 bs1 [.ref S, .type "ValueError", .type "Exception", .type "BaseException", .type "object"] true sn1 sub1 ab1 col1 dd1 m01 m11 m21 m31 m51 "ValueError.__new__"))
    (sa1 : PySem.W.findIn K (.ref C1) "__setattr__" = some (some (.builtin "object.__setattr__")))
    (ex1 : PySem.W.subIn K (.ref C1) (.type "BaseException") = some true)
    (ty1 : PySem.W.typeIn K (.ref C1) = some (.type "type"))
    (kc1 : PySem.W.keepIn K (.ref C1) = true)
    (in1 : PySem.W.findIn K (.ref C1) "__init__" = some (some (.ref f1)))
    (ti1 : PySem.W.typeIn K (.ref f1) = some (.type "function"))
    (nf1 : PySem.W.findIn K (.ref C1) "number" = some none)
    (ga1 : PySem.W.findIn K (.ref C1) "__getattribute__" = some (some (.builtin "BaseException.__getattribute__")))
    (gg1 : PySem.W.findIn K (.ref C1) "__getattr__" = some none)
    (hd1 : PySem.W.hasDictIn K C1 = true)
    (cl1 : PySem.W.isClsIn K C1 = true)
    (ca1 : PySem.W.findIn K (.ref C1) "__class__" = some (some (.builtin "object.__class__")))
    (mr1 : PySem.W.mroIn K C1 (.type "object") = some true)
    (l1 : K.lookup f1 = some ⟨oc1, od1, .func (PySem.W.fnOf "__init__" "NoClass.__init__" (defArgs s_i1) (defBody s_i1) (defScope s_i1) .none kV1 doc1 pm1 an1 cd1 ct1), sl1⟩)
    (c1 : PySem.W.codeIn K cd1 "NoClass.__init__" = true)
    (k1 : PySem.W.keepIn K (.ref f1) = true)
    (ks1 : PySem.W.kitOne K (.ref C1) (.ref S) = some true)
    (kv1 : PySem.W.kitOne K (.ref C1) (.type "ValueError") = some true)
    (g2 : PySem.W.nsIn K mainGlobals "NoTable" = some (some (.ref C2)))
    (x2 : K.lookup C2 = some (excClassObj nm2 q2 C2 N2 bs2 [.ref S, .type "ValueError", .type "Exception", .type "BaseException", .type "object"] true sn2 sub2 ab2 col2 dd2 m02 m12 m22 m32 m52 "ValueError.__new__"))
    (sa2 : PySem.W.findIn K (.ref C2) "__setattr__" = some (some (.builtin "object.__setattr__")))
    (ex2 : PySem.W.subIn K (.ref C2) (.type "BaseException") = some true)
    (ty2 : PySem.W.typeIn K (.ref C2) = some (.type "type"))
    (kc2 : PySem.W.keepIn K (.ref C2) = true)
    (in2 : PySem.W.findIn K (.ref C2) "__init__" = some (some (.ref f2)))
    (ti2 : PySem.W.typeIn K (.ref f2) = some (.type "function"))
    (nf2 : PySem.W.findIn K (.ref C2) "index" = some none)
    (ga2 : PySem.W.findIn K (.ref C2) "__getattribute__" = some (some (.builtin "BaseException.__getattribute__")))
    (gg2 : PySem.W.findIn K (.ref C2) "__getattr__" = some none)
    (hd2 : PySem.W.hasDictIn K C2 = true)
    (cl2 : PySem.W.isClsIn K C2 = true)
    (ca2 : PySem.W.findIn K (.ref C2) "__class__" = some (some (.builtin "object.__class__")))
    (mr2 : PySem.W.mroIn K C2 (.type "object") = some true)
    (l2 : K.lookup f2 = some ⟨oc2, od2, .func (PySem.W.fnOf "__init__" "NoTable.__init__" (defArgs s_i2) (defBody s_i2) (defScope s_i2) .none kV2 doc2 pm2 an2 cd2 ct2), sl2⟩)
    (c2 : PySem.W.codeIn K cd2 "NoTable.__init__" = true)
    (k2 : PySem.W.keepIn K (.ref f2) = true)
    (ks2 : PySem.W.kitOne K (.ref C2) (.ref S) = some true)
    (kv2 : PySem.W.kitOne K (.ref C2) (.type "ValueError") = some true)
    (g3 : PySem.W.nsIn K mainGlobals "NoSteps" = some (some (.ref C3)))
    (x3 : K.lookup C3 = some (excClassObj nm3 q3 C3 N3 bs3 [.ref S, .type "ValueError", .type "Exception", .type "BaseException", .type "object"] true sn3 sub3 ab3 col3 dd3 m03 m13 m23 m33 m53 "ValueError.__new__"))
    (sa3 : PySem.W.findIn K (.ref C3) "__setattr__" = some (some (.builtin "object.__setattr__")))
    (ex3 : PySem.W.subIn K (.ref C3) (.type "BaseException") = some true)
    (ty3 : PySem.W.typeIn K (.ref C3) = some (.type "type"))
    (kc3 : PySem.W.keepIn K (.ref C3) = true)
    (in3 : PySem.W.findIn K (.ref C3) "__init__" = some (some (.ref f3)))
    (ti3 : PySem.W.typeIn K (.ref f3) = some (.type "function"))
    (nf3 : PySem.W.findIn K (.ref C3) "index" = some none)
    (ga3 : PySem.W.findIn K (.ref C3) "__getattribute__" = some (some (.builtin "BaseException.__getattribute__")))
    (gg3 : PySem.W.findIn K (.ref C3) "__getattr__" = some none)
    (hd3 : PySem.W.hasDictIn K C3 = true)
    (cl3 : PySem.W.isClsIn K C3 = true)
    (ca3 : PySem.W.findIn K (.ref C3) "__class__" = some (some (.builtin "object.__class__")))
    (mr3 : PySem.W.mroIn K C3 (.type "object") = some true)
    (l3 : K.lookup f3 = some ⟨oc3, od3, .func (PySem.W.fnOf "__init__" "NoSteps.__init__" (defArgs s_i3) (defBody s_i3) (defScope s_i3) .none kV3 doc3 pm3 an3 cd3 ct3), sl3⟩)
    (c3 : PySem.W.codeIn K cd3 "NoSteps.__init__" = true)
    (k3 : PySem.W.keepIn K (.ref f3) = true)
    (ks3 : PySem.W.kitOne K (.ref C3) (.ref S) = some true)
    (kv3 : PySem.W.kitOne K (.ref C3) (.type "ValueError") = some true)
    (g4 : PySem.W.nsIn K mainGlobals "NoCertificate" = some (some (.ref C4)))
    (x4 : K.lookup C4 = some (excClassObj nm4 q4 C4 N4 bs4 [.ref S, .type "ValueError", .type "Exception", .type "BaseException", .type "object"] true sn4 sub4 ab4 col4 dd4 m04 m14 m24 m34 m54 "ValueError.__new__"))
    (sa4 : PySem.W.findIn K (.ref C4) "__setattr__" = some (some (.builtin "object.__setattr__")))
    (ex4 : PySem.W.subIn K (.ref C4) (.type "BaseException") = some true)
    (ty4 : PySem.W.typeIn K (.ref C4) = some (.type "type"))
    (kc4 : PySem.W.keepIn K (.ref C4) = true)
    (in4 : PySem.W.findIn K (.ref C4) "__init__" = some (some (.ref f4)))
    (ti4 : PySem.W.typeIn K (.ref f4) = some (.type "function"))
    (nf4 : PySem.W.findIn K (.ref C4) "index" = some none)
    (ga4 : PySem.W.findIn K (.ref C4) "__getattribute__" = some (some (.builtin "BaseException.__getattribute__")))
    (gg4 : PySem.W.findIn K (.ref C4) "__getattr__" = some none)
    (hd4 : PySem.W.hasDictIn K C4 = true)
    (cl4 : PySem.W.isClsIn K C4 = true)
    (ca4 : PySem.W.findIn K (.ref C4) "__class__" = some (some (.builtin "object.__class__")))
    (mr4 : PySem.W.mroIn K C4 (.type "object") = some true)
    (l4 : K.lookup f4 = some ⟨oc4, od4, .func (PySem.W.fnOf "__init__" "NoCertificate.__init__" (defArgs s_i4) (defBody s_i4) (defScope s_i4) .none kV4 doc4 pm4 an4 cd4 ct4), sl4⟩)
    (c4 : PySem.W.codeIn K cd4 "NoCertificate.__init__" = true)
    (k4 : PySem.W.keepIn K (.ref f4) = true)
    (ks4 : PySem.W.kitOne K (.ref C4) (.ref S) = some true)
    (kv4 : PySem.W.kitOne K (.ref C4) (.type "ValueError") = some true)
    (g5 : PySem.W.nsIn K mainGlobals "NoPins" = some (some (.ref C5)))
    (x5 : K.lookup C5 = some (excClassObj nm5 q5 C5 N5 bs5 [.ref S, .type "ValueError", .type "Exception", .type "BaseException", .type "object"] true sn5 sub5 ab5 col5 dd5 m05 m15 m25 m35 m55 "ValueError.__new__"))
    (sa5 : PySem.W.findIn K (.ref C5) "__setattr__" = some (some (.builtin "object.__setattr__")))
    (ex5 : PySem.W.subIn K (.ref C5) (.type "BaseException") = some true)
    (ty5 : PySem.W.typeIn K (.ref C5) = some (.type "type"))
    (kc5 : PySem.W.keepIn K (.ref C5) = true)
    (in5 : PySem.W.findIn K (.ref C5) "__init__" = some (some (.ref f5)))
    (ti5 : PySem.W.typeIn K (.ref f5) = some (.type "function"))
    (nf5 : PySem.W.findIn K (.ref C5) "pins" = some none)
    (ga5 : PySem.W.findIn K (.ref C5) "__getattribute__" = some (some (.builtin "BaseException.__getattribute__")))
    (gg5 : PySem.W.findIn K (.ref C5) "__getattr__" = some none)
    (hd5 : PySem.W.hasDictIn K C5 = true)
    (cl5 : PySem.W.isClsIn K C5 = true)
    (ca5 : PySem.W.findIn K (.ref C5) "__class__" = some (some (.builtin "object.__class__")))
    (mr5 : PySem.W.mroIn K C5 (.type "object") = some true)
    (l5 : K.lookup f5 = some ⟨oc5, od5, .func (PySem.W.fnOf "__init__" "NoPins.__init__" (defArgs s_i5) (defBody s_i5) (defScope s_i5) .none kV5 doc5 pm5 an5 cd5 ct5), sl5⟩)
    (c5 : PySem.W.codeIn K cd5 "NoPins.__init__" = true)
    (k5 : PySem.W.keepIn K (.ref f5) = true)
    (ks5 : PySem.W.kitOne K (.ref C5) (.ref S) = some true)
    (kv5 : PySem.W.kitOne K (.ref C5) (.type "ValueError") = some true)
    (g6 : PySem.W.nsIn K mainGlobals "Stuck" = some (some (.ref C6)))
    (x6 : K.lookup C6 = some (excClassObj nm6 q6 C6 N6 bs6 [.ref S, .type "ValueError", .type "Exception", .type "BaseException", .type "object"] true sn6 sub6 ab6 col6 dd6 m06 m16 m26 m36 m56 "ValueError.__new__"))
    (sa6 : PySem.W.findIn K (.ref C6) "__setattr__" = some (some (.builtin "object.__setattr__")))
    (ex6 : PySem.W.subIn K (.ref C6) (.type "BaseException") = some true)
    (ty6 : PySem.W.typeIn K (.ref C6) = some (.type "type"))
    (kc6 : PySem.W.keepIn K (.ref C6) = true)
    (in6 : PySem.W.findIn K (.ref C6) "__init__" = some (some (.ref f6)))
    (ti6 : PySem.W.typeIn K (.ref f6) = some (.type "function"))
    (nf6 : PySem.W.findIn K (.ref C6) "numbers" = some none)
    (ga6 : PySem.W.findIn K (.ref C6) "__getattribute__" = some (some (.builtin "BaseException.__getattribute__")))
    (gg6 : PySem.W.findIn K (.ref C6) "__getattr__" = some none)
    (hd6 : PySem.W.hasDictIn K C6 = true)
    (cl6 : PySem.W.isClsIn K C6 = true)
    (ca6 : PySem.W.findIn K (.ref C6) "__class__" = some (some (.builtin "object.__class__")))
    (mr6 : PySem.W.mroIn K C6 (.type "object") = some true)
    (l6 : K.lookup f6 = some ⟨oc6, od6, .func (PySem.W.fnOf "__init__" "Stuck.__init__" (defArgs s_i6) (defBody s_i6) (defScope s_i6) .none kV6 doc6 pm6 an6 cd6 ct6), sl6⟩)
    (c6 : PySem.W.codeIn K cd6 "Stuck.__init__" = true)
    (k6 : PySem.W.keepIn K (.ref f6) = true)
    (ks6 : PySem.W.kitOne K (.ref C6) (.ref S) = some true)
    (kv6 : PySem.W.kitOne K (.ref C6) (.type "ValueError") = some true)
    (g7 : PySem.W.nsIn K mainGlobals "NoPages" = some (some (.ref C7)))
    (x7 : K.lookup C7 = some (excClassObj nm7 q7 C7 N7 bs7 [.ref S, .type "ValueError", .type "Exception", .type "BaseException", .type "object"] true sn7 sub7 ab7 col7 dd7 m07 m17 m27 m37 m57 "ValueError.__new__"))
    (sa7 : PySem.W.findIn K (.ref C7) "__setattr__" = some (some (.builtin "object.__setattr__")))
    (ex7 : PySem.W.subIn K (.ref C7) (.type "BaseException") = some true)
    (ty7 : PySem.W.typeIn K (.ref C7) = some (.type "type"))
    (kc7 : PySem.W.keepIn K (.ref C7) = true)
    (in7 : PySem.W.findIn K (.ref C7) "__init__" = some (some (.ref f7)))
    (ti7 : PySem.W.typeIn K (.ref f7) = some (.type "function"))
    (nf7 : PySem.W.findIn K (.ref C7) "pages" = some none)
    (ga7 : PySem.W.findIn K (.ref C7) "__getattribute__" = some (some (.builtin "BaseException.__getattribute__")))
    (gg7 : PySem.W.findIn K (.ref C7) "__getattr__" = some none)
    (hd7 : PySem.W.hasDictIn K C7 = true)
    (cl7 : PySem.W.isClsIn K C7 = true)
    (ca7 : PySem.W.findIn K (.ref C7) "__class__" = some (some (.builtin "object.__class__")))
    (mr7 : PySem.W.mroIn K C7 (.type "object") = some true)
    (l7 : K.lookup f7 = some ⟨oc7, od7, .func (PySem.W.fnOf "__init__" "NoPages.__init__" (defArgs s_i7) (defBody s_i7) (defScope s_i7) .none kV7 doc7 pm7 an7 cd7 ct7), sl7⟩)
    (c7 : PySem.W.codeIn K cd7 "NoPages.__init__" = true)
    (k7 : PySem.W.keepIn K (.ref f7) = true)
    (ks7 : PySem.W.kitOne K (.ref C7) (.ref S) = some true)
    (kv7 : PySem.W.kitOne K (.ref C7) (.type "ValueError") = some true)
    (g8 : PySem.W.nsIn K mainGlobals "NoRows" = some (some (.ref C8)))
    (x8 : K.lookup C8 = some (excClassObj nm8 q8 C8 N8 bs8 [.ref S, .type "ValueError", .type "Exception", .type "BaseException", .type "object"] true sn8 sub8 ab8 col8 dd8 m08 m18 m28 m38 m58 "ValueError.__new__"))
    (sa8 : PySem.W.findIn K (.ref C8) "__setattr__" = some (some (.builtin "object.__setattr__")))
    (ex8 : PySem.W.subIn K (.ref C8) (.type "BaseException") = some true)
    (ty8 : PySem.W.typeIn K (.ref C8) = some (.type "type"))
    (kc8 : PySem.W.keepIn K (.ref C8) = true)
    (in8 : PySem.W.findIn K (.ref C8) "__init__" = some (some (.ref f8)))
    (ti8 : PySem.W.typeIn K (.ref f8) = some (.type "function"))
    (nf8 : PySem.W.findIn K (.ref C8) "index" = some none)
    (ga8 : PySem.W.findIn K (.ref C8) "__getattribute__" = some (some (.builtin "BaseException.__getattribute__")))
    (gg8 : PySem.W.findIn K (.ref C8) "__getattr__" = some none)
    (hd8 : PySem.W.hasDictIn K C8 = true)
    (cl8 : PySem.W.isClsIn K C8 = true)
    (ca8 : PySem.W.findIn K (.ref C8) "__class__" = some (some (.builtin "object.__class__")))
    (mr8 : PySem.W.mroIn K C8 (.type "object") = some true)
    (l8 : K.lookup f8 = some ⟨oc8, od8, .func (PySem.W.fnOf "__init__" "NoRows.__init__" (defArgs s_i8) (defBody s_i8) (defScope s_i8) .none kV8 doc8 pm8 an8 cd8 ct8), sl8⟩)
    (c8 : PySem.W.codeIn K cd8 "NoRows.__init__" = true)
    (k8 : PySem.W.keepIn K (.ref f8) = true)
    (ks8 : PySem.W.kitOne K (.ref C8) (.ref S) = some true)
    (kv8 : PySem.W.kitOne K (.ref C8) (.type "ValueError") = some true)
    (g9 : PySem.W.nsIn K mainGlobals "TooMany" = some (some (.ref C9)))
    (x9 : K.lookup C9 = some (excClassObj nm9 q9 C9 N9 bs9 [.ref S, .type "ValueError", .type "Exception", .type "BaseException", .type "object"] true sn9 sub9 ab9 col9 dd9 m09 m19 m29 m39 m59 "ValueError.__new__"))
    (sa9 : PySem.W.findIn K (.ref C9) "__setattr__" = some (some (.builtin "object.__setattr__")))
    (ex9 : PySem.W.subIn K (.ref C9) (.type "BaseException") = some true)
    (ty9 : PySem.W.typeIn K (.ref C9) = some (.type "type"))
    (kc9 : PySem.W.keepIn K (.ref C9) = true)
    (in9 : PySem.W.findIn K (.ref C9) "__init__" = some (some (.ref f9)))
    (ti9 : PySem.W.typeIn K (.ref f9) = some (.type "function"))
    (nf9 : PySem.W.findIn K (.ref C9) "most" = some none)
    (ga9 : PySem.W.findIn K (.ref C9) "__getattribute__" = some (some (.builtin "BaseException.__getattribute__")))
    (gg9 : PySem.W.findIn K (.ref C9) "__getattr__" = some none)
    (hd9 : PySem.W.hasDictIn K C9 = true)
    (cl9 : PySem.W.isClsIn K C9 = true)
    (ca9 : PySem.W.findIn K (.ref C9) "__class__" = some (some (.builtin "object.__class__")))
    (mr9 : PySem.W.mroIn K C9 (.type "object") = some true)
    (l9 : K.lookup f9 = some ⟨oc9, od9, .func (PySem.W.fnOf "__init__" "TooMany.__init__" (defArgs s_i9) (defBody s_i9) (defScope s_i9) .none kV9 doc9 pm9 an9 cd9 ct9), sl9⟩)
    (c9 : PySem.W.codeIn K cd9 "TooMany.__init__" = true)
    (k9 : PySem.W.keepIn K (.ref f9) = true)
    (ks9 : PySem.W.kitOne K (.ref C9) (.ref S) = some true)
    (kv9 : PySem.W.kitOne K (.ref C9) (.type "ValueError") = some true)
    (t0_0 : PySem.W.kitOne K (.ref C0) (.ref C0) = some true)
    (t0_1 : PySem.W.kitOne K (.ref C0) (.ref C1) = some false)
    (t0_2 : PySem.W.kitOne K (.ref C0) (.ref C2) = some false)
    (t0_3 : PySem.W.kitOne K (.ref C0) (.ref C3) = some false)
    (t0_4 : PySem.W.kitOne K (.ref C0) (.ref C4) = some false)
    (t0_5 : PySem.W.kitOne K (.ref C0) (.ref C5) = some false)
    (t0_6 : PySem.W.kitOne K (.ref C0) (.ref C6) = some false)
    (t0_7 : PySem.W.kitOne K (.ref C0) (.ref C7) = some false)
    (t0_8 : PySem.W.kitOne K (.ref C0) (.ref C8) = some false)
    (t0_9 : PySem.W.kitOne K (.ref C0) (.ref C9) = some false)
    (t1_0 : PySem.W.kitOne K (.ref C1) (.ref C0) = some false)
    (t1_1 : PySem.W.kitOne K (.ref C1) (.ref C1) = some true)
    (t1_2 : PySem.W.kitOne K (.ref C1) (.ref C2) = some false)
    (t1_3 : PySem.W.kitOne K (.ref C1) (.ref C3) = some false)
    (t1_4 : PySem.W.kitOne K (.ref C1) (.ref C4) = some false)
    (t1_5 : PySem.W.kitOne K (.ref C1) (.ref C5) = some false)
    (t1_6 : PySem.W.kitOne K (.ref C1) (.ref C6) = some false)
    (t1_7 : PySem.W.kitOne K (.ref C1) (.ref C7) = some false)
    (t1_8 : PySem.W.kitOne K (.ref C1) (.ref C8) = some false)
    (t1_9 : PySem.W.kitOne K (.ref C1) (.ref C9) = some false)
    (t2_0 : PySem.W.kitOne K (.ref C2) (.ref C0) = some false)
    (t2_1 : PySem.W.kitOne K (.ref C2) (.ref C1) = some false)
    (t2_2 : PySem.W.kitOne K (.ref C2) (.ref C2) = some true)
    (t2_3 : PySem.W.kitOne K (.ref C2) (.ref C3) = some false)
    (t2_4 : PySem.W.kitOne K (.ref C2) (.ref C4) = some false)
    (t2_5 : PySem.W.kitOne K (.ref C2) (.ref C5) = some false)
    (t2_6 : PySem.W.kitOne K (.ref C2) (.ref C6) = some false)
    (t2_7 : PySem.W.kitOne K (.ref C2) (.ref C7) = some false)
    (t2_8 : PySem.W.kitOne K (.ref C2) (.ref C8) = some false)
    (t2_9 : PySem.W.kitOne K (.ref C2) (.ref C9) = some false)
    (t3_0 : PySem.W.kitOne K (.ref C3) (.ref C0) = some false)
    (t3_1 : PySem.W.kitOne K (.ref C3) (.ref C1) = some false)
    (t3_2 : PySem.W.kitOne K (.ref C3) (.ref C2) = some false)
    (t3_3 : PySem.W.kitOne K (.ref C3) (.ref C3) = some true)
    (t3_4 : PySem.W.kitOne K (.ref C3) (.ref C4) = some false)
    (t3_5 : PySem.W.kitOne K (.ref C3) (.ref C5) = some false)
    (t3_6 : PySem.W.kitOne K (.ref C3) (.ref C6) = some false)
    (t3_7 : PySem.W.kitOne K (.ref C3) (.ref C7) = some false)
    (t3_8 : PySem.W.kitOne K (.ref C3) (.ref C8) = some false)
    (t3_9 : PySem.W.kitOne K (.ref C3) (.ref C9) = some false)
    (t4_0 : PySem.W.kitOne K (.ref C4) (.ref C0) = some false)
    (t4_1 : PySem.W.kitOne K (.ref C4) (.ref C1) = some false)
    (t4_2 : PySem.W.kitOne K (.ref C4) (.ref C2) = some false)
    (t4_3 : PySem.W.kitOne K (.ref C4) (.ref C3) = some false)
    (t4_4 : PySem.W.kitOne K (.ref C4) (.ref C4) = some true)
    (t4_5 : PySem.W.kitOne K (.ref C4) (.ref C5) = some false)
    (t4_6 : PySem.W.kitOne K (.ref C4) (.ref C6) = some false)
    (t4_7 : PySem.W.kitOne K (.ref C4) (.ref C7) = some false)
    (t4_8 : PySem.W.kitOne K (.ref C4) (.ref C8) = some false)
    (t4_9 : PySem.W.kitOne K (.ref C4) (.ref C9) = some false)
    (t5_0 : PySem.W.kitOne K (.ref C5) (.ref C0) = some false)
    (t5_1 : PySem.W.kitOne K (.ref C5) (.ref C1) = some false)
    (t5_2 : PySem.W.kitOne K (.ref C5) (.ref C2) = some false)
    (t5_3 : PySem.W.kitOne K (.ref C5) (.ref C3) = some false)
    (t5_4 : PySem.W.kitOne K (.ref C5) (.ref C4) = some false)
    (t5_5 : PySem.W.kitOne K (.ref C5) (.ref C5) = some true)
    (t5_6 : PySem.W.kitOne K (.ref C5) (.ref C6) = some false)
    (t5_7 : PySem.W.kitOne K (.ref C5) (.ref C7) = some false)
    (t5_8 : PySem.W.kitOne K (.ref C5) (.ref C8) = some false)
    (t5_9 : PySem.W.kitOne K (.ref C5) (.ref C9) = some false)
    (t6_0 : PySem.W.kitOne K (.ref C6) (.ref C0) = some false)
    (t6_1 : PySem.W.kitOne K (.ref C6) (.ref C1) = some false)
    (t6_2 : PySem.W.kitOne K (.ref C6) (.ref C2) = some false)
    (t6_3 : PySem.W.kitOne K (.ref C6) (.ref C3) = some false)
    (t6_4 : PySem.W.kitOne K (.ref C6) (.ref C4) = some false)
    (t6_5 : PySem.W.kitOne K (.ref C6) (.ref C5) = some false)
    (t6_6 : PySem.W.kitOne K (.ref C6) (.ref C6) = some true)
    (t6_7 : PySem.W.kitOne K (.ref C6) (.ref C7) = some false)
    (t6_8 : PySem.W.kitOne K (.ref C6) (.ref C8) = some false)
    (t6_9 : PySem.W.kitOne K (.ref C6) (.ref C9) = some false)
    (t7_0 : PySem.W.kitOne K (.ref C7) (.ref C0) = some false)
    (t7_1 : PySem.W.kitOne K (.ref C7) (.ref C1) = some false)
    (t7_2 : PySem.W.kitOne K (.ref C7) (.ref C2) = some false)
    (t7_3 : PySem.W.kitOne K (.ref C7) (.ref C3) = some false)
    (t7_4 : PySem.W.kitOne K (.ref C7) (.ref C4) = some false)
    (t7_5 : PySem.W.kitOne K (.ref C7) (.ref C5) = some false)
    (t7_6 : PySem.W.kitOne K (.ref C7) (.ref C6) = some false)
    (t7_7 : PySem.W.kitOne K (.ref C7) (.ref C7) = some true)
    (t7_8 : PySem.W.kitOne K (.ref C7) (.ref C8) = some false)
    (t7_9 : PySem.W.kitOne K (.ref C7) (.ref C9) = some false)
    (t8_0 : PySem.W.kitOne K (.ref C8) (.ref C0) = some false)
    (t8_1 : PySem.W.kitOne K (.ref C8) (.ref C1) = some false)
    (t8_2 : PySem.W.kitOne K (.ref C8) (.ref C2) = some false)
    (t8_3 : PySem.W.kitOne K (.ref C8) (.ref C3) = some false)
    (t8_4 : PySem.W.kitOne K (.ref C8) (.ref C4) = some false)
    (t8_5 : PySem.W.kitOne K (.ref C8) (.ref C5) = some false)
    (t8_6 : PySem.W.kitOne K (.ref C8) (.ref C6) = some false)
    (t8_7 : PySem.W.kitOne K (.ref C8) (.ref C7) = some false)
    (t8_8 : PySem.W.kitOne K (.ref C8) (.ref C8) = some true)
    (t8_9 : PySem.W.kitOne K (.ref C8) (.ref C9) = some false)
    (t9_0 : PySem.W.kitOne K (.ref C9) (.ref C0) = some false)
    (t9_1 : PySem.W.kitOne K (.ref C9) (.ref C1) = some false)
    (t9_2 : PySem.W.kitOne K (.ref C9) (.ref C2) = some false)
    (t9_3 : PySem.W.kitOne K (.ref C9) (.ref C3) = some false)
    (t9_4 : PySem.W.kitOne K (.ref C9) (.ref C4) = some false)
    (t9_5 : PySem.W.kitOne K (.ref C9) (.ref C5) = some false)
    (t9_6 : PySem.W.kitOne K (.ref C9) (.ref C6) = some false)
    (t9_7 : PySem.W.kitOne K (.ref C9) (.ref C7) = some false)
    (t9_8 : PySem.W.kitOne K (.ref C9) (.ref C8) = some false)
    (t9_9 : PySem.W.kitOne K (.ref C9) (.ref C9) = some true)
    (gS : PySem.W.nsIn K mainGlobals "SlabError" = some (some (.ref S)))
    (kvs : PySem.W.kitOne K (.type "ValueError") (.ref S) = some false)
    (sp : PySem.W.specialIn K (.builtin "object.__class__") "__get__" = some (some (.builtin "getset_descriptor.__get__")))
    (tk : PySem.W.takesIn K (.builtin "object.__class__") = some true) :
    ∃ A : EA, ∀ base : Heap, Errs P w K mg base A := by
  have F0 := fun_mk (st := s_i0) l0 c0 k0
  have b0 := F0.binds (ps := ["self", "index"]) fun _ _ _ _ _ _ us hl => match us, hl with | [_, _], _ => rfl
  have T0 : XCls K C0 f0 "index" := ⟨⟨⟨_, _, _, _, _, _, _, _, _, _, _, _, _, _, _, x0, (show PySem.HandSPX.refsVE PySem.HandSPX.veTail = true by decide +kernel)⟩, sa0, ex0, ty0, kc0⟩, in0, ti0, nf0, ga0, gg0, hd0⟩
  have F1 := fun_mk (st := s_i1) l1 c1 k1
  have b1 := F1.binds (ps := ["self", "number"]) fun _ _ _ _ _ _ us hl => match us, hl with | [_, _], _ => rfl
  have T1 : XCls K C1 f1 "number" := ⟨⟨⟨_, _, _, _, _, _, _, _, _, _, _, _, _, _, _, x1, (show PySem.HandSPX.refsVE PySem.HandSPX.veTail = true by decide +kernel)⟩, sa1, ex1, ty1, kc1⟩, in1, ti1, nf1, ga1, gg1, hd1⟩
  have F2 := fun_mk (st := s_i2) l2 c2 k2
  have b2 := F2.binds (ps := ["self", "index"]) fun _ _ _ _ _ _ us hl => match us, hl with | [_, _], _ => rfl
  have T2 : XCls K C2 f2 "index" := ⟨⟨⟨_, _, _, _, _, _, _, _, _, _, _, _, _, _, _, x2, (show PySem.HandSPX.refsVE PySem.HandSPX.veTail = true by decide +kernel)⟩, sa2, ex2, ty2, kc2⟩, in2, ti2, nf2, ga2, gg2, hd2⟩
  have F3 := fun_mk (st := s_i3) l3 c3 k3
  have b3 := F3.binds (ps := ["self", "index"]) fun _ _ _ _ _ _ us hl => match us, hl with | [_, _], _ => rfl
  have T3 : XCls K C3 f3 "index" := ⟨⟨⟨_, _, _, _, _, _, _, _, _, _, _, _, _, _, _, x3, (show PySem.HandSPX.refsVE PySem.HandSPX.veTail = true by decide +kernel)⟩, sa3, ex3, ty3, kc3⟩, in3, ti3, nf3, ga3, gg3, hd3⟩
  have F4 := fun_mk (st := s_i4) l4 c4 k4
  have b4 := F4.binds (ps := ["self", "index"]) fun _ _ _ _ _ _ us hl => match us, hl with | [_, _], _ => rfl
  have T4 : XCls K C4 f4 "index" := ⟨⟨⟨_, _, _, _, _, _, _, _, _, _, _, _, _, _, _, x4, (show PySem.HandSPX.refsVE PySem.HandSPX.veTail = true by decide +kernel)⟩, sa4, ex4, ty4, kc4⟩, in4, ti4, nf4, ga4, gg4, hd4⟩
  have F5 := fun_mk (st := s_i5) l5 c5 k5
  have b5 := F5.binds (ps := ["self", "pins"]) fun _ _ _ _ _ _ us hl => match us, hl with | [_, _], _ => rfl
  have T5 : XCls K C5 f5 "pins" := ⟨⟨⟨_, _, _, _, _, _, _, _, _, _, _, _, _, _, _, x5, (show PySem.HandSPX.refsVE PySem.HandSPX.veTail = true by decide +kernel)⟩, sa5, ex5, ty5, kc5⟩, in5, ti5, nf5, ga5, gg5, hd5⟩
  have F6 := fun_mk (st := s_i6) l6 c6 k6
  have b6 := F6.binds (ps := ["self", "numbers"]) fun _ _ _ _ _ _ us hl => match us, hl with | [_, _], _ => rfl
  have T6 : XCls K C6 f6 "numbers" := ⟨⟨⟨_, _, _, _, _, _, _, _, _, _, _, _, _, _, _, x6, (show PySem.HandSPX.refsVE PySem.HandSPX.veTail = true by decide +kernel)⟩, sa6, ex6, ty6, kc6⟩, in6, ti6, nf6, ga6, gg6, hd6⟩
  have F7 := fun_mk (st := s_i7) l7 c7 k7
  have b7 := F7.binds (ps := ["self", "pages"]) fun _ _ _ _ _ _ us hl => match us, hl with | [_, _], _ => rfl
  have T7 : XCls K C7 f7 "pages" := ⟨⟨⟨_, _, _, _, _, _, _, _, _, _, _, _, _, _, _, x7, (show PySem.HandSPX.refsVE PySem.HandSPX.veTail = true by decide +kernel)⟩, sa7, ex7, ty7, kc7⟩, in7, ti7, nf7, ga7, gg7, hd7⟩
  have F8 := fun_mk (st := s_i8) l8 c8 k8
  have b8 := F8.binds (ps := ["self", "index"]) fun _ _ _ _ _ _ us hl => match us, hl with | [_, _], _ => rfl
  have T8 : XCls K C8 f8 "index" := ⟨⟨⟨_, _, _, _, _, _, _, _, _, _, _, _, _, _, _, x8, (show PySem.HandSPX.refsVE PySem.HandSPX.veTail = true by decide +kernel)⟩, sa8, ex8, ty8, kc8⟩, in8, ti8, nf8, ga8, gg8, hd8⟩
  have F9 := fun_mk (st := s_i9) l9 c9 k9
  have b9 := F9.binds (ps := ["self", "most"]) fun _ _ _ _ _ _ us hl => match us, hl with | [_, _], _ => rfl
  have T9 : XCls K C9 f9 "most" := ⟨⟨⟨_, _, _, _, _, _, _, _, _, _, _, _, _, _, _, x9, (show PySem.HandSPX.refsVE PySem.HandSPX.veTail = true by decide +kernel)⟩, sa9, ex9, ty9, kc9⟩, in9, ti9, nf9, ga9, gg9, hd9⟩
  refine ⟨⟨(fun n => ([C0, C1, C2, C3, C4, C5, C6, C7, C8, C9] : List Addr).getD n 0), (fun n => ([f0, f1, f2, f3, f4, f5, f6, f7, f8, f9] : List Addr).getD n 0), (fun n => ([(PySem.W.fnOf "__init__" "NoSlab.__init__" (defArgs s_i0) (defBody s_i0) (defScope s_i0) .none kV0 doc0 pm0 an0 cd0 ct0), (PySem.W.fnOf "__init__" "NoClass.__init__" (defArgs s_i1) (defBody s_i1) (defScope s_i1) .none kV1 doc1 pm1 an1 cd1 ct1), (PySem.W.fnOf "__init__" "NoTable.__init__" (defArgs s_i2) (defBody s_i2) (defScope s_i2) .none kV2 doc2 pm2 an2 cd2 ct2), (PySem.W.fnOf "__init__" "NoSteps.__init__" (defArgs s_i3) (defBody s_i3) (defScope s_i3) .none kV3 doc3 pm3 an3 cd3 ct3), (PySem.W.fnOf "__init__" "NoCertificate.__init__" (defArgs s_i4) (defBody s_i4) (defScope s_i4) .none kV4 doc4 pm4 an4 cd4 ct4), (PySem.W.fnOf "__init__" "NoPins.__init__" (defArgs s_i5) (defBody s_i5) (defScope s_i5) .none kV5 doc5 pm5 an5 cd5 ct5), (PySem.W.fnOf "__init__" "Stuck.__init__" (defArgs s_i6) (defBody s_i6) (defScope s_i6) .none kV6 doc6 pm6 an6 cd6 ct6), (PySem.W.fnOf "__init__" "NoPages.__init__" (defArgs s_i7) (defBody s_i7) (defScope s_i7) .none kV7 doc7 pm7 an7 cd7 ct7), (PySem.W.fnOf "__init__" "NoRows.__init__" (defArgs s_i8) (defBody s_i8) (defScope s_i8) .none kV8 doc8 pm8 an8 cd8 ct8), (PySem.W.fnOf "__init__" "TooMany.__init__" (defArgs s_i9) (defBody s_i9) (defScope s_i9) .none kV9 doc9 pm9 an9 cd9 ct9)] : List FuncData).getD n (PySem.W.fnOf "__init__" "NoSlab.__init__" (defArgs s_i0) (defBody s_i0) (defScope s_i0) .none kV0 doc0 pm0 an0 cd0 ct0)), S⟩, fun base => ?_⟩
  refine { isx := fun n hn => match n, hn with | 0, _ => ⟨cl0, ga0, gg0, ex0, ca0, sp, tk, mr0⟩ | 1, _ => ⟨cl1, ga1, gg1, ex1, ca1, sp, tk, mr1⟩ | 2, _ => ⟨cl2, ga2, gg2, ex2, ca2, sp, tk, mr2⟩ | 3, _ => ⟨cl3, ga3, gg3, ex3, ca3, sp, tk, mr3⟩ | 4, _ => ⟨cl4, ga4, gg4, ex4, ca4, sp, tk, mr4⟩ | 5, _ => ⟨cl5, ga5, gg5, ex5, ca5, sp, tk, mr5⟩ | 6, _ => ⟨cl6, ga6, gg6, ex6, ca6, sp, tk, mr6⟩ | 7, _ => ⟨cl7, ga7, gg7, ex7, ca7, sp, tk, mr7⟩ | 8, _ => ⟨cl8, ga8, gg8, ex8, ca8, sp, tk, mr8⟩ | 9, _ => ⟨cl9, ga9, gg9, ex9, ca9, sp, tk, mr9⟩ | n + 10, z => absurd z (by omega), cls := fun n hn => match n, hn with | 0, _ => T0 | 1, _ => T1 | 2, _ => T2 | 3, _ => T3 | 4, _ => T4 | 5, _ => T5 | 6, _ => T6 | 7, _ => T7 | 8, _ => T8 | 9, _ => T9 | n + 10, z => absurd z (by omega), kit := ?kit, kitS := fun n hn => match n, hn with | 0, _ => ks0 | 1, _ => ks1 | 2, _ => ks2 | 3, _ => ks3 | 4, _ => ks4 | 5, _ => ks5 | 6, _ => ks6 | 7, _ => ks7 | 8, _ => ks8 | 9, _ => ks9 | n + 10, z => absurd z (by omega), kitV := fun n hn => match n, hn with | 0, _ => kv0 | 1, _ => kv1 | 2, _ => kv2 | 3, _ => kv3 | 4, _ => kv4 | 5, _ => kv5 | 6, _ => kv6 | 7, _ => kv7 | 8, _ => kv8 | 9, _ => kv9 | n + 10, z => absurd z (by omega), kitVS := kvs, gS := PySem.W.mg_of X G gS, ini := fun n hn => match n, hn with | 0, _ => ok_i0 F0 T0 | 1, _ => ok_i1 F1 T1 | 2, _ => ok_i2 F2 T2 | 3, _ => ok_i3 F3 T3 | 4, _ => ok_i4 F4 T4 | 5, _ => ok_i5 F5 T5 | 6, _ => ok_i6 F6 T6 | 7, _ => ok_i7 F7 T7 | 8, _ => ok_i8 F8 T8 | 9, _ => ok_i9 F9 T9 | n + 10, z => absurd z (by omega), bd := fun n hn => match n, hn with | 0, _ => b0 | 1, _ => b1 | 2, _ => b2 | 3, _ => b3 | 4, _ => b4 | 5, _ => b5 | 6, _ => b6 | 7, _ => b7 | 8, _ => b8 | 9, _ => b9 | n + 10, z => absurd z (by omega), bp := fun n hn => match n, hn with | 0, _ => fun s y u => .of_eq rfl | 1, _ => fun s y u => .of_eq rfl | 2, _ => fun s y u => .of_eq rfl | 3, _ => fun s y u => .of_eq rfl | 4, _ => fun s y u => .of_eq rfl | 5, _ => fun s y u => .of_eq rfl | 6, _ => fun s y u => .of_eq rfl | 7, _ => fun s y u => .of_eq rfl | 8, _ => fun s y u => .of_eq rfl | 9, _ => fun s y u => .of_eq rfl | n + 10, z => absurd z (by omega), bk := fun n hn => match n, hn with | 0, _ => fun s y u => .of_eq rfl | 1, _ => fun s y u => .of_eq rfl | 2, _ => fun s y u => .of_eq rfl | 3, _ => fun s y u => .of_eq rfl | 4, _ => fun s y u => .of_eq rfl | 5, _ => fun s y u => .of_eq rfl | 6, _ => fun s y u => .of_eq rfl | 7, _ => fun s y u => .of_eq rfl | 8, _ => fun s y u => .of_eq rfl | 9, _ => fun s y u => .of_eq rfl | n + 10, z => absurd z (by omega), g0 := PySem.W.mg_of X G g0, g1 := PySem.W.mg_of X G g1, g2 := PySem.W.mg_of X G g2, g3 := PySem.W.mg_of X G g3, g4 := PySem.W.mg_of X G g4, g5 := PySem.W.mg_of X G g5, g6 := PySem.W.mg_of X G g6, g7 := PySem.W.mg_of X G g7, g8 := PySem.W.mg_of X G g8, g9 := PySem.W.mg_of X G g9 }
  intro i j hi hj
  match i, hi with
  | 0, _ =>
    match j, hj with
    | 0, _ => exact t0_0
    | 1, _ => exact t0_1
    | 2, _ => exact t0_2
    | 3, _ => exact t0_3
    | 4, _ => exact t0_4
    | 5, _ => exact t0_5
    | 6, _ => exact t0_6
    | 7, _ => exact t0_7
    | 8, _ => exact t0_8
    | 9, _ => exact t0_9
    | j + 10, z => exact absurd z (by omega)
  | 1, _ =>
    match j, hj with
    | 0, _ => exact t1_0
    | 1, _ => exact t1_1
    | 2, _ => exact t1_2
    | 3, _ => exact t1_3
    | 4, _ => exact t1_4
    | 5, _ => exact t1_5
    | 6, _ => exact t1_6
    | 7, _ => exact t1_7
    | 8, _ => exact t1_8
    | 9, _ => exact t1_9
    | j + 10, z => exact absurd z (by omega)
  | 2, _ =>
    match j, hj with
    | 0, _ => exact t2_0
    | 1, _ => exact t2_1
    | 2, _ => exact t2_2
    | 3, _ => exact t2_3
    | 4, _ => exact t2_4
    | 5, _ => exact t2_5
    | 6, _ => exact t2_6
    | 7, _ => exact t2_7
    | 8, _ => exact t2_8
    | 9, _ => exact t2_9
    | j + 10, z => exact absurd z (by omega)
  | 3, _ =>
    match j, hj with
    | 0, _ => exact t3_0
    | 1, _ => exact t3_1
    | 2, _ => exact t3_2
    | 3, _ => exact t3_3
    | 4, _ => exact t3_4
    | 5, _ => exact t3_5
    | 6, _ => exact t3_6
    | 7, _ => exact t3_7
    | 8, _ => exact t3_8
    | 9, _ => exact t3_9
    | j + 10, z => exact absurd z (by omega)
  | 4, _ =>
    match j, hj with
    | 0, _ => exact t4_0
    | 1, _ => exact t4_1
    | 2, _ => exact t4_2
    | 3, _ => exact t4_3
    | 4, _ => exact t4_4
    | 5, _ => exact t4_5
    | 6, _ => exact t4_6
    | 7, _ => exact t4_7
    | 8, _ => exact t4_8
    | 9, _ => exact t4_9
    | j + 10, z => exact absurd z (by omega)
  | 5, _ =>
    match j, hj with
    | 0, _ => exact t5_0
    | 1, _ => exact t5_1
    | 2, _ => exact t5_2
    | 3, _ => exact t5_3
    | 4, _ => exact t5_4
    | 5, _ => exact t5_5
    | 6, _ => exact t5_6
    | 7, _ => exact t5_7
    | 8, _ => exact t5_8
    | 9, _ => exact t5_9
    | j + 10, z => exact absurd z (by omega)
  | 6, _ =>
    match j, hj with
    | 0, _ => exact t6_0
    | 1, _ => exact t6_1
    | 2, _ => exact t6_2
    | 3, _ => exact t6_3
    | 4, _ => exact t6_4
    | 5, _ => exact t6_5
    | 6, _ => exact t6_6
    | 7, _ => exact t6_7
    | 8, _ => exact t6_8
    | 9, _ => exact t6_9
    | j + 10, z => exact absurd z (by omega)
  | 7, _ =>
    match j, hj with
    | 0, _ => exact t7_0
    | 1, _ => exact t7_1
    | 2, _ => exact t7_2
    | 3, _ => exact t7_3
    | 4, _ => exact t7_4
    | 5, _ => exact t7_5
    | 6, _ => exact t7_6
    | 7, _ => exact t7_7
    | 8, _ => exact t7_8
    | 9, _ => exact t7_9
    | j + 10, z => exact absurd z (by omega)
  | 8, _ =>
    match j, hj with
    | 0, _ => exact t8_0
    | 1, _ => exact t8_1
    | 2, _ => exact t8_2
    | 3, _ => exact t8_3
    | 4, _ => exact t8_4
    | 5, _ => exact t8_5
    | 6, _ => exact t8_6
    | 7, _ => exact t8_7
    | 8, _ => exact t8_8
    | 9, _ => exact t8_9
    | j + 10, z => exact absurd z (by omega)
  | 9, _ =>
    match j, hj with
    | 0, _ => exact t9_0
    | 1, _ => exact t9_1
    | 2, _ => exact t9_2
    | 3, _ => exact t9_3
    | 4, _ => exact t9_4
    | 5, _ => exact t9_5
    | 6, _ => exact t9_6
    | 7, _ => exact t9_7
    | 8, _ => exact t9_8
    | 9, _ => exact t9_9
    | j + 10, z => exact absurd z (by omega)
  | i + 10, z => exact absurd z (by omega)
theorem bi_mk {K : PySem.W.Frag} {h : Heap} {mg : Str → Option Value} (X : K.In h) (G : h.Ns mainGlobals mg) (a1 : PySem.W.nsIn K mainGlobals "int" = some none) (a2 : PySem.W.nsIn K mainGlobals "enumerate" = some none)
    (a3 : PySem.W.nsIn K mainGlobals "range" = some none) (a4 : PySem.W.nsIn K mainGlobals "isinstance" = some none) (a5 : PySem.W.nsIn K mainGlobals "ValueError" = some none) : Bi mg :=
  ⟨PySem.W.mg_none_of X G a1, PySem.W.mg_none_of X G a2, PySem.W.mg_none_of X G a3, PySem.W.mg_none_of X G a4, PySem.W.mg_none_of X G a5⟩
theorem all_mk {l : PySem.W.OpenLaw} {w : World} {K : PySem.W.Frag} {mg : Str → Option Value} {fa : Addr} (hfa : mg "law" = some (.ref fa)) (B : Bi mg) (ER : ∃ A : EA, ∀ base : Heap, Errs l.prog w K mg base A)
    (d1 : DefAt K mg "_law_draw" s__law_draw) (d2 : DefAt K mg "_law_taken" s__law_taken) (d3 : DefAt K mg "_law_by_place" s__law_by_place) (d4 : DefAt K mg "_law_by_name" s__law_by_name) (d5 : DefAt K mg "_law_fields" s__law_fields) (d6 : DefAt K mg "_law_right" s__law_right) (d7 : DefAt K mg "law" s_law) :
    ∃ fd : FuncData, (∀ (s : Shared) (v : Value), BindsTo s fd ⟨[v], []⟩ [("_law_script", v)]) ∧ ∀ base : Heap, K.In base → base.Ns mainGlobals mg → FnOk l.prog w K mg base CX0 5 fa fd ["_law_script"] (spLaw K) := by
  obtain ⟨A, ER⟩ := ER
  obtain ⟨f1, e1, F1, m1⟩ := d1
  obtain ⟨f2, e2, F2, m2⟩ := d2
  obtain ⟨f3, e3, F3, m3⟩ := d3
  obtain ⟨f4, e4, F4, m4⟩ := d4
  obtain ⟨f5, e5, F5, m5⟩ := d5
  obtain ⟨f6, e6, F6, m6⟩ := d6
  obtain ⟨f7, e7, F7, m7⟩ := d7
  have z := hfa.symm.trans m7
  cases z
  have b1 := F1.binds (ps := ["_law_well", "_law_many"]) fun _ _ _ _ _ _ us hl => match us, hl with | [_, _], _ => rfl
  have b2 := F2.binds (ps := ["_law_e"]) fun _ _ _ _ _ _ us hl => match us, hl with | [_], _ => rfl
  have b3 := F3.binds (ps := ["_law_x"]) fun _ _ _ _ _ _ us hl => match us, hl with | [_], _ => rfl
  have b4 := F4.binds (ps := ["_law_x"]) fun _ _ _ _ _ _ us hl => match us, hl with | [_], _ => rfl
  have b5 := F5.binds (ps := ["_law_some"]) fun _ _ _ _ _ _ us hl => match us, hl with | [_], _ => rfl
  have b6 := F6.binds (ps := ["_law_well"]) fun _ _ _ _ _ _ us hl => match us, hl with | [_], _ => rfl
  refine ⟨e7, ?_, fun base _ _ => ?_⟩
  · obtain ⟨oc, od, kV, doc, pm, an, cdv, ct, osl, rfl, _, _⟩ := F7.ex
    exact fun s v => .of_eq rfl
  · have T := ER base
    have G1 := ok_draw (P := l.prog) (w := w) (base := base) F1 B
    have G6 := ok_right F6 B T G1 m1 F1.kp b1 (ok_by_place F3 T) m3 F3.kp b3 (ok_by_name F4 T) m4 F4.kp b4 (ok_fields F5 T) m5 F5.kp b5 (ok_taken F2 B T) m2 F2.kp b2
    exact ok_law F7 B G6 m6 F6.kp b6
theorem walk {l : PySem.W.OpenLaw} {q : Program} {loose : List Str} {XP : (Str → Option Value) → Heap → Prop} {YP : World → Heap → Prop} {d : DefRec} {K : Params → PySem.W.Frag} (hn : l.most = some 63) (hdf : d.params.defaults = [])
    (hY : ∀ (w : World) (h : Heap), YP w h → (K w.params).In h)
    (F : ∀ (w : World) (mg : Str → Option Value) (fa : Addr) (h : Heap), (K w.params).In h → h.Ns mainGlobals mg → mg d.name = some (.ref fa) →
      ∃ fd : FuncData, (∀ (s : Shared) (u : Value), BindsTo s fd ⟨[u], []⟩ [("_law_script", u)]) ∧ ∀ base : Heap, (K w.params).In base → base.Ns mainGlobals mg → FnOk l.prog w (K w.params) mg base CX0 5 fa fd ["_law_script"] (spLaw (K w.params))) :
    PySem.W.WalkO q loose XP YP l.row.toRowW d [] (fun f vs => PySem.call f vs) :=
  L2.walk_of (n := 63) (k := 5) (x := "_law_script") (CX := fun _ => CX0) (sp := fun w => spLaw (K w.params)) hn (by decide) hdf ⟨rfl, by decide, by decide⟩ hY F (fun _ _ a ns hl _ hS => ⟨a, ns, rfl, hS, hl, fun _ => rfl⟩) fun _ _ _ _ _ z => z
end K19
open PySem PySem.W PyProof.Rows
set_option Elab.async false
set_option linter.all false
set_option maxRecDepth 100000 in
set_option maxHeartbeats 0 in
theorem PySem.Challenge.cw_slabpins_k19_exceptions_holds : PySem.Challenge.rw_slabpins_k19_exceptions.Holds := by
  w_on; o_law; k_head; (case hw => w_witness2)
  k_fill
  refine K19.walk (l := PySem.Challenge.rw_slabpins_k19_exceptions) rfl rfl (fun w h Y => PySem.W.kIn_of Y) ?F
  case F =>
    intro w mg fa h KX G hmg
    refine' K19.all_mk hmg ?zzB ?zzER ?zzd1 ?zzd2 ?zzd3 ?zzd4 ?zzd5 ?zzd6 ?zzd7
    case zzB => exact K19.bi_mk KX G (by k_is) (by k_is) (by k_is) (by k_is) (by k_is)
    case zzER =>
      refine' K19.errs_mk KX G ?zz_g0 ?zz_x0 ?zz_sa0 ?zz_ex0 ?zz_ty0 ?zz_kc0 ?zz_in0 ?zz_ti0 ?zz_nf0 ?zz_ga0 ?zz_gg0 ?zz_hd0 ?zz_cl0 ?zz_ca0 ?zz_mr0 ?zz_l0 ?zz_c0 ?zz_k0 ?zz_ks0 ?zz_kv0 ?zz_g1 ?zz_x1 ?zz_sa1 ?zz_ex1 ?zz_ty1 ?zz_kc1 ?zz_in1 ?zz_ti1 ?zz_nf1 ?zz_ga1 ?zz_gg1 ?zz_hd1 ?zz_cl1 ?zz_ca1 ?zz_mr1 ?zz_l1 ?zz_c1 ?zz_k1 ?zz_ks1 ?zz_kv1 ?zz_g2 ?zz_x2 ?zz_sa2 ?zz_ex2 ?zz_ty2 ?zz_kc2 ?zz_in2 ?zz_ti2 ?zz_nf2 ?zz_ga2 ?zz_gg2 ?zz_hd2 ?zz_cl2 ?zz_ca2 ?zz_mr2 ?zz_l2 ?zz_c2 ?zz_k2 ?zz_ks2 ?zz_kv2 ?zz_g3 ?zz_x3 ?zz_sa3 ?zz_ex3 ?zz_ty3 ?zz_kc3 ?zz_in3 ?zz_ti3 ?zz_nf3 ?zz_ga3 ?zz_gg3 ?zz_hd3 ?zz_cl3 ?zz_ca3 ?zz_mr3 ?zz_l3 ?zz_c3 ?zz_k3 ?zz_ks3 ?zz_kv3 ?zz_g4 ?zz_x4 ?zz_sa4 ?zz_ex4 ?zz_ty4 ?zz_kc4 ?zz_in4 ?zz_ti4 ?zz_nf4 ?zz_ga4 ?zz_gg4 ?zz_hd4 ?zz_cl4 ?zz_ca4 ?zz_mr4 ?zz_l4 ?zz_c4 ?zz_k4 ?zz_ks4 ?zz_kv4 ?zz_g5 ?zz_x5 ?zz_sa5 ?zz_ex5 ?zz_ty5 ?zz_kc5 ?zz_in5 ?zz_ti5 ?zz_nf5 ?zz_ga5 ?zz_gg5 ?zz_hd5 ?zz_cl5 ?zz_ca5 ?zz_mr5 ?zz_l5 ?zz_c5 ?zz_k5 ?zz_ks5 ?zz_kv5 ?zz_g6 ?zz_x6 ?zz_sa6 ?zz_ex6 ?zz_ty6 ?zz_kc6 ?zz_in6 ?zz_ti6 ?zz_nf6 ?zz_ga6 ?zz_gg6 ?zz_hd6 ?zz_cl6 ?zz_ca6 ?zz_mr6 ?zz_l6 ?zz_c6 ?zz_k6 ?zz_ks6 ?zz_kv6 ?zz_g7 ?zz_x7 ?zz_sa7 ?zz_ex7 ?zz_ty7 ?zz_kc7 ?zz_in7 ?zz_ti7 ?zz_nf7 ?zz_ga7 ?zz_gg7 ?zz_hd7 ?zz_cl7 ?zz_ca7 ?zz_mr7 ?zz_l7 ?zz_c7 ?zz_k7 ?zz_ks7 ?zz_kv7 ?zz_g8 ?zz_x8 ?zz_sa8 ?zz_ex8 ?zz_ty8 ?zz_kc8 ?zz_in8 ?zz_ti8 ?zz_nf8 ?zz_ga8 ?zz_gg8 ?zz_hd8 ?zz_cl8 ?zz_ca8 ?zz_mr8 ?zz_l8 ?zz_c8 ?zz_k8 ?zz_ks8 ?zz_kv8 ?zz_g9 ?zz_x9 ?zz_sa9 ?zz_ex9 ?zz_ty9 ?zz_kc9 ?zz_in9 ?zz_ti9 ?zz_nf9 ?zz_ga9 ?zz_gg9 ?zz_hd9 ?zz_cl9 ?zz_ca9 ?zz_mr9 ?zz_l9 ?zz_c9 ?zz_k9 ?zz_ks9 ?zz_kv9 ?zz_t0_0 ?zz_t0_1 ?zz_t0_2 ?zz_t0_3 ?zz_t0_4 ?zz_t0_5 ?zz_t0_6 ?zz_t0_7 ?zz_t0_8 ?zz_t0_9 ?zz_t1_0 ?zz_t1_1 ?zz_t1_2 ?zz_t1_3 ?zz_t1_4 ?zz_t1_5 ?zz_t1_6 ?zz_t1_7 ?zz_t1_8 ?zz_t1_9 ?zz_t2_0 ?zz_t2_1 ?zz_t2_2 ?zz_t2_3 ?zz_t2_4 ?zz_t2_5 ?zz_t2_6 ?zz_t2_7 ?zz_t2_8 ?zz_t2_9 ?zz_t3_0 ?zz_t3_1 ?zz_t3_2 ?zz_t3_3 ?zz_t3_4 ?zz_t3_5 ?zz_t3_6 ?zz_t3_7 ?zz_t3_8 ?zz_t3_9 ?zz_t4_0 ?zz_t4_1 ?zz_t4_2 ?zz_t4_3 ?zz_t4_4 ?zz_t4_5 ?zz_t4_6 ?zz_t4_7 ?zz_t4_8 ?zz_t4_9 ?zz_t5_0 ?zz_t5_1 ?zz_t5_2 ?zz_t5_3 ?zz_t5_4 ?zz_t5_5 ?zz_t5_6 ?zz_t5_7 ?zz_t5_8 ?zz_t5_9 ?zz_t6_0 ?zz_t6_1 ?zz_t6_2 ?zz_t6_3 ?zz_t6_4 ?zz_t6_5 ?zz_t6_6 ?zz_t6_7 ?zz_t6_8 ?zz_t6_9 ?zz_t7_0 ?zz_t7_1 ?zz_t7_2 ?zz_t7_3 ?zz_t7_4 ?zz_t7_5 ?zz_t7_6 ?zz_t7_7 ?zz_t7_8 ?zz_t7_9 ?zz_t8_0 ?zz_t8_1 ?zz_t8_2 ?zz_t8_3 ?zz_t8_4 ?zz_t8_5 ?zz_t8_6 ?zz_t8_7 ?zz_t8_8 ?zz_t8_9 ?zz_t9_0 ?zz_t9_1 ?zz_t9_2 ?zz_t9_3 ?zz_t9_4 ?zz_t9_5 ?zz_t9_6 ?zz_t9_7 ?zz_t9_8 ?zz_t9_9 ?zz_gS ?zz_kvs ?zz_sp ?zz_tk
      (case zz_gS => k_is)
      (case zz_g0 => k_is)
      (case zz_x0 => k_is)
      (case zz_sa0 => k_is)
      (case zz_ex0 => k_is)
      (case zz_ty0 => k_is)
      (case zz_kc0 => k_is)
      (case zz_in0 => k_is)
      (case zz_ti0 => k_is)
      (case zz_nf0 => k_is)
      (case zz_ga0 => k_is)
      (case zz_gg0 => k_is)
      (case zz_hd0 => k_is)
      (case zz_cl0 => k_is)
      (case zz_ca0 => k_is)
      (case zz_mr0 => k_is)
      (case zz_l0 => k_is)
      (case zz_c0 => k_is)
      (case zz_k0 => k_is)
      (case zz_ks0 => kit_is)
      (case zz_kv0 => kit_is)
      (case zz_g1 => k_is)
      (case zz_x1 => k_is)
      (case zz_sa1 => k_is)
      (case zz_ex1 => k_is)
      (case zz_ty1 => k_is)
      (case zz_kc1 => k_is)
      (case zz_in1 => k_is)
      (case zz_ti1 => k_is)
      (case zz_nf1 => k_is)
      (case zz_ga1 => k_is)
      (case zz_gg1 => k_is)
      (case zz_hd1 => k_is)
      (case zz_cl1 => k_is)
      (case zz_ca1 => k_is)
      (case zz_mr1 => k_is)
      (case zz_l1 => k_is)
      (case zz_c1 => k_is)
      (case zz_k1 => k_is)
      (case zz_ks1 => kit_is)
      (case zz_kv1 => kit_is)
      (case zz_g2 => k_is)
      (case zz_x2 => k_is)
      (case zz_sa2 => k_is)
      (case zz_ex2 => k_is)
      (case zz_ty2 => k_is)
      (case zz_kc2 => k_is)
      (case zz_in2 => k_is)
      (case zz_ti2 => k_is)
      (case zz_nf2 => k_is)
      (case zz_ga2 => k_is)
      (case zz_gg2 => k_is)
      (case zz_hd2 => k_is)
      (case zz_cl2 => k_is)
      (case zz_ca2 => k_is)
      (case zz_mr2 => k_is)
      (case zz_l2 => k_is)
      (case zz_c2 => k_is)
      (case zz_k2 => k_is)
      (case zz_ks2 => kit_is)
      (case zz_kv2 => kit_is)
      (case zz_g3 => k_is)
      (case zz_x3 => k_is)
      (case zz_sa3 => k_is)
      (case zz_ex3 => k_is)
      (case zz_ty3 => k_is)
      (case zz_kc3 => k_is)
      (case zz_in3 => k_is)
      (case zz_ti3 => k_is)
      (case zz_nf3 => k_is)
      (case zz_ga3 => k_is)
      (case zz_gg3 => k_is)
      (case zz_hd3 => k_is)
      (case zz_cl3 => k_is)
      (case zz_ca3 => k_is)
      (case zz_mr3 => k_is)
      (case zz_l3 => k_is)
      (case zz_c3 => k_is)
      (case zz_k3 => k_is)
      (case zz_ks3 => kit_is)
      (case zz_kv3 => kit_is)
      (case zz_g4 => k_is)
      (case zz_x4 => k_is)
      (case zz_sa4 => k_is)
      (case zz_ex4 => k_is)
      (case zz_ty4 => k_is)
      (case zz_kc4 => k_is)
      (case zz_in4 => k_is)
      (case zz_ti4 => k_is)
      (case zz_nf4 => k_is)
      (case zz_ga4 => k_is)
      (case zz_gg4 => k_is)
      (case zz_hd4 => k_is)
      (case zz_cl4 => k_is)
      (case zz_ca4 => k_is)
      (case zz_mr4 => k_is)
      (case zz_l4 => k_is)
      (case zz_c4 => k_is)
      (case zz_k4 => k_is)
      (case zz_ks4 => kit_is)
      (case zz_kv4 => kit_is)
      (case zz_g5 => k_is)
      (case zz_x5 => k_is)
      (case zz_sa5 => k_is)
      (case zz_ex5 => k_is)
      (case zz_ty5 => k_is)
      (case zz_kc5 => k_is)
      (case zz_in5 => k_is)
      (case zz_ti5 => k_is)
      (case zz_nf5 => k_is)
      (case zz_ga5 => k_is)
      (case zz_gg5 => k_is)
      (case zz_hd5 => k_is)
      (case zz_cl5 => k_is)
      (case zz_ca5 => k_is)
      (case zz_mr5 => k_is)
      (case zz_l5 => k_is)
      (case zz_c5 => k_is)
      (case zz_k5 => k_is)
      (case zz_ks5 => kit_is)
      (case zz_kv5 => kit_is)
      (case zz_g6 => k_is)
      (case zz_x6 => k_is)
      (case zz_sa6 => k_is)
      (case zz_ex6 => k_is)
      (case zz_ty6 => k_is)
      (case zz_kc6 => k_is)
      (case zz_in6 => k_is)
      (case zz_ti6 => k_is)
      (case zz_nf6 => k_is)
      (case zz_ga6 => k_is)
      (case zz_gg6 => k_is)
      (case zz_hd6 => k_is)
      (case zz_cl6 => k_is)
      (case zz_ca6 => k_is)
      (case zz_mr6 => k_is)
      (case zz_l6 => k_is)
      (case zz_c6 => k_is)
      (case zz_k6 => k_is)
      (case zz_ks6 => kit_is)
      (case zz_kv6 => kit_is)
      (case zz_g7 => k_is)
      (case zz_x7 => k_is)
      (case zz_sa7 => k_is)
      (case zz_ex7 => k_is)
      (case zz_ty7 => k_is)
      (case zz_kc7 => k_is)
      (case zz_in7 => k_is)
      (case zz_ti7 => k_is)
      (case zz_nf7 => k_is)
      (case zz_ga7 => k_is)
      (case zz_gg7 => k_is)
      (case zz_hd7 => k_is)
      (case zz_cl7 => k_is)
      (case zz_ca7 => k_is)
      (case zz_mr7 => k_is)
      (case zz_l7 => k_is)
      (case zz_c7 => k_is)
      (case zz_k7 => k_is)
      (case zz_ks7 => kit_is)
      (case zz_kv7 => kit_is)
      (case zz_g8 => k_is)
      (case zz_x8 => k_is)
      (case zz_sa8 => k_is)
      (case zz_ex8 => k_is)
      (case zz_ty8 => k_is)
      (case zz_kc8 => k_is)
      (case zz_in8 => k_is)
      (case zz_ti8 => k_is)
      (case zz_nf8 => k_is)
      (case zz_ga8 => k_is)
      (case zz_gg8 => k_is)
      (case zz_hd8 => k_is)
      (case zz_cl8 => k_is)
      (case zz_ca8 => k_is)
      (case zz_mr8 => k_is)
      (case zz_l8 => k_is)
      (case zz_c8 => k_is)
      (case zz_k8 => k_is)
      (case zz_ks8 => kit_is)
      (case zz_kv8 => kit_is)
      (case zz_g9 => k_is)
      (case zz_x9 => k_is)
      (case zz_sa9 => k_is)
      (case zz_ex9 => k_is)
      (case zz_ty9 => k_is)
      (case zz_kc9 => k_is)
      (case zz_in9 => k_is)
      (case zz_ti9 => k_is)
      (case zz_nf9 => k_is)
      (case zz_ga9 => k_is)
      (case zz_gg9 => k_is)
      (case zz_hd9 => k_is)
      (case zz_cl9 => k_is)
      (case zz_ca9 => k_is)
      (case zz_mr9 => k_is)
      (case zz_l9 => k_is)
      (case zz_c9 => k_is)
      (case zz_k9 => k_is)
      (case zz_ks9 => kit_is)
      (case zz_kv9 => kit_is)
      (case zz_t0_0 => kit_is)
      (case zz_t0_1 => kit_is)
      (case zz_t0_2 => kit_is)
      (case zz_t0_3 => kit_is)
      (case zz_t0_4 => kit_is)
      (case zz_t0_5 => kit_is)
      (case zz_t0_6 => kit_is)
      (case zz_t0_7 => kit_is)
      (case zz_t0_8 => kit_is)
      (case zz_t0_9 => kit_is)
      (case zz_t1_0 => kit_is)
      (case zz_t1_1 => kit_is)
      (case zz_t1_2 => kit_is)
      (case zz_t1_3 => kit_is)
      (case zz_t1_4 => kit_is)
      (case zz_t1_5 => kit_is)
      (case zz_t1_6 => kit_is)
      (case zz_t1_7 => kit_is)
      (case zz_t1_8 => kit_is)
      (case zz_t1_9 => kit_is)
      (case zz_t2_0 => kit_is)
      (case zz_t2_1 => kit_is)
      (case zz_t2_2 => kit_is)
      (case zz_t2_3 => kit_is)
      (case zz_t2_4 => kit_is)
      (case zz_t2_5 => kit_is)
      (case zz_t2_6 => kit_is)
      (case zz_t2_7 => kit_is)
      (case zz_t2_8 => kit_is)
      (case zz_t2_9 => kit_is)
      (case zz_t3_0 => kit_is)
      (case zz_t3_1 => kit_is)
      (case zz_t3_2 => kit_is)
      (case zz_t3_3 => kit_is)
      (case zz_t3_4 => kit_is)
      (case zz_t3_5 => kit_is)
      (case zz_t3_6 => kit_is)
      (case zz_t3_7 => kit_is)
      (case zz_t3_8 => kit_is)
      (case zz_t3_9 => kit_is)
      (case zz_t4_0 => kit_is)
      (case zz_t4_1 => kit_is)
      (case zz_t4_2 => kit_is)
      (case zz_t4_3 => kit_is)
      (case zz_t4_4 => kit_is)
      (case zz_t4_5 => kit_is)
      (case zz_t4_6 => kit_is)
      (case zz_t4_7 => kit_is)
      (case zz_t4_8 => kit_is)
      (case zz_t4_9 => kit_is)
      (case zz_t5_0 => kit_is)
      (case zz_t5_1 => kit_is)
      (case zz_t5_2 => kit_is)
      (case zz_t5_3 => kit_is)
      (case zz_t5_4 => kit_is)
      (case zz_t5_5 => kit_is)
      (case zz_t5_6 => kit_is)
      (case zz_t5_7 => kit_is)
      (case zz_t5_8 => kit_is)
      (case zz_t5_9 => kit_is)
      (case zz_t6_0 => kit_is)
      (case zz_t6_1 => kit_is)
      (case zz_t6_2 => kit_is)
      (case zz_t6_3 => kit_is)
      (case zz_t6_4 => kit_is)
      (case zz_t6_5 => kit_is)
      (case zz_t6_6 => kit_is)
      (case zz_t6_7 => kit_is)
      (case zz_t6_8 => kit_is)
      (case zz_t6_9 => kit_is)
      (case zz_t7_0 => kit_is)
      (case zz_t7_1 => kit_is)
      (case zz_t7_2 => kit_is)
      (case zz_t7_3 => kit_is)
      (case zz_t7_4 => kit_is)
      (case zz_t7_5 => kit_is)
      (case zz_t7_6 => kit_is)
      (case zz_t7_7 => kit_is)
      (case zz_t7_8 => kit_is)
      (case zz_t7_9 => kit_is)
      (case zz_t8_0 => kit_is)
      (case zz_t8_1 => kit_is)
      (case zz_t8_2 => kit_is)
      (case zz_t8_3 => kit_is)
      (case zz_t8_4 => kit_is)
      (case zz_t8_5 => kit_is)
      (case zz_t8_6 => kit_is)
      (case zz_t8_7 => kit_is)
      (case zz_t8_8 => kit_is)
      (case zz_t8_9 => kit_is)
      (case zz_t9_0 => kit_is)
      (case zz_t9_1 => kit_is)
      (case zz_t9_2 => kit_is)
      (case zz_t9_3 => kit_is)
      (case zz_t9_4 => kit_is)
      (case zz_t9_5 => kit_is)
      (case zz_t9_6 => kit_is)
      (case zz_t9_7 => kit_is)
      (case zz_t9_8 => kit_is)
      (case zz_t9_9 => kit_is)
      (case zz_kvs => kit_is)
      (case zz_sp => k_is)
      (case zz_tk => k_is)
    case zzd1 => (refine' K19.def_mk KX G ?zza1 ?zzl1 ?zzc1 ?zzk1; (case zza1 => k_is); (case zzl1 => k_is); (case zzc1 => k_is); (case zzk1 => k_is))
    case zzd2 => (refine' K19.def_mk KX G ?zza2 ?zzl2 ?zzc2 ?zzk2; (case zza2 => k_is); (case zzl2 => k_is); (case zzc2 => k_is); (case zzk2 => k_is))
    case zzd3 => (refine' K19.def_mk KX G ?zza3 ?zzl3 ?zzc3 ?zzk3; (case zza3 => k_is); (case zzl3 => k_is); (case zzc3 => k_is); (case zzk3 => k_is))
    case zzd4 => (refine' K19.def_mk KX G ?zza4 ?zzl4 ?zzc4 ?zzk4; (case zza4 => k_is); (case zzl4 => k_is); (case zzc4 => k_is); (case zzk4 => k_is))
    case zzd5 => (refine' K19.def_mk KX G ?zza5 ?zzl5 ?zzc5 ?zzk5; (case zza5 => k_is); (case zzl5 => k_is); (case zzc5 => k_is); (case zzk5 => k_is))
    case zzd6 => (refine' K19.def_mk KX G ?zza6 ?zzl6 ?zzc6 ?zzk6; (case zza6 => k_is); (case zzl6 => k_is); (case zzc6 => k_is); (case zzk6 => k_is))
    case zzd7 => (refine' K19.def_mk KX G ?zza7 ?zzl7 ?zzc7 ?zzk7; (case zza7 => k_is); (case zzl7 => k_is); (case zzc7 => k_is); (case zzk7 => k_is))
#print axioms PySem.Challenge.cw_slabpins_k19_exceptions_holds
