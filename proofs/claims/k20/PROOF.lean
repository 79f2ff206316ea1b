import PyProof.Rows.All
import Wide.All
import OpenK.AllK
import Wide.FinOn
import PyProof.InstEq
import HandS.ForMost
import HandS.Exc
import HandS.IsInst
import HandS.Walk
import HandS.TryMany
import HandS.TryOnly
import HandS.ExcInit
import HandS.ExcField
import HandS.Lambda
import HandS.EndTab
import KE.KExcIs
import HandS.ExcOwn
import HandS.ExcValue
import HandS.ExcBuiltin
import HandS.SuiteRaise
import HandS.RaiseFrom
import HandS.WordsExc
import HandS.ForExc
import HandS.SortRule
import HandS.SetFor
import HandS.Strs
import PyProof.SumWalkG
import PyProof.WalksMore
import HandS.Zip
import KE.GoesMore
import KE.GoesEnum
import KE.GoesZip
import HandS.TupMul
import HandS.TupAny
import HandS.Defaults
import HandS.SortInts
import HandS.RaiseMore
import HandS.DeepEq
import HandS.Style
import HandS.Deep
import KE.SortKeyHeap
import HandS.Rev
import KE.RegKTryMore
import PySem.Challenge.RW_slabpins_k20_least_limits
set_option Elab.async false
set_option linter.all false
set_option maxRecDepth 100000
set_option maxHeartbeats 4000000
namespace PySem
namespace NeX
open PySem.W PySem.Calls PyProof.Rows Builtin
section
variable {prog : Program} {w : World} {A : Around} {E : Value → Shared → Prop} {s : Shared} {K : Frag} {x C L f : Addr} {h₀ : Heap} {m : Str → Option Value} {ox : Obj} {od : Option Obj} {name : Str} {b tb : Value}
theorem bindNe (self : Value) : bindSpecial (.builtin "object.__ne__") self = pure (.builtin "object.__ne__", [self]) := PySem.F.cmp_object.ne.bind self
/-- a built-in's special method of an own class, called if it is bound -/
theorem ifBoundNe {M : Model} {args : List Value} {Q : Option Value → Shared → Prop} (X : K.In s.heap) (I : InstAt s.heap x ox C od) (hs : findIn K (.ref C) "__ne__" = some (some (.builtin "object.__ne__")))
    (h : wpAny M A (call (.builtin "object.__ne__") (.ref x :: args)) (fun v => Q (some v)) E s) : wpAny M A (callSpecialIfBound? (.ref x) "__ne__" args) Q E s := by
  simp only [callSpecialIfBound?, bindSpecialIfBound?]
  refine wpAny_holding (wpAny_bind (wpAny_bind (wpAny_bind (I.type.here ((looks_findIn X hs).here ?_)))))
  refine wpAny_bind (wpAny_askSetting (wpAny_ite ?_))
  rw [bindNe]
  have fin : wpAny M A (call (.builtin "object.__ne__") ([.ref x] ++ args) >>= fun v => pure (some v)) Q E s := wpAny_bind (wpAny_mono h (fun v s' h' => wpAny_pure h') fun _ _ h' => h')
  split
  · exact wpAny_bind (wpAny_pure (wpAny_pure (by exact fin)))
  · exact wpAny_tryCatch (wpAny_bind (wpAny_pure (wpAny_pure (by exact fin))))
/-- object's != by the own == -/
theorem callNe {Q : Value → Shared → Prop} (hu : A.units + 1 < cLine) (X : K.In s.heap) (I : InstAt s.heap x ox C od) (hm : mroIn K C (.type "object") = some true) (he : findIn K (.ref C) "__eq__" = some (some (.ref f))) (hf : isFn K (.ref f) = true)
    (h : wpAny (model prog w) A.in1 (call (.ref f) [.ref x, b]) (fun v s' => ∃ k, v = .bool k ∧ Q (.bool (!k)) s') E s) : wpAny (model prog w) A (call (.builtin "object.__ne__") [.ref x, b]) Q E s := by
  have sub : Looks (model prog w) s.heap (isInstance (.ref x) (.type "object")) true := I.type.andThen (looks_mroIn X hm)
  refine wpAny_call (codeAny_call_builtin PySem.F.cmp_object.ne.plain PySem.F.cmpEntry_ne (check_slot PySem.F.cmpKind_ne PySem.F.cmpSplit_ne sub (PySem.F.cmpArgs_ne (.ref x) b) ?_))
  unfold Builtin.«object.__ne__»
  refine wpAny_bind (wpAny_of_eq (a := ((Value.ref x : Value), [b])) (by first | rfl | (simp only [slotArgs]; rfl)) ?_)
  refine wpAny_bind (wpAny_cRoomFor (by show A.units + 1 < cLine; exact hu) ?_)
  refine wpAny_bind (ifBound_K X I he hf (wpAny_mono h (fun v s' z => ?_) fun _ _ e => e))
  obtain ⟨k, rfl, q⟩ := z
  show wpAny _ _ (truthy (.bool k) >>= fun r => ret (Value.bool !r)) _ _ _
  exact wpAny_bind (wpAny_pure (wpAny_pure q))
end
end NeX
end PySem
namespace XV
open PySem PySem.Spec PyProof.Rows L2
section
variable {X : Cx} {CX : CXT} {k : Nat} {C f : Addr} {fd : FuncData} {ps : List Str} {sp : Sp}
/-- a def called from within a built-in -/
theorem run_in1 {A : Around} {pins : List (Addr × Obj)} {σ : L2.St} {H : Hp} {s : Shared} {us : List Value} {vs : List V} {Q : VK} {R E : Value → Shared → Prop} (F : FnOk X.prog X.w X.K X.mg X.base CX0 k f fd ps sp) (hr : Room k A) (hA : A.frames = X.A.frames) (hb : Binds X.K fd ps [])
    (I : Inv X pins σ H s) (r : Vals vs us) (h : sp vs H Q E0) (hR : ∀ v u H' s', Inv X pins σ H' s' → RelV v u → Q v H' → R u s') : wpAny (model X.prog X.w) A (call (.ref f) us) R E s := by
  have e0 : Env0 X.prog X.w X.K X.mg X.base A X.stack s H := by
    have e := I.env0
    exact ⟨by rw [hA]; exact e.frames, e.mod, e.bs, e.bsz, e.funs, e.frf, e.hok, e.bare⟩
  have hl := F.len _ _ _ _ h
  have hl2 : (us ++ []).length = ps.length := by
    rw [List.append_nil, ← r.length]
    exact hl
  refine wpAny_call (codeAny_mono (F.run A X.stack s H ⟨us, []⟩ us vs _ E0 hr e0 (by
    have := hb s us I.kIn hl2
    simpa using this) r h) fun r s' hq => ?_)
  cases r with
  | error e => exact (show False from hq).elim
  | ok fl =>
    cases fl with
    | ret u =>
      obtain ⟨v, H', I', rv, q⟩ := I.after hq
      exact hR v u H' s' I' rv q
    | next => exact False.elim hq
    | brk => exact False.elim hq
    | cont => exact False.elim hq
/-- len(x) by the own __len__ -/
def rLenI (C : Addr) (sp : Sp) : List V → Hp → VK → Prop := fun xs H Q => ∃ (a dx : Addr) (fs : List (Str × V)), xs = [.ref a] ∧ H a = some (.ins C dx fs) ∧ sp [.ref a] H (fun v H' => ∃ n : Nat, v = .int n ∧ n < 1000 ∧ Q (.int n) H') E0
theorem call_lenI (F : FnOk X.prog X.w X.K X.mg X.base CX0 k f fd ps sp) (hs : PySem.W.findIn X.K (.ref C) "__len__" = some (some (.ref f))) (hf : PySem.W.isFn X.K (.ref f) = true) (hb : Binds X.K fd ps []) (hr : Room (k + 1) X.A) :
    CallR X (.builtin "len") (rLenI C sp) := by
  intro pins s σ H xs us Q I r h
  obtain ⟨a, dx, fs, rfl, ha, q⟩ := h
  obtain ⟨u, rfl, rx⟩ := vals1 r
  obtain rfl : u = Value.ref a := rx
  obtain ⟨mA, J, _⟩ := ins_get I.hok ha
  obtain ⟨od, J, _⟩ := J.look
  obtain ⟨m, hF⟩ := I.fr
  refine PySem.W.len_K hF I.ok.mod.kin J hs hf (run_in1 (vs := [V.ref a]) F hr.in1 rfl hb I (.cons rfl .nil) q fun v u H' s' I' rv z => ?_)
  obtain ⟨n, rfl, hn, z⟩ := z
  obtain ⟨t, rfl⟩ := rv
  exact ⟨⟨by omega, by omega⟩, ⟨.int n, H', I'.tok _, ⟨_, rfl⟩, z⟩⟩
/-- x == y by the own __eq__ -/
def rEqI (K : PySem.W.Frag) (C : Addr) (sp : Sp) (neg : Bool) : R2 := fun x y H Q => ∃ (a dx : Addr) (fs : List (Str × V)) (t : Value), x = .ref a ∧ H a = some (.ins C dx fs) ∧ TyX K H y t ∧ PySem.W.notFirst K C t = true ∧
  sp [x, y] H (fun v H' => ∃ b, v = .bl b ∧ Q (.bl (b ^^ neg)) H') E0
theorem op_eqI (F : FnOk X.prog X.w X.K X.mg X.base CX0 k f fd ps sp) (hs : PySem.W.findIn X.K (.ref C) "__eq__" = some (some (.ref f))) (hf : PySem.W.isFn X.K (.ref f) = true) (hb : Binds X.K fd ps []) (hr : Room k X.A) :
    OpR X (compareOp .Eq) (rEqI X.K C sp false) := by
  intro pins s σ H x y v u Q I rx ry h
  obtain ⟨a, dx, fs, t, rfl, ha, ty, hn, q⟩ := h
  cases rx
  obtain ⟨mA, J, _⟩ := ins_get I.hok ha
  obtain ⟨od, J, _⟩ := J.look
  obtain ⟨m, hF⟩ := I.fr
  obtain ⟨P, Z, p, _⟩ := kit_of I ry ty
  show wpAny _ _ (richCompare .Eq (.ref a) u) _ _ _
  refine PySem.W.cmp_K (op := .Eq) (tb := t) hr.units0 hF I.ok.mod.kin J (Z.ty _ _ I.kIn p) hn hs hf (run_in1 (vs := [V.ref a, y]) F hr rfl hb I (.cons rfl (.cons ry .nil)) q fun v u H' s' I' rv z => ?_)
  obtain ⟨b, rfl, z⟩ := z
  cases rv
  rw [Bool.xor_false] at z
  exact ⟨.bl b, H', I', rfl, z⟩
theorem op_neI (F : FnOk X.prog X.w X.K X.mg X.base CX0 k f fd ps sp) (hs : PySem.W.findIn X.K (.ref C) "__eq__" = some (some (.ref f))) (hf : PySem.W.isFn X.K (.ref f) = true) (hb : Binds X.K fd ps []) (hr : Room (k + 1) X.A)
    (hne : PySem.W.findIn X.K (.ref C) "__ne__" = some (some (.builtin "object.__ne__"))) (hm : PySem.W.mroIn X.K C (.type "object") = some true) :
    OpR X (compareOp .NotEq) (rEqI X.K C sp true) := by
  intro pins s σ H x y v u Q I rx ry h
  obtain ⟨a, dx, fs, t, rfl, ha, ty, hn, q⟩ := h
  cases rx
  obtain ⟨mA, J, _⟩ := ins_get I.hok ha
  obtain ⟨od, J, _⟩ := J.look
  obtain ⟨m, hF⟩ := I.fr
  obtain ⟨P, Z, p, _⟩ := kit_of I ry ty
  have one : wpAny (model X.prog X.w) X.A (call (.builtin "object.__ne__") [.ref a, u]) (fun v s' => ∃ b, v = .bool b ∧ EP X pins σ Q (.bool b) s') X.xe s := by
    refine PySem.NeX.callNe (f := f) (by have := hr.units; omega) I.kIn J hm hs hf (run_in1 (vs := [V.ref a, y]) F hr.in1 rfl hb I (.cons rfl (.cons ry .nil)) q fun v u H' s' I' rv z => ?_)
    obtain ⟨b, rfl, z⟩ := z
    cases rv
    rw [Bool.xor_true] at z
    exact ⟨b, rfl, !b, rfl, .bl (!b), H', I', rfl, z⟩
  show wpAny _ _ (richCompare .NotEq (.ref a) u) _ _ _
  have two : wpAny (model X.prog X.w) X.A (tryCompare (.ref a) (cmpInfo .NotEq).2.1 u) (fun r s' => ∃ v, r = some v ∧ EP X pins σ Q v s') X.xe s := by
    unfold tryCompare
    refine wpAny_bind (PySem.NeX.ifBoundNe I.kIn J hne (wpAny_mono one (fun v s' hv => ?_) fun _ _ e => e))
    obtain ⟨b, rfl, hv⟩ := hv
    exact wpAny_pure ⟨_, rfl, hv⟩
  unfold richCompare
  simp only [oneThing_ref]
  refine wpAny_holding (wpAny_bind (wpAny_cRoomFor hr.units0 ?_))
  refine wpAny_bind (J.type.here (wpAny_bind ((Z.ty _ _ I.kIn p).here ?_)))
  split
  · rename_i qq
    have e : PySem.W.subIn X.K t (.ref C) = some false := by
      rcases Bool.or_eq_true_iff.mp hn with e | e
      · rw [beq_iff_eq.mp e] at qq
        simp at qq
      · exact beq_iff_eq.mp e
    refine wpAny_bind ((PySem.W.looks_subIn I.kIn e).here ?_)
    simp only [Bool.false_eq_true, if_false]
    refine wpAny_bind (wpAny_mono two (fun r s' z => ?_) fun _ _ e => e)
    obtain ⟨v, rfl, hq⟩ := z
    exact wpAny_pure hq
  · refine wpAny_bind (wpAny_pure ?_)
    simp only [Bool.false_eq_true, if_false]
    refine wpAny_bind (wpAny_mono two (fun r s' z => ?_) fun _ _ e => e)
    obtain ⟨v, rfl, hq⟩ := z
    exact wpAny_pure hq
end
end XV
set_option Elab.async false
set_option linter.all false
set_option maxRecDepth 100000
set_option maxHeartbeats 4000000
namespace XV
open PySem PySem.Spec PyProof.Rows L2
/-- behind a clause 'as n' (slot i) the name is gone -/
def goneE (i : Nat) (D : Ends) : Ends := { nx := fun σ' H' => D.nx (σ'.set i none) H', rt := D.rt, bk := fun σ' H' => D.bk (σ'.set i none) H', ct := fun σ' H' => D.ct (σ'.set i none) H' }
/-- what the clauses 'except x as n' wish, one after the other -/
def wManyAs (K : PySem.W.Frag) (i : Nat) (Wout : WX) (D : Ends) : List (Value × (Addr → Value → Option Addr → TS)) → WX
  | [] => Wout
  | (c, ts) :: r => fun cls d σ H => ∃ b, PySem.W.exmOne K cls c = some b ∧ (b = true → ∀ a, H a = none → ts a cls d (goneE i D) (σ.set i (some (.ref a))) H) ∧ (b = false → wManyAs K i Wout D r cls d σ H)
inductive HdsAs (X : Cx) (n : Str) : List ExceptHandler → List (Value × (Addr → Value → Option Addr → TS)) → Prop
  | nil : HdsAs X n [] []
  | cons {x : Str} {c : Value} {ts : Addr → Value → Option Addr → TS} {b₀ : Stmt} {suite : List Stmt} {np pos' : Pos} {hds : List ExceptHandler} {l : List (Value × (Addr → Value → Option Addr → TS))} (hc : Names X x c)
      (hsu : ∀ (a : Addr) (oe : Obj) (cls : Value) (d : Option Addr) (pn : List (Addr × Obj)), Zc cls d oe → (∃ vs, oe.data = .fields vs) → PSs (X.suite a ((a, oe) :: pn)) (b₀ :: suite) (ts a cls d)) (r : HdsAs X n hds l) :
      HdsAs X n (.ExceptHandler (some (.Name x np)) (some n) (b₀ :: suite) pos' :: hds) ((c, ts) :: l)
section
variable {X : Cx} {n : Str} {i : Nat} {body : List Stmt} {h₀ : ExceptHandler} {hds : List ExceptHandler} {l : List (Value × (Addr → Value → Option Addr → TS))} {pos : Pos} {tb : WX → TS} {Wout : WX}
theorem ps_try_manyAs (hs : X.stack = X.env :: X.outer) (hf : X.env.frame = some X.env.locals) (hN : X.N.Nodup) (hi : X.N[i]? = some n) (hln : X.env.kindOf n = some .local) (tk : Takes X Wout)
    (hb : ∀ (W : WX) (pn : List (Addr × Obj)) (xe : Value → Shared → Prop), Takes (X.tr pn xe) W → PassesOwn (model X.prog X.w) X.A X.env xe → PSs (X.tr pn xe) body (tb W))
    (hh : HdsAs X n (h₀ :: hds) l) : PS X (.Try body (h₀ :: hds) [] [] pos) (fun D σ H => tb (wManyAs X.K i Wout D l) D σ H) := by
  refine ⟨fun pins s σ H D I h => ?_⟩
  have ok := I.ok
  have hfr : X.A.frames = some (X.env :: X.outer) := by rw [ok.frames, hs]
  have hloc : Loc X.env.scope n := .inl hln
  refine wpAny_Try_except ?_
  refine wpAny_mono ((hb (wManyAs X.K i Wout D l) (X.pn ++ pins) (fun e s₁ => wpAny (model X.prog X.w) X.A (noteFrame e X.env) (fun _ s₂ => wpAny (model X.prog X.w) X.A (setFlight e none) (fun _ s₃ =>
    wpAny (model X.prog X.w) X.A (handleBy e X.env (h₀ :: hds)) (SP X pins D) X.xe s₃) X.xe s₂) X.xe s₁) (fun u s' xx => ?_) PassesOwn.looking).run [] s σ H D (I.toTry _) h) (fun f s1 hsp => ?_) (fun e s1 he => he)
  · obtain ⟨a, B, sI, pins', σ', H', cls, d, rfl, J', nb, up, sky, na, os, ag, w⟩ := xx
    have J : Inv X pins σ' H' sI := J'.ofTry ok
    have sky' : Sky B (X.env :: X.outer) a (Zc cls d) X.env.locals s'.heap := by rw [← hs]; exact sky
    show wpAny (model X.prog X.w) X.A (noteFrame (.ref a) X.env) _ _ _
    refine Sky.land Zc.steady hfr hf sky' fun h3 fl3 up3 => ?_
    have J3 : Inv X pins σ' H' { s' with heap := h3 } := J.landed nb fl3.1 (up.trans up3) os ag
    obtain ⟨oe3, vs3, he3, hz3, hd3⟩ := fl3.there
    have notFr : ∀ {h : Heap} {o : Obj} {vs : Array Value}, h.FunFrames B (X.env :: X.outer) → h.get? a = some o → o.data = .fields vs → a ∉ frs (X.env :: X.outer) := fun {h o vs} ff e dd hm => by
      obtain ⟨_, o', e', hnf⟩ := ff.mem hm
      rw [e] at e'; cases e'
      exact hnf _ dd
    have nfr := notFr fl3.2.2.1 he3 hd3
    have nL : a ≠ X.env.locals := fun z => nfr (List.mem_filterMap.mpr ⟨X.env, List.mem_cons_self, by rw [hf, z]⟩)
    have nF : a ∉ X.fs := fun hm => by
      obtain ⟨e, he, q⟩ := List.mem_filterMap.mp hm
      exact nfr (List.mem_filterMap.mpr ⟨e, List.mem_cons_of_mem _ he, q⟩)
    have S3 := J3.suite he3 hd3 na nL nF
    have go : ∀ {hds' : List ExceptHandler} {l' : List (Value × (Addr → Value → Option Addr → TS))}, HdsAs X n hds' l' → wManyAs X.K i Wout D l' cls d σ' H' →
        wpAny (model X.prog X.w) X.A (handleBy (.ref a) X.env hds') (SP X pins D) X.xe { s' with heap := h3 } := by
      intro hds' l' hk
      induction hk with
      | nil =>
        intro w
        refine wpAny_handleBy_nil ?_
        obtain ⟨k1, k2, k3, oe, vs, T, oT, ts', he, hz, hd, h1, hr⟩ := id fl3
        unfold PySem.passOn
        refine wpAny_bind (wpAny_field he hd h1 ?_)
        rw [if_neg (show ¬ ((Value.ref T == Value.none) = true) from by simp)]
        have fin : wpAny (model X.prog X.w) X.A (setFlight (.ref a) X.env.frame) (fun _ s4 => wpAny (model X.prog X.w) X.A (throw (.ref a) : Sem Flow) (SP X pins D) X.xe s4) X.xe { s' with heap := h3 } := by
          rw [hf]
          refine HandSPX.setFlight_upZ fl3 fun h4 hh4 up4 => wpAny_throw (tk _ _ ?_)
          exact ⟨a, B, sI, pins, σ', H', cls, d, rfl, J, nb, (up.trans up3).trans up4, .inr (.inr (by rw [hs]; exact hh4)), na, os, ag, w⟩
        first
          | exact wpAny_bind (wpAny_pure (wpAny_bind fin))
          | exact wpAny_bind fin
      | @cons x c ts b₀ suite np pos' hds2 l2 hc hsu r ih =>
        intro w
        obtain ⟨b, hb1, hyes, hno⟩ := w
        refine wpAny_handleBy_cons (codeAny_handlers_test ?_) (by intro q; cases q)
        have LT : PySem.W.Looks (model X.prog X.w) h3 (typeOf (.ref a)) cls := fun A Q E s k q => wpAny_typeOf_ref (k _ _ he3) (by rw [hz3.1]; exact q)
        have LM := PySem.W.exm_one (M := model X.prog X.w) (J3.kIn) LT hb1
        have test : ∀ {Q : Value → Shared → Prop} {E : Value → Shared → Prop}, Q c { s' with heap := h3 } → wpAny (model X.prog X.w) (X.A.mark (some (.ref a))) (eval (.Name x np) X.env) Q E { s' with heap := h3 } := fun {Q E} q => by
          obtain ⟨hg, hdbg, hm | ⟨hm, hv, hnn⟩⟩ := hc
          · exact ld_glob (X := X.suite a ((a, oe3) :: (X.pn ++ pins))) S3 hg hm q hdbg
          · exact ld_blt (X := X.suite a ((a, oe3) :: (X.pn ++ pins))) S3 hg hm hv q hnn hdbg
        refine test (LM.here ?_)
        cases b with
        | true =>
          refine codeAny_handlers_suite_as ?_
          refine HandSPX.lands_againZ fl3 fun h4 fl4 up4 => ?_
          have J4 : Inv X pins σ' H' { s' with heap := h4 } := J.landed nb fl4.1 ((up.trans up3).trans up4) os ag
          obtain ⟨oe4, vs4, he4, hz4, hd4⟩ := fl4.there
          have S4 := J4.suite he4 hd4 na nL nF
          refine store_ok (X := X.suite a ((a, oe4) :: (X.pn ++ pins))) (v := .ref a) S4 hN hi hloc rfl (fun s5 S5 => ?_) (.inr hln)
          refine wpAny_mono ((hsu a oe4 cls d (X.pn ++ pins) hz4 ⟨_, hd4⟩).run [] s5 _ H' _ S5 (hyes rfl a na)) (fun f s6 hsp => ?_) (fun _ _ z => False.elim z)
          have end_ : ∀ {σ6 : L2.St} {H6 : Hp} {Q : Shared → Prop}, Inv (X.suite a ((a, oe4) :: (X.pn ++ pins))) [] σ6 H6 s6 → (∀ s7, Inv X pins (σ6.set i none) H6 s7 → Q s7) →
              wpAny (model X.prog X.w) X.A (do bindName X.env n .none; unbindBehindTheSuite X.env n pos') (fun _ s7 => Q s7) X.xe s6 := fun {σ6 H6 Q} S6 hq => gone_ok (S6.unsuite ok) hN hi hln hq
          cases f with
          | next =>
            obtain ⟨σ6, H6, S6, q6⟩ := hsp
            exact end_ S6 fun s7 J7 => ⟨_, _, J7, q6⟩
          | brk =>
            obtain ⟨σ6, H6, S6, q6⟩ := hsp
            exact end_ S6 fun s7 J7 => ⟨_, _, J7, q6⟩
          | cont =>
            obtain ⟨σ6, H6, S6, q6⟩ := hsp
            exact end_ S6 fun s7 J7 => ⟨_, _, J7, q6⟩
          | ret u =>
            obtain ⟨v6, σ6, H6, S6, r6, q6⟩ := hsp
            exact end_ S6 fun s7 J7 => ⟨_, _, _, J7, r6, q6⟩
        | false =>
          show wpAny _ X.A (handleBy (.ref a) X.env hds2) _ _ _
          exact ih (hno rfl)
    exact go hh w
  · cases f with
    | next =>
      obtain ⟨σ', H', J', q⟩ := hsp
      exact wpAny_execs_nil ⟨σ', H', J'.ofTry ok, q⟩
    | brk =>
      obtain ⟨σ', H', J', q⟩ := hsp
      exact ⟨σ', H', J'.ofTry ok, q⟩
    | cont =>
      obtain ⟨σ', H', J', q⟩ := hsp
      exact ⟨σ', H', J'.ofTry ok, q⟩
    | ret u =>
      obtain ⟨v, σ', H', J', r, q⟩ := hsp
      exact ⟨v, σ', H', J'.ofTry ok, r, q⟩
end
end XV
set_option Elab.async false
set_option linter.all false
set_option maxRecDepth 100000
set_option maxHeartbeats 4000000
namespace XV
open PySem PySem.Spec PyProof.Rows L2 LamX
section
variable {X : Cx} {pins : List (Addr × Obj)} {σ : L2.St} {H HZ : Hp} {s s1 : Shared}
/-- x(), in the def that got the lambda: Z is that def's context, entered at s -/
theorem pe_actS {CXg : CXT} {Eg : XK} {Ng : List Str} {qg : Str} {sg : Scope} {g f c' : Addr} {cdg pm ctv : Value} {params : Arguments} {body : Expr} {scope : Scope} {k i : Nat} {a : Str} {pn : List (Addr × Obj)} {xe : Value → Shared → Prop} {W : WX} {E : L2.St → XK} {tb : L2.St → TE} {p1 p2 : Pos}
    (I : Inv X pins σ H s) (L : LamS X.env.scope scope) (hf : s.heap.get? f = some (PySem.W.kla_obj "<lambda>" (X.env.qual ++ "<lambda>") params body scope (cloFrom X.env.cells scope.names []) pm c' ctv)) (hfn : H f = none) (hfr : f ∉ frs X.stack)
    (hbind : bindArgs (PySem.W.kla_fn "<lambda>" (X.env.qual ++ "<lambda>") params body scope (cloFrom X.env.cells scope.names []) pm (.ref c') ctv) ⟨[], []⟩ = pure [])
    (tk : Takes ((cxOf CXg X.prog X.w X.K X.mg X.base Ng qg sg g cdg X.A X.stack s H Eg).tr pn xe) W) (hr : Room (k + 1) (X.A.deeper (envOfC qg sg s.heap.objs.size g cdg)))
    (hbody : ∀ (σZ : L2.St) (A : Around) (outer : List Env) (s : Shared) (H : Hp), Room k (A.deeper (lamEnv X scope s.heap.objs.size f c')) → PE (lamCx X A outer s H (E σZ) scope f c') body (tb σZ))
    (hN : Ng[i]? = some a) (hv : Vis sg a) (hd : (a == ("__debug__" : Str)) = false := by decide) (hcd : (a == ("__classdict__" : Str)) = false := by decide) :
    PE ((cxOf CXg X.prog X.w X.K X.mg X.base Ng qg sg g cdg X.A X.stack s H Eg).tr pn xe) (.Call (.Name a p1) [] [] p2)
      (fun σZ HZ Q => σZ[i]? = some (some (.ref f)) ∧ HZ c' = some (CodeO c' (X.env.qual ++ "<lambda>")) ∧ (∀ cls d H', E σZ cls d H' → W cls d σZ H') ∧ tb σZ σ HZ Q) := by
  refine ⟨fun pinsZ sZ σZ HZ Q IZ h => ?_⟩
  obtain ⟨hs, hc, hW, ht⟩ := h
  refine wpAny_Call_Name_kw (thn ((pe_var (pos := p1) (i := i) hN hv hd hcd).run pinsZ sZ σZ HZ (fun v H1 => v = .ref f ∧ H1 = HZ) IZ ⟨.ref f, hs, rfl, rfl⟩) fun u s1 ⟨v, H1, I1, r1, q1⟩ => ?_)
  obtain ⟨ev, eH⟩ := q1
  subst ev
  rw [eH] at I1
  obtain rfl : u = Value.ref f := r1
  have of1 : s1.heap.get? f = some (PySem.W.kla_obj "<lambda>" (X.env.qual ++ "<lambda>") params body scope (cloFrom X.env.cells scope.names []) pm c' ctv) := I1.base.keep f _ hf hfn hfr (fun z => nomatch (show f ∈ ([] : List Addr) from z))
  refine PySem.W.callWith_F0 ⟨_, _, _, _, of1⟩ ?_
  have un : Un (frs X.stack) [] H HZ s.heap s1.heap := I1.base
  obtain ⟨⟨oc, vs, t, hoc, hdc, hvc⟩, _, _⟩ := I1.hok c' _ hc
  have rc : codeAny (model X.prog X.w) (X.A.deeper (envOfC qg sg s.heap.objs.size g cdg)) (.call (.ref f) ⟨[], []⟩) (CR (L2.CX X.prog X.w) (envOfC qg sg s.heap.objs.size g cdg :: X.stack) X.prog X.w HZ s1 Q (E σZ)) s1 := by
    refine PySem.W.kla_callFunE hr.depth of1 rfl L.co L.gen rfl ⟨c', oc, vs, t, rfl, hoc, hdc, hvc⟩ ?_
    rw [hbind]
    refine wpAny_pure (wpAny_newFunctionEnv (fun y hy => (L.own y hy).2) (fun y hy => absurd hy (by simp)) (fun h₁ hns hsb => ⟨I1.nolimit.fresh _ hsb, ?_⟩) L.kind)
    show codeAny _ _ (.expr body (lamEnv X scope s1.heap.objs.size f c')) _ _
    have kp : ∀ b o, s1.heap.get? b = some o → h₁.get? b = some o := fun b o e => hsb.extBut b o (Nat.ne_of_lt (Heap.lt_size e)) (Heap.get?_push_of_some _ e)
    have J : Inv (lamCx X (X.A.deeper (envOfC qg sg s.heap.objs.size g cdg)) (envOfC qg sg s.heap.objs.size g cdg :: X.stack) s1 HZ (E σZ) scope f c') [] σ HZ { s1 with heap := h₁, toks := s1.toks + ([] : List (Str × Value)).length } :=
      lam_start2 I L I1.env0 hr.hd un hns kp
    refine PySem.W.kla_codeExpr (wpAny_mono ((hbody σZ _ _ s1 HZ (hr.deeper _)).run [] _ _ HZ Q J ht) (fun v s' hq => ?_) fun e s' hq => hq)
    obtain ⟨w', H', J', rv, q⟩ := hq
    exact ⟨w', H', J'.os, J'.bare, J'.base, J'.hok, rv, q⟩
  refine wpAny_call (codeAny_mono rc fun r s' hq => ?_)
  cases r with
  | error e => exact tk e s' (XE.of_call I1 hW hq)
  | ok fl =>
    cases fl with
    | ret u => exact I1.after hq
    | next => exact False.elim hq
    | brk => exact False.elim hq
    | cont => exact False.elim hq
end
/-- the def that calls what it got: a calls it; TT: what it makes of the lambda's reading -/
def GivesToS (X : Cx) (Ng : List Str) (x : Str) (sg : Scope) (g : Addr) (cdg : Value) (bg : List Stmt) (a : Str) (q : Str) (TT : (XK → Hp → VK → Prop) → Hp → VK → Prop) : Prop :=
  ∀ (f c' : Addr) (s : Shared) (H : Hp) (Q : VK) (tl : XK → Hp → VK → Prop),
    (∀ (W : WX) (pn : List (Addr × Obj)) (xe : Value → Shared → Prop) (E : L2.St → XK) (p1 p2 : Pos), Takes ((cxOf C8.CX0 X.prog X.w X.K X.mg X.base Ng x sg g cdg X.A X.stack s H C8.E0).tr pn xe) W →
      PE ((cxOf C8.CX0 X.prog X.w X.K X.mg X.base Ng x sg g cdg X.A X.stack s H C8.E0).tr pn xe) (.Call (.Name a p1) [] [] p2) (fun σZ HZ Q => σZ[0]? = some (some (.ref f)) ∧ HZ c' = some (CodeO c' q) ∧ (∀ cls d H', E σZ cls d H' → W cls d σZ H') ∧ tl (E σZ) HZ Q)) →
    H c' = some (CodeO c' q) → TT tl H Q →
    ∃ t, PSs (cxOf C8.CX0 X.prog X.w X.K X.mg X.base Ng x sg g cdg X.A X.stack s H C8.E0).nox bg t ∧ t { nx := fun _ H' => Q .non H', rt := Q } (L2.start Ng [.ref f]) H
section
variable {X : Cx}
/-- x(lambda: body) -/
theorem pe_lamcallS {T : List (Addr × Str)} {TT : (XK → Hp → VK → Prop) → Hp → VK → Prop} {x a : Str} {g c P : Addr} {k : Nat} {pg : Arguments} {bg : List Stmt} {sg : Scope} {dV kV doc pm cdv ct oc : Value} {an od : Option Addr} {osl : Array (Option Value)} {Ng : List Str}
    {params : Arguments} {body : Expr} {scope : Scope} {t : XK → TE} {p lpos pos : Pos} (hg : Gl X x) (hm : X.mg x = some (.ref g)) (hk : PySem.W.keepIn X.K (.ref g) = true)
    (lk : X.K.lookup g = some ⟨oc, od, .func (PySem.W.fnOf x x pg bg sg dV kV doc pm an cdv ct), osl⟩) (hcg : PySem.W.codeIn X.K cdv x = true) (hb : L2.Binds X.K (PySem.W.fnOf x x pg bg sg dV kV doc pm an cdv ct) [a] []) (Sg : FnScope Ng [a] sg) (hNg : Ng[0]? = some a) (hva : Vis sg a)
    (hG : GivesToS X Ng x sg g cdv bg a (X.env.qual ++ "<lambda>") TT)
    (TB : TabB X.base X.mg c P) (hcode : X.env.code = .ref c) (hmT : (P, X.env.qual ++ "<lambda>") ∈ T) (hu : ∀ p ∈ T, p.1 = P → p.2 = X.env.qual ++ "<lambda>") (hr : Room (k + 2) X.A) (L : LamS X.env.scope scope) (hdef : defaultsOf params X.env = ([], []))
    (hbind : ∀ (q : Str) (cl : List (Str × Addr)) (pm cv ctv : Value), bindArgs (PySem.W.kla_fn "<lambda>" q params body scope cl pm cv ctv) ⟨[], []⟩ = pure [])
    (hbody : ∀ (A : Around) (outer : List Env) (s : Shared) (H : Hp) (E : XK) (f c' : Addr), Room k (A.deeper (lamEnv X scope s.heap.objs.size f c')) → PE (lamCx X A outer s H E scope f c') body (t E))
    (hdb : (x == ("__debug__" : Str)) = false := by decide) (hd : (a == ("__debug__" : Str)) = false := by decide) (hcd : (a == ("__classdict__" : Str)) = false := by decide) :
    PE X (.Call (.Name x p) [.Lambda params body scope lpos] [] pos) (tLam T TT t) := by
  refine ⟨fun pins s σ H Q I h => ?_⟩
  obtain ⟨hT, h⟩ := h
  refine wpAny_Call_Name_kw (ld_glob I hg hm ?_ hdb)
  refine PySem.W.callWith_K (h₀ := X.base) I.ok.mod.kin hk ?_ (by rfl) (by rfl)
  show wpAny _ _ (spliced ((false, eval (.Lambda params body scope lpos) X.env) :: backTo pos (starEach [] X.env))) _ _ s
  refine Calls.spliced_cons (lam_make2 I TB hcode hmT hu hT hdef (L.has I.ok) fun f c' pm' ctv H1 s' I1 eN T1 hf hfn hfr hco => ?_)
  refine Calls.spliced_nil ⟨I1.kIn, ?_⟩
  have rc : codeAny (model X.prog X.w) X.A (.call (.ref g) ⟨[.ref f], []⟩) (CR C8.CX0 X.stack X.prog X.w H1 s' Q C8.E0) s' := by
    refine run_ofS (N := Ng) (ps := [a]) (us := [.ref f]) (vs := [.ref f]) lk hcg Sg hr I1.env0 (hb s' [.ref f] I1.kIn rfl) (.cons rfl .nil) rfl fun hr' => ?_
    obtain ⟨t', ht', hq'⟩ := hG f c' s' H1 Q (fun E H' Q' => t E σ H' Q') (fun W pn xe E p1 p2 tk => pe_actS (i := 0) (E := E) (tb := fun σZ => t (E σZ)) I1 L hf hfn hfr (hbind _ _ _ _ _) tk hr' (fun σZ A outer s H hr2 => hbody A outer s H (E σZ) f c' hr2) hNg hva hd hcd) hco (h H1 eN T1)
    exact ⟨t', ht'.nox, hq'⟩
  refine wpAny_call (codeAny_mono rc fun r s2 hq => ?_)
  cases r with
  | error e => exact (show False from hq).elim
  | ok fl =>
    cases fl with
    | ret u => exact I1.after hq
    | next => exact False.elim hq
    | brk => exact False.elim hq
    | cont => exact False.elim hq
end
end XV
set_option Elab.async false
set_option linter.all false
set_option maxRecDepth 100000
set_option maxHeartbeats 4000000
namespace PySem
namespace KwX
open PySem.W PySem.Calls PyProof.Rows PySem.HandSPX
section
variable {M : Model} {A : Around} {E : Value → Shared → Prop} {h : Heap} {g : Array GenState} {d : Drawn} {t : Nat} {os : OsState} {kw : List (Str × Value)}
variable {nm q : Str} {C N : Addr} {bs bm bmB : List Value} {hdct : Bool} {sn : List Str} {sub : List Value} {ab : Bool} {col : Option Bool} {dd : Option Addr} {k0 k1 k2 k3 k5 : Option Value} {B newId initId : String}
theorem kwNewCheck (F : ExcBaseFacts B newId initId bmB) (hT : ∀ X : String, bm.contains (.type X) = bmB.contains (.type X)) {rest : List Value} {Q : Unit → Shared → Prop}
    (hC : h.get? C = some (excClassObj nm q C N bs bm hdct sn sub ab col dd k0 k1 k2 k3 k5 newId)) (hq : Q () ⟨h, g, d, t, os⟩) : wpAny M A (checkBuiltinCall newId ⟨.ref C :: rest, kw⟩) Q E ⟨h, g, d, t, os⟩ := by
  have inB : (Value.ref C :: bm).contains (.type B) = true := by rw [List.contains_cons, hT, F.hasB, Bool.or_true]
  have nStar := F.noStar
  simp only [checkBuiltinCall, F.newKind, F.newSplit, F.newRow]
  repeat (first | refine wpAny_loadPart_at hC ?_ | (refine wpAny_isSubtype_exc hC ?_; rw [inB]) | refine wpAny_staticBase_exc hC ?_ | refine wpAny_madeBy_exc hC ?_ | simp only [bne_self_eq_false, Bool.false_eq_true, if_false] | wp_step)
  exact hq
end
section
variable {prog : Program} {w : World} {A : Around} {E : Value → Shared → Prop} {R : Result → Shared → Prop} {h : Heap} {g : Array GenState} {d : Drawn} {t : Nat} {os : OsState} {kw : List (Str × Value)}
variable {nm q : Str} {C N : Addr} {bs bm bmB : List Value} {hdct : Bool} {sn : List Str} {sub : List Value} {ab : Bool} {col : Option Bool} {dd : Option Addr} {k0 k1 k2 k3 k5 : Option Value} {B newId initId : String}
theorem kwNew (F : ExcBaseFacts B newId initId bmB) (hT : ∀ X : String, bm.contains (.type X) = bmB.contains (.type X)) {rest : List Value}
    (hC : h.get? C = some (excClassObj nm q C N bs bm hdct sn sub ab col dd k0 k1 k2 k3 k5 newId))
    (hq : R (.ok (.ret (.ref (h.objs.size + 1)))) ⟨(h.push (W.kdv_tup rest)).push (excO C h.objs.size), g, d, t, os⟩) (hrest : rest.length ≤ sizeLine) :
    codeAny (model prog w) A (.builtin newId ⟨.ref C :: rest, kw⟩) R ⟨h, g, d, t, os⟩ := by
  have hends := F.ends
  have inB : (Value.ref C :: bm).contains (.type B) = true := by rw [List.contains_cons, hT, F.hasB, Bool.or_true]
  have inA : (Value.ref C :: bm).contains (.type "AttributeError") = false := by rw [List.contains_cons, hT, F.noAttr]; rfl
  have inN : (Value.ref C :: bm).contains (.type "NameError") = false := by rw [List.contains_cons, hT, F.noName]; rfl
  refine codeAny_builtinAt F.entry ?_
  unfold Builtin.«BaseException.__new__»
  refine wpAt_bind ?_
  show wpAt _ _ _ (stack >>= _) _ _ _
  refine wpAt_bind (wpAt_stack fun p below => wpAt_of_wpAny ?_)
  wp_walk
  refine wpAt_of_wpAny ?_
  rw [F.owner]
  repeat (first | with_reducible refine wpAny_madeHere_exc F.canon hC ?_ | with_reducible refine wpAny_loadPart_at hC ?_ | (with_reducible refine wpAny_isSubtype_exc hC ?_; first | rw [inB] | rw [inA] | rw [inN]) | wp_step)
  show R _ _
  rw [Heap.size_push]
  exact hq
theorem kwTypeCall (F : ExcBaseFacts B newId initId bmB) (hT : ∀ X : String, bm.contains (.type X) = bmB.contains (.type X)) {rest : List Value} {fI : Addr} {Q : Fin → Shared → Prop}
    (hC : h.get? C = some (excClassObj nm q C N bs bm hdct sn sub ab col dd k0 k1 k2 k3 k5 newId))
    (hi : W.Looks (model prog w) h (typeLookup (.ref C) "__init__") (some (.ref fI))) (hb : ∀ self, W.Looks (model prog w) h (bindSpecial (.ref fI) self) (.ref fI, [self])) (hrest : rest.length ≤ sizeLine)
    (hq : codeAny (model prog w) A (.call (.ref fI) ⟨.ref (h.objs.size + 1) :: rest, kw⟩)
      (fun r s' => match r with | .ok (.ret v) => v = .none ∧ Q (.done (.ret (.ref (h.objs.size + 1)))) s' | .ok _ => False | .error e => E e s')
      ⟨(h.push (W.kdv_tup rest)).push (excO C h.objs.size), g, d, t, os⟩) :
    wpAny (model prog w) A (Builtin.«type.__call__» ⟨.ref C :: rest, kw⟩) Q E ⟨h, g, d, t, os⟩ := by
  repeat (first | with_reducible refine wpAny_loadPart_at hC ?_ | with_reducible refine wpAny_madeBy_exc hC ?_ | wp_step)
  refine codeAny_call_builtin_code (Code.quiet_builtin _ F.quiet) (kwNewCheck F hT hC ?_)
  refine kwNew F hT hC ?_ hrest
  show wpAny _ _ _ _ _ _
  have k : ∀ b o, h.get? b = some o → ((h.push (W.kdv_tup rest)).push (excO C h.objs.size)).get? b = some o := fun b o e => Heap.get?_push_of_some _ (Heap.get?_push_of_some _ e)
  have hC₁ := k _ _ hC
  have hget : ((h.push (W.kdv_tup rest)).push (excO C h.objs.size)).get? (h.objs.size + 1) = some (excO C h.objs.size) := by heap_get
  have inC : (Value.ref C :: bm).contains (.ref C) = true := by simp
  have i1 := hi.keeps k
  have b1 := (hb (.ref (h.objs.size + 1))).keeps k
  unfold isInstance
  repeat (first | with_reducible refine wpAny_loadPart_at hget ?_ | (with_reducible refine wpAny_isSubtype_exc hC₁ ?_; rw [inC]) | wp_step)
  show wpAny _ _ (typeLookup (.ref C) _) _ _ _
  refine i1.at ?_
  refine wpAny_holding (wpAny_bind (b1.at ?_))
  refine wpAny_bind (wpAny_call (codeAny_mono hq fun r s' z => ?_))
  rcases r with e | (v | _ | _ | _) <;> first | exact z | exact z.elim | skip
  obtain ⟨rfl, z⟩ := z
  first
    | exact wpAny_pure (wpAny_pure z)
    | (wp_walk; exact z)
theorem kwCall (F : ExcBaseFacts B newId initId bmB) (hT : ∀ X : String, bm.contains (.type X) = bmB.contains (.type X)) {rest : List Value} {fI : Addr}
    (hC : h.get? C = some (excClassObj nm q C N bs bm hdct sn sub ab col dd k0 k1 k2 k3 k5 newId))
    (hi : W.Looks (model prog w) h (typeLookup (.ref C) "__init__") (some (.ref fI))) (hb : ∀ self, W.Looks (model prog w) h (bindSpecial (.ref fI) self) (.ref fI, [self])) (hrest : rest.length ≤ sizeLine)
    (hq : codeAny (model prog w) (A.under (.builtin "type.__call__" ⟨.ref C :: rest, kw⟩)) (.call (.ref fI) ⟨.ref (h.objs.size + 1) :: rest, kw⟩) (W.InitBack (h.objs.size + 1) R)
      ⟨(h.push (W.kdv_tup rest)).push (excO C h.objs.size), g, d, t, os⟩) :
    codeAny (model prog w) A (.call (.ref C) ⟨rest, kw⟩) R ⟨h, g, d, t, os⟩ := by
  have f1 := tc_lookup
  have f2 := tc_bind (.ref C)
  have hTy : (⟨h, g, d, t, os⟩ : Shared).TypeIs (.ref C) "type" := ⟨_, hC, rfl⟩
  refine codeAny_of_tree ?_
  show wpAny _ _ (callAny (.ref C) _) _ _ _
  repeat (any_goals (first | assumption | with_reducible refine wpAny_loadPart_at hC ?_ | wp_step))
  refine ⟨rfl, ?_⟩
  refine codeAny_call_builtin_at (Code.quiet_builtin _ (by decide +kernel)) entry_typeCall (wpAny_check_type_call_sub hC (kwTypeCall F hT hC hi hb hrest ?_))
  refine codeAny_mono hq fun r s' z => ?_
  rcases r with e | (v | _ | _ | _) <;> exact z
end
end KwX
end PySem
set_option Elab.async false
set_option linter.all false
set_option maxRecDepth 100000
set_option maxHeartbeats 4000000
namespace XV
open PySem PySem.Spec PyProof.Rows L2

/-- what the written part tells of an own class of exceptions at C: one field f, its maker at fI -/
structure XCls (K : PySem.W.Frag) (C fI : Addr) (f : Str) : Prop where
  ox : OexC K C
  ini : PySem.W.findIn K (.ref C) "__init__" = some (some (.ref fI))
  tyI : PySem.W.typeIn K (.ref fI) = some (.type "function")
  noF : PySem.W.findIn K (.ref C) f = some none
  ga : PySem.W.findIn K (.ref C) "__getattribute__" = some (some (.builtin "BaseException.__getattribute__"))
  gg : PySem.W.findIn K (.ref C) "__getattr__" = some none
  hd : PySem.W.hasDictIn K C = true
/-- the exception at a, its dict at dx: what is there behind its making -/
def mkE (H : Hp) (a dx C : Addr) (f : Str) (v : V) : Hp := upd (upd H dx (exd dx [(f, v)])) a (exo a C (some dx))
/-- at a stands an exception of the class at C whose field f is v -/
def ExAt (H : Hp) (a C : Addr) (f : Str) (v : V) : Prop := ∃ dx, H a = some (exo a C (some dx)) ∧ H dx = some (exd dx [(f, v)])
theorem mkE_at {H : Hp} {a dx C : Addr} {f : Str} {v : V} (ne : dx ≠ a) : ExAt (mkE H a dx C f v) a C f v :=
  ⟨dx, upd_same, by unfold mkE; rw [upd_ne ne, upd_same]⟩
theorem mkE_same {H : Hp} {a dx C : Addr} {f : Str} {v : V} (ha : H a = none) (hd : H dx = none) : Same H (mkE H a dx C f v) := fun b o e => by
  unfold mkE
  rw [upd_ne (ne_of_none e ha), upd_ne (ne_of_none e hd)]
  exact e
theorem ExAt.keep {H H' : Hp} {a C : Addr} {f : Str} {v : V} (h : ExAt H a C f v) (k : Same H H') : ExAt H' a C f v :=
  let ⟨dx, h1, h2⟩ := h
  ⟨dx, k _ _ h1, k _ _ h2⟩
/-- the maker's promise -/
def spIni (C : Addr) (f : Str) : Sp := fun vs H Q _ => ∃ (a : Addr) (v : V), vs = [.ref a, v] ∧ H a = some (exo a C none) ∧ ∀ dx, H dx = none → dx ≠ a → Q .non (upd (upd H dx (exd dx [(f, v)])) a (exo a C (some dx)))
/-- C(v) as a value -/
def tMkX (C : Addr) (f : Str) (t : TA) : TE := fun σ H Q => t σ H fun vs H1 => ∃ v, vs = [v] ∧ ∀ a dx, H1 a = none → H1 dx = none → dx ≠ a → Q (.ref a) (mkE H1 a dx C f v)
section
variable {X : Cx} {CX : CXT} {k : Nat} {C fI : Addr} {fd : FuncData} {x f : Str} {p pos : Pos} {e : Expr} {es : List Expr} {kws : List Keyword} {t tk : TA}
theorem run_mkX {pins : List (Addr × Obj)} {σ : L2.St} {H : Hp} {s : Shared} {Q : VK} {v : V} {u : Value} {us : List Value} {kw : List (Str × Value)} (T : XCls X.K C fI f) (F1 : FnOk X.prog X.w X.K X.mg X.base CX k fI fd (["self", f] : List Str) (spIni C f)) (hr : Room (k + 1) X.A)
    (hb : ∀ (s : Shared) (y : Value), BindsTo s fd ⟨y :: us, kw⟩ ((["self", f] : List Str).zip [y, u])) (hx : Passes CX X E0) (hus : us.length ≤ 1) (I : Inv X pins σ H s) (r : RelV v u)
    (h : ∀ a dx, H a = none → H dx = none → dx ≠ a → Q (.ref a) (mkE H a dx C f v)) : wpAny (model X.prog X.w) X.A (call (.ref C) us kw) (EP X pins σ Q) X.xe s := by
  obtain ⟨nm, q, N, bs, bm, sn, sub, ab, col, dd, k0, k1, k2, k3, k5, hC, hbm⟩ := T.ox.cls
  obtain ⟨hp, g, dr, tk', os⟩ := s
  have hsz : hp.objs.size ≤ hp.objs.size + 1 := Nat.le_succ _
  have hn : H (hp.objs.size + 1) = none := I.hok.fresh hsz
  have kk : ∀ b o, hp.get? b = some o → ((hp.push (PySem.W.kdv_tup us)).push (PySem.HandSPX.excO C hp.objs.size)).get? b = some o := fun b o z => Heap.get?_push_of_some _ (Heap.get?_push_of_some _ z)
  have hget : ((hp.push (PySem.W.kdv_tup us)).push (PySem.HandSPX.excO C hp.objs.size)).get? (hp.objs.size + 1) = some (PySem.HandSPX.excO C hp.objs.size) := by heap_get
  have I2 : Inv X pins σ (upd H (hp.objs.size + 1) (exo (hp.objs.size + 1) C none)) ⟨(hp.push (PySem.W.kdv_tup us)).push (PySem.HandSPX.excO C hp.objs.size), g, dr, tk', os⟩ :=
    I.laid (t' := tk') (a := hp.objs.size + 1) (o := exo (hp.objs.size + 1) C none) (h' := (hp.push (PySem.W.kdv_tup us)).push (PySem.HandSPX.excO C hp.objs.size)) kk hsz (exo_ok hget)
  have r2 : Vals [V.ref (hp.objs.size + 1), v] [Value.ref (hp.objs.size + 1), u] := .cons rfl (.cons r .nil)
  have hq : spIni C f [V.ref (hp.objs.size + 1), v] (upd H (hp.objs.size + 1) (exo (hp.objs.size + 1) C none)) (fun v' H2 => v' = .non ∧ Q (.ref (hp.objs.size + 1)) H2) E0 := by
    refine ⟨_, _, rfl, upd_same, fun dx n ne => ⟨rfl, ?_⟩⟩
    have nd : H dx = none := by rw [upd_ne ne] at n; exact n
    have z := h (hp.objs.size + 1) dx hn nd ne
    have e : upd (upd (upd H (hp.objs.size + 1) (exo (hp.objs.size + 1) C none)) dx (exd dx [(f, v)])) (hp.objs.size + 1) (exo (hp.objs.size + 1) C (some dx)) = mkE H (hp.objs.size + 1) dx C f v := by
      funext b
      unfold mkE upd
      by_cases h1 : b = hp.objs.size + 1
      · simp only [if_pos h1]
      · by_cases h2 : b = dx
        · simp only [if_neg h1, if_pos h2]
        · simp only [if_neg h1, if_neg h2]
    rw [e]
    exact z
  have hus' : us.length ≤ sizeLine := by
    rw [sizeLine_eq]
    omega
  refine wpAny_call (PySem.KwX.kwCall F.excBase_ValueError (fun Y => PySem.HandSPX.refsVE_contains Y bm hbm) (I.kIn _ _ hC) (PySem.W.looks_findIn I.kIn T.ini) (fun self => PySem.W.bind_fn I.kIn self T.tyI) hus'
    (codeAny_mono (F1.run _ X.stack _ _ ⟨Value.ref (hp.objs.size + 1) :: us, kw⟩ [Value.ref (hp.objs.size + 1), u] _ _ E0 (hr.make C us kw) (I2.env0.make C us kw) (hb _ _) r2 hq) fun r s' hq' => ?_))
  cases r with
  | error er => exact hx pins σ _ _ er s' I2 hq'
  | ok fl =>
    cases fl with
    | ret u' =>
      obtain ⟨v', H', I3, rv, ev, q3⟩ := I2.after hq'
      subst ev
      exact ⟨rv, ⟨V.ref (hp.objs.size + 1), H', I3, rfl, q3⟩⟩
    | next => exact False.elim hq'
    | brk => exact False.elim hq'
    | cont => exact False.elim hq'
/-- C(e) -/
theorem pe_mkX (T : XCls X.K C fI f) (F1 : FnOk X.prog X.w X.K X.mg X.base CX k fI fd (["self", f] : List Str) (spIni C f)) (hr : Room (k + 1) X.A) (hb : Binds X.K fd (["self", f] : List Str) []) (hb2 : ∀ (s : Shared) (y u : Value), BindsTo s fd ⟨[y, u], []⟩ ((["self", f] : List Str).zip [y, u]))
    (hx : Passes CX X E0) (hg : Gl X x) (hm : X.mg x = some (.ref C)) (ha : PA X (e :: es) t)
    (hdb : (x == ("__debug__" : Str)) = false := by decide) (he : starEach (e :: es) X.env = (false, eval e X.env) :: starEach es X.env := by rfl) (hpl : (backTo pos (starEach es X.env)).any (·.1) = false := by rfl) :
    PE X (.Call (.Name x p) (e :: es) [] pos) (tMkX C f t) := by
  refine ⟨fun pins s σ H Q I h => ?_⟩
  refine wpAny_Call_Name_kw (ld_glob I hg hm ?_ hdb)
  refine PySem.W.callWith_K (h₀ := X.base) I.ok.mod.kin T.ox.kC (thn (ha.run pos pins s σ H _ I h) fun us s1 ⟨vs, H1, I1, r, v, ev, q⟩ => ⟨I1.kIn, ?_⟩) he hpl
  subst ev
  cases r with
  | cons rv rn =>
    cases rn
    exact run_mkX T F1 hr (fun s y => hb2 s y _) hx (Nat.le_refl _) I1 rv q
/-- C(f=e) -/
theorem pe_mkXK (T : XCls X.K C fI f) (F1 : FnOk X.prog X.w X.K X.mg X.base CX k fI fd (["self", f] : List Str) (spIni C f)) (hr : Room (k + 1) X.A) (hb2 : ∀ (s : Shared) (y u : Value), BindsTo s fd ⟨[y], ([f] : List Str).zip [u]⟩ ((["self", f] : List Str).zip [y, u]))
    (hx : Passes CX X E0) (hg : Gl X x) (hm : X.mg x = some (.ref C)) (hkw : PK X kws tk)
    (hall : (backToKw pos (keywordEach kws X.env)).all (·.1.isSome) = true := by rfl) (hks : (backToKw pos (keywordEach kws X.env)).filterMap (·.1) = [f] := by rfl) (hdb : (x == ("__debug__" : Str)) = false := by decide)
    (hpl : ((backTo pos (starEach [] X.env)).any (·.1) || (backToKw pos (keywordEach kws X.env)).any (·.1.isNone)) = false := by rfl) :
    PE X (.Call (.Name x p) [] kws pos) (tMkX C f tk) := by
  refine ⟨fun pins s σ H Q I h => ?_⟩
  refine wpAny_Call_Name_kw (ld_glob I hg hm ?_ hdb)
  refine PySem.W.callWith_KW0 (h₀ := X.base) I.ok.mod.kin T.ox.kC hall ?_ hpl
  refine thn (hkw.run pos pins s σ H _ I h) fun ws s2 ⟨zs, H2, I2, rz, v, ev, q2⟩ => ⟨I2.kIn, ?_⟩
  subst ev
  cases rz with
  | cons rv rn =>
    cases rn
    rw [hks]
    exact run_mkX T F1 hr (fun s y => hb2 s y _) hx (Nat.zero_le _) I2 rv q2
end
theorem exo_inst {P : Program} {w : World} {H : Hp} {h : Heap} {a C dx : Addr} {f : Str} {v : V} (hok : HOk P w H h) (ha : H a = some (exo a C (some dx))) (hd : H dx = some (exd dx [(f, v)])) :
    ∃ (oe od : Obj) (u : Value), PySem.W.InstAt h a oe C (some od) ∧ PySem.W.lookIn f od = some (some u) ∧ RelV v u := by
  obtain ⟨t1, e1⟩ := exo_at hok ha
  obtain ⟨mA, hns, rel⟩ := exd_at hok hd
  obtain ⟨od, ho, hl⟩ := lookIn_ns hns
  have l : List.lookup f [(f, v)] = some v := by simp [List.lookup]
  obtain ⟨u, hu, ru⟩ := RelO.some_of (v := v) (o := mA f) (by rw [← l]; exact rel f)
  exact ⟨_, od, u, ⟨e1, rfl, rfl, ho⟩, by rw [hl, hu], ru⟩
/-- e.f -/
def tXf (K : PySem.W.Frag) (f : Str) (te : TE) : TE := fun σ H Q => te σ H fun x H1 => ∃ (a C fI : Addr) (v : V), x = .ref a ∧ XCls K C fI f ∧ ExAt H1 a C f v ∧ Q v H1
section
variable {X : Cx} {f : Str} {pos : Pos} {e : Expr} {te : TE}
theorem pe_xf (he : PE X e te) (hb : attributeBase e f X.env (eval e X.env) = eval e X.env := by rfl) : PE X (.Attribute e f pos) (tXf X.K f te) := by
  refine ⟨fun pins s σ H Q I h => ?_⟩
  refine attr_of hb (thn (he.run pins s σ H _ I h) fun u s1 hh => ?_)
  obtain ⟨x, H1, I1, rx, a, C, fI, v, ex, T, ⟨dx, ea, ed⟩, q⟩ := hh
  subst ex
  obtain rfl : u = Value.ref a := rx
  obtain ⟨oe, od, u, J, hl, ru⟩ := exo_inst I1.hok ea ed
  exact HandSPX.exc_get I1.kIn J T.ga T.gg T.ox.exC (PySem.W.findObj_own T.hd T.noF rfl hl) (handed_of ru) ⟨v, H1, I1.tok _, ru, q⟩
end
/-- what isinstance asks of such a class -/
structure XIs (K : PySem.W.Frag) (C : Addr) : Prop where
  cl : (PySem.W.clsIn K C).isSome = true
  ga : PySem.W.findIn K (.ref C) "__getattribute__" = some (some (.builtin "BaseException.__getattribute__"))
  gg : PySem.W.findIn K (.ref C) "__getattr__" = some none
  exC : PySem.W.subIn K (.ref C) (.type "BaseException") = some true
  ca : PySem.W.findIn K (.ref C) "__class__" = some (some (.builtin "object.__class__"))
  sp : PySem.W.specialIn K (.builtin "object.__class__") "__get__" = some (some (.builtin "getset_descriptor.__get__"))
  tk : PySem.W.takesIn K (.builtin "object.__class__") = some true
  mr : PySem.W.mroIn K C (.type "object") = some true
/-- isinstance(e, c), e such an exception -/
def rIsX (K : PySem.W.Frag) : List V → Hp → VK → Prop := fun xs H Q => ∃ (a C : Addr) (f : Str) (v c : V) (u : Value) (b : Bool), xs = [.ref a, c] ∧ ClsV c u ∧ XIs K C ∧ ExAt H a C f v ∧ PySem.W.kitOne K (.ref C) u = some b ∧ Q (.bl b) H
theorem call_isX {X : Cx} : CallR X (.builtin "isinstance") (rIsX X.K) := by
  intro pins s σ H xs us Q I r h
  obtain ⟨a, C, f, v, c, u, b, rfl, k, T, ⟨dx, ea, ed⟩, e, q⟩ := h
  obtain ⟨u1, u2, rfl, r1, r2⟩ := vals2 r
  have e2 := k.eq r2
  subst e2
  obtain rfl : u1 = Value.ref a := r1
  obtain ⟨oe, od, _, J, _, _⟩ := exo_inst I.hok ea ed
  exact PySem.W.kia_one (PySem.W.kitx_exc T.cl T.ga T.gg T.exC T.ca T.sp T.tk T.mr) I.kIn J e (fun z => nomatch z) fun tk => ⟨.bl b, H, I.tok tk, rfl, q⟩
/-- an exception of a built-in class, as a value -/
def bxo (a : Addr) (T : String) : HO := .ext fun h => ∃ o, h.get? a = some o ∧ o.cls = .type T
def tMkB (T : String) (t : TA) : TE := fun σ H Q => t σ H fun vs H1 => vs.length ≤ sizeLine ∧ ∀ a, H1 a = none → Q (.ref a) (upd H1 a (bxo a T))
def rIsB (K : PySem.W.Frag) (T : String) : List V → Hp → VK → Prop := fun xs H Q => ∃ (a : Addr) (c : V) (u : Value) (b : Bool), xs = [.ref a, c] ∧ ClsV c u ∧ H a = some (bxo a T) ∧ PySem.W.kitOne K (.type T) u = some b ∧ Q (.bl b) H
theorem call_isB_VE {X : Cx} : CallR X (.builtin "isinstance") (rIsB X.K "ValueError") := by
  intro pins s σ H xs us Q I r h
  obtain ⟨a, c, u, b, rfl, k, ea, e, q⟩ := h
  obtain ⟨u1, u2, rfl, r1, r2⟩ := vals2 r
  have e2 := k.eq r2
  subst e2
  obtain rfl : u1 = Value.ref a := r1
  have x : ObjOk X.prog X.w H s.heap a (.ext fun h => ∃ o, h.get? a = some o ∧ o.cls = .type "ValueError") := I.hok a _ ea
  obtain ⟨⟨o, h1, h2⟩, _⟩ := x
  exact PySem.W.kia_one (PySem.W.kitx_bexc PySem.F.excAttr_ValueError PySem.F.lkClass_ValueError PySem.F.soClass_ValueError (by decide +kernel)) I.kIn ⟨o, h1, h2⟩ e (fun z => nomatch z) fun tk => ⟨.bl b, H, I.tok tk, rfl, q⟩
end XV
namespace XV
open PySem PySem.Spec PyProof.Rows L2
section
variable {X : Cx} {T N I : String} {x : Str} {p pos : Pos} {e : Expr} {es : List Expr} {t : TA}
/-- T(e, ..), a built-in class of exceptions, as a value -/
theorem pe_mkB (F : ExcB T N I) (hg : Gl X x) (hm : X.mg x = none) (hv : bootBuiltins x = some (.type T)) (ha : PA X (e :: es) t) (hn : x ≠ "__name__" := by decide) (hdb : (x == ("__debug__" : Str)) = false := by decide)
    (he : starEach (e :: es) X.env = (false, eval e X.env) :: starEach es X.env := by rfl) (hpl : (backTo pos (starEach es X.env)).any (·.1) = false := by rfl) :
    PE X (.Call (.Name x p) (e :: es) [] pos) (tMkB T t) := by
  refine ⟨fun pins s σ H Q J h => ?_⟩
  refine wpAny_Call_Name_kw (ld_blt J hg hm hv ?_ hn hdb)
  refine PyProof.Rows.callWith_type1 (thn (ha.run pos pins s σ H _ J h) fun us s1 hh => ?_) he hpl
  obtain ⟨vs, H1, I1, r1, q0, q1⟩ := hh
  obtain ⟨hp1, g1, d1, tk1, os1⟩ := s1
  refine wpAny_call_exc F.call (fun h' a mk => ?_) (Nat.le_trans (Nat.le_of_eq r1.length.symm) q0)
  obtain ⟨t0, eo, _, _⟩ := mk.there
  have na : H1 a = none := I1.hok.gone mk.new
  have new : ObjOk X.prog X.w (upd H1 a (bxo a T)) h' a (bxo a T) := ⟨⟨_, eo, rfl⟩, ⟨_, eo⟩, fun h1 h2 ⟨o, z1, z2⟩ k => ⟨o, k _ z1, z2⟩⟩
  exact ⟨.ref a, _, I1.laidN (t' := tk1) (a := a) (o := bxo a T) mk.keeps mk.new na new, rfl, q1 a na⟩
end
end XV
set_option Elab.async false
set_option linter.all false
set_option maxRecDepth 100000
set_option maxHeartbeats 4000000
namespace XV
open PySem PySem.Spec PyProof.Rows L2
/-- an argument list's reading, weakened at its end -/
def moA (t : TA) : TA := fun σ H Q => ∃ Q0, t σ H Q0 ∧ ∀ vs H1, Q0 vs H1 → Q vs H1
theorem pa_mo {X : Cx} {es : List Expr} {t : TA} (h : PA X es t) : PA X es (moA t) := ⟨fun pos pins s σ H Q I ⟨Q0, h0, h1⟩ => thn (h.run pos pins s σ H Q0 I h0) fun us s1 ⟨vs, H1, I1, r, q⟩ => ⟨vs, H1, I1, r, h1 vs H1 q⟩⟩
/-- what is wished of an exception C(v) that leaves: its own dict at d, new -/
def Rz (C : Addr) (f : Str) (v : V) (H : Hp) (E : XK) : Prop := ∀ d H', H d = none → Same H H' → H' d = some (.xd [(f, v)]) → E (.ref C) (some d) H'
def tMkR (C : Addr) (f : Str) (t : TA) : L2.St → Hp → XK → Prop := fun σ H Q => t σ H fun vs H1 => ∃ v, vs = [v] ∧ Rz C f v H1 Q
section
variable {X : Cx} {k : Nat} {C fI : Addr} {fd : FuncData} {x f : Str} {p pos pos2 : Pos} {e : Expr} {es : List Expr} {t : TA} {W : WX}
theorem pmk_x (T : XCls X.K C fI f) (F1 : FnOk X.prog X.w X.K X.mg X.base CX0 k fI fd (["self", f] : List Str) (spIni C f)) (hr : Room (k + 1) X.A) (hb : Binds X.K fd (["self", f] : List Str) [])
    (hg : Gl X x) (hm : X.mg x = some (.ref C)) (ha : PA X (e :: es) t)
    (hdb : (x == ("__debug__" : Str)) = false := by decide) (he : starEach (e :: es) X.env = (false, eval e X.env) :: starEach es X.env := by rfl) (hpl : (backTo pos (starEach es X.env)).any (·.1) = false := by rfl) :
    PMk X (.Call (.Name x p) (e :: es) [] pos) (tMkR C f t) := by
  intro pins s σ H Q I h
  refine pmk_oex (dvs := []) (ds := []) T.ox T.ini T.tyI F1 hr hb .nil pass0 hg hm (pa_mo ha) hdb he hpl pins s σ H Q I ⟨_, h, fun vs H1 hq => ?_⟩
  obtain ⟨v, rfl, hq⟩ := hq
  refine ⟨(by show 1 ≤ 1000; decide), fun a na => ⟨a, v, rfl, upd_same, fun dx ndx nea => ⟨rfl, dx, [(f, v)], upd_same, (by rw [upd_ne nea, upd_same]), ?_, ?_⟩⟩⟩
  · rw [upd_ne nea] at ndx
    exact ndx
  · have nd : H1 dx = none := by
      rw [upd_ne nea] at ndx
      exact ndx
    refine hq dx _ nd (fun b o z => ?_) upd_same
    have n1 := ne_of_none z nd
    have n2 := ne_of_none z na
    rw [upd_ne n1, del_ne n2, upd_ne n2, upd_ne n1, upd_ne n2]
    exact z
/-- raise C(e) -/
theorem ps_raiseX (hc : X.calm = true) (tk : Takes X W) (T : XCls X.K C fI f) (F1 : FnOk X.prog X.w X.K X.mg X.base CX0 k fI fd (["self", f] : List Str) (spIni C f)) (hr : Room (k + 1) X.A) (hb : Binds X.K fd (["self", f] : List Str) [])
    (hg : Gl X x) (hm : X.mg x = some (.ref C)) (ha : PA X (e :: es) t)
    (hdb : (x == ("__debug__" : Str)) = false := by decide) (he : starEach (e :: es) X.env = (false, eval e X.env) :: starEach es X.env := by rfl) (hpl : (backTo pos (starEach es X.env)).any (·.1) = false := by rfl) :
    PS X (.Raise (some (.Call (.Name x p) (e :: es) [] pos)) none pos2) (fun _ σ H => tMkR C f t σ H fun cls d H' => W cls d σ H') := ps_raise hc tk (pmk_x T F1 hr hb hg hm ha hdb he hpl)
end
theorem Rz.keep {C : Addr} {f : Str} {v : V} {H H1 : Hp} {E : XK} (h : Rz C f v H E) (s : Same H H1) : Rz C f v H1 E := fun d H' n s' l => h d H' (s.free n) (s.trans s') l
end XV
set_option Elab.async false
set_option linter.all false
set_option maxRecDepth 100000
set_option maxHeartbeats 4000000
namespace SL
open PySem PySem.Spec PyProof.Rows L2 XV
/-! ### kinds of plain values -/
inductive K7 (H : Hp) : V → String → Prop
  | int (i : Int) : K7 H (.int i) "int"
  | bl (b : Bool) : K7 H (.bl b) "bool"
  | non : K7 H .non "NoneType"
  | str (z : Str) : K7 H (.str z) "str"
  | lst {a : Addr} {xs : List V} (e : H a = some (.lst xs)) : K7 H (.ref a) "list"
  | tup {a : Addr} {xs : List V} (e : H a = some (.tup xs)) : K7 H (.ref a) "tuple"
  | dict {a : Addr} {kvs : List (Key × V)} (e : H a = some (.dK kvs)) : K7 H (.ref a) "dict"
def Ty (H : Hp) (x : V) : Prop := ∃ t, K7 H x t
theorem K7.ty {K : PySem.W.Frag} {H : Hp} {x : V} {t : String} (h : K7 H x t) : TyX K H x (.type t) := by
  cases h with
  | int i => exact .base (.int i)
  | bl b => exact .base (.bl b)
  | non => exact .base .non
  | str z => exact .base (.str z)
  | lst e => exact .base (.lst e)
  | tup e => exact .base (.tup e)
  | dict e => exact .base (.dK e)
theorem K7.mem {H : Hp} {x : V} {t : String} (h : K7 H x t) : t ∈ ["int", "bool", "NoneType", "str", "list", "tuple", "dict"] := by
  cases h <;> simp
theorem kb_int {t : String} (h : t ∈ ["int", "bool", "NoneType", "str", "list", "tuple", "dict"]) : kitB t "int" = some (t == "int" || t == "bool") := by
  revert t
  decide +kernel
theorem kb_bool {t : String} (h : t ∈ ["int", "bool", "NoneType", "str", "list", "tuple", "dict"]) : kitB t "bool" = some (t == "bool") := by
  revert t
  decide +kernel
theorem kb_tuple {t : String} (h : t ∈ ["int", "bool", "NoneType", "str", "list", "tuple", "dict"]) : kitB t "tuple" = some (t == "tuple") := by
  revert t
  decide +kernel
theorem kb_list {t : String} (h : t ∈ ["int", "bool", "NoneType", "str", "list", "tuple", "dict"]) : kitB t "list" = some (t == "list") := by
  revert t
  decide +kernel
theorem kb_str {t : String} (h : t ∈ ["int", "bool", "NoneType", "str", "list", "tuple", "dict"]) : kitB t "str" = some (t == "str") := by
  revert t
  decide +kernel
theorem K7.keep {H H' : Hp} {x : V} {t : String} (h : K7 H x t) (k : Same H H') : K7 H' x t := by
  cases h with
  | int i => exact .int i
  | bl b => exact .bl b
  | non => exact .non
  | str z => exact .str z
  | lst e => exact .lst (k _ _ e)
  | tup e => exact .tup (k _ _ e)
  | dict e => exact .dict (k _ _ e)
theorem Ty.keep {H H' : Hp} {x : V} (h : Ty H x) (k : Same H H') : Ty H' x := let ⟨t, z⟩ := h; ⟨t, z.keep k⟩
theorem Ty.here {H : Hp} {a : Addr} (h : Ty H (.ref a)) : ∃ o, H a = some o := by
  obtain ⟨t, z⟩ := h
  cases z with
  | lst e => exact ⟨_, e⟩
  | tup e => exact ⟨_, e⟩
  | dict e => exact ⟨_, e⟩
def inB : V → Int → Int → Bool
  | .int i, lo, hi => decide (lo ≤ i) && decide (i ≤ hi)
  | _, _, _ => false
/-- an item and, if it is a tuple, what is in it -/
def TyI (H : Hp) (x : V) : Prop := Ty H x ∧ ∀ (a : Addr) (xs : List V), x = .ref a → H a = some (.tup xs) → ∀ y ∈ xs, Ty H y
def scB (H : Hp) : V → Bool
  | .ref a => (match H a with
    | some (.tup [y, z]) => inB y 1 1000 && inB z 1 60
    | _ => false)
  | _ => false
def badL (H : Hp) (xs : List V) : Option Int := (xs.findIdx? fun x => !scB H x).map fun (n : Nat) => (n : Int)
def badI (H : Hp) (cls lim : V) : Option Int := match cls with
  | .ref a => (match H a with
    | some (.lst xs) => if (decide (1 ≤ xs.length) && decide (xs.length ≤ 6)) = true then (if inB lim 0 1000000 = true then badL H xs else some (-1)) else some (-1)
    | _ => some (-1))
  | _ => some (-1)
theorem scB_keep {H H' : Hp} {x : V} (h : Ty H x) (k : Same H H') : scB H' x = scB H x := by
  cases x with
  | ref a =>
    obtain ⟨o, e⟩ := h.here
    show (match H' a with | some (.tup [y, z]) => inB y 1 1000 && inB z 1 60 | _ => false) = (match H a with | some (.tup [y, z]) => inB y 1 1000 && inB z 1 60 | _ => false)
    rw [e, k _ _ e]
  | _ => rfl
theorem inB_len (n : Nat) : inB (.int n) 1 6 = (decide (1 ≤ n) && decide (n ≤ 6)) := by
  show (decide ((1 : Int) ≤ n) && decide ((n : Int) ≤ 6)) = _
  rw [decide_eq_decide.mpr (show ((1 : Int) ≤ n) ↔ 1 ≤ n by omega), decide_eq_decide.mpr (show ((n : Int) ≤ 6) ↔ n ≤ 6 by omega)]
theorem inB_int {x : V} {lo hi : Int} (h : inB x lo hi = true) : ∃ i, x = .int i := by
  cases x with
  | int i => exact ⟨i, rfl⟩
  | _ => cases h
theorem inB_nat {i : Int} {n : Nat} (h : inB (.int i) 0 ((n : Int) - 1) = true) : ∃ j : Nat, i = (j : Int) ∧ j < n := by
  have h' : (decide ((0 : Int) ≤ i) && decide (i ≤ (n : Int) - 1)) = true := h
  rw [Bool.and_eq_true, decide_eq_true_eq, decide_eq_true_eq] at h'
  exact ⟨i.toNat, by omega, by omega⟩
theorem badL_some {H : Hp} {xs : List V} {j : Nat} {x : V} (hx : xs[j]? = some x) (c : scB H x = false) (h : ∀ (i : Nat) y, i < j → xs[i]? = some y → scB H y = true) : badL H xs = some (j : Int) := by
  obtain ⟨hj, ex⟩ := List.getElem?_eq_some_iff.mp hx
  have e : (xs.findIdx? fun x => !scB H x) = some j := List.findIdx?_eq_some_iff_getElem.mpr ⟨hj, by rw [ex, c]; rfl, fun i hi => by
    have z := h i xs[i] hi (List.getElem?_eq_getElem (by omega))
    simp [z]⟩
  unfold badL
  rw [e]
  rfl
theorem badL_none {H : Hp} {xs : List V} (h : ∀ (i : Nat) y, xs[i]? = some y → scB H y = true) : badL H xs = none := by
  have e : (xs.findIdx? fun x => !scB H x) = none := List.findIdx?_eq_none_iff.mpr fun x hx => by
    obtain ⟨i, hi⟩ := List.mem_iff_getElem?.mp hx
    rw [h i x hi]
    rfl
  unfold badL
  rw [e]
  rfl
theorem TyI.keep {H H' : Hp} {x : V} (h : TyI H x) (k : Same H H') : TyI H' x := by
  refine ⟨h.1.keep k, fun a xs ex e y hy => ?_⟩
  subst ex
  obtain ⟨o, eo⟩ := h.1.here
  have z := k _ _ eo
  rw [e] at z
  have z2 := Option.some.inj z
  subst z2
  exact (h.2 a xs rfl eo y hy).keep k
theorem eqU {H H1 : Hp} {p : Addr} {o : HO} (e : upd H p o = H1) (n : H p = none) : Same H H1 ∧ H1 p = some o := by
  subst e
  exact ⟨fun b u z => by rw [upd_ne (ne_of_none z n)]; exact z, upd_same⟩
theorem same_upd {H : Hp} {p : Addr} {o : HO} (h : H p = none) : Same H (upd H p o) := fun b u e => by
  rw [upd_ne (ne_of_none e h)]
  exact e
/-! ### slabs -/
def pk (l : Addr) (L : Int) : List (Str × V) := [("pairs", .ref l), ("bound", .int L)]
theorem nPB : ¬ (("pairs" : Str) = "bound") := by decide +kernel
theorem pk_put (x y : V) : putF "bound" y (putF "pairs" x []) = ([("pairs", x), ("bound", y)] : List (Str × V)) := by
  show (if ("pairs" : Str) = "bound" then [(("pairs" : Str), y)] else (("pairs" : Str), x) :: putF "bound" y []) = _
  rw [if_neg nPB]
  rfl
theorem pk_pairs (l : Addr) (L : Int) : (pk l L).lookup ("pairs" : Str) = some (.ref l) := by
  unfold pk
  simp [List.lookup]
theorem pk_bound (l : Addr) (L : Int) : (pk l L).lookup ("bound" : Str) = some (.int L) := by
  unfold pk
  have e : (("bound" : Str) == ("pairs" : Str)) = false := by decide +kernel
  simp [List.lookup, e]
theorem pk_no (l : Addr) (L : Int) {m : Str} (h1 : (m == ("pairs" : Str)) = false) (h2 : (m == ("bound" : Str)) = false) : (pk l L).lookup m = none := by
  unfold pk
  simp [List.lookup, h1, h2]
/-- a slab at p: its list at l -/
structure SlabAt (C : Addr) (H : Hp) (p l : Addr) (xs : List V) (L : Int) : Prop where
  ob : ∃ dx, H p = some (.ins C dx (pk l L))
  ls : H l = some (.lst xs)
theorem SlabAt.keep {C : Addr} {H H' : Hp} {p l : Addr} {xs : List V} {L : Int} (h : SlabAt C H p l xs L) (k : Same H H') : SlabAt C H' p l xs L :=
  ⟨let ⟨dx, e⟩ := h.ob; ⟨dx, k _ _ e⟩, k _ _ h.ls⟩
def PairAt (H : Hp) (x : V) (q : Int × Int) : Prop := ∃ t, x = .ref t ∧ H t = some (.tup [.int q.1, .int q.2])
theorem PairAt.keep {H H' : Hp} {x : V} {q : Int × Int} (h : PairAt H x q) (k : Same H H') : PairAt H' x q := let ⟨t, e, z⟩ := h; ⟨t, e, k _ _ z⟩
abbrev PairsAt (H : Hp) : List V → List (Int × Int) → Prop := Paired (PairAt H)
theorem PairsAt.keep {H H' : Hp} (k : Same H H') : ∀ {xs : List V} {ps : List (Int × Int)}, PairsAt H xs ps → PairsAt H' xs ps
  | _, _, .nil => .nil
  | _, _, .cons a r => .cons (a.keep k) (PairsAt.keep k r)
theorem pairs_get {H : Hp} : ∀ {xs : List V} {ps : List (Int × Int)} {i : Nat} {y : V}, PairsAt H xs ps → xs[i]? = some y → ∃ q, ps[i]? = some q ∧ PairAt H y q
  | _, _, _, _, .nil, h => by simp at h
  | _, _, 0, _, .cons a r, h => by
    simp at h
    subst h
    exact ⟨_, rfl, a⟩
  | _, _, i + 1, y, .cons a r, h => by
    obtain ⟨q, h1, h2⟩ := pairs_get (i := i) r (by simpa using h)
    exact ⟨q, by simpa using h1, h2⟩
/-- what the written part tells of the class Slab -/
structure SlabC (K : PySem.W.Frag) (mg : Str → Option Value) (C : Addr) : Prop where
  cl : Cls K C
  nP : NoAttr K C "pairs"
  nB : NoAttr K C "bound"
  ca : PySem.W.findIn K (.ref C) "__class__" = some (some (.builtin "object.__class__"))
  sp : PySem.W.specialIn K (.builtin "object.__class__") "__get__" = some (some (.builtin "getset_descriptor.__get__"))
  tk : PySem.W.takesIn K (.builtin "object.__class__") = some true
  mr : PySem.W.mroIn K C (.type "object") = some true
  gC : mg "Slab" = some (.ref C)
  kI : PySem.W.kitOne K (.ref C) (.ref C) = some true
  kT : PySem.W.kitOne K (.type "tuple") (.ref C) = some false
  fT : PySem.W.notFirst K C (.type "tuple") = true
  fC : PySem.W.notFirst K C (.ref C) = true
theorem SlabC.ty {K : PySem.W.Frag} {mg : Str → Option Value} {C : Addr} (T : SlabC K mg C) {H : Hp} {p dx : Addr} {fs : List (Str × V)} (e : H p = some (.ins C dx fs)) : TyX K H (.ref p) (.ref C) :=
  .base (.ins e T.cl T.ca T.sp T.tk T.mr)
/-! ### the promises -/
def spBetween : Sp := fun vs H Q _ => ∃ (x : V) (lo hi : Int), vs = [x, .int lo, .int hi] ∧ Ty H x ∧ Q (.bl (inB x lo hi)) H
def spIsSC : Sp := fun vs H Q _ => ∃ x : V, vs = [x] ∧ TyI H x ∧ Q (.bl (scB H x)) H
def spInit (C CS : Addr) : Sp := fun vs H Q E => ∃ (p dx : Addr) (cls lim : V), vs = [.ref p, cls, lim] ∧ H p = some (.ins C dx []) ∧ Ty H cls ∧ Ty H lim ∧ (∀ (a : Addr) (xs : List V), cls = .ref a → H a = some (.lst xs) → xs.length ≤ 1000 ∧ ∀ x ∈ xs, TyI H x) ∧
  (∀ i, badI H cls lim = some i → Rz CS "index" (.int i) H E) ∧
  (∀ (a : Addr) (xs : List V) (L : Int), badI H cls lim = none → cls = .ref a → lim = .int L → H a = some (.lst xs) → ∀ l H', H l = none → (∀ b o, H b = some o → b ≠ p → H' b = some o) → SlabAt C H' p l xs L → Q .non H')
def spLen (C : Addr) : Sp := fun vs H Q _ => ∃ (p l : Addr) (xs : List V) (L : Int), vs = [.ref p] ∧ SlabAt C H p l xs L ∧ Q (.int xs.length) H
def spClasses (C : Addr) : Sp := fun vs H Q _ => ∃ (p l : Addr) (xs : List V) (L : Int), vs = [.ref p] ∧ SlabAt C H p l xs L ∧ ∀ a H', H a = none → Same H H' → H' a = some (.lst xs) → Q (.ref a) H'
def spLimit (C : Addr) : Sp := fun vs H Q _ => ∃ (p l : Addr) (xs : List V) (L : Int), vs = [.ref p] ∧ SlabAt C H p l xs L ∧ Q (.int L) H
/-- the class of a number: its tuple, or NoClass -/
def spCls (C CN : Addr) : Sp := fun vs H Q E => ∃ (p l : Addr) (xs : List V) (L : Int) (x : V), vs = [.ref p, x] ∧ SlabAt C H p l xs L ∧ Ty H x ∧
  (∀ (i : Nat) (y : V), x = .int i → xs[i]? = some y → Q y H) ∧ (inB x 0 ((xs.length : Int) - 1) = false → Rz CN "number" x H E)
def spBytes (C CN : Addr) (fst : Bool) : Sp := fun vs H Q E => ∃ (p l : Addr) (xs : List V) (ps : List (Int × Int)) (L : Int) (x : V), vs = [.ref p, x] ∧ SlabAt C H p l xs L ∧ PairsAt H xs ps ∧ Ty H x ∧
  (∀ (i : Nat) (q : Int × Int), x = .int i → ps[i]? = some q → Q (.int (if fst then q.1 else q.2)) H) ∧ (inB x 0 ((ps.length : Int) - 1) = false → Rz CN "number" x H E)
def spEqS (C : Addr) : Sp := fun vs H Q _ => ∃ (p l : Addr) (xs : List V) (ps : List (Int × Int)) (L : Int) (y : V), vs = [.ref p, y] ∧ SlabAt C H p l xs L ∧ PairsAt H xs ps ∧ ps.length ≤ 1000 ∧
  ((∃ (t : Addr) (zs : List V), y = .ref t ∧ H t = some (.tup zs) ∧ Q (.bl false) H) ∨
    ∃ (p' l' : Addr) (xs' : List V) (ps' : List (Int × Int)) (L' : Int), y = .ref p' ∧ SlabAt C H p' l' xs' L' ∧ PairsAt H xs' ps' ∧ ps'.length ≤ 1000 ∧ Q (.bl (decide (ps = ps') && decide (L = L'))) H)
/-! ### lists of pairs as data -/
def dPair (q : Int × Int) : PyData := .tuple [.int q.1, .int q.2]
theorem dpPairs {K : PySem.W.Frag} {H : Hp} : ∀ {xs : List V} {ps : List (Int × Int)}, PairsAt H xs ps → DpAll K H xs (ps.map dPair)
  | _, _, .nil => .nil
  | _, _, .cons ⟨t, e, z⟩ r => by
    subst e
    exact .cons (.tup (SqT.of z) (.cons (.int _) (.cons (.int _) .nil))) (dpPairs r)
theorem dPairs_lay : ∀ ps : List (Int × Int), PyData.canLayAll0 (ps.map dPair) = true
  | [] => by simp [PyData.canLayAll0]
  | q :: ps => by simp [PyData.canLayAll0, dPair, PyData.canLay0, dPairs_lay ps]
theorem dPairs_depth : ∀ ps : List (Int × Int), PyData.depthAll (ps.map dPair) ≤ 1
  | [] => by simp [PyData.depthAll]
  | q :: ps => by
    have h := dPairs_depth ps
    simp only [List.map_cons, PyData.depthAll, dPair, PyData.depth]
    omega
theorem dPairs_shaped (ps : List (Int × Int)) : SeqAt.shaped (.list (ps.map dPair)) = true := by
  have h1 := dPairs_depth ps
  have h2 : PyData.depth (.list (ps.map dPair)) ≤ 64 := by
    simp only [PyData.depth]
    omega
  show (PyData.canLay0 (.list (ps.map dPair)) && decide (PyData.depth (.list (ps.map dPair)) ≤ 64)) = true
  rw [Bool.and_eq_true]
  exact ⟨by simp only [PyData.canLay0]; exact dPairs_lay ps, decide_eq_true h2⟩
theorem dPair_eqv (q r : Int × Int) : PyData.eqv (dPair q) (dPair r) = decide (q = r) := by
  obtain ⟨a, b⟩ := q
  obtain ⟨c, d⟩ := r
  have e : PyData.eqv (dPair (a, b)) (dPair (c, d)) = ((a == c) && ((b == d) && true)) := by simp only [dPair, PyData.eqv, PyData.eqvAll]
  rw [e, Bool.and_true]
  by_cases h1 : a = c
  · by_cases h2 : b = d
    · subst h1 h2
      simp
    · have z : ¬ ((a, b) : Int × Int) = (c, d) := fun z => h2 (Prod.mk.inj z).2
      rw [decide_eq_false z, beq_eq_false_iff_ne.mpr h2, Bool.and_false]
  · have z : ¬ ((a, b) : Int × Int) = (c, d) := fun z => h1 (Prod.mk.inj z).1
    rw [decide_eq_false z, beq_eq_false_iff_ne.mpr h1, Bool.false_and]
theorem dPairs_eqvAll : ∀ ps qs : List (Int × Int), PyData.eqvAll (ps.map dPair) (qs.map dPair) = decide (ps = qs)
  | [], [] => by simp [PyData.eqvAll]
  | [], _ :: _ => by simp [PyData.eqvAll]
  | _ :: _, [] => by simp [PyData.eqvAll]
  | p :: ps, q :: qs => by
    have h := dPairs_eqvAll ps qs
    simp only [List.map_cons, PyData.eqvAll, dPair_eqv, h]
    by_cases h1 : p = q
    · by_cases h2 : ps = qs
      · subst h1 h2
        simp
      · simp [h1, h2]
    · simp [h1]
theorem dPairs_eqv (ps qs : List (Int × Int)) : PyData.eqv (.list (ps.map dPair)) (.list (qs.map dPair)) = decide (ps = qs) := by
  have e : PyData.eqv (.list (ps.map dPair)) (.list (qs.map dPair)) = PyData.eqvAll (ps.map dPair) (qs.map dPair) := by simp only [PyData.eqv]
  rw [e, dPairs_eqvAll]
end SL
set_option Elab.async false
set_option linter.all false
set_option maxRecDepth 100000
set_option maxHeartbeats 4000000
/-! exceptions whose context is None; raise X(..) from None in an except suite, X with an own __init__ -/
namespace XV
open PySem PySem.Spec PyProof.Rows L2
theorem flyingZ_zc {B h : Heap} {l : List Env} {a : Addr} {cls : Value} {d : Option Addr} (x : HandSPX.FlyingZ B l a (L2N.Zn cls d) h) : HandSPX.FlyingZ B l a (Zc cls d) h := L2H.flyingZ_imp (fun _ z => z.zc) x
theorem cxN {P : Program} {w : World} {outer : List Env} {H : Hp} {s : Shared} {E : XK} {u : Value} {s' : Shared} (h : L2N.CX P w outer H s E u s') : L2.CX P w outer H s E u s' := by
  obtain ⟨a, B, H', cls, d, e, fl, r⟩ := h
  exact ⟨a, B, H', cls, d, e, flyingZ_zc fl, r⟩
/-- a def whose exceptions bear no context: weaker -/
theorem _root_.L2.FnOk.weakN {P : Program} {w : World} {K : PySem.W.Frag} {mg : Str → Option Value} {base : Heap} {k : Nat} {f : Addr} {fd : FuncData} {ps : List Str} {sp : Sp} (F : FnOk P w K mg base (L2N.CX P w) k f fd ps sp) : FnOk P w K mg base (L2.CX P w) k f fd ps sp :=
  ⟨F.len, fun A outer s H args us vs Q E h1 h2 h3 h4 h5 => codeAny_mono (F.run A outer s H args us vs Q E h1 h2 h3 h4 h5) fun r s' q => by
    cases r with
    | error e => exact cxN q
    | ok f =>
      cases f with
      | ret u => exact q
      | next => exact q
      | brk => exact q
      | cont => exact q⟩
theorem passN {X : Cx} : Passes (L2N.CX X.prog X.w) X E0 := fun _ _ _ _ _ _ _ h => by
  obtain ⟨_, _, _, _, _, _, _, _, _, _, _, _, z⟩ := h
  exact z.elim
section
variable {P : Program} {w : World} {K : PySem.W.Frag} {mg : Str → Option Value} {base : Heap}
theorem _root_.L2.Fun.okXN {x qual : Str} {st : Stmt} {f : Addr} {fd : FuncData} {N ps : List Str} {k : Nat} {sp : Sp} (F : Fun K x qual st f fd) (S : FnScope N ps (defScope st)) (len : ∀ vs H Q E, sp vs H Q E → vs.length = ps.length)
    (hbody : ∀ (cdv : Value) (A : Around) (outer : List Env) (s : Shared) (H : Hp) (vs : List V) (Q : VK) (E : XK), Room k (A.deeper (envOfC qual (defScope st) s.heap.objs.size f cdv)) → sp vs H Q E →
      ∃ t, PSs (cxOf (L2N.CX P w) P w K mg base N qual (defScope st) f cdv A outer s H E) (defBody st) t ∧ t { nx := fun _ H' => Q .non H', rt := Q } (L2.start N vs) H) : FnOk P w K mg base (L2N.CX P w) (k + 1) f fd ps sp := by
  obtain ⟨oc, od, kV, doc, pm, an, cdv, ct, osl, rfl, lk, hcd⟩ := F.ex
  exact fn_of lk hcd S len fun A outer s H vs Q E hr hsp => hbody cdv A outer s H vs Q E hr hsp
/-- in a hot context -/
theorem _root_.L2.Fun.okHot {CX : CXT} {x qual : Str} {st : Stmt} {f : Addr} {fd : FuncData} {N ps : List Str} {k : Nat} {sp : Sp} (F : Fun K x qual st f fd) (S : FnScope N ps (defScope st)) (len : ∀ vs H Q E, sp vs H Q E → vs.length = ps.length)
    (hbody : ∀ (cdv : Value) (A : Around) (outer : List Env) (s : Shared) (H : Hp) (vs : List V) (Q : VK) (E : XK) (p : Addr × Obj), L2H.Hot1 A p → L2H.RoomH k (A.deeper (envOfC qual (defScope st) s.heap.objs.size f cdv)) → sp vs H Q E →
      ∃ t, PSs (L2H.cxH CX P w K mg base N qual (defScope st) f cdv A outer s H E p) (defBody st) t ∧ t { nx := fun _ H' => Q .non H', rt := Q } (L2.start N vs) H) : L2H.FnH P w K mg base CX (k + 1) f fd ps sp := by
  obtain ⟨oc, od, kV, doc, pm, an, cdv, ct, osl, rfl, lk, hcd⟩ := F.ex
  exact L2H.fn_ofH lk hcd S len fun A outer s H vs Q E p h1 hr hsp => hbody cdv A outer s H vs Q E p h1 hr hsp
end
theorem roomH_make {k : Nat} {A : Around} (r : L2H.RoomH (k + 1) A) (C : Addr) (us : List Value) (kw : List (Str × Value)) : L2H.RoomH k (A.under (.builtin "type.__call__" ⟨.ref C :: us, kw⟩)) :=
  ⟨by have := r.dp; rw [make_depth]; omega, by have := r.un; rw [make_units]; omega⟩
section
variable {X : Cx} {e : Expr} {es : List Expr} {ta : TA} {p pos : Pos}
/-- the end of C(e, ..), with the record's six fields told -/
theorem mk_end5 {pins : List (Addr × Obj)} {σ : L2.St} {H1 H2 : Hp} {Q : XK} {hp hp2 h2 : Heap} {g1 g2 : Array GenState} {d1 d2 : Drawn} {t1 t2 : Nat} {os1 os2 : OsState} {a C d : Addr} {fs : List (Str × V)} (T : Raises X (.ref C)) (I1 : Inv X pins σ H1 ⟨hp, g1, d1, t1, os1⟩)
    (ha : hp.objs.size ≤ a) (k : ∀ b o, hp.get? b = some o → hp2.get? b = some o) (un : Un (frs X.stack) [] (upd H1 a (exo a C none)) H2 hp2 h2) (hok : HOk X.prog X.w H2 h2) (ho : os2 = os1) (hb : AllBare g2)
    (ea : H2 a = some (exo a C (some d))) (ed : H2 d = some (exd d fs)) (hd1 : H1 d = none) (q : Q (.ref C) (some d) (upd (del H2 a) d (.xd fs))) : L2N.MkP X pins σ Q (.ref a) ⟨h2, g2, d2, t2, os2⟩ ∧ L2H.Six (.ref a) ⟨h2, g2, d2, t2, os2⟩ := by
  obtain ⟨t0, G, J, kG, ge, hoe, na⟩ := mk_end0 (d2 := d2) (t2 := t2) I1 ha k un hok ho hb ea ed hd1
  refine ⟨⟨a, _, _, ⟨G, g2, d2, t2, os2⟩, _, .ref C, some d, rfl, J, kG, ge, hoe, ⟨rfl, rfl, fun vs e => by cases e; rfl⟩, rfl, rfl, na, rfl, hb, T, q⟩, fun b oe vs eb hg hd => ?_⟩
  cases eb
  have hg' : h2.get? a = some oe := hg
  rw [hoe] at hg'
  cases hg'
  cases hd
  show (4 : Nat) < 6
  decide
theorem pmk_oex5 {CX : CXT} {x : Str} {C fI : Addr} {k : Nat} {fd : FuncData} {ps : List Str} {sp : Sp} (T : OexC X.K C) (iC : PySem.W.findIn X.K (.ref C) "__init__" = some (some (.ref fI))) (tI : PySem.W.typeIn X.K (.ref fI) = some (.type "function"))
    (F1 : FnOk X.prog X.w X.K X.mg X.base CX k fI fd ps sp) (hr : Room (k + 1) X.A) (hb : Binds X.K fd ps []) (hx : Passes CX X (fun _ _ _ => False)) (hg : Gl X x) (hm : X.mg x = some (.ref C)) (ha : PA X (e :: es) ta)
    (hdb : (x == ("__debug__" : Str)) = false := by decide) (he : starEach (e :: es) X.env = (false, eval e X.env) :: starEach es X.env := by rfl) (hpl : (backTo pos (starEach es X.env)).any (·.1) = false := by rfl) :
    L2H.PMk5 X (.Call (.Name x p) (e :: es) [] pos) (tMkO C sp [] ta) := by
  intro pins s σ H Q I h
  obtain ⟨nm, q, N, bs, bm, sn, sub, ab, col, dd, k0, k1, k2, k3, k5, hC, hbm⟩ := T.cls
  refine wpAny_Call_Name_kw (ld_glob I hg hm ?_ hdb)
  refine PySem.W.callWith_K (h₀ := X.base) I.ok.mod.kin T.kC (thn (ha.run pos pins s σ H _ I h) fun us s1 ⟨vs, H1, I1, r1, hz, q1⟩ => ⟨I1.kIn, ?_⟩) he hpl
  show wpAny _ _ (call (.ref C) us) _ _ _
  obtain ⟨hp, g, dr, tk, os⟩ := s1
  have hsz : hp.objs.size ≤ hp.objs.size + 1 := Nat.le_succ _
  have hn : H1 (hp.objs.size + 1) = none := I1.hok.fresh hsz
  have hq := q1 (hp.objs.size + 1) hn
  have kk : ∀ b o, hp.get? b = some o → ((hp.push (PySem.W.kdv_tup us)).push (PySem.HandSPX.excO C hp.objs.size)).get? b = some o := fun b o e => Heap.get?_push_of_some _ (Heap.get?_push_of_some _ e)
  have hget : ((hp.push (PySem.W.kdv_tup us)).push (PySem.HandSPX.excO C hp.objs.size)).get? (hp.objs.size + 1) = some (PySem.HandSPX.excO C hp.objs.size) := by heap_get
  have I2 : Inv X pins σ (upd H1 (hp.objs.size + 1) (exo (hp.objs.size + 1) C none)) ⟨(hp.push (PySem.W.kdv_tup us)).push (PySem.HandSPX.excO C hp.objs.size), g, dr, tk, os⟩ :=
    I1.laid (t' := tk) (a := hp.objs.size + 1) (o := exo (hp.objs.size + 1) C none) (h' := (hp.push (PySem.W.kdv_tup us)).push (PySem.HandSPX.excO C hp.objs.size)) kk hsz (exo_ok hget)
  have r2 : Vals (V.ref (hp.objs.size + 1) :: (vs ++ [])) (Value.ref (hp.objs.size + 1) :: (us ++ [])) := .cons rfl (r1.append .nil)
  have hl : (Value.ref (hp.objs.size + 1) :: us ++ []).length = ps.length := by
    have e := r2.length
    rw [F1.len _ _ _ _ hq] at e
    exact e.symm
  have hus : us.length ≤ sizeLine := by
    rw [← Paired.length r1, sizeLine_eq]
    omega
  refine wpAny_call (PySem.HandSPX.call_own F.excBase_ValueError (fun Y => PySem.HandSPX.refsVE_contains Y bm hbm) (I1.kIn _ _ hC) (PySem.W.looks_findIn I1.kIn iC) (fun self => PySem.W.bind_fn I1.kIn self tI) hus
    (codeAny_mono (F1.run _ X.stack _ _ ⟨Value.ref (hp.objs.size + 1) :: us, []⟩ (Value.ref (hp.objs.size + 1) :: us ++ []) _ _ (fun _ _ _ => False) (hr.make C us []) (I2.env0.make C us []) (by have b := hb _ (Value.ref (hp.objs.size + 1) :: us) I2.kIn hl; exact b) r2 hq) fun r s' hq' => ?_))
  cases r with
  | error er => exact hx pins σ _ _ er s' I2 hq'
  | ok fl =>
    cases fl with
    | ret u =>
      obtain ⟨v, H2, os2, bare2, un2, hok2, rv, ev, d, fs, ea, ed, hd1, q2⟩ := hq'
      subst ev
      obtain ⟨h2, g2, d2, t2, os'⟩ := s'
      exact ⟨rv, mk_end5 (raises_own T.exC T.tyC) I1 hsz kk un2 hok2 os2 bare2 ea ed hd1 q2⟩
    | next => exact False.elim hq'
    | brk => exact False.elim hq'
    | cont => exact False.elim hq'
/-- the same where an exception is handled -/
theorem pmk_oexH {CX : CXT} {x : Str} {C fI : Addr} {k : Nat} {fd : FuncData} {ps : List Str} {sp : Sp} (T : OexC X.K C) (iC : PySem.W.findIn X.K (.ref C) "__init__" = some (some (.ref fI))) (tI : PySem.W.typeIn X.K (.ref fI) = some (.type "function"))
    (F1 : L2H.FnH X.prog X.w X.K X.mg X.base CX k fI fd ps sp) (hr : L2H.RoomH (k + 1) X.A) (hot : L2H.HotC X) (hb : Binds X.K fd ps []) (hx : Passes CX X (fun _ _ _ => False)) (hg : Gl X x) (hm : X.mg x = some (.ref C)) (ha : PA X (e :: es) ta)
    (hdb : (x == ("__debug__" : Str)) = false := by decide) (he : starEach (e :: es) X.env = (false, eval e X.env) :: starEach es X.env := by rfl) (hpl : (backTo pos (starEach es X.env)).any (·.1) = false := by rfl) :
    L2H.PMk5 X (.Call (.Name x p) (e :: es) [] pos) (tMkO C sp [] ta) := by
  intro pins s σ H Q I h
  obtain ⟨nm, q, N, bs, bm, sn, sub, ab, col, dd, k0, k1, k2, k3, k5, hC, hbm⟩ := T.cls
  obtain ⟨pp, hot1, hpp⟩ := hot
  refine wpAny_Call_Name_kw (ld_glob I hg hm ?_ hdb)
  refine PySem.W.callWith_K (h₀ := X.base) I.ok.mod.kin T.kC (thn (ha.run pos pins s σ H _ I h) fun us s1 ⟨vs, H1, I1, r1, hz, q1⟩ => ⟨I1.kIn, ?_⟩) he hpl
  show wpAny _ _ (call (.ref C) us) _ _ _
  obtain ⟨hp, g, dr, tk, os⟩ := s1
  have hsz : hp.objs.size ≤ hp.objs.size + 1 := Nat.le_succ _
  have hn : H1 (hp.objs.size + 1) = none := I1.hok.fresh hsz
  have hq := q1 (hp.objs.size + 1) hn
  have kk : ∀ b o, hp.get? b = some o → ((hp.push (PySem.W.kdv_tup us)).push (PySem.HandSPX.excO C hp.objs.size)).get? b = some o := fun b o e => Heap.get?_push_of_some _ (Heap.get?_push_of_some _ e)
  have hget : ((hp.push (PySem.W.kdv_tup us)).push (PySem.HandSPX.excO C hp.objs.size)).get? (hp.objs.size + 1) = some (PySem.HandSPX.excO C hp.objs.size) := by heap_get
  have I2 : Inv X pins σ (upd H1 (hp.objs.size + 1) (exo (hp.objs.size + 1) C none)) ⟨(hp.push (PySem.W.kdv_tup us)).push (PySem.HandSPX.excO C hp.objs.size), g, dr, tk, os⟩ :=
    I1.laid (t' := tk) (a := hp.objs.size + 1) (o := exo (hp.objs.size + 1) C none) (h' := (hp.push (PySem.W.kdv_tup us)).push (PySem.HandSPX.excO C hp.objs.size)) kk hsz (exo_ok hget)
  have r2 : Vals (V.ref (hp.objs.size + 1) :: (vs ++ [])) (Value.ref (hp.objs.size + 1) :: (us ++ [])) := .cons rfl (r1.append .nil)
  have hl : (Value.ref (hp.objs.size + 1) :: us ++ []).length = ps.length := by
    have e := r2.length
    rw [F1.len _ _ _ _ hq] at e
    exact e.symm
  have hus : us.length ≤ sizeLine := by
    rw [← Paired.length r1, sizeLine_eq]
    omega
  have P1 := I2.pin pp (List.mem_append_left _ hpp)
  have hpin : L2H.PinOk X.stack _ _ pp := ⟨P1.1, P1.2.1, fun hm => (List.mem_cons.mp (I2.stkSub pp.1 hm)).elim P1.2.2.1 P1.2.2.2.1, P1.2.2.2.2⟩
  refine wpAny_call (PySem.HandSPX.call_own F.excBase_ValueError (fun Y => PySem.HandSPX.refsVE_contains Y bm hbm) (I1.kIn _ _ hC) (PySem.W.looks_findIn I1.kIn iC) (fun self => PySem.W.bind_fn I1.kIn self tI) hus
    (codeAny_mono (F1.run _ X.stack _ _ ⟨Value.ref (hp.objs.size + 1) :: us, []⟩ (Value.ref (hp.objs.size + 1) :: us ++ []) _ _ (fun _ _ _ => False) pp (roomH_make hr C us []) hot1 hpin (I2.env0.make C us []) (by have b := hb _ (Value.ref (hp.objs.size + 1) :: us) I2.kIn hl; exact b) r2 hq) fun r s' hq' => ?_))
  cases r with
  | error er => exact hx pins σ _ _ er s' I2 hq'
  | ok fl =>
    cases fl with
    | ret u =>
      obtain ⟨v, H2, os2, bare2, un2, hok2, rv, ev, d, fs, ea, ed, hd1, q2⟩ := hq'
      subst ev
      obtain ⟨h2, g2, d2, t2, os'⟩ := s'
      exact ⟨rv, mk_end5 (raises_own T.exC T.tyC) I1 hsz kk un2 hok2 os2 bare2 ea ed hd1 q2⟩
    | next => exact False.elim hq'
    | brk => exact False.elim hq'
    | cont => exact False.elim hq'
end
section
variable {X : Cx} {k : Nat} {C fI : Addr} {fd : FuncData} {x f : Str} {p pos pos2 : Pos} {e : Expr} {es : List Expr} {t : TA} {W : WX}
theorem mkR_of {σ : L2.St} {H : Hp} {Q : XK} (h : tMkR C f t σ H Q) : tMkO C (spIni C f) [] (moA t) σ H Q := by
  refine ⟨_, h, fun vs H1 hq => ?_⟩
  obtain ⟨v, rfl, hq⟩ := hq
  refine ⟨(by show 1 ≤ 1000; decide), fun a na => ⟨a, v, rfl, upd_same, fun dx ndx nea => ⟨rfl, dx, [(f, v)], upd_same, (by rw [upd_ne nea, upd_same]), ?_, ?_⟩⟩⟩
  · rw [upd_ne nea] at ndx
    exact ndx
  · have nd : H1 dx = none := by
      rw [upd_ne nea] at ndx
      exact ndx
    refine hq dx _ nd (fun b o z => ?_) upd_same
    have n1 := ne_of_none z nd
    have n2 := ne_of_none z na
    rw [upd_ne n1, del_ne n2, upd_ne n2, upd_ne n1, upd_ne n2]
    exact z
/-- raise C(e): what leaves bears no context -/
theorem ps_raiseXN (hc : X.calm = true) (tk : L2N.Takes X W) (T : XCls X.K C fI f) (F1 : FnOk X.prog X.w X.K X.mg X.base CX0 k fI fd (["self", f] : List Str) (spIni C f)) (hr : Room (k + 1) X.A) (hb : Binds X.K fd (["self", f] : List Str) [])
    (hg : Gl X x) (hm : X.mg x = some (.ref C)) (ha : PA X (e :: es) t)
    (hdb : (x == ("__debug__" : Str)) = false := by decide) (he : starEach (e :: es) X.env = (false, eval e X.env) :: starEach es X.env := by rfl) (hpl : (backTo pos (starEach es X.env)).any (·.1) = false := by rfl) :
    PS X (.Raise (some (.Call (.Name x p) (e :: es) [] pos)) none pos2) (fun _ σ H => tMkR C f t σ H fun cls d H' => W cls d σ H') :=
  L2N.ps_raise hc tk (fun pins s σ H Q I h => (pmk_oex5 T.ox T.ini T.tyI F1 hr hb pass0 hg hm (pa_mo ha) hdb he hpl).pmk pins s σ H Q I (mkR_of h))
/-- raise C(e) from None, where an exception is handled -/
theorem ps_raiseXH {j : Nat} {cpos : Pos} (hc : L2H.HotC X) (tk : L2.Takes X W) (T : XCls X.K C fI f) (F1 : L2H.FnH X.prog X.w X.K X.mg X.base CX0 k fI fd (["self", f] : List Str) (spIni C f)) (hr : L2H.RoomH (k + 1) X.A) (hb : Binds X.K fd (["self", f] : List Str) [])
    (hg : Gl X x) (hm : X.mg x = some (.ref C)) (ha : PA X (e :: es) t)
    (hdb : (x == ("__debug__" : Str)) = false := by decide) (he : starEach (e :: es) X.env = (false, eval e X.env) :: starEach es X.env := by rfl) (hpl : (backTo pos (starEach es X.env)).any (·.1) = false := by rfl) :
    PS X (.Raise (some (.Call (.Name x p) (e :: es) [] pos)) (some (.Constant .none j cpos)) pos2) (fun _ σ H => tMkR C f t σ H fun cls d H' => W cls d σ H') :=
  L2H.ps_raiseHN hc tk (fun pins s σ H Q I h => pmk_oexH T.ox T.ini T.tyI F1 hr hc hb pass0 hg hm (pa_mo ha) hdb he hpl pins s σ H Q I (mkR_of h))
end
end XV
set_option Elab.async false
set_option linter.all false
set_option maxRecDepth 100000
set_option maxHeartbeats 4000000
namespace K20
open PySem PySem.Spec PyProof.Rows L2 XV SL
local macro_rules | `(tactic| walk_at "rd") => `(tactic| repeat (first | refine And.intro rfl ?_ | refine And.intro (by assumption) ?_ | apply Exists.intro))
/-! ### the text by places -/
def topS (i : Nat) : Stmt := PySem.Challenge.pw_slabpins_k20_least_limits.main.body.getD i (.Pass ⟨0, 0, 0, 0⟩)
abbrev s_is_between : Stmt := topS 11
theorem sc_is_between : FnScope ["value", "low", "high"] ["value", "low", "high"] (defScope s_is_between) := ⟨rfl, rfl, rfl, by decide +kernel, rfl, by decide +kernel, by decide +kernel⟩
abbrev s_is_size_class : Stmt := topS 12
theorem sc_is_size_class : FnScope ["item"] ["item"] (defScope s_is_size_class) := ⟨rfl, rfl, rfl, by decide +kernel, rfl, by decide +kernel, by decide +kernel⟩
abbrev s_init : Stmt := inClass (topS 13) 0
theorem sc_init : FnScope ["self", "classes", "limit", "index", "item"] ["self", "classes", "limit"] (defScope s_init) := ⟨rfl, rfl, rfl, by decide +kernel, rfl, by decide +kernel, by decide +kernel⟩
abbrev s_len : Stmt := inClass (topS 13) 1
theorem sc_len : FnScope ["self"] ["self"] (defScope s_len) := ⟨rfl, rfl, rfl, by decide +kernel, rfl, by decide +kernel, by decide +kernel⟩
abbrev s_eq : Stmt := inClass (topS 13) 2
theorem sc_eq : FnScope ["self", "other"] ["self", "other"] (defScope s_eq) := ⟨rfl, rfl, rfl, by decide +kernel, rfl, by decide +kernel, by decide +kernel⟩
abbrev s_classes : Stmt := inClass (topS 13) 3
theorem sc_classes : FnScope ["self"] ["self"] (defScope s_classes) := ⟨rfl, rfl, rfl, by decide +kernel, rfl, by decide +kernel, by decide +kernel⟩
abbrev s_limit : Stmt := inClass (topS 13) 4
theorem sc_limit : FnScope ["self"] ["self"] (defScope s_limit) := ⟨rfl, rfl, rfl, by decide +kernel, rfl, by decide +kernel, by decide +kernel⟩
abbrev s_bytes_of : Stmt := inClass (topS 13) 5
theorem sc_bytes_of : FnScope ["self", "number"] ["self", "number"] (defScope s_bytes_of) := ⟨rfl, rfl, rfl, by decide +kernel, rfl, by decide +kernel, by decide +kernel⟩
abbrev s_slots_of : Stmt := inClass (topS 13) 6
theorem sc_slots_of : FnScope ["self", "number"] ["self", "number"] (defScope s_slots_of) := ⟨rfl, rfl, rfl, by decide +kernel, rfl, by decide +kernel, by decide +kernel⟩
abbrev s_size_class : Stmt := inClass (topS 13) 7
theorem sc_size_class : FnScope ["self", "number"] ["self", "number"] (defScope s_size_class) := ⟨rfl, rfl, rfl, by decide +kernel, rfl, by decide +kernel, by decide +kernel⟩
abbrev s_iNoSlab : Stmt := inClass (topS 2) 0
theorem sc_iNoSlab : FnScope ["self", "index"] ["self", "index"] (defScope s_iNoSlab) := ⟨rfl, rfl, rfl, by decide +kernel, rfl, by decide +kernel, by decide +kernel⟩
abbrev s_iNoClass : Stmt := inClass (topS 3) 0
theorem sc_iNoClass : FnScope ["self", "number"] ["self", "number"] (defScope s_iNoClass) := ⟨rfl, rfl, rfl, by decide +kernel, rfl, by decide +kernel, by decide +kernel⟩
/-- the built-in names as they stand, the module's numbers -/
structure Bi (mg : Str → Option Value) : Prop where
  b_int : mg "int" = none
  b_bool : mg "bool" = none
  b_tuple : mg "tuple" = none
  b_list : mg "list" = none
  b_len : mg "len" = none
  b_isinstance : mg "isinstance" = none
  b_enumerate : mg "enumerate" = none
  c_classes : ∃ t, mg "MOST_CLASSES" = some (.int 6 t)
  c_size : ∃ t, mg "MOST_SIZE" = some (.int 1000 t)
  c_slots : ∃ t, mg "MOST_SLOTS" = some (.int 60 t)
  c_limit : ∃ t, mg "MOST_LIMIT" = some (.int 1000000 t)
section
variable {P : Program} {w : World} {K : PySem.W.Frag} {mg : Str → Option Value} {base : Heap}
theorem ok_iNoSlab {C fI : Addr} {fd : FuncData} (F : Fun K "__init__" "NoSlab.__init__" s_iNoSlab fI fd) (T : XCls K C fI "index") : FnOk P w K mg base CX0 1 fI fd ["self", "index"] (spIni C "index") := by
  refine F.ok sc_iNoSlab (fun vs H Q E h => ?_) (fun cdv A outer s H vs Q E hr h => ?_)
  · obtain ⟨a, v, rfl, _⟩ := h
    rfl
  · obtain ⟨a, v, rfl, ha, k⟩ := h
    exact ⟨_, pss_one (ps_ost (pv 0) (pv 1)), _, rfl, _, rfl, a, C, rfl, T.ox, T.noF, .inl ⟨ha, fun dx n ne => k dx n ne⟩⟩
theorem ok_iNoClass {C fI : Addr} {fd : FuncData} (F : Fun K "__init__" "NoClass.__init__" s_iNoClass fI fd) (T : XCls K C fI "number") : FnOk P w K mg base CX0 1 fI fd ["self", "number"] (spIni C "number") := by
  refine F.ok sc_iNoClass (fun vs H Q E h => ?_) (fun cdv A outer s H vs Q E hr h => ?_)
  · obtain ⟨a, v, rfl, _⟩ := h
    rfl
  · obtain ⟨a, v, rfl, ha, k⟩ := h
    exact ⟨_, pss_one (ps_ost (pv 0) (pv 1)), _, rfl, _, rfl, a, C, rfl, T.ox, T.noF, .inl ⟨ha, fun dx n ne => k dx n ne⟩⟩
theorem ok_between {f : Addr} {fd : FuncData} (F : Fun K "is_between" "is_between" s_is_between f fd) (B : Bi mg) : FnOk P w K mg base CX0 1 f fd ["value", "low", "high"] spBetween := by
  refine F.ok sc_is_between (fun vs H Q E h => ?_) (fun cdv A outer s H vs Q E hr h => ?_)
  · obtain ⟨x, lo, hi, rfl, _⟩ := h
    rfl
  · obtain ⟨x, lo, hi, rfl, ⟨t, hx⟩, q⟩ := h
    refine ⟨_, (pss_one (ps_ret (pe_and (pe_callB call_isi (by rfl) B.b_isinstance (by decide +kernel) (pa_cons (pv 0) (pa_cons (pe_bltn (v := V.ty "int") rfl B.b_int (by decide +kernel) rfl) pa_nil))) (pe_and (pe_not (pe_callB call_isi (by rfl) B.b_isinstance (by decide +kernel) (pa_cons (pv 0) (pa_cons (pe_bltn (v := V.ty "bool") rfl B.b_bool (by decide +kernel) rfl) pa_nil)))) (pe_one (pe_chain op_le op_le (pv 1) (pv 0) (pv 2))))))), ?_⟩
    refine ⟨x, rfl, x, .ty "int", .type t, .type "int", _, rfl, .ty _, hx.ty, kit_ty (kb_int hx.mem), _, rfl, ?_⟩
    cases hx with
    | int i =>
      refine iteT ?_
      refine ⟨_, rfl, _, .ty "bool", .type "int", .type "bool", _, rfl, .ty _, (K7.int i).ty, kit_ty (kb_bool (K7.int (H := H) i).mem), _, rfl, _, rfl, iteT ?_⟩
      refine ⟨_, rfl, _, rfl, lo, i, rfl, rfl, _, rfl, ?_⟩
      by_cases c : lo ≤ i
      · have e : inB (.int i) lo hi = decide (i ≤ hi) := by
          show (decide (lo ≤ i) && decide (i ≤ hi)) = decide (i ≤ hi)
          rw [decide_eq_true c, Bool.true_and]
        rw [e] at q
        rw [decide_eq_true c]
        exact iteT ⟨_, rfl, i, hi, rfl, rfl, q⟩
      · have e : inB (.int i) lo hi = false := by
          show (decide (lo ≤ i) && decide (i ≤ hi)) = false
          rw [decide_eq_false c, Bool.false_and]
        rw [e] at q
        rw [decide_eq_false c]
        exact iteF q
    | bl b =>
      refine iteT ?_
      exact ⟨_, rfl, _, .ty "bool", .type "bool", .type "bool", _, rfl, .ty _, (K7.bl b).ty, kit_ty (kb_bool (K7.bl (H := H) b).mem), _, rfl, _, rfl, iteF q⟩
    | non => exact iteF q
    | str z => exact iteF q
    | lst e => exact iteF q
    | tup e => exact iteF q
    | dict e => exact iteF q
theorem ok_sc {f f1 : Addr} {fd d1 : FuncData} (F : Fun K "is_size_class" "is_size_class" s_is_size_class f fd) (B : Bi mg) (G1 : FnOk P w K mg base CX0 1 f1 d1 ["value", "low", "high"] spBetween) (m1 : mg "is_between" = some (.ref f1)) (k1 : PySem.W.keepIn K (.ref f1) = true) (b1 : Binds K d1 ["value", "low", "high"] []) :
    FnOk P w K mg base CX0 2 f fd ["item"] spIsSC := by
  refine F.ok sc_is_size_class (fun vs H Q E h => ?_) (fun cdv A outer s H vs Q E hr h => ?_)
  · obtain ⟨x, rfl, _⟩ := h
    rfl
  · obtain ⟨x, rfl, ⟨⟨t, hx⟩, hi⟩, q⟩ := h
    obtain ⟨t1, k_MOST_SIZE⟩ := B.c_size
    obtain ⟨t2, k_MOST_SLOTS⟩ := B.c_slots
    refine ⟨_, (pss_cons (ps_if (PW.pt (pw_or (pt_not (pt_val (pe_callB call_isi (by rfl) B.b_isinstance (by decide +kernel) (pa_cons (pv 0) (pa_cons (pe_bltn (v := V.ty "tuple") rfl B.b_tuple (by decide +kernel) rfl) pa_nil))))) (pw_or1 (pt_cmpR op_ne (pe_callB call_len_seq (by rfl) B.b_len (by decide +kernel) (pa_cons (pv 0) pa_nil)) pe_int (nomark _))))) (pss_one (ps_ret pe_bl)) pss_nil)
      (pss_one (ps_ret (pe_and (pe_call G1 (hr.mono (by decide)) rfl m1 k1 b1 .nil pass0 (pa_cons (pe_ix ix_tup (pv 0) pe_int (fun _ _ => rfl)) (pa_cons pe_int (pa_cons (pe_glob (v := V.int 1000) rfl k_MOST_SIZE ⟨_, rfl⟩) pa_nil)))) (pe_one (pe_call G1 (hr.mono (by decide)) rfl m1 k1 b1 .nil pass0 (pa_cons (pe_ix ix_tup (pv 0) pe_int (fun _ _ => rfl)) (pa_cons pe_int (pa_cons (pe_glob (v := V.int 60) rfl k_MOST_SLOTS ⟨_, rfl⟩) pa_nil))))))))), ?_⟩
    refine ⟨x, rfl, x, .ty "tuple", .type t, .type "tuple", _, rfl, .ty _, hx.ty, kit_ty (kb_tuple hx.mem), _, rfl, ?_⟩
    cases hx with
    | int i => exact iteT (iteT q)
    | bl b => exact iteT (iteT q)
    | non => exact iteT (iteT q)
    | str z => exact iteT (iteT q)
    | @lst a xs e =>
      refine iteT (iteT ?_)
      have z : scB H (.ref a) = false := by
        show (match H a with | some (.tup [y, z]) => inB y 1 1000 && inB z 1 60 | _ => false) = false
        rw [e]
      rw [z] at q
      exact q
    | @dict a kvs e =>
      refine iteT (iteT ?_)
      have z : scB H (.ref a) = false := by
        show (match H a with | some (.tup [y, z]) => inB y 1 1000 && inB z 1 60 | _ => false) = false
        rw [e]
      rw [z] at q
      exact q
    | @tup a xs e =>
      refine iteF ?_
      refine ⟨_, rfl, a, xs, rfl, .inr (SqT.of e), rfl, _, rfl, ?_⟩
      have ys := hi a xs rfl e
      by_cases c : xs.length = 2
      · match xs, c with
        | [y, z], _ =>
          refine iteF ?_
          refine ⟨_, rfl, a, _, 0, y, rfl, rfl, SqT.of e, rfl, y, 1, 1000, rfl, ys y (by simp), _, rfl, ?_⟩
          have eq : scB H (.ref a) = (inB y 1 1000 && inB z 1 60) := by
            show (match H a with | some (.tup [y, z]) => inB y 1 1000 && inB z 1 60 | _ => false) = _
            rw [e]
          rw [eq] at q
          cases c1 : inB y 1 1000 with
          | false =>
            rw [c1, Bool.false_and] at q
            exact iteF q
          | true =>
            rw [c1, Bool.true_and] at q
            exact iteT ⟨_, rfl, a, _, 1, z, rfl, rfl, SqT.of e, rfl, z, 1, 60, rfl, ys z (by simp), q⟩
      · have n2 : decide (V.int (xs.length : Int) = V.int 2) = false := decide_eq_false fun z => c (by have := V.int.inj z; omega)
        rw [n2]
        refine iteT ?_
        have z : scB H (.ref a) = false := by
          show (match H a with | some (.tup [y, z]) => inB y 1 1000 && inB z 1 60 | _ => false) = false
          rw [e]
          match xs, c with
          | [], _ => rfl
          | [_], _ => rfl
          | [_, _], c => exact absurd rfl c
          | _ :: _ :: _ :: _, _ => rfl
        rw [z] at q
        exact q
theorem ok_init {C CS f f1 f2 fS : Addr} {fd d1 d2 dS : FuncData} (F : Fun K "__init__" "Slab.__init__" s_init f fd) (B : Bi mg) (T : SlabC K mg C)
    (XNoSlab : XCls K CS fS "index") (INoSlab : FnOk P w K mg base CX0 1 fS dS ["self", "index"] (spIni CS "index")) (biNoSlab : Binds K dS ["self", "index"] []) (gNoSlab : mg "NoSlab" = some (.ref CS))
    (G1 : FnOk P w K mg base CX0 1 f1 d1 ["value", "low", "high"] spBetween) (m1 : mg "is_between" = some (.ref f1)) (k1 : PySem.W.keepIn K (.ref f1) = true) (b1 : Binds K d1 ["value", "low", "high"] [])
    (G2 : FnOk P w K mg base CX0 2 f2 d2 ["item"] spIsSC) (m2 : mg "is_size_class" = some (.ref f2)) (k2 : PySem.W.keepIn K (.ref f2) = true) (b2 : Binds K d2 ["item"] []) :
    FnOk P w K mg base (L2.CX P w) 4 f fd ["self", "classes", "limit"] (spInit C CS) := by
  refine F.okX sc_init (fun vs H Q E h => ?_) (fun cdv A outer s H vs Q E hr h => ?_)
  · obtain ⟨p, dx, cls, lim, rfl, _⟩ := h
    rfl
  · obtain ⟨p, dx, cls, lim, rfl, hp, hc, hl, hI, kE, kQ⟩ := h
    obtain ⟨t1, k_MOST_CLASSES⟩ := B.c_classes
    obtain ⟨t2, k_MOST_LIMIT⟩ := B.c_limit
    refine ⟨_, (pss_cons (ps_if (PW.pt (pw_or (pt_not (pt_val (pe_callB call_isi (by rfl) B.b_isinstance (by decide +kernel) (pa_cons (pv 1) (pa_cons (pe_bltn (v := V.ty "list") rfl B.b_list (by decide +kernel) rfl) pa_nil))))) (pw_or1 (pt_not (pt_val (pe_call G1 (hr.mono (by decide)) rfl m1 k1 b1 .nil pass0 (pa_cons (pe_callB call_len_seq (by rfl) B.b_len (by decide +kernel) (pa_cons (pv 1) pa_nil)) (pa_cons pe_int (pa_cons (pe_glob (v := V.int 6) rfl k_MOST_CLASSES ⟨_, rfl⟩) pa_nil))))))))) (pss_one (ps_raiseX rfl (takes_of rfl rfl rfl rfl) XNoSlab INoSlab (hr.mono (by decide)) biNoSlab rfl gNoSlab (pa_cons (pe_un un_neg pe_int) pa_nil))) pss_nil)
      (pss_cons (ps_if (pt_not (pt_val (pe_call G1 (hr.mono (by decide)) rfl m1 k1 b1 .nil pass0 (pa_cons (pv 2) (pa_cons pe_int (pa_cons (pe_glob (v := V.int 1000000) rfl k_MOST_LIMIT ⟨_, rfl⟩) pa_nil)))))) (pss_one (ps_raiseX rfl (takes_of rfl rfl rfl rfl) XNoSlab INoSlab (hr.mono (by decide)) biNoSlab rfl gNoSlab (pa_cons (pe_un un_neg pe_int) pa_nil))) pss_nil)
      (pss_cons (ps_for (passes_of rfl) rfl (pi_enum (by rfl) B.b_enumerate (pa_cons (pv 1) pa_nil)) (pg_tup rfl (pgs_cons (pg_name (i := 3) sc_init.nd rfl (Or.inl rfl)) (pgs_cons (pg_name (i := 4) sc_init.nd rfl (Or.inl rfl)) pgs_nil)))
      (pss_one (ps_if (pt_not (pt_val (pe_call G2 (hr.mono (by decide)) rfl m2 k2 b2 .nil pass0 (pa_cons (pv 4) pa_nil)))) (pss_one (ps_raiseX rfl (takes_of rfl rfl rfl rfl) XNoSlab INoSlab (hr.mono (by decide)) biNoSlab rfl gNoSlab (pa_cons (pv 3) pa_nil))) pss_nil)))
      (pss_cons (ps_fld (pv 0) (pe_callTy call_list_of (by rfl) B.b_list (by decide +kernel) (pa_cons (pv 1) pa_nil)) rfl)
      (pss_one (ps_fld (pv 0) (pv 2) rfl)))))), ?_⟩
    obtain ⟨t, hk⟩ := hc
    have neg : ∀ {Q' : Prop}, Q' → Q' := fun h => h
    refine ⟨cls, rfl, cls, .ty "list", .type t, .type "list", _, rfl, .ty _, hk.ty, kit_ty (kb_list hk.mem), _, rfl, ?_⟩
    cases hk with
    | int i => exact iteT (iteT ⟨1, rfl, _, rfl, kE (-1) rfl⟩)
    | bl b => exact iteT (iteT ⟨1, rfl, _, rfl, kE (-1) rfl⟩)
    | non => exact iteT (iteT ⟨1, rfl, _, rfl, kE (-1) rfl⟩)
    | str z => exact iteT (iteT ⟨1, rfl, _, rfl, kE (-1) rfl⟩)
    | @tup a xs e =>
      refine iteT (iteT ⟨1, rfl, _, rfl, kE (-1) ?_⟩)
      show (match H a with | some (.lst xs) => _ | _ => some (-1)) = some (-1)
      rw [e]
    | @dict a kvs e =>
      refine iteT (iteT ⟨1, rfl, _, rfl, kE (-1) ?_⟩)
      show (match H a with | some (.lst xs) => _ | _ => some (-1)) = some (-1)
      rw [e]
    | @lst a xs e =>
      refine iteF ?_
      refine ⟨.ref a, rfl, a, xs, rfl, .inl (SqL.of e), .int xs.length, 1, 6, rfl, ⟨_, .int _⟩, _, rfl, ?_⟩
      have hb : badI H (.ref a) lim = if (decide (1 ≤ xs.length) && decide (xs.length ≤ 6)) = true then (if inB lim 0 1000000 = true then badL H xs else some (-1)) else some (-1) := by
        show (match H a with | some (.lst xs) => _ | _ => some (-1)) = _
        rw [e]
      rw [← inB_len] at hb
      cases c1 : inB (.int xs.length) 1 6 with
      | false =>
        rw [c1, if_neg Bool.false_ne_true] at hb
        exact iteT ⟨1, rfl, _, rfl, kE (-1) hb⟩
      | true =>
        rw [c1, if_pos rfl] at hb
        refine iteF ?_
        refine ⟨lim, rfl, lim, 0, 1000000, rfl, hl, _, rfl, ?_⟩
        cases c2 : inB lim 0 1000000 with
        | false =>
          rw [c2, if_neg Bool.false_ne_true] at hb
          exact iteT ⟨1, rfl, _, rfl, kE (-1) hb⟩
        | true =>
          rw [c2, if_pos rfl] at hb
          refine iteF ?_
          obtain ⟨L, rfl⟩ := inB_int c2
          obtain ⟨hlen, hIt⟩ := hI a xs rfl e
          refine ⟨.ref a, rfl, a, xs, rfl, SqL.of e, for_it (walk_enum (K := K) (a := a) (xs := xs)) (fun i σ H4 => ∃ y3 y4, σ = [some (.ref p), some (.ref a), some (.int L), y3, y4] ∧ Same H H4 ∧ ∀ (j : Nat) x, j < i → xs[j]? = some x → scB H x = true) ⟨_, _, rfl, Same.refl _, fun j x hj => absurd hj (Nat.not_lt_zero _)⟩
            (fun i σ H4 _ ⟨_, _, _, z, _⟩ => SqL.of (z _ _ e)) ?_ ?_⟩
          · rintro j x σ H4 H5 hj ⟨y3, y4, rfl, S4, hs⟩ ⟨T', x1, x2, rfl, nT, rfl, g1, g2⟩
            cases g1
            have g2' : xs[j]? = some x2 := g2
            generalize h6 : upd H4 T' _ = H6
            obtain ⟨t6, e6⟩ := eqU h6 nT
            have S6 := S4.trans t6
            have hx2 := hIt x2 (List.mem_of_getElem? g2')
            refine ⟨T', _, rfl, SqT.of e6, rfl, _, _, rfl, _, _, rfl, rfl, ?_⟩
            refine ⟨x2, rfl, x2, rfl, hx2.keep S6, _, rfl, ?_⟩
            rw [scB_keep hx2.1 S6]
            cases c3 : scB H x2 with
            | false =>
              have hbad : badL H xs = some (j : Int) := badL_some g2' c3 fun i x hi hx => hs i x hi hx
              exact iteT ⟨_, rfl, _, rfl, (kE j (hb.trans hbad)).keep S6⟩
            | true =>
              refine iteF ⟨_, _, rfl, S6, fun i x hi hx => ?_⟩
              by_cases ei : i = j
              · subst ei
                rw [g2'] at hx
                cases hx
                exact c3
              · exact hs i x (by omega) hx
          · rintro σ H4 ⟨y3, y4, rfl, S4, hs⟩
            have hnone : badL H xs = none := badL_none fun i x hx => hs i x (List.getElem?_eq_some_iff.mp hx).1 hx
            refine ⟨.ref a, rfl, a, xs, rfl, .inl (SqL.of (S4 _ _ e)), fun l nl => ?_⟩
            generalize h5 : upd H4 l _ = H5
            obtain ⟨t5, e5⟩ := eqU h5 nl
            have hp5 := t5 _ _ (S4 _ _ hp)
            have nlp : l ≠ p := (ne_of_none (S4 _ _ hp) nl).symm
            refine ⟨_, rfl, p, C, dx, [], rfl, hp5, T.cl, T.nP, (by show 0 < 1000; decide), _, rfl, _, rfl, p, C, dx, _, rfl, upd_same, T.cl, T.nB, (by show 1 < 1000; decide), ?_⟩
            refine kQ a xs L (hb.trans hnone) rfl rfl e l _ (S4.free nl) (fun b o z n => ?_) ⟨⟨dx, ?_⟩, ?_⟩
            · rw [upd_ne n, upd_ne n]
              exact t5 _ _ (S4 _ _ z)
            · rw [upd_same, pk_put]
              rfl
            · rw [upd_ne nlp, upd_ne nlp]
              exact e5
theorem ok_len {C f : Addr} {fd : FuncData} (F : Fun K "__len__" "Slab.__len__" s_len f fd) (B : Bi mg) (T : SlabC K mg C) : FnOk P w K mg base CX0 1 f fd ["self"] (spLen C) := by
  refine F.ok sc_len (fun vs H Q E h => ?_) (fun cdv A outer s H vs Q E hr h => ?_)
  · obtain ⟨p, l, xs, L, rfl, _⟩ := h
    rfl
  · obtain ⟨p, l, xs, L, rfl, ⟨⟨dx, e⟩, el⟩, q⟩ := h
    exact ⟨_, (pss_one (ps_ret (pe_callB call_len_seq (by rfl) B.b_len (by decide +kernel) (pa_cons (pe_fld (pv 0) rfl) pa_nil)))), ⟨_, rfl, p, C, dx, _, _, rfl, e, T.cl, T.nP, pk_pairs l L, l, xs, rfl, .inl (SqL.of el), q⟩⟩
theorem ok_classes {C f : Addr} {fd : FuncData} (F : Fun K "classes" "Slab.classes" s_classes f fd) (B : Bi mg) (T : SlabC K mg C) : FnOk P w K mg base CX0 1 f fd ["self"] (spClasses C) := by
  refine F.ok sc_classes (fun vs H Q E h => ?_) (fun cdv A outer s H vs Q E hr h => ?_)
  · obtain ⟨p, l, xs, L, rfl, _⟩ := h
    rfl
  · obtain ⟨p, l, xs, L, rfl, ⟨⟨dx, e⟩, el⟩, q⟩ := h
    exact ⟨_, (pss_one (ps_ret (pe_callTy call_list_of (by rfl) B.b_list (by decide +kernel) (pa_cons (pe_fld (pv 0) rfl) pa_nil)))), ⟨_, rfl, p, C, dx, _, _, rfl, e, T.cl, T.nP, pk_pairs l L, l, xs, rfl, .inl (SqL.of el), fun a na => q a _ na (same_upd na) upd_same⟩⟩
theorem ok_limit {C f : Addr} {fd : FuncData} (F : Fun K "limit" "Slab.limit" s_limit f fd) (T : SlabC K mg C) : FnOk P w K mg base CX0 1 f fd ["self"] (spLimit C) := by
  refine F.ok sc_limit (fun vs H Q E h => ?_) (fun cdv A outer s H vs Q E hr h => ?_)
  · obtain ⟨p, l, xs, L, rfl, _⟩ := h
    rfl
  · obtain ⟨p, l, xs, L, rfl, ⟨⟨dx, e⟩, el⟩, q⟩ := h
    exact ⟨_, (pss_one (ps_ret (pe_fld (pv 0) rfl))), ⟨_, rfl, p, C, dx, _, _, rfl, e, T.cl, T.nB, pk_bound l L, q⟩⟩
theorem ok_eq {C f : Addr} {fd : FuncData} (F : Fun K "__eq__" "Slab.__eq__" s_eq f fd) (B : Bi mg) (T : SlabC K mg C) : FnOk P w K mg base CX0 1 f fd ["self", "other"] (spEqS C) := by
  refine F.ok sc_eq (fun vs H Q E h => ?_) (fun cdv A outer s H vs Q E hr h => ?_)
  · obtain ⟨p, l, xs, ps, L, y, rfl, _⟩ := h
    rfl
  · obtain ⟨p, l, xs, ps, L, y, rfl, ⟨⟨dx, e⟩, el⟩, hps, hle, hy⟩ := h
    refine ⟨_, (pss_one (ps_ret (pe_and (pe_callB call_isi (by rfl) B.b_isinstance (by decide +kernel) (pa_cons (pv 1) (pa_cons (pe_glob (v := V.ref C) rfl T.gC rfl) pa_nil))) (pe_and (pe_cmpR (op_eqD hr.units) (pe_fld (pv 0) rfl) (pe_fld (pv 1) rfl) (nomark _)) (pe_one (pe_cmpR op_eq (pe_fld (pv 0) rfl) (pe_fld (pv 1) rfl) (nomark _))))))), ?_⟩
    rcases hy with ⟨t, zs, rfl, et, q⟩ | ⟨p', l', xs', ps', L', rfl, ⟨⟨dx', e'⟩, el'⟩, hps', hle', q⟩
    · exact ⟨_, rfl, .ref t, .ref C, .type "tuple", .ref C, _, rfl, .own _, .base (.tup et), T.kT, _, rfl, iteF q⟩
    · refine ⟨_, rfl, .ref p', .ref C, .ref C, .ref C, _, rfl, .own _, T.ty e', T.kI, _, rfl, iteT ?_⟩
      refine ⟨_, rfl, p, C, dx, _, _, rfl, e, T.cl, T.nP, pk_pairs l L, _, rfl, p', C, dx', _, _, rfl, e', T.cl, T.nP, pk_pairs l' L', _, _, .lst (SqL.of el) (dpPairs hps), .lst (SqL.of el') (dpPairs hps'), dPairs_shaped ps, dPairs_shaped ps', _, rfl, ?_⟩
      rw [dPairs_eqv]
      by_cases c : ps = ps'
      · rw [decide_eq_true c, Bool.true_and] at q
        rw [decide_eq_true c]
        refine iteT ?_
        refine ⟨_, rfl, p, C, dx, _, _, rfl, e, T.cl, T.nB, pk_bound l L, _, rfl, p', C, dx', _, _, rfl, e', T.cl, T.nB, pk_bound l' L', rfl, ?_⟩
        have z : decide (V.int L = V.int L') = decide (L = L') := decide_eq_decide.mpr ⟨V.int.inj, congrArg V.int⟩
        show Q (.bl (decide (V.int L = V.int L'))) H
        rw [z]
        exact q
      · rw [decide_eq_false c, Bool.false_and] at q
        rw [decide_eq_false c]
        exact iteF q
theorem ok_cls {C CN f f1 fN : Addr} {fd d1 dN : FuncData} (F : Fun K "size_class" "Slab.size_class" s_size_class f fd) (B : Bi mg) (T : SlabC K mg C)
    (G1 : FnOk P w K mg base CX0 1 f1 d1 ["value", "low", "high"] spBetween) (m1 : mg "is_between" = some (.ref f1)) (k1 : PySem.W.keepIn K (.ref f1) = true) (b1 : Binds K d1 ["value", "low", "high"] [])
    (XNoClass : XCls K CN fN "number") (INoClass : FnOk P w K mg base CX0 1 fN dN ["self", "number"] (spIni CN "number")) (biNoClass : Binds K dN ["self", "number"] []) (gNoClass : mg "NoClass" = some (.ref CN)) : FnOk P w K mg base (L2N.CX P w) 3 f fd ["self", "number"] (spCls C CN) := by
  refine F.okXN sc_size_class (fun vs H Q E h => ?_) (fun cdv A outer s H vs Q E hr h => ?_)
  · obtain ⟨p, l, xs, L, x, rfl, _⟩ := h
    rfl
  · obtain ⟨p, l, xs, L, x, rfl, ⟨⟨dx, e⟩, el⟩, hx, kQ, kE⟩ := h
    refine ⟨_, (pss_cons (ps_if (pt_not (pt_val (pe_call G1 (hr.mono (by decide)) rfl m1 k1 b1 .nil pass0 (pa_cons (pv 1) (pa_cons pe_int (pa_cons (pe_op op_sub (pe_callB call_len_seq (by rfl) B.b_len (by decide +kernel) (pa_cons (pe_fld (pv 0) rfl) pa_nil)) pe_int) pa_nil)))))) (pss_one (ps_raiseXN rfl (L2N.takes_of rfl rfl rfl rfl) XNoClass INoClass (hr.mono (by decide)) biNoClass rfl gNoClass (pa_cons (pv 1) pa_nil))) pss_nil)
      (pss_one (ps_ret (pe_ix ix_list (pe_fld (pv 0) rfl) (pv 1) (fun _ _ => rfl))))), ?_⟩
    refine ⟨x, rfl, _, rfl, p, C, dx, _, _, rfl, e, T.cl, T.nP, pk_pairs l L, l, xs, rfl, .inl (SqL.of el), _, _, rfl, rfl, x, 0, _, rfl, hx, _, rfl, ?_⟩
    cases c : inB x 0 ((xs.length : Int) - 1) with
    | false => exact iteT ⟨_, rfl, _, rfl, kE c⟩
    | true =>
      refine iteF ?_
      obtain ⟨i, rfl⟩ := inB_int c
      obtain ⟨j, rfl, hj⟩ := inB_nat c
      refine ⟨_, rfl, p, C, dx, _, _, rfl, e, T.cl, T.nP, pk_pairs l L, _, rfl, l, xs, j, xs[j], rfl, rfl, SqL.of el, atI_nat (List.getElem?_eq_getElem hj), ?_⟩
      exact kQ j _ rfl (List.getElem?_eq_getElem hj)
theorem ok_bytes_of {C CN f fS : Addr} {fd dS : FuncData} (F : Fun K "bytes_of" "Slab.bytes_of" s_bytes_of f fd) (T : SlabC K mg C) (GS : FnOk P w K mg base (L2N.CX P w) 3 fS dS ["self", "number"] (spCls C CN)) (mS : Meth K C "size_class" fS) (bS : Binds K dS ["self", "number"] []) :
    FnOk P w K mg base (L2N.CX P w) 4 f fd ["self", "number"] (spBytes C CN true) := by
  refine F.okXN sc_bytes_of (fun vs H Q E h => ?_) (fun cdv A outer s H vs Q E hr h => ?_)
  · obtain ⟨p, l, xs, ps, L, x, rfl, _⟩ := h
    rfl
  · obtain ⟨p, l, xs, ps, L, x, rfl, sl, hps, hx, kQ, kE⟩ := h
    obtain ⟨dx, e⟩ := sl.ob
    refine ⟨_, (pss_one (ps_ret (pe_ix ix_tup (pe_meth (pv 0) T.cl mS GS (hr.mono (by decide)) bS .nil (L2N.passes_call (L2N.takes_of rfl rfl rfl rfl) (fun _ _ _ _ h => h)) (pa_cons (pv 1) pa_nil)) pe_int (fun _ _ => rfl)))), ?_⟩
    refine ⟨_, rfl, p, dx, _, rfl, e, pk_no _ _ (by decide +kernel) (by decide +kernel), x, rfl, p, l, xs, L, x, rfl, sl, hx, fun i y ex hy => ?_, fun c => kE (by rw [← Paired.length hps]; exact c)⟩
    obtain ⟨q, hq, t, rfl, et⟩ := pairs_get hps hy
    exact ⟨t, _, 0, _, rfl, rfl, SqT.of et, rfl, kQ i q ex hq⟩
theorem ok_slots_of {C CN f fS : Addr} {fd dS : FuncData} (F : Fun K "slots_of" "Slab.slots_of" s_slots_of f fd) (T : SlabC K mg C) (GS : FnOk P w K mg base (L2N.CX P w) 3 fS dS ["self", "number"] (spCls C CN)) (mS : Meth K C "size_class" fS) (bS : Binds K dS ["self", "number"] []) :
    FnOk P w K mg base (L2N.CX P w) 4 f fd ["self", "number"] (spBytes C CN false) := by
  refine F.okXN sc_slots_of (fun vs H Q E h => ?_) (fun cdv A outer s H vs Q E hr h => ?_)
  · obtain ⟨p, l, xs, ps, L, x, rfl, _⟩ := h
    rfl
  · obtain ⟨p, l, xs, ps, L, x, rfl, sl, hps, hx, kQ, kE⟩ := h
    obtain ⟨dx, e⟩ := sl.ob
    refine ⟨_, (pss_one (ps_ret (pe_ix ix_tup (pe_meth (pv 0) T.cl mS GS (hr.mono (by decide)) bS .nil (L2N.passes_call (L2N.takes_of rfl rfl rfl rfl) (fun _ _ _ _ h => h)) (pa_cons (pv 1) pa_nil)) pe_int (fun _ _ => rfl)))), ?_⟩
    refine ⟨_, rfl, p, dx, _, rfl, e, pk_no _ _ (by decide +kernel) (by decide +kernel), x, rfl, p, l, xs, L, x, rfl, sl, hx, fun i y ex hy => ?_, fun c => kE (by rw [← Paired.length hps]; exact c)⟩
    obtain ⟨q, hq, t, rfl, et⟩ := pairs_get hps hy
    exact ⟨t, _, 1, _, rfl, rfl, SqT.of et, rfl, kQ i q ex hq⟩
end
end K20
set_option Elab.async false
set_option linter.all false
set_option maxRecDepth 100000
set_option maxHeartbeats 4000000
namespace XV
open PySem PySem.Spec PyProof.Rows L2 LamX
/-! ### defs from which a text of a value is asked: nothing may be under way that a text's writing would see -/
structure FnG (P : Program) (w : World) (K : PySem.W.Frag) (mg : Str → Option Value) (base : Heap) (CX : CXT) (k : Nat) (f : Addr) (fd : FuncData) (ps : List Str) (sp : Sp) : Prop where
  len : ∀ vs H Q E, sp vs H Q E → vs.length = ps.length
  run : ∀ (A : Around) (outer : List Env) (s : Shared) (H : Hp) (args : Args) (us : List Value) (vs : List V) (Q : VK) (E : XK), A.guards = some [] → Room k A →
    Env0 P w K mg base A outer s H → BindsTo s fd args (ps.zip us) → Vals vs us → sp vs H Q E → codeAny (model P w) A (.call (.ref f) args) (CR CX outer P w H s Q E) s
section
variable {P : Program} {w : World} {K : PySem.W.Frag} {mg : Str → Option Value} {base : Heap}
theorem FnG.of {CX : CXT} {k : Nat} {f : Addr} {fd : FuncData} {ps : List Str} {sp : Sp} (F : FnOk P w K mg base CX k f fd ps sp) : FnG P w K mg base CX k f fd ps sp :=
  ⟨F.len, fun A outer s H args us vs Q E _ => F.run A outer s H args us vs Q E⟩
/-- by the body -/
theorem Fun.okG {x qual : Str} {st : Stmt} {f : Addr} {fd : FuncData} {N ps : List Str} {k : Nat} {sp : Sp} (F : Fun K x qual st f fd) (S : FnScope N ps (defScope st)) (len : ∀ vs H Q E, sp vs H Q E → vs.length = ps.length)
    (body : ∀ (cdv : Value) (A : Around) (outer : List Env) (s : Shared) (H : Hp) (vs : List V) (Q : VK) (E : XK), A.guards = some [] → Room k (A.deeper (envOfC qual (defScope st) s.heap.objs.size f cdv)) → sp vs H Q E →
      ∃ t, PSs (cxOf CX0 P w K mg base N qual (defScope st) f cdv A outer s H E).nox (defBody st) t ∧ t { nx := fun _ H' => Q .non H', rt := Q } (start N vs) H) : FnG P w K mg base CX0 (k + 1) f fd ps sp := by
  obtain ⟨oc, od, kV, doc, pm, an, cdv, ct, osl, rfl, lk, hcd⟩ := F.ex
  refine ⟨len, fun A outer s H args us vs Q E hg hr e0 hb rv hs => ?_⟩
  have inK : K.In s.heap := e0.mod.kin.keeps fun b o e => (e0.bs b o e).1
  have nl : s.heap.NoLimit := e0.mod.nolimit.keeps fun b o e => (e0.bs b o e).1
  obtain ⟨t, ht, q⟩ := body cdv A outer s H vs Q E hg (hr.deeper _) hs
  refine codeAny_call_function hr.depth (inK _ _ lk) rfl S.co S.gen rfl (PySem.W.codeRec_of inK hcd) (hb _ _ _ _ ?_)
  refine wpAny_newFunctionEnv_cells S.kind (fun y hy => ?_) fun env ee s1 x => ?_
  · rcases S.par y.1 (List.of_mem_zip (show (y.1, y.2) ∈ ps.zip us from hy)).1 with z | z
    · exact .inl z
    · exact .inr ⟨z, PySem.W.cellsFrom_some _ _ _ (.inl z)⟩
  subst ee
  have I0 : Inv (cxOf CX0 P w K mg base N qual (defScope st) f cdv A outer s H E) [] (start N vs) H s1 := inv_start S hr.hd e0 (len _ _ _ _ hs) rv x
  refine ⟨nl.keeps x.toInCall.keep, codeAny_func (wpAny_mono (ht.nox.run [] s1 (start N vs) H _ I0 q) (fun fl s' z => ?_) fun e s' z => z)⟩
  cases fl with
  | ret u => exact let ⟨v, _, H', J, rv', q'⟩ := z; ⟨v, H', J.os, J.bare, J.base, J.hok, rv', q'⟩
  | next => exact let ⟨_, H', J, q'⟩ := z; ⟨.non, H', J.os, J.bare, J.base, J.hok, rfl, q'⟩
  | brk => exact False.elim (let ⟨_, _, _, q'⟩ := z; q')
  | cont => exact False.elim (let ⟨_, _, _, q'⟩ := z; q')
end
section
variable {X : Cx} {CX : CXT} {k : Nat} {f : Addr} {fd : FuncData} {ps : List Str} {sp : Sp} {dvs : List V} {ds : List Value} {E : XK} {x : Str} {p pos : Pos} {e : Expr} {es : List Expr} {t : TA}
theorem run_fnG {pins : List (Addr × Obj)} {σ : L2.St} {H : Hp} {s : Shared} {Q : VK} {us : List Value} {vs : List V} (F : FnG X.prog X.w X.K X.mg X.base CX k f fd ps sp) (hg : X.A.guards = some []) (hr : Room k X.A) (hb : Binds X.K fd ps ds) (hd : Vals dvs ds) (hx : Passes CX X E)
    (I : Inv X pins σ H s) (r : Vals vs us) (h : sp (vs ++ dvs) H Q E) : wpAny (model X.prog X.w) X.A (call (.ref f) us) (EP X pins σ Q) X.xe s := by
  have both : Vals (vs ++ dvs) (us ++ ds) := r.append hd
  have n1 : (us ++ ds).length = ps.length := both.length.symm.trans (F.len _ _ _ _ h)
  refine wpAny_call (codeAny_mono (F.run X.A X.stack s H ⟨us, []⟩ (us ++ ds) (vs ++ dvs) Q E hg hr I.env0 (hb s us I.kIn n1) both h) fun o s' ho => ?_)
  match o, ho with
  | .error e, ho => exact hx pins σ H s e s' I ho
  | .ok (.ret u), ho => exact I.after ho
theorem pe_callG (F : FnG X.prog X.w X.K X.mg X.base CX k f fd ps sp) (hgd : X.A.guards = some []) (hr : Room k X.A) (hg : Gl X x) (hm : X.mg x = some (.ref f)) (hk : PySem.W.keepIn X.K (.ref f) = true) (hb : Binds X.K fd ps ds) (hd : Vals dvs ds) (hx : Passes CX X E)
    (ha : PA X (e :: es) t) (hdb : (x == ("__debug__" : Str)) = false := by decide) (he : starEach (e :: es) X.env = (false, eval e X.env) :: starEach es X.env := by rfl) (hpl : (backTo pos (starEach es X.env)).any (·.1) = false := by rfl) :
    PE X (.Call (.Name x p) (e :: es) [] pos) (tCall sp dvs E t) :=
  ⟨fun pins s σ H Q I h => wpAny_Call_Name_kw (ld_glob I hg hm (PySem.W.callWith_K (h₀ := X.base) I.ok.mod.kin hk (thn (ha.run pos pins s σ H _ I h) fun us s1 ⟨vs, H1, I1, r, q⟩ => ⟨I1.kIn, run_fnG F hgd hr hb hd hx I1 r q⟩) he hpl) hdb)⟩
end
/-! ### the text of a value -/
def rRepr (K : PySem.W.Frag) : List V → Hp → VK → Prop := fun xs H Q => ∃ (a : Addr) (d : PyData), xs = [.ref a] ∧ Dp K H (.ref a) d ∧ d.showable = true ∧ d.hasDict = false ∧ d.depth ≤ 64 ∧ d.shown.length ≤ sizeLine ∧ Q (.str d.shown) H
theorem call_repr {X : Cx} (hg : X.A.guards = some []) (hu : X.A.units + 66 < cLine) : CallR X (.builtin "repr") (rRepr X.K) := by
  intro pins s σ H xs us Q I r h
  obtain ⟨a, d, rfl, hd, h1, h2, h3, h4, q⟩ := h
  obtain ⟨u, rfl, rx⟩ := vals1 r
  obtain ⟨as, rd⟩ := Dp.reads I d _ _ hd rx
  obtain rfl : u = Value.ref a := rx
  exact repr_of_reads' rd h1 (PyData.noDict_hsm h2) hg (by omega) (fun _ _ e => e) (fun h' u tk hk => ⟨.str d.shown, H, I.kept (t' := tk) hk, ⟨_, rfl⟩, q⟩) h4
end XV
set_option Elab.async false
set_option linter.all false
set_option maxRecDepth 100000
set_option maxHeartbeats 4000000
namespace XV
open PySem PySem.Spec PyProof.Rows L2 LamX
/-- what may be tracked ahead of the law: the script's list, the empty tables of cs -/
def Ahead (cs : List (Addr × Addr)) (a : Addr) (vs : List Value) (h : Heap) (H : Hp) : Prop := ∀ b o, H b = some o →
  (b = a ∧ (∃ xs, o = .frz { cls := .type "list", data := .seq vs.toArray } (.lst xs)) ∧ h.get? b = some { cls := .type "list", data := .seq vs.toArray }) ∨
    ((∃ q ∈ cs, b = q.2 ∧ PySem.W.CodeHd h q.1 b) ∧ o = .tbl #[] ∧ h.get? b = some { cls := .none, data := .fields #[] })
section
variable {P : Program} {w : World} {K : PySem.W.Frag} {mg mb : Str → Option Value} {k : Nat} {fa a : Addr} {cs : List (Addr × Addr)} {fd : FuncData} {x : Str} {sp : Sp} {s₁ : Shared} {vs : List Value} {ns : List Int} {H : Hp}
theorem ahead_run (KX : K.In s₁.heap) (hns : s₁.heap.Ns mainGlobals mg) (hb : s₁.heap.Ns builtinsNs mb) (hbb : ∀ x : Str, x ≠ "__name__" → mb x = bootBuiltins x) (hlim : s₁.heap.NoLimit) (hg : s₁.gens = #[])
    (C : ∀ p ∈ cs, PySem.W.CodeHd s₁.heap p.1 p.2) (hbm : ∃ (bm : Addr) (ob : Obj), mg "__builtins__" = some (.ref bm) ∧ bm ≠ builtinsNs ∧ s₁.heap.get? bm = some ob ∧ ob.cls = .type "module" ∧ ob.dict = some builtinsNs ∧ ob.data = .plain)
    (hT : ∀ p ∈ cs, s₁.heap.get? p.2 = some { cls := .none, data := .fields #[] }) (hr : Room k callerA)
    (F : ∀ base : Heap, K.In base → base.Ns mainGlobals mg → (∀ p ∈ cs, TabB base mg p.1 p.2) → FnG P w K mg base CX0 k fa fd [x] sp) (hbind : ∀ (s : Shared) (u : Value), BindsTo s fd ⟨[u], []⟩ [(x, u)])
    (ah : Ahead cs a vs s₁.heap H) (hok : HOk P w H s₁.heap) (nK : ∀ b, H b ≠ none → K.lookup b = none) (hsp : sp [.ref a] H (fun v _ => v = .bl true) E0) :
    codeAny (model P w) callerA (.call (.ref fa) ⟨[.ref a], []⟩) (fun r s' => r = .ok (.ret (.bool true)) ∧ OldK s₁.heap s'.heap ∧ s'.os = s₁.os ∧ AllBare s'.gens) s₁ := by
  -- the base: all but what is tracked
  have up : ∀ {b : Addr} {o : Obj}, s₁.heap.get? b = some o → H b = none → (hidT s₁.heap H).get? b = some o := fun e n => hidT_get e n
  have un_ : ∀ {b : Addr} {o : Obj}, s₁.heap.get? b = some o → (∀ vs n, o.data ≠ .seq vs n) → o.data ≠ .fields #[] → H b = none := fun {b o} e n1 n2 => by
    cases q : H b with
    | none => rfl
    | some u =>
      exfalso
      rcases ah b u q with ⟨_, _, z⟩ | ⟨_, _, z⟩
      · rw [e] at z
        cases z
        exact n1 _ _ rfl
      · rw [e] at z
        cases z
        exact n2 rfl
  have dct : ∀ {b : Addr} {m : Str → Option Value}, s₁.heap.Ns b m → (hidT s₁.heap H).Ns b m := fun ⟨o, es, ep, e, hd, r⟩ => ⟨o, es, ep, up e (un_ e (fun _ _ z => by rw [hd] at z; cases z) fun z => by rw [hd] at z; cases z), hd, r⟩
  have inB : K.In (hidT s₁.heap H) := fun b o e => up (KX b o e) (by
    cases q : H b with
    | none => rfl
    | some u =>
      have z := nK b (by rw [q]; simp)
      rw [e] at z
      cases z)
  have tabB : ∀ p ∈ cs, TabB (hidT s₁.heap H) mg p.1 p.2 := fun p hp => by
    have ht := hT p hp
    obtain ⟨o, us, i1, i2, i3, i4, i5, i6, i7, e1, r1, r2, r3, rest⟩ := C p hp
    obtain ⟨bm, ob, b1, b2, b3, b4, b5, b6⟩ := hbm
    obtain ⟨og, es, ep, eg, hd, _⟩ := hns
    refine ⟨⟨o, us, i1, i2, i3, i4, i5, i6, i7, up e1 (un_ e1 (fun _ _ z => by rw [r2] at z; cases z) fun z => by rw [r2] at z; cases z; simp at r3), r1, r2, r3, rest⟩,
      ⟨bm, ob, b1, b2, (fun z => by rw [z, eg] at b3; cases b3; rw [hd] at b6; cases b6), (fun z => by rw [z, ht] at b3; cases b3; cases b6), up b3 (un_ b3 (fun _ _ z => by rw [b6] at z; cases z) (fun z => by rw [b6] at z; cases z)), b4, b5, b6⟩,
      fun z => by rw [z, ht] at eg; cases eg; cases hd⟩
  have modB : L2.Mod K mg (hidT s₁.heap H) := ⟨inB, dct hns, ⟨mb, dct hb, hbb⟩, let ⟨mc, h1, h2⟩ := hlim; ⟨mc, dct h1, h2⟩⟩
  have env : Env0 P w K mg (hidT s₁.heap H) callerA [] s₁ H := ⟨rfl, modB, fun b o => of_hidT, Nat.le_of_eq (hidT_size _ _), trivial, fun b z => absurd z (by unfold frs; simp), hok, .of_eq hg⟩
  refine codeAny_mono ((F _ inB (dct hns) tabB).run callerA [] s₁ H ⟨[.ref a], []⟩ [.ref a] [.ref a] _ _ rfl hr env (hbind s₁ (.ref a)) (.cons rfl .nil) hsp) fun r s' h => ?_
  match r, h with
  | .error e, h => exact (show False from h).elim
  | .ok (.ret u), ⟨v, H', os, bare, un, hok', rv, ev⟩ =>
    subst ev
    obtain rfl : u = Value.bool true := rv
    have kept : ∀ b o, s₁.heap.get? b = some o → (∀ q ∈ cs, b = q.2 → H b ≠ some (.tbl #[])) → s'.heap.get? b = some o := fun b o e nb => by
      cases q : H b with
      | none => exact un.keep b o e q (by unfold frs; simp) (by simp)
      | some u =>
        rcases ah b u q with ⟨rfl, ⟨xs, rfl⟩, z⟩ | ⟨⟨p, hp, rfl, _⟩, rfl, _⟩
        · have z2 := un.frzs _ _ _ q
          obtain ⟨e2, _⟩ := hok' _ _ z2
          rw [e] at z
          cases z
          exact e2
        · exact (nb p hp rfl q).elim
    refine ⟨rfl, ⟨fun b o e => ?_, fun b o e => ?_⟩, os, bare⟩
    · by_cases hb : ∃ q ∈ cs, b = q.2 ∧ H b = some (.tbl #[])
      · obtain ⟨p, hp, rfl, q⟩ := hb
        obtain ⟨more, z⟩ := un.tbls _ _ q
        have z2 := hok' _ _ z
        have ht := hT p hp
        rw [ht] at e
        cases e
        exact .inr (.inl ⟨((C p hp).tab ht).isCodeTable, rfl, #[], #[] ++ more, rfl, by rw [Array.empty_append]; exact z2⟩)
      · exact .inl (kept b o e fun p hp eb z => hb ⟨p, hp, eb, z⟩)
    · by_cases hb : ∃ q ∈ cs, b = q.2 ∧ H b = some (.tbl #[])
      · obtain ⟨p, hp, rfl, q⟩ := hb
        obtain ⟨more, z⟩ := un.tbls _ _ q
        exact ⟨_, hok' _ _ z⟩
      · exact ⟨o, kept b o e fun p hp eb z => hb ⟨p, hp, eb, z⟩⟩
/-- the call of the law -/
theorem law_callY (KX : K.In s₁.heap) (hns : s₁.heap.Ns mainGlobals mg) (hb : s₁.heap.Ns builtinsNs mb) (hbb : ∀ x : Str, x ≠ "__name__" → mb x = bootBuiltins x) (hlim : s₁.heap.NoLimit) (hg : s₁.gens = #[])
    (C : ∀ p ∈ cs, PySem.W.CodeHd s₁.heap p.1 p.2) (hbm : ∃ (bm : Addr) (ob : Obj), mg "__builtins__" = some (.ref bm) ∧ bm ≠ builtinsNs ∧ s₁.heap.get? bm = some ob ∧ ob.cls = .type "module" ∧ ob.dict = some builtinsNs ∧ ob.data = .plain)
    (hT : ∀ p ∈ cs, s₁.heap.get? p.2 = some { cls := .none, data := .fields #[] }) (nT : ∀ p ∈ cs, K.lookup p.2 = none) (hr : Room k callerA)
    (F : ∀ base : Heap, K.In base → base.Ns mainGlobals mg → (∀ p ∈ cs, TabB base mg p.1 p.2) → FnG P w K mg base CX0 k fa fd [x] sp) (hbind : ∀ (s : Shared) (u : Value), BindsTo s fd ⟨[u], []⟩ [(x, u)])
    (ha : s₁.heap.get? a = some { cls := .type "list", data := .seq vs.toArray }) (hi : IntsAre vs ns) (hl : ns.length ≤ sizeLine)
    (hsp : ∀ H : Hp, (∀ p ∈ cs, H p.2 = some (.tbl #[])) → SqL K H a (ns.map V.int) → sp [.ref a] H (fun v _ => v = .bl true) E0) :
    codeAny (model P w) callerA (.call (.ref fa) ⟨[.ref a], []⟩) (fun r s' => r = .ok (.ret (.bool true)) ∧ OldK s₁.heap s'.heap ∧ s'.os = s₁.os ∧ AllBare s'.gens) s₁ := by
  have rv := vals_ints hi
  have lv := hi.length
  have aT : a ∉ cs.map (·.2) := fun z => by
    obtain ⟨p, hp, e⟩ := List.mem_map.mp z
    have q := hT p hp
    rw [e, ha] at q
    have q2 : Data.seq vs.toArray _ = Data.fields #[] := congrArg Obj.data (Option.some.inj q)
    cases q2
  have tab : ∀ {b : Addr}, b ∈ cs.map (·.2) → (∃ q ∈ cs, b = q.2 ∧ PySem.W.CodeHd s₁.heap q.1 b) ∧ s₁.heap.get? b = some { cls := .none, data := .fields #[] } ∧ K.lookup b = none := fun hb => by
    obtain ⟨p, hp, rfl⟩ := List.mem_map.mp hb
    exact ⟨⟨p, hp, rfl, C p hp⟩, hT p hp, nT p hp⟩
  have inT : ∀ p ∈ cs, p.2 ∈ cs.map (·.2) := fun p hp => List.mem_map.mpr ⟨p, hp, rfl⟩
  cases hk : K.lookup a with
  | some o =>
    have e := KX a o hk
    rw [ha] at e
    cases e
    have at_ : ∀ b u, (if b ∈ cs.map (·.2) then some (HO.tbl #[]) else none) = some u → b ∈ cs.map (·.2) ∧ u = .tbl #[] := fun b u z => by
      by_cases hb : b ∈ cs.map (·.2)
      · rw [if_pos hb] at z
        exact ⟨hb, (Option.some.inj z).symm⟩
      · rw [if_neg hb] at z
        cases z
    refine ahead_run (H := fun b => if b ∈ cs.map (·.2) then some (.tbl #[]) else none) (vs := vs) KX hns hb hbb hlim hg C hbm hT hr F hbind (fun b u z => ?_) (fun b u z => ?_) (fun b z => ?_) (hsp _ (fun p hp => if_pos (inT p hp)) (.inr ⟨_, vs.toArray, _, hk, rfl, rfl, rfl, by rw [List.size_toArray, lv]; exact hl, by simpa using rv⟩))
    · obtain ⟨hb, rfl⟩ := at_ b u z
      exact .inr ⟨(tab hb).1, rfl, (tab hb).2.1⟩
    · obtain ⟨hb, rfl⟩ := at_ b u z
      exact (tab hb).2.1
    · cases q : (if b ∈ cs.map (·.2) then some (HO.tbl #[]) else none) with
      | none => exact absurd q z
      | some u => exact (tab (at_ b u q).1).2.2
  | none =>
    have at_ : ∀ b u, (if b = a then some (HO.frz { cls := .type "list", data := .seq vs.toArray } (.lst (ns.map V.int))) else if b ∈ cs.map (·.2) then some (.tbl #[]) else none) = some u →
        (b = a ∧ u = .frz { cls := .type "list", data := .seq vs.toArray } (.lst (ns.map V.int))) ∨ b ∈ cs.map (·.2) ∧ u = .tbl #[] := fun b u z => by
      by_cases h1 : b = a
      · rw [if_pos h1] at z
        exact .inl ⟨h1, (Option.some.inj z).symm⟩
      · rw [if_neg h1] at z
        by_cases hb : b ∈ cs.map (·.2)
        · rw [if_pos hb] at z
          exact .inr ⟨hb, (Option.some.inj z).symm⟩
        · rw [if_neg hb] at z
          cases z
    refine ahead_run (H := fun b => if b = a then some (.frz { cls := .type "list", data := .seq vs.toArray } (.lst (ns.map V.int))) else if b ∈ cs.map (·.2) then some (.tbl #[]) else none) (vs := vs) KX hns hb hbb hlim hg C hbm hT hr F hbind (fun b u z => ?_) (fun b u z => ?_) (fun b z => ?_)
      (hsp _ (fun p hp => by rw [if_neg fun e => aT (by rw [← e]; exact inT p hp)]; exact if_pos (inT p hp)) (.inl (.inr ⟨{ cls := .type "list", data := .seq vs.toArray }, if_pos rfl⟩)))
    · rcases at_ b u z with ⟨rfl, rfl⟩ | ⟨hb, rfl⟩
      · exact .inl ⟨rfl, ⟨_, rfl⟩, ha⟩
      · exact .inr ⟨(tab hb).1, rfl, (tab hb).2.1⟩
    · rcases at_ b u z with ⟨rfl, rfl⟩ | ⟨hb, rfl⟩
      · exact ⟨ha, by rw [List.length_map]; exact hl, vs, _, rv, ha⟩
      · exact (tab hb).2.1
    · cases q : (if b = a then some (HO.frz { cls := .type "list", data := .seq vs.toArray } (.lst (ns.map V.int))) else if b ∈ cs.map (·.2) then some (.tbl #[]) else none) with
      | none => exact absurd q z
      | some u =>
        rcases at_ b u q with ⟨rfl, _⟩ | ⟨hb, _⟩
        · exact hk
        · exact (tab hb).2.2
end
/-- what is known of the law's promise behind the top -/
def LawAtG (l : PySem.W.OpenLaw) (w : World) (K : PySem.W.Frag) (k n : Nat) (x : Str) (mg : Str → Option Value) (fa : Addr) (h : Heap) : Prop :=
  ∃ (fd : FuncData) (cs : List (Addr × Addr)) (sp : Sp), (∀ p ∈ cs, h.get? p.2 = some { cls := .none, data := .fields #[] }) ∧ (∀ p ∈ cs, K.lookup p.2 = none) ∧ (∀ p ∈ cs, PySem.W.CodeHd h p.1 p.2) ∧ (∀ (s : Shared) (u : Value), BindsTo s fd ⟨[u], []⟩ [(x, u)]) ∧
    (∀ (H : Hp) (a : Addr) (ns : List Int), ns.length ≤ n → (∀ z ∈ ns, Builtin.Int.intBits z ≤ 1048576) → (∀ p ∈ cs, H p.2 = some (.tbl #[])) → SqL K H a (ns.map V.int) → sp [.ref a] H (fun v _ => v = .bl true) E0) ∧
    ∀ base : Heap, K.In base → base.Ns mainGlobals mg → (∀ p ∈ cs, TabB base mg p.1 p.2) → FnG l.prog w K mg base CX0 k fa fd [x] sp
/-- the table of code objects of the def y of the top: empty -/
def TabOf (h : Heap) (mg : Str → Option Value) (y : Str) : Prop := ∃ (fb : Addr) (o : Obj) (fd : FuncData) (c P : Addr), mg y = some (.ref fb) ∧ h.get? fb = some o ∧ o.data = .func fd ∧ fd.code = .ref c ∧ PySem.W.CodeHd h c P ∧ h.get? P = some { cls := .none, data := .fields #[] }
theorem no_tab {K : PySem.W.Frag} {h : Heap} {P : Addr} (X : K.In h) (n : PySem.W.noTabs K = true) (e : h.get? P = some { cls := .none, data := .fields #[] }) : K.lookup P = none := by
  cases q : K.lookup P with
  | none => rfl
  | some o =>
    have e2 := X _ _ q
    rw [e] at e2
    cases e2
    have h2 := List.all_eq_true.mp n (P, _) (PySem.W.mem_of_lookupK q)
    exact absurd (show false = true from h2) Bool.false_ne_true
/-- the end; ys: the defs that make lambdas -/
theorem walk_G {l : PySem.W.OpenLaw} {n k : Nat} {q : Program} {loose : List Str} {XP : (Str → Option Value) → Heap → Prop} {YP : World → Heap → Prop} {d : DefRec} {K : Params → PySem.W.Frag} {x : Str} (ys : List Str)
    (hn : l.most = some n) (hn2 : n ≤ sizeLine) (hdf : d.params.defaults = []) (hr : Room k callerA) (hrec : (ys.all fun y => (recsOf q).any fun e => e.name == y) = true) (hY : ∀ (w : World) (h : Heap), YP w h → (K w.params).In h)
    (F : ∀ (w : World) (mg : Str → Option Value) (fa : Addr) (h : Heap), (K w.params).In h → h.Ns mainGlobals mg → mg d.name = some (.ref fa) → (∀ y ∈ ys, TabOf h mg y) → LawAtG l w (K w.params) k n x mg fa h) :
    PySem.W.WalkO q loose XP YP l.row.toRowW d [] (fun f vs => PySem.call f vs) := by
  refine Att.attach_callB hn hdf fun w s₀ s₁ mg mb fa o pm cd doc a vs ns G Y ho hd hcd hmg hobj hints hlen hbits hg => ?_
  have KX := hY w _ Y
  obtain ⟨fd, cs, sp, hT, nT, C, hb, hsp, hF⟩ := F w mg fa _ KX G.T.g hmg fun y hy => by
    obtain ⟨dL, hm, e⟩ := List.any_eq_true.mp (List.all_eq_true.mp hrec y hy)
    obtain ⟨a', o', fd', c', P', h1, h2, h3, h4, h5, h6⟩ := G.T.tab dL hm
    rw [show dL.name = y from beq_iff_eq.mp e] at h1
    exact ⟨a', o', fd', c', P', h1, h2, h3, h4, PySem.W.CodeHd.of h5 h6, h6.2⟩
  exact law_callY KX G.T.g G.T.b G.T.builtins G.T.nolimit hg C G.T.bmain hT nT hr hF hb hobj hints (Nat.le_trans hlen hn2) fun H hH hS => hsp H a ns hlen hbits hH hS
end XV
set_option Elab.async false
set_option linter.all false
set_option maxRecDepth 100000
set_option maxHeartbeats 4000000
/-! list comprehensions with any number of for's -/
namespace XV
open PySem PySem.Spec PyProof.Rows L2
abbrev TB := Addr → L2.St → Hp → (Hp → Prop) → Prop
/-- what stands behind the tests of a clause reaches what is wanted; the slots of vi may be lost -/
def RunsTo (Y : Cx) (run : Sem Fin → Sem Fin) (tb : L2.St → Hp → (Hp → Prop) → Prop) (vi : List Nat) : Prop := ∀ (pins : List (Addr × Obj)) (s : Shared) (σ : L2.St) (H : Hp) (N : Hp → Prop) (k : Sem Fin) (Qf : Fin → Shared → Prop) (E : Value → Shared → Prop), Inv Y pins σ H s → tb σ H N →
  (∀ (s' : Shared) (σ' : L2.St) (H' : Hp), Inv Y pins σ' H' s' → σ'.length = σ.length → (∀ (j : Nat) v, j ∉ vi → σ[j]? = some (some v) → σ'[j]? = some (some v)) → N H' → wpAny (model Y.prog Y.w) Y.A k Qf E s') → wpAny (model Y.prog Y.w) Y.A (run k) Qf E s
/-- the walk of one clause -/
def tWalk (g : TG) (tt : TT) (tb : L2.St → Hp → (Hp → Prop) → Prop) (vs : List Nat) (σ : L2.St) (J : It) (H : Hp) (Nx : Hp → Prop) : Prop := ∃ W : Nat → Nat → Hp → Prop, (∃ m, W 0 m H) ∧ ∀ i m H, W i m H →
  (J.stop i H ∧ Nx H) ∨ (J.go i H ∧ ∃ N : Hp → Prop, (∀ H', N H' → ∃ m', m' < m ∧ W (i + 1) m' H') ∧ ∀ x H', J.yld i H x H' → g x (wipe σ vs) H' fun σ2 H2 => wipe σ2 vs = wipe σ vs ∧ tt σ2 H2 fun b H3 => if b = true then tb σ2 H3 N else N H3)
/-- a clause's loop, its turn written out -/
def TurnIs (c : Expr) (j : Nat) (p : Pos) (tg : Expr) (ifs : List Expr) (env : Env) (acc : Value) (run : Sem Fin → Sem Fin) : Prop := ∀ it : Value, compTurn c j it acc env = (do
  standAt p
  match ← pyNext it with
  | none => pure (.done .next)
  | some v =>
    letOwnedTupleGo tg it v
    assign tg env v
    let ok ← (forIn ifs true fun c r => if r = true then do let ok ← isTrue c env (eval c env); pure (ForInStep.yield ok) else pure (ForInStep.yield r) : Sem Bool)
    if ok = true then run (again (.compLoop c j it acc env))
    else again (.compLoop c j it acc env))
theorem thnX {Y : Cx} {α : Type} {t : Sem α} {Q Q' : α → Shared → Prop} {E : Value → Shared → Prop} {s : Shared} (hx : Y.xe = fun _ _ => False) (h : wpAny (model Y.prog Y.w) Y.A t Q Y.xe s) (k : ∀ a s, Q a s → Q' a s) : wpAny (model Y.prog Y.w) Y.A t Q' E s := by
  rw [hx] at h
  exact thnF h k
theorem loop_c {Y : Cx} (hc : Y.calm = true) (hx : Y.xe = fun _ _ => False) {elt tg : Expr} {gens : List Comprehension} {scope : Scope} {pos : Pos} {ifs : List Expr} {j : Nat} {p : Pos} {acc : Value} {run : Sem Fin → Sem Fin} {g : TG} {tt : TT} {tb : L2.St → Hp → (Hp → Prop) → Prop} {vs vi : List Nat} {J : It} {fp : List Addr} {it : Addr} {tn : Nat → Heap → Prop}
    (heq : TurnIs (.ListComp elt gens scope pos) j p tg ifs Y.env acc run) (T : Turn Y.prog Y.w Y.K tg J fp it tn) (pg : PG Y tg g) (pt : PTs Y ifs tt) (rb : RunsTo Y run tb vi) (hv : ∀ i ∈ vi, i ∈ vs)
    {pins : List (Addr × Obj)} {σ : L2.St} {H : Hp} {s : Shared} {Nx : Hp → Prop} (I : Inv Y pins (wipe σ vs) H s) (st : tn 0 s.heap) (n0 : ∀ b ∈ fp, H b = none)
    (fo : ∀ (H' : Hp) (σ' : L2.St) (s' : Shared), Inv Y pins σ' H' s' → (∀ b ∈ fp, H' b = none) → ∀ b ∈ fp, FpOk Y pins H' b) (h : tWalk g tt tb vs σ J H Nx) :
    codeAny (model Y.prog Y.w) Y.A (.compLoop (.ListComp elt gens scope pos) j (.ref it) acc Y.env) (fun r s' => match r with
      | .ok _ => ∃ H', Inv Y pins (wipe σ vs) H' s' ∧ Nx H'
      | .error _ => False) s := by
  obtain ⟨W, ⟨m0, w0⟩, turn⟩ := h
  refine codeAny_loop rfl (fun n s' => ∃ i H', Inv Y pins (wipe σ vs) H' s' ∧ tn i s'.heap ∧ (∀ b ∈ fp, H' b = none) ∧ W i n H') (fun n s1 hI => ?_) m0 ⟨0, H, I, st, n0, w0⟩
  obtain ⟨i, H1, I1, st1, n1, w1⟩ := hI
  show wpAny _ Y.A ((compTurn (.ListComp elt gens scope pos) j (.ref it) acc Y.env).onRaise (fun x => do noteFrame x Y.env; theTreesLotGoes x)) _ _ s1
  refine wpAny_noted ?_
  rw [heq]
  refine wpAny_bind (wpAny_standAt (wpAny_bind ?_))
  rcases turn i n H1 w1 with ⟨stop, hn⟩ | ⟨go, N, hN, step⟩
  · refine thnF (T.done Y rfl rfl rfl hc i pins s1 _ H1 (fun _ _ => False) I1 (fo _ _ _ I1 n1) st1 stop) fun r s2 ⟨er, I2⟩ => ?_
    subst er
    exact wpAny_pure ⟨H1, I2, hn⟩
  · refine thnF (T.item Y rfl rfl rfl hc i pins s1 _ H1 (fun _ _ => False) I1 (fo _ _ _ I1 n1) st1 go) fun r s2 ⟨u, er, h2⟩ => ?_
    subst er
    refine wpAny_bind (thnF h2 fun _ s3 ⟨x, H3, I3, r3, y3, st3, n3⟩ => ?_)
    have I3' := I3.pinned (fo _ _ _ I3 n3) (T.obj _ _ st3)
    refine wpAny_bind (thnX hx (pg.run _ s3 _ H3 x u _ I3' r3 (step x H3 y3)) fun _ s4 ⟨σ4, H4, I4, hw, q4⟩ => ?_)
    refine wpAny_bind (thnX hx (pt.run _ s4 σ4 H4 _ I4 q4) fun b s5 ⟨H5, I5, q5⟩ => ?_)
    have fin : ∀ {σ' : L2.St} {s' : Shared} {H' : Hp}, Inv Y (pins ++ pinsAt fp s3.heap) σ' H' s' → σ'.length = σ4.length → (∀ (k : Nat) v, k ∉ vi → σ4[k]? = some (some v) → σ'[k]? = some (some v)) → N H' →
        ∃ m, m < n ∧ ∃ i H', Inv Y pins (wipe σ vs) H' s' ∧ tn i s'.heap ∧ (∀ b ∈ fp, H' b = none) ∧ W i m H' := fun {σ' s' H'} I' hl hk nx => by
      obtain ⟨m', lt, w'⟩ := hN H' nx
      have here : ∀ b ∈ fp, ∀ o, s3.heap.get? b = some o → s'.heap.get? b = some o ∧ H' b = none := fun b hb o e =>
        let z := I'.pin (b, o) (List.mem_append_right _ (List.mem_append_right _ (mem_pinsAt hb e)))
        ⟨z.1, z.2.1⟩
      refine ⟨m', lt, i + 1, H', I'.unpinned.weak (by rw [hl, ← hw, wipe_length]) (fun k v e => ?_), T.keep _ _ _ st3 fun b hb o e => (here b hb o e).1, fun b hb => ?_, w'⟩
      · rw [← hw] at e
        obtain ⟨e1, e2⟩ := wipe_some e
        exact hk k v (fun z => e2 (hv k z)) e1
      · obtain ⟨o, e, _⟩ := T.obj _ _ st3 b hb
        exact (here b hb o e).2
    cases b with
    | false =>
      rw [if_neg Bool.false_ne_true] at q5
      exact wpAny_pure ⟨rfl, fin I5 rfl (fun _ _ _ e => e) q5⟩
    | true =>
      rw [if_pos rfl] at q5
      exact rb _ s5 σ4 H5 N _ _ _ I5 q5 fun s6 σ6 H6 I6 hl hk nx => wpAny_pure ⟨rfl, fin I6 hl hk nx⟩
/-- the last clause: the element is appended -/
def tApp (te : TE) : TB := fun D σ H N => te σ H fun y H7 => ∃ acc, H7 D = some (.lst acc) ∧ acc.length < sizeLine ∧ N (upd H7 D (.lst (acc ++ [y])))
def runApp (elt : Expr) (env : Env) (acc : Value) (k : Sem Fin) : Sem Fin := do
  (do let _ ← call (.builtin "list.append") [acc, ← eval elt env])
  k
theorem runs_app {Y : Cx} (hx : Y.xe = fun _ _ => False) {elt : Expr} {te : TE} {D : Addr} (he : PE Y elt te) : RunsTo Y (runApp elt Y.env (.ref D)) (tApp te D) [] := by
  intro pins s σ H N k Qf E I h fin
  refine wpAny_bind (wpAny_bind (thnX hx (he.run pins s σ H _ I h) fun v s1 ⟨y, H1, I1, r1, acc, hD, hz, nx⟩ => wpAny_bind ?_))
  exact app_ok I1 hD hz r1 fun s2 I2 => wpAny_pure (fin s2 σ _ I2 rfl (fun _ _ _ e => e) nx)
/-- a further clause -/
def tNextFor (wi : TI) (g : TG) (tt : TT) (tb : TB) (vs : List Nat) : TB := fun D σ H N => wi σ H fun J H1 => tWalk g tt (tb D) vs σ J H1 N
def runFor (c iter : Expr) (j : Nat) (env : Env) (acc : Value) (k : Sem Fin) : Sem Fin := do
  let x ← eval iter env
  standAt iter.pos
  let x ← foldedSetIterable iter env x
  let _ ← runOwn (.compStart c j (← holding [x] (pyIter x)) acc env) env
  k
/-- the start of a further clause, told by its loop -/
def StartIs (c : Expr) (j : Nat) : Prop := ∀ (prog : Program) (w : World) (A : Around) (R : Result → Shared → Prop) (s : Shared) (it acc : Value) (env : Env), codeAny (model prog w) A (.compLoop c j it acc env) R s →
  wpAny (model prog w) A (pyIter it) (fun it' s' => codeAny (model prog w) A (.compLoop c j it' acc env) R s') (notedBy (model prog w) A env fun x s' => R (.error x) s') s → codeAny (model prog w) A (.compStart c j it acc env) R s
theorem runs_for {Y : Cx} (hc : Y.calm = true) (hx : Y.xe = fun _ _ => False) {elt iter tg : Expr} {gens : List Comprehension} {scope : Scope} {pos : Pos} {ifs : List Expr} {j : Nat} {p : Pos} {D : Addr} {run : Sem Fin → Sem Fin} {wi : TI} {g : TG} {tt : TT} {tb : TB} {vs vi : List Nat}
    (heq : TurnIs (.ListComp elt gens scope pos) j p tg ifs Y.env (.ref D) run) (hst : StartIs (.ListComp elt gens scope pos) j) (hi : PI Y tg iter wi) (pg : PG Y tg g) (pt : PTs Y ifs tt) (rb : RunsTo Y run (tb D) vi) (hv : ∀ i ∈ vi, i ∈ vs) (hs : ∀ x, foldedSetIterable iter Y.env x = pure x) :
    RunsTo Y (runFor (.ListComp elt gens scope pos) iter j Y.env (.ref D)) (tNextFor wi g tt tb vs D) vs := by
  intro pins s σ H N k Qf E I h fin
  refine wpAny_bind (thnX hx (hi.run pins s σ H _ I h) fun v s1 h1 => ?_)
  refine wpAny_bind (wpAny_standAt (wpAny_bind (wpAny_of_eq (hs v) (wpAny_bind (wpAny_holding (thnX hx h1 fun itv s2 h2 => ?_))))))
  obtain ⟨it, fp, tn, J, H2, rfl, I2, T, st, f2, q⟩ := h2
  have lp := loop_c hc hx heq T pg pt rb hv (I2.weak (wipe_length _ _) fun k v e => (wipe_some e).1) st (fun b hb => (f2 b hb).1) (fun H' σ' s' I' hn b hb => ⟨hn b hb, (f2 b hb).2⟩) q
  refine wpAny_bind (wpAny_runOwn ?_)
  rw [Around.mark_none]
  refine codeAny_mono (hst _ _ _ _ _ _ _ _ lp (T.self Y.A 0 _ _ _ st lp)) fun r s3 hr => ?_
  cases r with
  | error e => exact False.elim hr
  | ok f =>
    obtain ⟨H3, I3, nx⟩ := hr
    have nxt := fin s3 _ H3 I3 (wipe_length _ _) (fun k v hk e => by rw [wipe_out hk]; exact e) nx
    first
      | exact wpAny_bind (wpAny_pure nxt)
      | exact nxt
end XV
set_option Elab.async false
set_option linter.all false
set_option maxRecDepth 100000
set_option maxHeartbeats 4000000
namespace XV
open PySem PySem.Spec PyProof.Rows L2
section
variable {X : Cx}
/-- [elt for tg in iter .. rest]: what the further clauses do is told by tb -/
def tLcN (wi : TI) (g : TG) (tt : TT) (tb : TB) (vs : List Nat) : TE := fun σ H Q => wi σ H fun J H1 => ∀ D, H1 D = none → tWalk g tt (tb D) vs σ J (upd H1 D (.lst [])) fun H' => Q (.ref D) H'
theorem pe_lcN {elt tg iter : Expr} {ifs : List Expr} {rest : List Comprehension} {scope : Scope} {own : List (Str × Nat)} {vi : List Nat} {pos p : Pos} {run : Env → Value → Sem Fin → Sem Fin} {wi : TI} {g : TG} {tt : TT} {tb : TB}
    (hc : X.calm = true) (hN : X.N.Nodup) (hi : PI X tg iter wi) (ok : BlkOk X.N X.env.scope scope own) (hv : ∀ i ∈ vi, i ∈ own.map (·.2))
    (hg : ∀ (s : Shared) (H : Hp) (C : Addr) (cl : List (Str × Addr)) (fp : List Addr), PG (X.blk s H scope (compEnvC scope cl C X.env) fp) tg g) (ht : ∀ (s : Shared) (H : Hp) (C : Addr) (cl : List (Str × Addr)) (fp : List Addr), PTs (X.blk s H scope (compEnvC scope cl C X.env) fp) ifs tt)
    (hb : ∀ (s : Shared) (H : Hp) (C : Addr) (cl : List (Str × Addr)) (fp : List Addr) (D : Addr), RunsTo (X.blk s H scope (compEnvC scope cl C X.env) fp) (run (compEnvC scope cl C X.env) (.ref D)) (tb D) vi)
    (heq : ∀ (env : Env) (acc : Value), TurnIs (.ListComp elt (⟨tg, iter, ifs, 0⟩ :: rest) scope pos) 0 p tg ifs env acc (run env acc)) (hs : ∀ x, foldedSetIterable iter X.env x = pure x := by intro _; rfl) :
    PE X (.ListComp elt (⟨tg, iter, ifs, 0⟩ :: rest) scope pos) (tLcN wi g tt tb (own.map (·.2))) := by
  refine ⟨fun pins s σ H Q I h => ?_⟩
  rw [eval_ListComp]
  have cells : ∀ y ∈ scope.names, y.2 = .free → ∃ c, X.env.cells.lookup y.1 = some c := fun y hy e => (ok.free y hy e).elim (fun k => I.ok.has _ (.inl k)) fun k => I.ok.has _ (.inr k)
  refine wpAny_comprehension_free (use := none) rfl hs (closure_ok cells) ok.kind (fun y hy e => by rw [ok.uniq y hy, e]) (thn (hi.run pins s σ H _ I h) fun xv s1 hx => thn hx fun itv s2 h2 => ?_)
  obtain ⟨it, fp, tn, J, H2, rfl, I2, T, st2, f2, q⟩ := h2
  refine wpAny_newObj_type (newEnv_comp ?_) (by show 0 ≤ sizeLine; decide)
  -- the new list at D
  obtain ⟨D, eD⟩ : ∃ D, D = s2.heap.objs.size := ⟨_, rfl⟩
  have fD : H2 D = none := I2.hok.fresh (Nat.le_of_eq eD.symm)
  have walk := q D fD
  obtain ⟨s3, e3⟩ : ∃ s3 : Shared, s3 = { s2 with heap := s2.heap.push { cls := .type "list", data := .seq ([] : List Value).toArray } } := ⟨_, rfl⟩
  have h3 : s3.heap = s2.heap.push { cls := .type "list", data := .seq ([] : List Value).toArray } := by rw [e3]
  have I3 : Inv X pins σ (upd H2 D (.lst [])) s3 := by
    rw [e3]
    exact I2.laid (t' := s2.toks) (fun b o e => Heap.get?_push_of_some _ e) (Nat.le_of_eq eD.symm) ⟨Nat.zero_le _, [], 0, .nil, by rw [eD]; exact Heap.get?_push_size _ rfl⟩
  have f3 : ∀ b ∈ fp, FpOk X pins (upd H2 D (.lst [])) b ∧ b < s3.heap.objs.size := fun b hb => by
    obtain ⟨o, eo, _⟩ := T.obj _ _ st2 b hb
    have lt := Heap.lt_size eo
    have ne : b ≠ D := fun z => by rw [z, eD] at lt; exact Nat.lt_irrefl _ lt
    exact ⟨⟨by rw [upd_ne ne]; exact (f2 b hb).1, (f2 b hb).2⟩, by rw [h3, Heap.size_push]; exact Nat.lt_succ_of_lt lt⟩
  have st3 : tn 0 s3.heap := T.keep _ _ _ st2 fun b _ o e => by rw [h3]; exact Heap.get?_push_of_some _ e
  have I4 := block_start I3 ok hN f3
  rw [← eD]
  have key : ∀ ce : Env, ce = compEnvC scope (cellsFrom (s3.heap.objs.size + 1) scope.names (cloFrom X.env.cells scope.names [])) s3.heap.objs.size X.env → ∀ s4 : Shared, s4 = { s3 with heap := pushCells (s3.heap.push { cls := .type "dict", data := .dict #[] }) scope.names } →
      codeAny (model X.prog X.w) X.A (.compStart (.ListComp elt (⟨tg, iter, ifs, 0⟩ :: rest) scope pos) 0 (.ref it) (.ref D) ce) (compPost (model X.prog X.w) X.A X.xe none (EP X pins σ Q) (.ref D) s3.heap.objs.size) s4 := by
    intro ce ece s4 e4
    rw [← ece, ← e4] at I4
    have st4 : tn 0 s4.heap := T.keep _ _ _ st3 fun b _ o e => by rw [e4]; exact pushCells_keeps _ _ _ _ (Heap.get?_push_of_some _ e)
    have nfp : ∀ b ∈ fp, (upd H2 D (.lst [])) b = none := fun b hb => (f3 b hb).1.1
    have pg := hg s3 (upd H2 D (.lst [])) s3.heap.objs.size (cellsFrom (s3.heap.objs.size + 1) scope.names (cloFrom X.env.cells scope.names [])) fp
    have pt := ht s3 (upd H2 D (.lst [])) s3.heap.objs.size (cellsFrom (s3.heap.objs.size + 1) scope.names (cloFrom X.env.cells scope.names [])) fp
    have rb := hb s3 (upd H2 D (.lst [])) s3.heap.objs.size (cellsFrom (s3.heap.objs.size + 1) scope.names (cloFrom X.env.cells scope.names [])) fp D
    rw [← ece] at pg pt rb
    have lp := loop_c (Y := X.blk s3 (upd H2 D (.lst [])) scope ce fp) (it := it) hc rfl (heq ce (.ref D)) T pg pt rb hv I4 st4 nfp (fun H' σ' s' I' hn b hb =>
      ⟨hn b hb, (I'.ok.exf b hb).1, I'.ok.exfs b hb, .inl hb, fun x c e => (I'.ok.exf b hb).2 x c e, fun p hp => absurd (show p ∈ ([] : List (Addr × Obj)) ++ [] from hp) (by simp)⟩) walk
    have lp2 : codeAny (model X.prog X.w) X.A (.compLoop (.ListComp elt (⟨tg, iter, ifs, 0⟩ :: rest) scope pos) 0 (.ref it) (.ref D) ce) (compPost (model X.prog X.w) X.A X.xe none (EP X pins σ Q) (.ref D) s3.heap.objs.size) s4 := by
      refine codeAny_mono lp fun r s6 hr => ?_
      cases r with
      | error e => exact False.elim hr
      | ok f =>
        obtain ⟨H6, I6, nx⟩ := hr
        have I7 : Inv X pins σ H6 s6 := I3.call' (ch := fp) I6.os I6.base I6.hok I6.bare fun b hb => ⟨(f3 b hb).1.2.2.2.1, (f3 b hb).1.2.1, (f3 b hb).1.2.2.2.2.1, (f3 b hb).1.2.2.2.2.2⟩
        have cL : ce.locals = s3.heap.objs.size := by rw [ece]; rfl
        have nC : H6 s3.heap.objs.size = none := by
          rw [← cL]
          exact I6.free
        obtain ⟨m, hn, _⟩ := I6.loc
        have hn : s6.heap.Ns s3.heap.objs.size m := by
          rw [← cL]
          exact hn
        refine ⟨m, hn, fun h' sb => ?_⟩
        obtain ⟨f0, f1, f2', f3', f4, f5⟩ := I3.fpOk (Nat.le_refl _) nC
        exact ⟨.ref D, H6, I7.turned (t' := s6.toks) (fun b o hb e => (sb.2 b hb).trans e) f0 f1 f3' f4 f5, rfl, nx⟩
    exact codeAny_compStart_list lp2 (T.self X.A 0 _ _ _ st4 lp2)
  subst e3
  exact key _ rfl _ rfl
end
/-! ### three for's -/
section
variable {elt t0 i0 t1 i1 t2 i2 : Expr} {if0 if1 if2 : List Expr} {scope : Scope} {pos : Pos}
theorem turn3_0 (env : Env) (acc : Value) : TurnIs (.ListComp elt [⟨t0, i0, if0, 0⟩, ⟨t1, i1, if1, 0⟩, ⟨t2, i2, if2, 0⟩] scope pos) 0 i0.pos t0 if0 env acc (runFor (.ListComp elt [⟨t0, i0, if0, 0⟩, ⟨t1, i1, if1, 0⟩, ⟨t2, i2, if2, 0⟩] scope pos) i1 1 env acc) := fun it => by
  rfl
theorem turn3_1 (env : Env) (acc : Value) : TurnIs (.ListComp elt [⟨t0, i0, if0, 0⟩, ⟨t1, i1, if1, 0⟩, ⟨t2, i2, if2, 0⟩] scope pos) 1 i1.pos t1 if1 env acc (runFor (.ListComp elt [⟨t0, i0, if0, 0⟩, ⟨t1, i1, if1, 0⟩, ⟨t2, i2, if2, 0⟩] scope pos) i2 2 env acc) := fun it => by
  rfl
theorem turn3_2 (env : Env) (acc : Value) : TurnIs (.ListComp elt [⟨t0, i0, if0, 0⟩, ⟨t1, i1, if1, 0⟩, ⟨t2, i2, if2, 0⟩] scope pos) 2 i2.pos t2 if2 env acc (runApp elt env acc) := fun it => by
  rfl
theorem start3 {j : Nat} (hj : j = 1 ∨ j = 2) : StartIs (.ListComp elt [⟨t0, i0, if0, 0⟩, ⟨t1, i1, if1, 0⟩, ⟨t2, i2, if2, 0⟩] scope pos) j := by
  intro prog w A R s it acc env h0 h
  refine codeAny_of_tree ?_
  show wpAny _ _ ((compStart (.ListComp elt [⟨t0, i0, if0, 0⟩, ⟨t1, i1, if1, 0⟩, ⟨t2, i2, if2, 0⟩] scope pos) j it acc env).onRaise (fun x => do noteFrame x env; standAt theWindowsPlace)) _ _ s
  refine wpAny_notedAt ?_
  rcases hj with rfl | rfl <;>
  · unfold compStart
    show wpAny _ _ (ask >>= _) _ _ s
    refine wpAny_bind (wpAny_askSetting (wpAny_ite ?_))
    split
    · first
        | exact wpAny_bind (wpAny_pure (wpAny_pure ⟨rfl, h0⟩))
        | exact wpAny_pure ⟨rfl, h0⟩
    · refine wpAny_bind (wpAny_rule ?_)
      first
        | exact wpAny_bind (wpAny_standAt (wpAny_bind (wpAny_mono h (fun it' s' h' => wpAny_pure ⟨rfl, h'⟩) fun _ _ x => x)))
        | (show wpAny _ _ (standAt _ >>= _) _ _ s; exact wpAny_bind (wpAny_standAt (wpAny_bind (wpAny_mono h (fun it' s' h' => wpAny_pure ⟨rfl, h'⟩) fun _ _ x => x))))
end
section
variable {X : Cx}
/-- [elt for t0 in i0 .. for t1 in i1 .. for t2 in i2 ..]; v1: the slots of the second and the third target, v2: of the third -/
theorem pe_lc3 {elt t0 i0 t1 i1 t2 i2 : Expr} {if0 if1 if2 : List Expr} {scope : Scope} {own : List (Str × Nat)} {v1 v2 : List Nat} {pos : Pos} {w0 w1 w2 : TI} {g0 g1 g2 : TG} {c0 c1 c2 : TT} {te : TE}
    (hc : X.calm = true) (hN : X.N.Nodup) (hi : PI X t0 i0 w0) (ok : BlkOk X.N X.env.scope scope own) (hv1 : ∀ i ∈ v1, i ∈ own.map (·.2)) (hv2 : ∀ i ∈ v2, i ∈ v1)
    (h : ∀ (s : Shared) (H : Hp) (C : Addr) (cl : List (Str × Addr)) (fp : List Addr), PG (X.blk s H scope (compEnvC scope cl C X.env) fp) t0 g0 ∧ PTs (X.blk s H scope (compEnvC scope cl C X.env) fp) if0 c0 ∧ PI (X.blk s H scope (compEnvC scope cl C X.env) fp) t1 i1 w1 ∧ PG (X.blk s H scope (compEnvC scope cl C X.env) fp) t1 g1 ∧
      PTs (X.blk s H scope (compEnvC scope cl C X.env) fp) if1 c1 ∧ PI (X.blk s H scope (compEnvC scope cl C X.env) fp) t2 i2 w2 ∧ PG (X.blk s H scope (compEnvC scope cl C X.env) fp) t2 g2 ∧ PTs (X.blk s H scope (compEnvC scope cl C X.env) fp) if2 c2 ∧ PE (X.blk s H scope (compEnvC scope cl C X.env) fp) elt te)
    (hs : ∀ x, foldedSetIterable i0 X.env x = pure x := by intro _; rfl) (hs1 : ∀ env x, foldedSetIterable i1 env x = pure x := by intro _ _; rfl) (hs2 : ∀ env x, foldedSetIterable i2 env x = pure x := by intro _ _; rfl) :
    PE X (.ListComp elt [⟨t0, i0, if0, 0⟩, ⟨t1, i1, if1, 0⟩, ⟨t2, i2, if2, 0⟩] scope pos) (tLcN w0 g0 c0 (tNextFor w1 g1 c1 (tNextFor w2 g2 c2 (tApp te) v2) v1) (own.map (·.2))) :=
  pe_lcN (run := fun env acc => runFor (.ListComp elt [⟨t0, i0, if0, 0⟩, ⟨t1, i1, if1, 0⟩, ⟨t2, i2, if2, 0⟩] scope pos) i1 1 env acc) hc hN hi ok hv1 (fun s H C cl fp => (h s H C cl fp).1) (fun s H C cl fp => (h s H C cl fp).2.1) (fun s H C cl fp D => by
    obtain ⟨_, _, a1, b1, d1, a2, b2, d2, e⟩ := h s H C cl fp
    have inner : RunsTo (X.blk s H scope (compEnvC scope cl C X.env) fp) (runFor (.ListComp elt [⟨t0, i0, if0, 0⟩, ⟨t1, i1, if1, 0⟩, ⟨t2, i2, if2, 0⟩] scope pos) i2 2 (compEnvC scope cl C X.env) (.ref D)) (tNextFor w2 g2 c2 (tApp te) v2 D) v2 :=
      runs_for (Y := X.blk s H scope (compEnvC scope cl C X.env) fp) hc rfl (turn3_2 _ _) (start3 (.inr rfl)) a2 b2 d2 (runs_app rfl e) (fun _ z => absurd z List.not_mem_nil) (hs2 _)
    exact runs_for (Y := X.blk s H scope (compEnvC scope cl C X.env) fp) hc rfl (turn3_1 _ _) (start3 (.inl rfl)) a1 b1 d1 inner hv2 (hs1 _)) (fun env acc => turn3_0 env acc) hs
end
end XV
set_option Elab.async false
set_option linter.all false
set_option maxRecDepth 100000
set_option maxHeartbeats 4000000
/-! sorted of triples (word, int, int), the words "free" and "put" -/
namespace XV
open PySem PySem.Spec PyProof.Rows L2
abbrev K3 := Bool × Int × Int
def wd : Bool → Str
  | false => "free"
  | true => "put"
/-- ahead in the order of tuples -/
def bef (p q : K3) : Bool := decide ((p.1 = false ∧ q.1 = true) ∨ (p.1 = q.1 ∧ (p.2.1 < q.2.1 ∨ (p.2.1 = q.2.1 ∧ p.2.2 < q.2.2))))
theorem wd_lt (b c : Bool) : decide ((wd b).cps.toList < (wd c).cps.toList) = decide (b = false ∧ c = true) := by
  cases b <;> cases c <;> decide +kernel
theorem wd_eq (b c : Bool) : (wd b == wd c) = decide (b = c) := by
  cases b <;> cases c <;> decide +kernel
theorem bef_swo {α : Type} (k : α → K3) : SrtO.Swo fun v u => bef (k v) (k u) := by
  refine ⟨fun x y h => ?_, fun x y z h1 h2 => ?_⟩
  · simp only [bef, decide_eq_true_eq, decide_eq_false_iff_not] at h ⊢
    generalize (k x).1 = b at h ⊢
    generalize (k y).1 = c at h ⊢
    cases b <;> cases c <;> simp at h ⊢ <;> omega
  · simp only [bef, decide_eq_false_iff_not] at h1 h2 ⊢
    generalize (k x).1 = b at h1 h2 ⊢
    generalize (k y).1 = c at h1 h2 ⊢
    generalize (k z).1 = d at h1 h2 ⊢
    cases b <;> cases c <;> cases d <;> simp at h1 h2 ⊢ <;> omega
def IsTri (h : Heap) (v : Value) (k : K3) : Prop := ∃ a o t0 t1 t2 n, v = .ref a ∧ h.get? a = some o ∧ o.cls = .type "tuple" ∧ o.data = .seq #[.str (wd k.1) t0, .int k.2.1 t1, .int k.2.2 t2] n
theorem IsTri.keeps {h h' : Heap} {v : Value} {k : K3} (p : IsTri h v k) (kp : ∀ b o, h.get? b = some o → o.cls = .type "tuple" → h'.get? b = some o) : IsTri h' v k :=
  let ⟨a, o, t0, t1, t2, n, e, ho, hc, hd⟩ := p
  ⟨a, o, t0, t1, t2, n, e, kp _ _ ho hc, hc, hd⟩
theorem tri_firsts {h : Heap} {k : Value → K3} : ∀ {vs : List Value}, (∀ v ∈ vs, IsTri h v (k v)) → ∃ fs : List Value, PySem.W.KatTups h vs fs ∧ fs.length = vs.length ∧ ∀ f ∈ fs, ∃ x t, f = Value.str x t
  | [], _ => ⟨[], .nil, rfl, fun f z => absurd z List.not_mem_nil⟩
  | v :: vs, hp => by
    obtain ⟨fs, a1, a2, a3⟩ := tri_firsts (vs := vs) fun u hu => hp u (List.mem_cons_of_mem _ hu)
    obtain ⟨a, o, t0, t1, t2, n, e, ho, hc, hd⟩ := hp v List.mem_cons_self
    rw [e]
    refine ⟨_ :: fs, .cons ho hc hd rfl a1, congrArg (· + 1) a2, fun f hf => ?_⟩
    rcases List.mem_cons.mp hf with z | z
    · exact ⟨_, _, z⟩
    · exact a3 f z
section
variable {prog : Program} {w : World} {A : Around} {E : Value → Shared → Prop} {s : Shared}
theorem tri_cmp {vs : List Value} {k : Value → K3} (hp : ∀ v ∈ vs, IsTri s.heap v (k v)) : SrtO.Cmp prog w A s (tuples' true) (fun p => p.1 ∈ vs) (SrtO.lt2 fun v u => bef (k v) (k u)) := by
  intro p q hm hm'
  have g1 := hp _ hm
  have g2 := hp _ hm'
  show wpAny (model prog w) A (keyLt' (tuples' true) p.1 q.1) (fun r s' => s' = s ∧ r = bef (k p.1) (k q.1)) (fun _ _ => False) s
  generalize k p.1 = kp at g1 ⊢
  generalize k q.1 = kq at g2 ⊢
  obtain ⟨b, i, j⟩ := kp
  obtain ⟨c, i', j'⟩ := kq
  obtain ⟨a, o, t0, t1, t2, n, e, ho, hc, hd⟩ := g1
  obtain ⟨a', o', u0, u1, u2, n', e', ho', hc', hd'⟩ := g2
  rw [e, e']
  refine PySem.W.kat_lt ho hd ho' hd' ?_
  show PySem.W.KatLex prog w A true (decide (3 < 3)) _ [(.str (wd b) t0, .str (wd c) u0), (.int i t1, .int i' u1), (.int j t2, .int j' u2)] 0 s
  refine PySem.W.kat_cons (SeqAt.EqAt.str_str _ _ _ _ prog w _ _ ?_)
  rw [wd_eq]
  refine PySem.W.kat_go (fun e1 => ?_) (fun e1 => ?_)
  · have eb : b = c := of_decide_eq_true e1
    subst eb
    refine PySem.W.kat_yes (PySem.W.kat_cons (SeqAt.EqAt.int_int _ _ _ _ prog w _ _ ?_))
    refine PySem.W.kat_go (fun e2 => ?_) (fun e2 => ?_)
    · have ei : i = i' := by simpa using e2
      subst ei
      refine PySem.W.kat_yes (PySem.W.kat_cons (SeqAt.EqAt.int_int _ _ _ _ prog w _ _ ?_))
      refine PySem.W.kat_go (fun e3 => ?_) (fun e3 => ?_)
      · have ej : j = j' := by simpa using e3
        subst ej
        refine PySem.W.kat_yes (PySem.W.kat_nil ⟨rfl, ?_⟩)
        show decide (3 < 3) = bef (b, i, j) (b, i, j)
        rw [(bef_swo (fun x : K3 => x)).refl (b, i, j)]
        rfl
      · refine PySem.W.kat_no (PySem.W.kat_one _ _ (PyProof.Rows.lt_int ?_))
        refine (show s = s ∧ decide (j < j') = bef (b, i, j) (b, i, j') from ⟨rfl, ?_⟩)
        unfold bef
        refine decide_eq_decide.mpr ?_
        cases b <;> simp
    · have ei : ¬ i = i' := by simpa using e2
      refine PySem.W.kat_no (PySem.W.kat_one _ _ (PyProof.Rows.lt_int ?_))
      refine (show s = s ∧ decide (i < i') = bef (b, i, j) (b, i', j') from ⟨rfl, ?_⟩)
      unfold bef
      refine decide_eq_decide.mpr ?_
      cases b <;> simp [ei]
  · have eb : ¬ b = c := of_decide_eq_false e1
    refine PySem.W.kat_no (oneLt_str ?_)
    refine ⟨rfl, ?_⟩
    rw [wd_lt]
    unfold bef
    refine decide_eq_decide.mpr ?_
    simp only [eb, false_and, or_false]
theorem tri_sortable {a : Addr} {vs : List Value} {k : Value → K3} (h0 : 0 < vs.length) (hp : ∀ v ∈ vs, IsTri s.heap v (k v)) (ha : ∀ o, s.heap.get? a = some o → o.cls ≠ .type "tuple") : SrtO.SortableO prog w A s a vs fun v u => bef (k v) (k u) := by
  intro h' keep
  have hp' : ∀ v ∈ vs, IsTri h' v (k v) := fun v hm => (hp v hm).keeps fun b o e c => keep b o (fun z => ha o (by rw [← z]; exact e) c) e
  obtain ⟨fs, g1, g2, g3⟩ := tri_firsts hp'
  refine ⟨tuples' true, fun Q E hq => ?_, tri_cmp hp'⟩
  refine PySem.W.kat_kind (T := .type "str") g1 (by omega) (fun f hm => ?_) (by rfl) ?_
  · obtain ⟨x, t, rfl⟩ := g3 f hm
    exact PySem.W.Looks.now
  · rw [show (Value.type "str" != Value.type "tuple") = true from by first | decide +kernel | rfl]
    exact hq
end
/-- sorted(xs), xs a list of such triples: k says which -/
def rSort3 (K : PySem.W.Frag) : List V → Hp → VK → Prop := fun vs H Q => ∃ (a : Addr) (xs : List V) (k : V → K3), vs = [V.ref a] ∧ SqL K H a xs ∧ (∀ x ∈ xs, ∃ t, x = V.ref t ∧ H t = some (.tup [.str (wd (k x).1), .int (k x).2.1, .int (k x).2.2])) ∧
  ∀ ys p, SrtO.Srtd (fun x y => bef (k x) (k y)) ys → ys.Perm xs → H p = none → Q (.ref p) (upd H p (.lst ys))
theorem cr_sort3 {X : Cx} : CallR X (.builtin "sorted") (rSort3 X.K) := by
  intro pins s σ H vs us Q I r h
  obtain ⟨a, xs, k, rfl, hs, hx, q⟩ := h
  obtain ⟨its, rv, hl, hz⟩ := I.list hs
  obtain ⟨u, rfl, ru⟩ := vals1 r
  obtain rfl : u = Value.ref a := ru
  obtain ⟨b1, b2⟩ := refs_back rv fun x m => let ⟨t, e, _⟩ := hx x m; ⟨t, e⟩
  have tri : ∀ v ∈ its, IsTri s.heap v (k (backV v)) := fun v hv => by
    obtain ⟨t, rfl⟩ := b2 v hv
    obtain ⟨t', e, ht⟩ := hx (.ref t) (by rw [b1]; exact List.mem_map.mpr ⟨_, hv, rfl⟩)
    cases e
    obtain ⟨_, its2, r2, o, ho, hc, n, hd⟩ := I.hok _ _ ht
    obtain ⟨u0, us0, rfl, r0, r2⟩ : ∃ u0 us0, its2 = u0 :: us0 ∧ RelV (.str (wd (k (.ref t)).1)) u0 ∧ Vals [.int (k (.ref t)).2.1, .int (k (.ref t)).2.2] us0 := by
      cases r2 with
      | cons a b => exact ⟨_, _, rfl, a, b⟩
    obtain ⟨u1, u2, rfl, ra, rb⟩ := vals2 r2
    obtain ⟨t0, rfl⟩ := r0
    obtain ⟨t1, rfl⟩ := ra
    obtain ⟨tt2, rfl⟩ := rb
    exact ⟨t, o, t0, t1, tt2, n, rfl, ho, hc, hd⟩
  refine SrtO.sorted_ord (bef_swo fun u => k (backV u)) hl.isList (by rw [← rv.length]; exact hz) (fun h2 h₁ a' ha kk => ?_) fun out so st => ?_
  · refine tri_sortable (s := { s with heap := h₁ }) (by omega) (fun v hm => (tri v hm).keeps fun b o e _ => (kk b o e).2) fun o e c => ?_
    have e' : some o = some (seqObj "list" its.toArray 0) := e.symm.trans ha
    cases e'
    exact absurd (Value.type.inj c) (by decide)
  · have o3 : ∀ u ∈ out, ∃ a, u = Value.ref a := fun u hu => b2 u (st.perm.mem_iff.mp hu)
    have pm : (out.map backV).Perm xs := by
      rw [b1]
      exact st.perm.map backV
    obtain ⟨n, hn⟩ := PyProof.Rows.sortedAll_at s.heap its out.toArray
    refine ⟨.ref (s.heap.objs.size + 1), upd H (s.heap.objs.size + 1) (.lst (out.map backV)), I.laid (t' := s.toks) (fun b o e => PyProof.Rows.sortedAll_old e) (Nat.le_succ _) ⟨by rw [pm.length_eq]; exact hz, out, n, vals_back o3, hn⟩, rfl, q _ _ (SrtO.srtd_map so) pm (I.hok.fresh (Nat.le_succ _))⟩
end XV
set_option Elab.async false
set_option linter.all false
set_option maxRecDepth 100000
set_option maxHeartbeats 4000000
/-! set(xs) of a list or a tuple of allI, as a value -/
namespace XV
open PySem PySem.Spec PyProof.Rows L2
/-- a set that has just been made -/
abbrev nso (w : World) : Obj := { cls := .type "set", dict := none, data := .set #[] 0 (.fresh 0 0 (!w.params.followText "set-order")) }
section
variable {P : Program} {w : World} {A : Around} {E : Value → Shared → Prop} {s : Shared}
set_option maxHeartbeats 3200000 in
theorem set_of_ints {l : Addr} {items : Array Value} (ns : List Int) {Q : Value → Shared → Prop} (nh : A.handled = none) (pl : s.heap.IsList l items) (allI : IntsAre items.toList ns) (few : ns.length + 1 < scanBound)
    (fin : ∀ (h' : Heap) (tk c : Nat), SetR w h' s.heap.objs.size (fun j => decide (j ∈ ns)) c → c ≤ ns.length → (∀ b o, s.heap.get? b = some o → h'.get? b = some o) → Q (.ref s.heap.objs.size) { s with heap := h', toks := tk }) :
    wpAny (model P w) A (call (.type "set") [.ref l]) Q E s := by
  have many : items.size = ns.length := (Array.length_toList (xs := items)).symm.trans allI.length
  obtain ⟨cm, tlm, eMro⟩ := F.called_set.mro
  have eMade := F.called_set.made; have eSub := F.called_set.sub
  refine wpAny_call (codeAny_of_tree (?_ : wpAny _ _ (callAny (.type "set") _) _ _ _))
  refine wpAny_pure ⟨Code.quiet_builtin _ (by decide +kernel), codeAny_builtin F.entry_type_call ?_⟩
  rw [Around.under_plain (weight_type_call_type "set" [.ref l] []) rfl]
  have eNt := F.called_set.notType; have eCr := F.called_set.canCreate; have eTc := F.typeCall_set_1 (.ref l)
  repeat (any_goals (first | assumption | wp_step))
  refine codeAny_mono (code_set_led1 (.ref l) (E := E) (Q₁ := fun v t => v = .ref s.heap.objs.size ∧ t = { s with heap := s.heap.push (nso w) }) ⟨rfl, rfl⟩) fun r t hr => ?_
  match r, hr with
  | .error e, hr => exact hr
  | .ok (.ret v), hr =>
    obtain ⟨rfl, rfl⟩ := hr
    have atS : (s.heap.push (nso w)).get? s.heap.objs.size = some (nso w) := Heap.get?_push_size _ rfl
    have tyS : Shared.TypeIs { s with heap := s.heap.push (nso w) } (.ref s.heap.objs.size) "set" := ⟨_, atS, rfl⟩
    have eInit := F.called_set.init.lookup; have eBind := F.called_set.init.bind (.ref s.heap.objs.size)
    repeat (any_goals (first | assumption | wp_step))
    refine codeAny_mono (codeAny_call_builtin (R := wants (fun r t => r = .none ∧ ∃ h' tk c, t = { s with heap := h', toks := tk } ∧ SetR w h' s.heap.objs.size (fun j => decide (j ∈ ns)) c ∧ c ≤ ns.length ∧ (∀ b o, s.heap.get? b = some o → h'.get? b = some o)) E)
      F.called_set.init.plain F.entry_set_init (check_set_init_1 tyS ?_)) fun r2 t2 hr2 => ?_
    · obtain ⟨⟨oc, od, oda, osl⟩, hol, hcl, nl, hdl⟩ := pl
      dsimp only at hcl hdl
      subst hcl hdl
      have lt : l < s.heap.objs.size := Heap.lt_size hol
      have hol1 : (s.heap.push (nso w)).get? l = some { cls := .type "list", dict := od, data := .seq items nl, slots := osl } := Heap.get?_push_of_some _ hol
      have no1 := F.sub_list_set; have no2 := F.sub_list_frozenset
      have no3 : (Value.type "list" == Value.type "dict") = false := by decide
      have pl1 : (s.heap.push (nso w)).IsList l items := ⟨_, hol1, rfl, nl, rfl⟩
      unfold Builtin.«set.__init__» noKeywords Builtin.Frozenset.updateFrom
      generalize ePI : pyIter = PI
      wp_walk
      subst ePI
      refine wpAny_pyIter_list pl1 (wpAny_bind (wpAny_runValue ?_))
      have nh3 : A.in1.in1.in1.handled = none := by simp [nh]
      have sz1 : (s.heap.push (nso w)).objs.size = s.heap.objs.size + 1 := Heap.size_push ..
      have at_ : ∀ (i : Nat) (v : Value), items[i]? = some v → ∃ k t, ns[i]? = some k ∧ v = .int k t := fun i v hv => by
        have lti : i < ns.length := many ▸ (Array.getElem?_eq_some_iff.mp hv).1
        obtain ⟨t, e⟩ := PyProof.Rows.IntsAre.int_at allI i v (Array.getElem?_toList (xs := items) ▸ hv)
        refine ⟨ns[i], t, List.getElem?_eq_getElem lti, e.trans ?_⟩
        rw [List.getD_eq_getElem?_getD, List.getElem?_eq_getElem lti] <;> rfl
      refine set_update_ints ((Walks.list nh3 _ l (by rw [sz1]; exact Nat.ne_of_lt (Nat.lt_succ_of_lt lt)) items).toS) s.heap.objs.size (by rw [sz1]; simp only [List.mem_cons, List.not_mem_nil, or_false, not_or]; exact ⟨Nat.ne_of_lt (Nat.lt_succ_self _), Nat.ne_of_gt lt⟩) ns many few at_ (items.size - 0) 0 _ (by omega) (Nat.zero_le _)
        ⟨⟨_, Heap.get?_push_size _ rfl, rfl, rfl⟩, pl1.push _⟩ ⟨0, Nat.le_refl 0, setR_new_at (Heap.get?_push_of_some _ atS)⟩ fun t c mv lc S' => ?_
      obtain ⟨h', g2, d', tk', os'⟩ := t
      obtain rfl : g2 = s.gens := mv.gens
      obtain rfl : d' = s.drawn := mv.drawn
      obtain rfl : os' = s.os := mv.os
      refine (wpAny_pure ?_ : wpAny _ _ _ _ _ _)
      refine (wpAny_pure ?_ : wpAny _ _ (ret Value.none) _ _ _)
      refine ⟨rfl, h', tk', c, rfl, S', many ▸ lc, fun b o e => ?_⟩
      have ltb : b < s.heap.objs.size := Heap.lt_size e
      exact mv.heap b o (by rw [sz1]; simp only [List.mem_cons, List.not_mem_nil, or_false, not_or]; exact ⟨Nat.ne_of_lt ltb, Nat.ne_of_lt (Nat.lt_succ_of_lt ltb)⟩) (Heap.get?_push_of_some _ (Heap.get?_push_of_some _ e))
    · match r2, hr2 with
      | .error e, hr2 => exact hr2
      | .ok (.ret v2), hr2 =>
        obtain ⟨rfl, h', tk, c, rfl, S', lc, kp⟩ := hr2
        repeat (any_goals (first | assumption | wp_step))
        exact fin _ _ _ S' lc kp
end
/-- set(xs) -/
def rSetI (K : PySem.W.Frag) (w : World) : List V → Hp → VK → Prop := fun vs H Q => ∃ (a : Addr) (ns : List Int), vs = [.ref a] ∧ (SqL K H a (ns.map V.int) ∨ SqT K H a (ns.map V.int)) ∧ ns.length < 1000 ∧
  ∀ p n, H p = none → n ≤ ns.length → Q (.ref p) (upd H p (SetO w p (fun j => decide (j ∈ ns)) n))
theorem cr_setI {X : Cx} (hc : X.calm = true) : CallR X (.type "set") (rSetI X.K X.w) := by
  intro pins s σ H vs us Q I r h
  obtain ⟨a, ns, rfl, hs, hl, q⟩ := h
  obtain ⟨u, rfl, ru⟩ := vals1 r
  obtain rfl : u = Value.ref a := ru
  have fin : ∀ (h' : Heap) (tk c : Nat), SetR X.w h' s.heap.objs.size (fun j => decide (j ∈ ns)) c → c ≤ ns.length → (∀ b o, s.heap.get? b = some o → h'.get? b = some o) → EP X pins σ Q (.ref s.heap.objs.size) { s with heap := h', toks := tk } := fun h' tk c S' lc kp =>
    ⟨.ref s.heap.objs.size, _, I.laid (t' := tk) kp (Nat.le_refl _) (setO_new S'), rfl, q _ c (I.hok.fresh (Nat.le_refl _)) lc⟩
  rcases hs with hs | hs
  · obtain ⟨its, rv, pl, hz⟩ := I.list hs
    exact set_of_ints ns (I.ok.hd hc) pl.isList (by simpa using ints_of_vals rv) (by unfold scanBound; omega) fin
  · obtain ⟨its, rv, pl, hz⟩ := I.tuple hs
    exact call_set_tupI ns (I.ok.hd hc) pl (by simpa using ints_of_vals rv) (by unfold scanBound; omega) fin
end XV
set_option Elab.async false
set_option linter.all false
set_option maxRecDepth 100000
set_option maxHeartbeats 4000000
/-! sum of a tuple of ints -/
namespace XV
open PySem PySem.Spec PyProof.Rows L2
def rSumT (K : PySem.W.Frag) : List V → Hp → VK → Prop := fun vs H Q => ∃ (a : Addr) (ns : List Int), vs = [V.ref a] ∧ SqT K H a (ns.map V.int) ∧ Q (.int ns.sum) H
theorem cr_sumT {X : Cx} (hc : X.calm = true) : CallR X (.builtin "sum") (rSumT X.K) := by
  intro pins s σ H vs us Q I r h
  obtain ⟨a, ns, rfl, hs, q⟩ := h
  obtain ⟨u, rfl, ru⟩ := vals1 r
  obtain rfl : u = Value.ref a := ru
  obtain ⟨its, rv, pl, hz⟩ := I.tuple hs
  have allI : IntsAre its ns := rv.ints
  have pl' : s.heap.IsTuple a its.toArray := pl
  have lt : a < s.heap.objs.size := by
    obtain ⟨_, e, _⟩ := pl'
    exact Heap.lt_size e
  have kp : ∀ {h' : Heap}, (∀ b o, b ∉ [s.heap.objs.size] → (s.heap.push { cls := .type "tuple_iterator", data := .fields #[.ref a, .int 0 0] }).get? b = some o → h'.get? b = some o) → ∀ b o, s.heap.get? b = some o → h'.get? b = some o := fun k b o e =>
    k b o (by simp only [List.mem_cons, List.not_mem_nil, or_false]; exact Nat.ne_of_lt (Heap.lt_size e)) (Heap.get?_push_of_some _ e)
  refine call_sum_walkG (wpAny_pyIter_tuple pl' ⟨s.heap.objs.size, _, _, _, _, _, fun i => ns.getD i 0, rfl, Walks.tuple (A := X.A.in1) (I.ok.hd hc) _ a (Nat.ne_of_lt lt) its.toArray, ⟨⟨_, Heap.get?_push_size _ rfl, rfl, rfl⟩, pl'.push _⟩, fun b hb => ?_, fun i v hv => ?_, fun h' tk t' hk => ?_⟩)
  · show b < (s.heap.push _).objs.size
    rw [Heap.size_push]
    simp only [List.mem_cons, List.not_mem_nil, or_false] at hb
    rcases hb with rfl | rfl
    · exact Nat.lt_succ_self _
    · exact Nat.lt_succ_of_lt lt
  · exact PyProof.Rows.IntsAre.int_at allI i v (by simpa using hv)
  · refine ⟨.int ns.sum, H, I.kept (t' := tk) (kp hk), ⟨t', ?_⟩, q⟩
    have e1 : its.toArray.size = ns.length := by rw [List.size_toArray]; exact allI.length
    have e2 : ∀ n, n ≤ ns.length → preSum (fun i => ns.getD i 0) n = (ns.take n).sum := by
      intro n
      induction n with
      | zero => intro _; simp [preSum]
      | succ n ih =>
        intro hn
        have hlt : n < ns.length := hn
        rw [List.take_add_one, List.getElem?_eq_getElem hlt]
        simp only [preSum, Option.toList_some, List.sum_append, List.sum_cons, List.sum_nil, Int.add_zero]
        rw [ih (Nat.le_of_lt hlt), List.getD_eq_getElem?_getD, List.getElem?_eq_getElem hlt]
        rfl
    rw [e1, e2 _ (Nat.le_refl _), List.take_length]
end XV
set_option Elab.async false
set_option linter.all false
set_option maxRecDepth 100000
set_option maxHeartbeats 4000000
/-! enumerate over a tuple; zip of a tuple and a list -/
namespace PySem
open PyProof.Rows
/-- the record of a fresh enumerate over the iterator at it -/
abbrev enO (it : Addr) : Obj := { cls := .type "enumerate", data := .fields #[.none, .bool false, .ref it, rawInt 0, .none, .none] }
theorem meets_enumB {v : Value} {o : Obj} {H : Heap → Prop} (B : Begins v o H) : Meets (Builtin.«enumerate.__new__» ⟨[.type "enumerate", v], []⟩) (fun _ R s => H s.heap ∧ R (.ok (.ret (.ref (s.heap.push o).objs.size))) { s with heap := (s.heap.push o).push (enO s.heap.objs.size) }) :=
  .of_wp fun prog w A R s ⟨h1, h⟩ => by
    obtain ⟨hp, g, d, tk, os⟩ := s
    have isE := sub_enumerate
    have it1 : ∀ {A' : Around} {E Q : Value → Shared → Prop}, Q (.ref hp.objs.size) ⟨hp.push o, g, d, tk, os⟩ → wpAny (model prog w) A' (pyIter v) Q E ⟨hp, g, d, tk, os⟩ := fun q => B.iter prog w _ _ ⟨hp, g, d, tk, os⟩ _ h1 q
    wp_walk using it1
    refine wpAny_stack_any fun st => wpAny_pure ?_
    split
    · rename_i c _ _ _ _ _
      cases (c == Value.type "enumerate") <;> (wp_walk using it1; exact ⟨_, rfl, h⟩)
    · wp_walk using it1
      exact ⟨_, rfl, h⟩
theorem call_enumB {prog : Program} {w : World} {A : Around} {E : Value → Shared → Prop} {s : Shared} {v : Value} {o : Obj} {H : Heap → Prop} {Q : Value → Shared → Prop} (B : Begins v o H) (h1 : H s.heap)
    (h : ∀ h', IsEnum h' (s.heap.objs.size + 1) s.heap.objs.size 0 .none → h'.get? s.heap.objs.size = some o → (∀ b u, s.heap.get? b = some u → h'.get? b = some u) → Q (.ref (s.heap.objs.size + 1)) { s with heap := h' }) :
    wpAny (model prog w) A (call (.type "enumerate") [v]) Q E s := by
  refine callType_new F.called_enumerate (by decide) (F.typeCall_enumerate_1 _) (F.newCall_enumerate_1 _) (fun obj => F.args_object_init_2 obj _) F.entry_enumerate_new (meets_enumB B) ⟨h1, ?_⟩
  have z1 : (s.heap.push o).objs.size = s.heap.objs.size + 1 := Heap.size_push ..
  have e1 := Heap.get?_push_size (s.heap.push o) (o := enO s.heap.objs.size) rfl
  show _ ∧ _
  rw [z1] at e1 ⊢
  exact ⟨⟨_, e1, rfl⟩, h _ e1 (Heap.get?_push_of_some _ (Heap.get?_push_size _ B.free)) fun b u x => Heap.get?_push_of_some _ (Heap.get?_push_of_some _ x)⟩
end PySem
namespace XV
open PySem PySem.Spec PyProof.Rows L2
/-- the tuple at a, each item in a new pair with its number -/
def IteT (K : PySem.W.Frag) (a : Addr) : It :=
  ⟨fun i H => ∃ (xs : List V) (x : V), SqT K H a xs ∧ xs[i]? = some x, fun i H v H' => ∃ T x, v = .ref T ∧ H T = none ∧ H' = upd H T (.tup [.int (i : Nat), x]) ∧ ∀ xs, SqT K H a xs → xs[i]? = some x, fun i H => ∃ xs : List V, SqT K H a xs ∧ xs.length = i⟩
theorem turn_enumT {P : Program} {w : World} {K : PySem.W.Frag} {elts : List Expr} {kk : Nat} {tpos : Pos} (a e it : Addr) :
    Turn P w K (.Tuple elts kk tpos) (IteT K a) [e, it] e (fun i h => (∃ old, IsEnum h e it ((i : Nat) : Int) old) ∧ h.IsTupleIter it a i ∧ e ≠ it) := by
  have two : ∀ {b : Addr}, b ∈ [e, it] → b = e ∨ b = it := fun hb => by simpa using hb
  refine ⟨List.mem_cons_self, fun i h st b hb => ?_, fun i h h' st k => ?_, ?_, ?_, fun A i s Q E st h => let ⟨⟨_, he⟩, _⟩ := st; wpAny_pyIter_enum he h⟩
  · obtain ⟨⟨old, he⟩, ⟨o, ho, hc, hd⟩, _⟩ := st
    rcases two hb with z | z
    · rw [z]
      exact ⟨_, he, fun v q => nomatch q⟩
    · rw [z]
      exact ⟨o, ho, fun v q => by rw [hd] at q; cases q⟩
  · obtain ⟨⟨old, he⟩, hi, ne⟩ := st
    exact ⟨⟨old, k e List.mem_cons_self _ he⟩, hi.at fun o q => k it (List.mem_cons_of_mem _ List.mem_cons_self) o q, ne⟩
  · intro X hP hw hK hc i pins s σ H E I hf st hg
    subst hP hw hK
    obtain ⟨⟨old, he⟩, hit, ne⟩ := st
    obtain ⟨xs, x, hq, hx⟩ := hg
    obtain ⟨its, rv, p, _⟩ := I.tuple hq
    obtain ⟨u, hu, ru⟩ := rv.get hx
    have p' : s.heap.IsTuple a its.toArray := p
    have ea : a ≠ e := fun z => by
      obtain ⟨o, e1, e2, _⟩ := p'
      rw [z, he] at e1
      cases e1
      exact absurd (Value.type.inj e2) (by decide)
    have ia : a ≠ it := fun z => by
      obtain ⟨o, e1, e2, _⟩ := p'
      obtain ⟨o2, f1, f2, _⟩ := hit
      rw [z, f1] at e1
      cases e1
      rw [f2] at e2
      exact absurd (Value.type.inj e2) (by decide)
    have lte : e < s.heap.objs.size := Heap.lt_size he
    have lti : it < s.heap.objs.size := let ⟨_, q, _⟩ := hit; Heap.lt_size q
    have hi : i < its.toArray.size := by
      have := (List.getElem?_eq_some_iff.mp hu).1
      simpa using this
    have D := Draws.tuple (prog := X.prog) (w := X.w) (A := X.A.in1) (I.ok.hd hc) it a ia its.toArray
    refine wpAny_pyNext_enum_itemD D he ⟨hit, p'⟩ hi ne (by simp only [List.mem_cons, List.not_mem_nil, or_false, not_or]; exact ⟨ne, ea.symm⟩) fun v h1 tk hv ho st1 hT hsz hk => ?_
    obtain rfl : v = u := by
      have hv' : its.toArray[i]? = some v := hv
      rw [List.getElem?_toArray, hu] at hv'
      exact (Option.some.inj hv').symm
    refine ⟨_, rfl, wpAny_letOwnedTupleGo_enum (s := { s with heap := h1, toks := tk + 1 }) ho fun h2 he2 sb => ?_⟩
    have hT2 : h2.get? s.heap.objs.size = some { cls := .type "tuple", data := .seq #[.int i tk, v] } := (sb.2 _ (Nat.ne_of_gt lte)).trans hT
    have I1 : Inv X pins σ (upd H s.heap.objs.size (.tup [.int (i : Nat), x])) { s with heap := h2, toks := tk + 1 } :=
      I.turnedNew (ch := [e, it]) (fun b ob hb q => (sb.2 b (fun z => hb (by simp [z]))).trans (hk b ob (fun z => hb (by simp [z])) (fun z => hb (by simp [z])) q)) hf (Nat.le_refl _)
        ⟨by show 2 ≤ sizeLine; decide, [.int i tk, v], .cons ⟨_, rfl⟩ (.cons ru .nil), ⟨_, hT2, rfl, _, rfl⟩⟩
    refine ⟨.ref s.heap.objs.size, _, I1, rfl, ⟨_, x, rfl, I.hok.fresh (Nat.le_refl _), rfl, fun ys hy => by rw [I.tuple_inj hy hq]; exact hx⟩, ⟨⟨v, ?_⟩, st1.1.at fun o q => (sb.2 it (Ne.symm ne)).trans q, ne⟩, fun b hb => ?_⟩
    · rw [show ((i + 1 : Nat) : Int) = (i : Int) + 1 by omega]
      exact he2
    · have lt : b < s.heap.objs.size := (two hb).elim (fun z => z ▸ lte) fun z => z ▸ lti
      rw [upd_ne (Nat.ne_of_lt lt)]
      exact (hf b hb).1
  · intro X hP hw hK hc i pins s σ H E I hf st hg
    subst hP hw hK
    obtain ⟨⟨old, he⟩, hit, ne⟩ := st
    obtain ⟨xs, hq, hx⟩ := hg
    obtain ⟨its, rv, p, _⟩ := I.tuple hq
    have p' : s.heap.IsTuple a its.toArray := p
    have ia : a ≠ it := fun z => by
      obtain ⟨o, e1, e2, _⟩ := p'
      obtain ⟨o2, f1, f2, _⟩ := hit
      rw [z, f1] at e1
      cases e1
      rw [f2] at e2
      exact absurd (Value.type.inj e2) (by decide)
    obtain ⟨f0, f1, f2, f3, f4, f5⟩ := hf it (List.mem_cons_of_mem _ List.mem_cons_self)
    have es : its.toArray.size = i := by
      rw [List.size_toArray, ← rv.length, hx]
    have D := Draws.tuple (prog := X.prog) (w := X.w) (A := X.A.in1) (I.ok.hd hc) it a ia its.toArray
    exact wpAny_pyNext_enum_endD D he (by rw [es]; exact ⟨hit, p'⟩) fun h' eb => ⟨rfl, I.turned (t' := s.toks) (fun b o hb q => eb b o hb q) f0 f1 f3 f4 f5⟩
def iEnumT (K : PySem.W.Frag) (ta : TA) : TI := fun σ H R => ta σ H fun vs H1 => ∃ a xs, vs = [.ref a] ∧ SqT K H1 a xs ∧ R (IteT K a) H1
theorem pi_enumT {X : Cx} {e : Expr} {ta : TA} {p pos tpos : Pos} {elts : List Expr} {kk : Nat} (hg : Gl X "enumerate") (hm : X.mg "enumerate" = none) (ha : PA X [e] ta) (hs : starEach [e] X.env = [(false, eval e X.env)] := by rfl) :
    PI X (.Tuple elts kk tpos) (.Call (.Name "enumerate" p) [e] [] pos) (iEnumT X.K ta) := by
  refine ⟨fun pins s σ H R I h => ?_⟩
  refine Call_ (ld_blt I hg hm boot_enumerate (PyProof.Rows.callWith_type1 (thn (ha.run pos pins s σ H _ I h) fun us s1 ⟨vs, H1, I1, r1, q1⟩ => ?_) hs rfl))
  obtain ⟨a, xs, rfl, hq, q⟩ := q1
  obtain ⟨u, rfl, ru⟩ := vals1 r1
  obtain rfl : u = Value.ref a := ru
  obtain ⟨its, rv, p', _⟩ := I1.tuple hq
  refine call_enumB (begins_tuple a its.toArray) (show s1.heap.IsTuple a its.toArray from p') fun h' he hit hk => wpAny_pyIter_enum he ?_
  refine ⟨s1.heap.objs.size + 1, [s1.heap.objs.size + 1, s1.heap.objs.size], _, _, H1, rfl, I1.kept (t' := s1.toks) hk, turn_enumT a (s1.heap.objs.size + 1) s1.heap.objs.size, ⟨⟨.none, he⟩, ⟨_, hit, rfl, rfl⟩, Nat.succ_ne_self _⟩, fun b hb => ?_, q⟩
  have le : s1.heap.objs.size ≤ b := by
    have z : b = s1.heap.objs.size + 1 ∨ b = s1.heap.objs.size := by simpa using hb
    exact z.elim (fun z => z ▸ Nat.le_add_right _ _) fun z => z ▸ Nat.le_refl _
  exact I1.fpOk le (I1.hok.fresh le)
theorem walk_enumT {K : PySem.W.Frag} {a : Addr} {xs : List V} : Walk (IteT K a) xs.length (fun H => SqT K H a xs) (YPair (fun i => some (.int (i : Nat))) (fun i => xs[i]?)) :=
  ⟨fun i _ hi q => ⟨xs, xs[i], q, List.getElem?_eq_getElem hi⟩, fun _ q => ⟨xs, q, rfl⟩, fun i H v H' _ q ⟨T, x, h1, h2, h3, h4⟩ => ⟨T, .int (i : Nat), x, h1, h2, h3, rfl, h4 xs q⟩⟩
/-- the tuple at a and the list at b, the items in new pairs -/
def IzTL (K : PySem.W.Frag) (a b : Addr) : It :=
  ⟨fun i H => ∃ (xs ys : List V) (x y : V), SqT K H a xs ∧ SqL K H b ys ∧ xs[i]? = some x ∧ ys[i]? = some y, fun i H v H' => ∃ T x y, v = .ref T ∧ H T = none ∧ H' = upd H T (.tup [x, y]) ∧ (∀ xs, SqT K H a xs → xs[i]? = some x) ∧ ∀ ys, SqL K H b ys → ys[i]? = some y,
    fun i H => ∃ xs ys : List V, SqT K H a xs ∧ SqL K H b ys ∧ i ≤ xs.length ∧ i ≤ ys.length ∧ (i = xs.length ∨ i = ys.length)⟩
theorem turn_zipTL {P : Program} {w : World} {K : PySem.W.Frag} {elts : List Expr} {kk : Nat} {tpos : Pos} {a b z TI TO i1 i2 : Addr} (S : ZipSep2 z TI TO i1 i2 [i1, a] [i2, b]) (ia : a ≠ i1) (ib : b ≠ i2) :
    Turn P w K (.Tuple elts kk tpos) (IzTL K a b) [z, TI, TO, i1, i2] z (fun i h => IsZip h z TI TO .none ∧ IsTupOf2 h TI (.ref i1) (.ref i2) ∧ (∃ x y, IsTupOf2 h TO x y) ∧ h.IsTupleIter i1 a i ∧ h.IsListIter i2 b i) := by
  have five : ∀ {c : Addr}, c ∈ [z, TI, TO, i1, i2] → c = z ∨ c = TI ∨ c = TO ∨ c = i1 ∨ c = i2 := fun hc => by simpa using hc
  refine ⟨List.mem_cons_self, fun i h st c hc => ?_, fun i h h' st k => ?_, ?_, ?_, fun A i s Q E st h => wpAny_pyIter_zip st.1 h⟩
  · obtain ⟨hz, hTI, ⟨x, y, hTO⟩, ⟨o1, e1, _, d1⟩, ⟨o2, e2, _, d2⟩⟩ := st
    rcases five hc with q | q | q | q | q <;> rw [q]
    · exact ⟨_, hz, fun v q => nomatch q⟩
    · exact ⟨_, hTI, fun v q => nomatch q⟩
    · exact ⟨_, hTO, fun v q => nomatch q⟩
    · exact ⟨o1, e1, fun v q => by rw [d1] at q; cases q⟩
    · exact ⟨o2, e2, fun v q => by rw [d2] at q; cases q⟩
  · obtain ⟨hz, hTI, ⟨x, y, hTO⟩, h1, h2⟩ := st
    exact ⟨k z (by simp) _ hz, k TI (by simp) _ hTI, ⟨x, y, k TO (by simp) _ hTO⟩, h1.at fun o q => k i1 (by simp) o q, h2.at fun o q => k i2 (by simp) o q⟩
  · intro X hP hw hK hc i pins s σ H E I hf st hg
    subst hP hw hK
    obtain ⟨hz, hTI, ⟨x0, y0, hTO⟩, h1, h2⟩ := st
    obtain ⟨xs, ys, x, y, hqx, hqy, hx, hy⟩ := hg
    obtain ⟨its, rv, p, _⟩ := I.tuple hqx
    obtain ⟨its2, rv2, p2, _⟩ := I.list hqy
    obtain ⟨u, hu, ru⟩ := rv.get hx
    obtain ⟨u2, hu2, ru2⟩ := rv2.get hy
    have ltz : z < s.heap.objs.size := Heap.lt_size hz
    have hi1 : i < its.toArray.size := by
      have := (List.getElem?_eq_some_iff.mp hu).1
      simpa using this
    have hi2 : i < its2.toArray.size := by
      have := (List.getElem?_eq_some_iff.mp hu2).1
      simpa using this
    have D1 := Draws.tuple (prog := X.prog) (w := X.w) (A := X.A.in1) (I.ok.hd hc) i1 a ia its.toArray
    have D2 := Draws.list (prog := X.prog) (w := X.w) (A := X.A.in1) (I.ok.hd hc) i2 b ib its2.toArray
    refine wpAny_pyNext_zipD2_item S D1 D2 hz hTI hTO ⟨h1, (show s.heap.IsTuple a its.toArray from p)⟩ ⟨h2, p2.isList⟩ hi1 hi2 fun v1 v2 hp tk e1 e2 z' TO' st1 st2 hT hsz hk => ?_
    obtain rfl : v1 = u := by
      have e1' : its.toArray[i]? = some v1 := e1
      rw [List.getElem?_toArray, hu] at e1'
      exact (Option.some.inj e1').symm
    obtain rfl : v2 = u2 := by
      have e2' : its2.toArray[i]? = some v2 := e2
      rw [List.getElem?_toArray, hu2] at e2'
      exact (Option.some.inj e2').symm
    refine ⟨_, rfl, wpAny_letOwnedTupleGo_zip (s := { s with heap := hp, toks := tk }) z' fun hq z'' sb => ?_⟩
    have hT2 : hq.get? s.heap.objs.size = some { cls := .type "tuple", data := .seq #[v1, v2] } := (sb.2 _ (Nat.ne_of_gt ltz)).trans hT
    have I1 : Inv X pins σ (upd H s.heap.objs.size (.tup [x, y])) { s with heap := hq, toks := tk } :=
      I.turnedNew (t' := tk) (ch := [z, TI, TO, i1, i2]) (fun c o hb q => (sb.2 c (fun q' => hb (by simp [q']))).trans (hk c o (fun q' => hb (by simp [q'])) (fun q' => hb (by simp [q'])) (fun q' => hb (by simp [q'])) (fun q' => hb (by simp [q'])) q)) hf (Nat.le_refl _)
        ⟨by show 2 ≤ sizeLine; decide, [v1, v2], .cons ru (.cons ru2 .nil), ⟨_, hT2, rfl, _, rfl⟩⟩
    refine ⟨.ref s.heap.objs.size, _, I1, rfl, ⟨_, x, y, rfl, I.hok.fresh (Nat.le_refl _), rfl, fun l hl => by rw [I.tuple_inj hl hqx]; exact hx, fun l hl => by rw [I.list_inj hl hqy]; exact hy⟩, ⟨z'', ?_, ⟨v1, v2, ?_⟩, ?_, ?_⟩, fun c hcm => ?_⟩
    · exact (sb.2 _ S.TIz).trans (hk _ _ S.TIz S.TITO S.TIi1 S.TIi2 hTI)
    · exact (sb.2 _ S.TOz).trans TO'
    · exact st1.1.at fun o q => (sb.2 _ (Ne.symm S.zi1)).trans q
    · exact st2.1.at fun o q => (sb.2 _ (Ne.symm S.zi2)).trans q
    · have lt : c < s.heap.objs.size := by
        rcases five hcm with q | q | q | q | q <;> rw [q]
        · exact ltz
        · exact Heap.lt_size hTI
        · exact Heap.lt_size hTO
        · obtain ⟨_, e1, _⟩ := h1
          exact Heap.lt_size e1
        · obtain ⟨_, e2, _⟩ := h2
          exact Heap.lt_size e2
      rw [upd_ne (Nat.ne_of_lt lt)]
      exact (hf c hcm).1
  · intro X hP hw hK hc i pins s σ H E I hf st hg
    subst hP hw hK
    obtain ⟨hz, hTI, ⟨x0, y0, hTO⟩, h1, h2⟩ := st
    obtain ⟨xs, ys, hqx, hqy, l1, l2, hend⟩ := hg
    obtain ⟨its, rv, p, _⟩ := I.tuple hqx
    obtain ⟨its2, rv2, p2, _⟩ := I.list hqy
    have s1 : its.toArray.size = xs.length := by rw [List.size_toArray, rv.length]
    have s2 : its2.toArray.size = ys.length := by rw [List.size_toArray, rv2.length]
    have D1 := Draws.tuple (prog := X.prog) (w := X.w) (A := X.A.in1) (I.ok.hd hc) i1 a ia its.toArray
    have D2 := Draws.list (prog := X.prog) (w := X.w) (A := X.A.in1) (I.ok.hd hc) i2 b ib its2.toArray
    exact wpAny_pyNext_zipD2_end S D1 D2 hz hTI hTO ⟨h1, (show s.heap.IsTuple a its.toArray from p)⟩ ⟨h2, p2.isList⟩ (by omega) (by omega) (by omega) fun h' tk hk => ⟨rfl, I.turnedL (t' := tk) (ch := [z, TI, TO, i1, i2]) (fun c o hb q =>
      hk c o (fun q' => hb (by simp [q'])) (fun q' => hb (by simp [q'])) (fun q' => hb (by simp [q'])) (fun q' => hb (by simp [q'])) q) hf⟩
def iZipTL (K : PySem.W.Frag) (ta : TA) : TI := fun σ H R => ta σ H fun vs H1 => ∃ a b xs ys, vs = [.ref a, .ref b] ∧ SqT K H1 a xs ∧ SqL K H1 b ys ∧ R (IzTL K a b) H1
theorem pi_zipTL {X : Cx} {e e2 : Expr} {ta : TA} {p pos tpos : Pos} {elts : List Expr} {kk : Nat} (hg : Gl X "zip") (hm : X.mg "zip" = none) (ha : PA X [e, e2] ta)
    (hs : starEach [e, e2] X.env = (false, eval e X.env) :: starEach [e2] X.env := by rfl) (hpl : (backTo pos (starEach [e2] X.env)).any (·.1) = false := by rfl) :
    PI X (.Tuple elts kk tpos) (.Call (.Name "zip" p) [e, e2] [] pos) (iZipTL X.K ta) := by
  refine ⟨fun pins s σ H R I h => ?_⟩
  refine Call_ (ld_blt I hg hm PyProof.Rows.boot_zip (PyProof.Rows.callWith_type1 (thn (ha.run pos pins s σ H _ I h) fun us s1 ⟨vs, H1, I1, r1, q1⟩ => ?_) hs hpl))
  obtain ⟨a, b, xs, ys, rfl, hqx, hqy, q⟩ := q1
  obtain ⟨u1, u2, rfl, ra, rb⟩ := vals2 r1
  obtain rfl : u1 = Value.ref a := ra
  obtain rfl : u2 = Value.ref b := rb
  obtain ⟨its, rv, p1, _⟩ := I1.tuple hqx
  obtain ⟨its2, rv2, p2, _⟩ := I1.list hqy
  have pa : s1.heap.IsTuple a its.toArray := p1
  have la : a < s1.heap.objs.size := let ⟨_, e, _⟩ := pa; Heap.lt_size e
  have lb : b < s1.heap.objs.size := p2.lt
  refine zip_begins2 (begins_tuple a its.toArray) (begins_list b its2.toArray) pa p2.isList fun h' hz hTI hTO g1 g2 hsz hk => wpAny_pyIter_zip hz ?_
  have S := zip_sep2 (N := s1.heap.objs.size) (fp1 := [a]) (fp2 := [b]) (fun c hc => by rw [List.mem_singleton.mp hc]; exact la) fun c hc => by rw [List.mem_singleton.mp hc]; exact lb
  refine ⟨_, [s1.heap.objs.size + 4, s1.heap.objs.size + 2, s1.heap.objs.size + 3, s1.heap.objs.size, s1.heap.objs.size + 1], _, _, H1, rfl, I1.kept (t' := s1.toks) hk, turn_zipTL S (Nat.ne_of_lt la) (Nat.ne_of_lt (Nat.lt_succ_of_lt lb)), ⟨hz, hTI, ⟨_, _, hTO⟩, ⟨_, g1, rfl, rfl⟩, ⟨_, g2, rfl, rfl⟩⟩, fun c hcm => ?_, q⟩
  have le : s1.heap.objs.size ≤ c := by
    have z : c = s1.heap.objs.size + 4 ∨ c = s1.heap.objs.size + 2 ∨ c = s1.heap.objs.size + 3 ∨ c = s1.heap.objs.size ∨ c = s1.heap.objs.size + 1 := by simpa using hcm
    rcases z with z | z | z | z | z <;> rw [z] <;> first | exact Nat.le_add_right _ _ | exact Nat.le_refl _
  exact I1.fpOk le (I1.hok.fresh le)
theorem walk_zipTL {K : PySem.W.Frag} {a b : Addr} {xs ys : List V} {n : Nat} (e1 : xs.length = n) (e2 : ys.length = n) : Walk (IzTL K a b) n (fun H => SqT K H a xs ∧ SqL K H b ys) (YPair (fun i => xs[i]?) (fun i => ys[i]?)) :=
  ⟨fun i _ hi q => ⟨xs, ys, xs[i]'(by omega), ys[i]'(by omega), q.1, q.2, List.getElem?_eq_getElem _, List.getElem?_eq_getElem _⟩, fun _ q => ⟨xs, ys, q.1, q.2, by omega, by omega, by omega⟩, fun i H v H' _ q ⟨T, x, y, h1, h2, h3, h4, h5⟩ => ⟨T, x, y, h1, h2, h3, h4 xs q.1, h5 ys q.2⟩⟩
end XV
set_option Elab.async false
set_option linter.all false
set_option maxRecDepth 100000
set_option maxHeartbeats 4000000
/-! a tuple times any number -/
namespace XV
open PySem PySem.Spec PyProof.Rows L2
theorem mul_one_ (l : Addr) (items : Array Value) (n : Nat) (dd : Option Addr) (sl : Array (Option Value)) (u : Tok) :
    Meets (Builtin.«tuple.__mul__» ⟨[.ref l, .int 1 u], []⟩) (fun _ R s => s.heap.get? l = some { cls := .type "tuple", dict := dd, data := .seq items n, slots := sl } ∧ R (.ok (.ret (Value.ref l))) s) :=
  .of_wp fun prog w A R s ⟨hl, h⟩ => by
    obtain ⟨hp, g, d, tk, os⟩ := s
    have f1 := AutoSeq1.idx_int
    have c1 : (items.isEmpty || (1 : Int) == 1) = true := by simp
    wp_walk using wpAny_loadPart' hl
    exact ⟨_, rfl, h⟩
theorem mul_nil_ (l : Addr) (items : Array Value) (n : Nat) (dd : Option Addr) (sl : Array (Option Value)) (u : Tok) (ne : items.isEmpty = false) :
    Meets (Builtin.«tuple.__mul__» ⟨[.ref l, .int 0 u], []⟩) (fun _ R s => s.heap.get? l = some { cls := .type "tuple", dict := dd, data := .seq items n, slots := sl } ∧
      R (.ok (.ret (Value.ref s.heap.objs.size))) { s with heap := s.heap.push { cls := Value.type "tuple", data := Data.seq #[] }, toks := s.toks }) :=
  .of_wp fun prog w A R s ⟨hl, h⟩ => by
    obtain ⟨hp, g, d, tk, os⟩ := s
    have f1 := AutoSeq1.idx_int
    have c1 : (items.isEmpty || (0 : Int) == 1) = false := by rw [ne]; rfl
    wp_walk using wpAny_loadPart' hl
    exact ⟨_, rfl, h⟩
def rRepA (K : PySem.W.Frag) : R2 := fun x y H Q => ∃ l k xs, x = .ref l ∧ y = .int k ∧ SqT K H l xs ∧ xs ≠ [] ∧ 0 ≤ k ∧ k ≤ 1000 ∧ xs.length ≤ 1000 ∧ (k = 1 → Q (.ref l) H) ∧ (k ≠ 1 → ∀ p, H p = none → Q (.ref p) (upd H p (.tup (List.replicate k.toNat xs).flatten)))
theorem op_repA {X : Cx} : OpR X (binaryOp .Mult) (rRepA X.K) := by
  intro pins s σ H x y v u Q I rx ry h
  obtain ⟨l, k, xs, rfl, rfl, hT, ne, h1, h2, hz, q1, q2⟩ := h
  by_cases big : 2 ≤ k
  · exact op_repT pins s σ H _ _ v u Q I rx ry ⟨l, k, xs, rfl, rfl, hT, ne, big, h2, hz, q2 (by omega)⟩
  cases rx
  obtain ⟨t, rfl⟩ := ry
  obtain ⟨its, r, ⟨⟨cls, dd, data, sl⟩, ho, hc, n, hd⟩, hs⟩ := I.tuple hT
  dsimp only at hc hd
  subst hc hd
  have nil_ : its.toArray.isEmpty = false := by
    cases its with
    | nil =>
      cases r
      exact absurd rfl ne
    | cons a b => rfl
  by_cases one : k = 1
  · subst one
    exact wpAny_binaryOp_repeat_ref (T := "tuple") (U := "int") (by decide) ⟨_, ho, rfl⟩ (fun s' => typeIs_int s' 1 t) noFill_tuple_mul F.fills_int_mul F.slot_int_rmul repeat_tuple F.slot_int_index.lookup
      (call_meets F.slot_int_rmul (typeIs_int s 1 t) F.entry_int_rmul (F.args_int_rmul_2 _ _) (int_rmul_tuple 1 t l its.toArray n dd sl)
        ⟨ho, rfl, ⟨_, ho, rfl⟩, call_meets F.slot_tuple_mul ⟨_, ho, rfl⟩ F.entry_tuple_mul (F.args_tuple_mul_2 _ _) (mul_one_ l its.toArray n dd sl t) ⟨ho, .ref l, H, I, rfl, q1 rfl⟩⟩)
  · obtain rfl : k = 0 := by omega
    refine wpAny_binaryOp_repeat_ref (T := "tuple") (U := "int") (by decide) ⟨_, ho, rfl⟩ (fun s' => typeIs_int s' 0 t) noFill_tuple_mul F.fills_int_mul F.slot_int_rmul repeat_tuple F.slot_int_index.lookup
      (call_meets F.slot_int_rmul (typeIs_int s 0 t) F.entry_int_rmul (F.args_int_rmul_2 _ _) (int_rmul_tuple 0 t l its.toArray n dd sl)
        ⟨ho, rfl, ⟨_, ho, rfl⟩, call_meets F.slot_tuple_mul ⟨_, ho, rfl⟩ F.entry_tuple_mul (F.args_tuple_mul_2 _ _) (mul_nil_ l its.toArray n dd sl t nil_) ⟨ho, ?_⟩⟩)
    exact ⟨.ref s.heap.objs.size, _, I.laid (t' := s.toks) (o := .tup []) (fun b ob q => Heap.get?_push_of_some _ q) (Nat.le_refl _) ⟨Nat.zero_le _, [], .nil, IsTup.new _ _⟩, rfl, q2 one _ (I.hok.fresh (Nat.le_refl _))⟩
end XV
set_option Elab.async false
set_option linter.all false
set_option maxRecDepth 100000
set_option maxHeartbeats 4000000
/-! tables of a slab -/
namespace SL
open PySem PySem.Spec PyProof.Rows L2 XV
/-! ### counts, rows, tables -/
def CntAt (H : Hp) (x : V) (ns : List Int) : Prop := ∃ c, x = .ref c ∧ H c = some (.tup (ns.map V.int))
abbrev RowsAt (H : Hp) : List V → List (List Int) → Prop := Paired (CntAt H)
def TabAt (H : Hp) (t : V) (rows : List (List Int)) : Prop := ∃ a xs, t = .ref a ∧ H a = some (.tup xs) ∧ RowsAt H xs rows
theorem CntAt.keep {H H' : Hp} {x : V} {ns : List Int} (h : CntAt H x ns) (k : Same H H') : CntAt H' x ns := let ⟨c, e, z⟩ := h; ⟨c, e, k _ _ z⟩
theorem RowsAt.keep {H H' : Hp} (k : Same H H') : ∀ {xs : List V} {rows : List (List Int)}, RowsAt H xs rows → RowsAt H' xs rows
  | _, _, .nil => .nil
  | _, _, .cons a r => .cons (a.keep k) (RowsAt.keep k r)
theorem TabAt.keep {H H' : Hp} {t : V} {rows : List (List Int)} (h : TabAt H t rows) (k : Same H H') : TabAt H' t rows := let ⟨a, xs, e, z, r⟩ := h; ⟨a, xs, e, k _ _ z, RowsAt.keep k r⟩
theorem rows_get {H : Hp} : ∀ {xs : List V} {rows : List (List Int)} {i : Nat} {y : V}, RowsAt H xs rows → xs[i]? = some y → ∃ ns, rows[i]? = some ns ∧ CntAt H y ns
  | _, _, _, _, .nil, h => by simp at h
  | _, _, 0, _, .cons a r, h => by
    simp at h
    subst h
    exact ⟨_, rfl, a⟩
  | _, _, i + 1, y, .cons a r, h => by
    obtain ⟨q, h1, h2⟩ := rows_get (i := i) r (by simpa using h)
    exact ⟨q, by simpa using h1, h2⟩
theorem rows_at {H : Hp} : ∀ {xs : List V} {rows : List (List Int)} {i : Nat} {ns : List Int}, RowsAt H xs rows → rows[i]? = some ns → ∃ y, xs[i]? = some y ∧ CntAt H y ns
  | _, _, _, _, .nil, h => by simp at h
  | _, _, 0, _, .cons a r, h => by
    simp at h
    subst h
    exact ⟨_, rfl, a⟩
  | _, _, i + 1, y, .cons a r, h => by
    obtain ⟨q, h1, h2⟩ := rows_at (i := i) r (by simpa using h)
    exact ⟨q, by simpa using h1, h2⟩
/-- the number of pages, the live bytes -/
def pgs (rows : List (List Int)) : Nat := (rows.map List.length).sum
def lv (ps : List (Int × Int)) (rows : List (List Int)) : Int := ((ps.zip rows).map fun p => p.1.1 * p.2.sum).sum
/-- ints that ascend from lo up to hi at most -/
def asc (hi : Int) : Int → List V → Bool
  | _, [] => true
  | lo, .int i :: ys => (decide (lo ≤ i) && decide (i ≤ hi)) && asc hi i ys
  | _, _ :: _ => false
def cntB (H : Hp) (hi : Int) : V → Bool
  | .ref c => (match H c with
    | some (.tup ys) => asc hi 1 ys
    | _ => false)
  | _ => false
def iV : V → Int
  | .int i => i
  | _ => 0
def cntI (H : Hp) : V → List Int
  | .ref c => (match H c with
    | some (.tup ys) => ys.map iV
    | _ => [])
  | _ => []
/-- the first class whose counts are none -/
def firstBad (H : Hp) (xs : List V) (ps : List (Int × Int)) : Option Nat := (xs.zip ps).findIdx? fun p => !cntB H p.2.2 p.1
def badT (H : Hp) (ps : List (Int × Int)) (L : Int) (t : V) : Option Int := match t with
  | .ref a => (match H a with
    | some (.tup xs) => if xs.length = ps.length then
        (match firstBad H xs ps with
        | some i => some (i : Int)
        | none => if 60 < pgs (xs.map (cntI H)) then some (ps.length : Int) else if L < lv ps (xs.map (cntI H)) then some ((ps.length : Int) + 1) else none)
      else some (-1)
    | _ => some (-1))
  | _ => some (-1)
theorem asc_ints {hi : Int} : ∀ {lo : Int} {ys : List V}, asc hi lo ys = true → ys = (ys.map iV).map V.int
  | _, [], _ => rfl
  | lo, .int i :: ys, h => by
    have h' : ((decide (lo ≤ i) && decide (i ≤ hi)) && asc hi i ys) = true := h
    rw [Bool.and_eq_true] at h'
    have := asc_ints h'.2
    show V.int i :: ys = V.int i :: (ys.map iV).map V.int
    rw [← this]
theorem cntB_at {H : Hp} {hi : Int} {x : V} (h : cntB H hi x = true) : CntAt H x (cntI H x) := by
  cases x with
  | ref c =>
    cases e : H c with
    | none =>
      have h' : (match H c with | some (.tup ys) => asc hi 1 ys | _ => false) = true := h
      rw [e] at h'
      cases h'
    | some o =>
      have h' : (match H c with | some (.tup ys) => asc hi 1 ys | _ => false) = true := h
      rw [e] at h'
      cases o with
      | tup ys =>
        refine ⟨c, rfl, ?_⟩
        have e2 : cntI H (.ref c) = ys.map iV := by
          show (match H c with | some (.tup ys) => ys.map iV | _ => []) = ys.map iV
          rw [e]
        rw [e2, ← asc_ints h', e]
      | _ => cases h'
  | _ => cases h
theorem cntI_of {H : Hp} {x : V} {ns : List Int} (h : CntAt H x ns) : cntI H x = ns := by
  obtain ⟨c, rfl, e⟩ := h
  show (match H c with | some (.tup ys) => ys.map iV | _ => []) = ns
  rw [e]
  show (ns.map V.int).map iV = ns
  rw [List.map_map]
  exact List.map_id'' (fun _ => rfl) ns
theorem rows_of {H : Hp} : ∀ {xs : List V} {rows : List (List Int)}, RowsAt H xs rows → xs.map (cntI H) = rows
  | _, _, .nil => rfl
  | _, _, .cons a r => by rw [List.map_cons, cntI_of a, rows_of r]
theorem rowsAt_of {H : Hp} : ∀ {xs : List V}, (∀ x ∈ xs, CntAt H x (cntI H x)) → RowsAt H xs (xs.map (cntI H))
  | [], _ => .nil
  | x :: xs, h => .cons (h x List.mem_cons_self) (rowsAt_of fun y hy => h y (List.mem_cons_of_mem _ hy))
/-- ascending counts in plain words -/
def Asc (hi : Int) (ns : List Int) : Prop := ns.Pairwise (· ≤ ·) ∧ ∀ n ∈ ns, 1 ≤ n ∧ n ≤ hi
theorem asc_iff {hi : Int} : ∀ {lo : Int} {ns : List Int}, asc hi lo (ns.map V.int) = true ↔ ns.Pairwise (· ≤ ·) ∧ ∀ n ∈ ns, lo ≤ n ∧ n ≤ hi
  | _, [] => by simp [asc]
  | lo, n :: ns => by
    show (((decide (lo ≤ n) && decide (n ≤ hi)) && asc hi n (ns.map V.int)) = true) ↔ _
    rw [Bool.and_eq_true, Bool.and_eq_true, decide_eq_true_eq, decide_eq_true_eq, asc_iff, List.pairwise_cons]
    constructor
    · rintro ⟨⟨h1, h2⟩, h3, h4⟩
      refine ⟨⟨fun m hm => (h4 m hm).1, h3⟩, fun m hm => ?_⟩
      rcases List.mem_cons.mp hm with e | hm
      · rw [e]
        exact ⟨h1, h2⟩
      · have := h4 m hm
        omega
    · rintro ⟨⟨h1, h2⟩, h3⟩
      have z := h3 n List.mem_cons_self
      exact ⟨z, h2, fun m hm => ⟨h1 m hm, (h3 m (List.mem_cons_of_mem _ hm)).2⟩⟩
theorem cntB_iff {H : Hp} {hi : Int} {x : V} {ns : List Int} (h : CntAt H x ns) : cntB H hi x = true ↔ Asc hi ns := by
  obtain ⟨c, rfl, e⟩ := h
  show ((match H c with | some (.tup ys) => asc hi 1 ys | _ => false) = true) ↔ _
  rw [e]
  exact asc_iff
/-- a table of a slab -/
structure TabOk (ps : List (Int × Int)) (L : Int) (rows : List (List Int)) : Prop where
  len : rows.length = ps.length
  cnt : ∀ (i : Nat) (q : Int × Int) (ns : List Int), ps[i]? = some q → rows[i]? = some ns → Asc q.2 ns
  few : pgs rows ≤ 60
  fit : lv ps rows ≤ L
theorem firstBad_none {H : Hp} : ∀ {xs : List V} {ps : List (Int × Int)} {rows : List (List Int)}, RowsAt H xs rows → (∀ (i : Nat) (q : Int × Int) (ns : List Int), ps[i]? = some q → rows[i]? = some ns → Asc q.2 ns) → firstBad H xs ps = none := by
  intro xs ps rows r h
  refine List.findIdx?_eq_none_iff.mpr fun p hp => ?_
  obtain ⟨i, hi⟩ := List.mem_iff_getElem?.mp hp
  rw [List.getElem?_zip_eq_some] at hi
  obtain ⟨ns, h1, h2⟩ := rows_get r hi.1
  rw [(cntB_iff h2).mpr (h i _ _ hi.2 h1)]
  rfl
theorem badT_ok {H : Hp} {ps : List (Int × Int)} {L : Int} {t : V} {rows : List (List Int)} (h : TabAt H t rows) (k : TabOk ps L rows) : badT H ps L t = none := by
  obtain ⟨a, xs, rfl, e, r⟩ := h
  show (match H a with
    | some (.tup xs) => if xs.length = ps.length then
        (match firstBad H xs ps with
        | some i => some (i : Int)
        | none => if 60 < pgs (xs.map (cntI H)) then some (ps.length : Int) else if L < lv ps (xs.map (cntI H)) then some ((ps.length : Int) + 1) else none)
      else some (-1)
    | _ => some (-1)) = none
  rw [e]
  show (if xs.length = ps.length then _ else some (-1)) = none
  rw [if_pos (by rw [Paired.length r, k.len]), firstBad_none r k.cnt, rows_of r]
  show (if 60 < pgs rows then some (ps.length : Int) else if L < lv ps rows then some ((ps.length : Int) + 1) else none) = none
  rw [if_neg (Nat.not_lt.mpr k.few), if_neg (Int.not_lt.mpr k.fit)]
/-- what is known when a value is no bad table -/
theorem badT_none {H : Hp} {ps : List (Int × Int)} {L : Int} {t : V} (h : badT H ps L t = none) : ∃ rows, TabAt H t rows ∧ TabOk ps L rows := by
  cases t with
  | ref a =>
    have h' : (match H a with
      | some (.tup xs) => if xs.length = ps.length then
          (match firstBad H xs ps with
          | some i => some (i : Int)
          | none => if 60 < pgs (xs.map (cntI H)) then some (ps.length : Int) else if L < lv ps (xs.map (cntI H)) then some ((ps.length : Int) + 1) else none)
        else some (-1)
      | _ => some (-1)) = none := h
    cases e : H a with
    | none =>
      rw [e] at h'
      cases h'
    | some o =>
      rw [e] at h'
      cases o with
      | tup xs =>
        have h2 : (if xs.length = ps.length then
          (match firstBad H xs ps with
          | some i => some (i : Int)
          | none => if 60 < pgs (xs.map (cntI H)) then some (ps.length : Int) else if L < lv ps (xs.map (cntI H)) then some ((ps.length : Int) + 1) else none)
        else some (-1)) = none := h'
        by_cases hl : xs.length = ps.length
        · rw [if_pos hl] at h2
          cases hf : firstBad H xs ps with
          | some i =>
            rw [hf] at h2
            cases h2
          | none =>
            rw [hf] at h2
            have h3 : (if 60 < pgs (xs.map (cntI H)) then some (ps.length : Int) else if L < lv ps (xs.map (cntI H)) then some ((ps.length : Int) + 1) else none) = none := h2
            by_cases h60 : 60 < pgs (xs.map (cntI H))
            · rw [if_pos h60] at h3
              cases h3
            · rw [if_neg h60] at h3
              by_cases hL : L < lv ps (xs.map (cntI H))
              · rw [if_pos hL] at h3
                cases h3
              · have good : ∀ (i : Nat) (x : V) (q : Int × Int), xs[i]? = some x → ps[i]? = some q → cntB H q.2 x = true := fun i x q hx hq => by
                  have z := List.findIdx?_eq_none_iff.mp hf (x, q) (List.mem_of_getElem? (by rw [List.getElem?_zip_eq_some]; exact ⟨hx, hq⟩))
                  simpa using z
                have all : ∀ x ∈ xs, CntAt H x (cntI H x) := fun x hx => by
                  obtain ⟨i, hi⟩ := List.mem_iff_getElem?.mp hx
                  have lt := (List.getElem?_eq_some_iff.mp hi).1
                  exact cntB_at (good i x ps[i] hi (List.getElem?_eq_getElem (by omega)))
                have r := rowsAt_of all
                refine ⟨_, ⟨a, xs, rfl, e, r⟩, by rw [List.length_map, hl], fun i q ns hq hn => ?_, Nat.not_lt.mp h60, Int.not_lt.mp hL⟩
                obtain ⟨y, hy, cy⟩ := rows_at r hn
                exact (cntB_iff cy).mp (good i y q hy hq)
        · rw [if_neg hl] at h2
          cases h2
      | _ => cases h'
  | _ => cases h
theorem pi_or {X : Cx} {tg e : Expr} {w1 w2 : TI} (h1 : PI X tg e w1) (h2 : PI X tg e w2) : PI X tg e (fun σ H R => w1 σ H R ∨ w2 σ H R) := ⟨fun pins s σ H R I h => h.elim (h1.run pins s σ H R I) (h2.run pins s σ H R I)⟩
def LenAt (H : Hp) (x : V) (n : Nat) : Prop := ∃ c ys, x = .ref c ∧ H c = some (.tup ys) ∧ ys.length = n
theorem LenAt.keep {H H' : Hp} {x : V} {n : Nat} (h : LenAt H x n) (k : Same H H') : LenAt H' x n := let ⟨c, ys, e, z, l⟩ := h; ⟨c, ys, e, k _ _ z, l⟩
theorem lens_of {H : Hp} : ∀ {xs : List V} {rows : List (List Int)}, RowsAt H xs rows → Paired (LenAt H) xs (rows.map List.length)
  | _, _, .nil => .nil
  | _, _, .cons ⟨c, e, z⟩ r => .cons ⟨c, _, e, z, List.length_map ..⟩ (lens_of r)
theorem natsum : ∀ ls : List Nat, (ls.map fun (n : Nat) => (n : Int)).sum = (ls.sum : Int)
  | [] => rfl
  | n :: ls => by
    rw [List.map_cons, List.sum_cons, natsum ls, List.sum_cons]
    omega
/-! ### rules whose reading names the written part (for comprehensions) -/
def rLenK (K : PySem.W.Frag) : List V → Hp → VK → Prop := fun xs H Q => ∃ p ys, xs = [V.ref p] ∧ (SqL K H p ys ∨ SqT K H p ys) ∧ Q (.int ys.length) H
theorem call_lenK {X : Cx} {K : PySem.W.Frag} (e : X.K = K) : CallR X (.builtin "len") (rLenK K) := by
  subst e
  exact call_len_seq
theorem cr_sumTK {X : Cx} {K : PySem.W.Frag} (e : X.K = K) (hc : X.calm = true) : CallR X (.builtin "sum") (rSumT K) := by
  subst e
  exact cr_sumT hc
theorem badT_tup {H : Hp} {ps : List (Int × Int)} {L : Int} {a : Addr} {xs : List V} (e : H a = some (.tup xs)) : badT H ps L (.ref a) = if xs.length = ps.length then
    (match firstBad H xs ps with
    | some i => some (i : Int)
    | none => if 60 < pgs (xs.map (cntI H)) then some (ps.length : Int) else if L < lv ps (xs.map (cntI H)) then some ((ps.length : Int) + 1) else none)
    else some (-1) := by
  show (match H a with
    | some (.tup xs) => if xs.length = ps.length then
        (match firstBad H xs ps with
        | some i => some (i : Int)
        | none => if 60 < pgs (xs.map (cntI H)) then some (ps.length : Int) else if L < lv ps (xs.map (cntI H)) then some ((ps.length : Int) + 1) else none)
      else some (-1)
    | _ => some (-1)) = _
  rw [e]
theorem badT_no {H : Hp} {ps : List (Int × Int)} {L : Int} {t : V} (h : ∀ a xs, t = .ref a → H a ≠ some (.tup xs)) : badT H ps L t = some (-1) := by
  cases t with
  | ref a =>
    show (match H a with
      | some (.tup xs) => if xs.length = ps.length then
          (match firstBad H xs ps with
          | some i => some (i : Int)
          | none => if 60 < pgs (xs.map (cntI H)) then some (ps.length : Int) else if L < lv ps (xs.map (cntI H)) then some ((ps.length : Int) + 1) else none)
        else some (-1)
      | _ => some (-1)) = _
    cases e : H a with
    | none => rfl
    | some o =>
      cases o with
      | tup xs => exact (h a xs rfl e).elim
      | _ => rfl
  | _ => rfl
theorem cntB_keep {H H' : Hp} {hi : Int} {x : V} (h : Ty H x) (k : Same H H') : cntB H' hi x = cntB H hi x := by
  cases x with
  | ref c =>
    obtain ⟨o, e⟩ := h.here
    show (match H' c with | some (.tup ys) => asc hi 1 ys | _ => false) = (match H c with | some (.tup ys) => asc hi 1 ys | _ => false)
    rw [e, k _ _ e]
  | _ => rfl
theorem firstBad_some {H : Hp} {xs : List V} {ps : List (Int × Int)} {j : Nat} {x : V} {q : Int × Int} (hx : xs[j]? = some x) (hq : ps[j]? = some q) (c : cntB H q.2 x = false) (h : ∀ (i : Nat) y r, i < j → xs[i]? = some y → ps[i]? = some r → cntB H r.2 y = true) : firstBad H xs ps = some j := by
  have z : (xs.zip ps)[j]? = some (x, q) := List.getElem?_zip_eq_some.mpr ⟨hx, hq⟩
  obtain ⟨hj, ez⟩ := List.getElem?_eq_some_iff.mp z
  refine List.findIdx?_eq_some_iff_getElem.mpr ⟨hj, by rw [ez, c]; rfl, fun i hi => ?_⟩
  have hi' : i < (xs.zip ps).length := by omega
  have zi : (xs.zip ps)[i]? = some (xs.zip ps)[i] := List.getElem?_eq_getElem hi'
  obtain ⟨h1, h2⟩ := List.getElem?_zip_eq_some.mp zi
  rw [h i _ _ hi h1 h2]
  simp
/-- what check_table is asked with -/
def TyT (H : Hp) (t : V) : Prop := Ty H t ∧ ∀ (a : Addr) (xs : List V), t = .ref a → H a = some (.tup xs) → xs.length ≤ 1000 ∧ ∀ x ∈ xs, TyI H x
theorem TyT.keep {H H' : Hp} {t : V} (h : TyT H t) (k : Same H H') : TyT H' t := by
  refine ⟨h.1.keep k, fun a xs et e => ?_⟩
  subst et
  obtain ⟨o, eo⟩ := h.1.here
  have z := k _ _ eo
  rw [e] at z
  have z2 := Option.some.inj z
  subst z2
  obtain ⟨h1, h2⟩ := h.2 a xs rfl eo
  exact ⟨h1, fun x hx => (h2 x hx).keep k⟩
theorem TyT.of {H : Hp} {t : V} {rows : List (List Int)} (h : TabAt H t rows) (hl : rows.length ≤ 1000) : TyT H t := by
  obtain ⟨a, xs, rfl, e, r⟩ := h
  refine ⟨⟨_, .tup e⟩, fun b ys eb ez => ?_⟩
  cases eb
  rw [e] at ez
  cases ez
  refine ⟨by rw [Paired.length r]; exact hl, fun x hx => ?_⟩
  obtain ⟨i, hi⟩ := List.mem_iff_getElem?.mp hx
  obtain ⟨ns, _, c, rfl, ec⟩ := rows_get r hi
  refine ⟨⟨_, .tup ec⟩, fun d zs ed ez y hy => ?_⟩
  cases ed
  rw [ec] at ez
  cases ez
  obtain ⟨n, _, rfl⟩ := List.mem_map.mp hy
  exact ⟨_, .int n⟩
/-- the size classes of a slab -/
structure SzOk (ps : List (Int × Int)) : Prop where
  rg : ∀ q ∈ ps, (1 ≤ q.1 ∧ q.1 ≤ 1000) ∧ 1 ≤ q.2 ∧ q.2 ≤ 60
  n1 : 1 ≤ ps.length
  n6 : ps.length ≤ 6
end SL
set_option Elab.async false
set_option linter.all false
set_option maxRecDepth 100000
set_option maxHeartbeats 4000000
namespace K20
open PySem PySem.Spec PyProof.Rows L2 XV SL
abbrev s_check_table : Stmt := topS 16
theorem sc_check_table : FnScope ["slab", "table", "number", "counts"] ["slab", "table"] (defScope s_check_table) := ⟨rfl, rfl, rfl, by decide +kernel, rfl, by decide +kernel, by decide +kernel⟩
abbrev s_are_counts : Stmt := topS 17
theorem sc_are_counts : FnScope ["counts", "slots", "least", "count"] ["counts", "slots"] (defScope s_are_counts) := ⟨rfl, rfl, rfl, by decide +kernel, rfl, by decide +kernel, by decide +kernel⟩
abbrev s_page_total : Stmt := topS 18
theorem sc_page_total : FnScope ["rows", "counts"] ["rows"] (defScope s_page_total) := ⟨rfl, rfl, rfl, by decide +kernel, rfl, by decide +kernel, by decide +kernel⟩
abbrev s_byte_total : Stmt := topS 19
theorem sc_byte_total : FnScope ["slab", "rows", "number", "counts"] ["slab", "rows"] (defScope s_byte_total) := ⟨rfl, rfl, rfl, by decide +kernel, rfl, by decide +kernel, by decide +kernel⟩
abbrev s_empty : Stmt := topS 20
theorem sc_empty : FnScope ["slab"] ["slab"] (defScope s_empty) := ⟨rfl, rfl, rfl, by decide +kernel, rfl, by decide +kernel, by decide +kernel⟩
abbrev s_iNoTable : Stmt := inClass (topS 4) 0
theorem sc_iNoTable : FnScope ["self", "index"] ["self", "index"] (defScope s_iNoTable) := ⟨rfl, rfl, rfl, by decide +kernel, rfl, by decide +kernel, by decide +kernel⟩
structure Bt (mg : Str → Option Value) : Prop extends Bi mg where
  b_sum : mg "sum" = none
  b_sorted : mg "sorted" = none
  b_set : mg "set" = none
  b_str : mg "str" = none
  c_pages : ∃ t, mg "MOST_PAGES" = some (.int 60 t)
section
variable {P : Program} {w : World} {K : PySem.W.Frag} {mg : Str → Option Value} {base : Heap}
theorem ok_iNoTable {C fI : Addr} {fd : FuncData} (F : Fun K "__init__" "NoTable.__init__" s_iNoTable fI fd) (T : XCls K C fI "index") : FnOk P w K mg base CX0 1 fI fd ["self", "index"] (spIni C "index") := by
  refine F.ok sc_iNoTable (fun vs H Q E h => ?_) (fun cdv A outer s H vs Q E hr h => ?_)
  · obtain ⟨a, v, rfl, _⟩ := h
    rfl
  · obtain ⟨a, v, rfl, ha, k⟩ := h
    exact ⟨_, pss_one (ps_ost (pv 0) (pv 1)), _, rfl, _, rfl, a, C, rfl, T.ox, T.noF, .inl ⟨ha, fun dx n ne => k dx n ne⟩⟩
def spCounts : Sp := fun vs H Q _ => ∃ (x : V) (hi : Int), vs = [x, .int hi] ∧ TyI H x ∧ Q (.bl (cntB H hi x)) H
theorem ok_are_counts {f f1 : Addr} {fd d1 : FuncData} (F : Fun K "are_counts" "are_counts" s_are_counts f fd) (B : Bt mg) (G1 : FnOk P w K mg base CX0 1 f1 d1 ["value", "low", "high"] spBetween) (m1 : mg "is_between" = some (.ref f1)) (k1 : PySem.W.keepIn K (.ref f1) = true) (b1 : Binds K d1 ["value", "low", "high"] []) :
    FnOk P w K mg base CX0 2 f fd ["counts", "slots"] spCounts := by
  refine F.ok sc_are_counts (fun vs H Q E h => ?_) (fun cdv A outer s H vs Q E hr h => ?_)
  · obtain ⟨x, hi, rfl, _⟩ := h
    rfl
  · obtain ⟨x, hi, rfl, ⟨⟨t, hk⟩, hI⟩, q⟩ := h
    refine ⟨_, (pss_cons (ps_if (pt_not (pt_val (pe_callB call_isi (by rfl) B.b_isinstance (by decide +kernel) (pa_cons (pv 0) (pa_cons (pe_bltn (v := V.ty "tuple") rfl B.b_tuple (by decide +kernel) rfl) pa_nil))))) (pss_one (ps_ret pe_bl)) pss_nil)
      (pss_cons (ps_set (i := 2) sc_are_counts.nd rfl (Or.inl rfl) pe_int)
      (pss_cons (ps_for PassesOwn.never rfl (pi_tup (pv 0)) (pg_name (i := 3) sc_are_counts.nd rfl (Or.inl rfl))
      (pss_cons (ps_if (pt_not (pt_val (pe_call G1 (hr.mono (by decide)) rfl m1 k1 b1 .nil pass0 (pa_cons (pv 3) (pa_cons (pv 2) (pa_cons (pv 1) pa_nil)))))) (pss_one (ps_ret pe_bl)) pss_nil)
      (pss_one (ps_set (i := 2) sc_are_counts.nd rfl (Or.inl rfl) (pv 3)))))
      (pss_one (ps_ret pe_bl))))), ?_⟩
    refine ⟨x, rfl, x, .ty "tuple", .type t, .type "tuple", _, rfl, .ty _, hk.ty, kit_ty (kb_tuple hk.mem), ?_⟩
    have no : (∀ a ys, x = .ref a → H a ≠ some (.tup ys)) → cntB H hi x = false := fun z => by
      cases x with
      | ref a =>
        show (match H a with | some (.tup ys) => asc hi 1 ys | _ => false) = false
        cases e : H a with
        | none => rfl
        | some o =>
          cases o with
          | tup ys => exact (z a ys rfl e).elim
          | _ => rfl
      | _ => rfl
    cases hk with
    | tup e =>
      rename_i a ys
      have ec : cntB H hi (.ref a) = asc hi 1 ys := by
        show (match H a with | some (.tup ys) => asc hi 1 ys | _ => false) = _
        rw [e]
      rw [ec] at q
      refine ⟨_, rfl, iteF ?_⟩
      refine ⟨.ref a, rfl, a, rfl, ⟨_, SqT.of e⟩, ?_⟩
      refine for_it (walk_tup (K := K) (a := a) (xs := ys))
        (fun j σ H' => ∃ (lo : Int) (v3 : Option V), σ = [some (.ref a), some (.int hi), some (.int lo), v3] ∧ H' = H ∧ asc hi 1 ys = asc hi lo (ys.drop j)) ⟨1, none, rfl, rfl, rfl⟩ (fun _ _ _ _ ⟨_, _, _, z, _⟩ => by rw [z]; exact SqT.of e) ?_ ?_
      · rintro j y σ H1 H2 hj ⟨lo, v3, rfl, rfl, ea⟩ ⟨rfl, hy⟩
        have ty : Ty H2 y := hI a ys rfl e y (List.mem_of_getElem? hy)
        have ed : ys.drop j = y :: ys.drop (j + 1) := by
          rw [List.drop_eq_getElem_cons hj]
          rw [List.getElem?_eq_getElem hj] at hy
          rw [Option.some.inj hy]
        rw [ed] at ea
        refine ⟨y, rfl, .int lo, rfl, .int hi, rfl, y, lo, hi, rfl, ty, _, rfl, ?_⟩
        cases hb : inB y lo hi with
        | false =>
          refine iteT ?_
          have z : asc hi lo (y :: ys.drop (j + 1)) = false := by
            cases y with
            | int i =>
              show ((decide (lo ≤ i) && decide (i ≤ hi)) && _) = false
              rw [show (decide (lo ≤ i) && decide (i ≤ hi)) = false from hb, Bool.false_and]
            | _ => rfl
          rw [ea, z] at q
          exact q
        | true =>
          refine iteF ?_
          obtain ⟨i, rfl⟩ := inB_int hb
          refine ⟨.int i, rfl, i, _, rfl, rfl, ?_⟩
          rw [ea]
          show ((decide (lo ≤ i) && decide (i ≤ hi)) && _) = _
          rw [show (decide (lo ≤ i) && decide (i ≤ hi)) = true from hb, Bool.true_and]
      · rintro σ H1 ⟨lo, v3, rfl, rfl, ea⟩
        rw [List.drop_length] at ea
        rw [ea] at q
        exact q
    | lst e => exact ⟨_, rfl, iteT (by rw [no (fun a ys ex ez => by cases ex; rw [e] at ez; cases ez)] at q; exact q)⟩
    | dict e => exact ⟨_, rfl, iteT (by rw [no (fun a ys ex ez => by cases ex; rw [e] at ez; cases ez)] at q; exact q)⟩
    | _ => exact ⟨_, rfl, iteT (by rw [no (fun a ys ex => by cases ex)] at q; exact q)⟩
/-- rows: a list or a tuple of tuples of so many items -/
def spPT : Sp := fun vs H Q _ => ∃ (a : Addr) (xs : List V) (ls : List Nat), vs = [.ref a] ∧ (H a = some (.lst xs) ∨ H a = some (.tup xs)) ∧ Paired (LenAt H) xs ls ∧ xs.length ≤ 1000 ∧ ∀ H', Same H H' → Q (.int (ls.sum : Int)) H'
theorem ok_page_total {f : Addr} {fd : FuncData} (F : Fun K "page_total" "page_total" s_page_total f fd) (B : Bt mg) : FnOk P w K mg base CX0 1 f fd ["rows"] spPT := by
  refine F.ok sc_page_total (fun vs H Q E h => ?_) (fun cdv A outer s H vs Q E hr h => ?_)
  · obtain ⟨a, xs, ls, rfl, _⟩ := h
    rfl
  · obtain ⟨a, xs, ls, rfl, ha, hp, hl, q⟩ := h
    refine ⟨_, (pss_one (ps_ret (pe_callB (cr_sum rfl) (by rfl) B.b_sum (by decide +kernel) (pa_cons (pe_lc (own := [("counts", 1)]) (g := gName 1) (tt := tYes) (by rfl) sc_page_total.nd (pi_or (pi_list (pv 0)) (pi_tup (pv 0))) (blkOk_by (own := [("counts", 1)]) (N := ["rows", "counts"]) (sc := defScope s_page_total) (by decide +kernel)) (fun _ _ _ _ _ => pg_name (i := 1) sc_page_total.nd rfl (Or.inl rfl)) (fun _ _ _ _ _ => pts_nil) (fun _ _ _ _ _ => (pe_callB (call_lenK (K := K) rfl) (by rfl) B.b_len (by decide +kernel) (pa_cons (pv 1) pa_nil)))) pa_nil)))), ?_⟩
    have e1 := Paired.length hp
    rcases ha with ea | ea
    · refine .inl ⟨.ref a, rfl, a, rfl, ⟨_, SqL.of ea⟩, fun D nD => ?_⟩
      refine lc_it (walk_list (K := K) (a := a) (xs := xs)) (fun i HI => Same H HI ∧ HI D = some (.lst ((ls.take i).map fun (n : Nat) => .int (n : Int)))) ⟨same_upd nD, upd_same⟩ (fun i HI _ z => SqL.of (z.1 _ _ ea)) ?_ ?_
      · rintro i x HI H1 hi ⟨sI, eI⟩ ⟨rfl, hx⟩
        obtain ⟨n, hn, c, ys, rfl, ec, en⟩ := paired_get hp hx
        refine ⟨rfl, ?_⟩
        unfold tYes
        refine iteT ?_
        refine ⟨.ref c, rfl, c, ys, rfl, .inr (SqT.of (sI _ _ ec)), _, eI, small1000 (by rw [List.length_map, List.length_take]; omega), fun b o z => ?_, ?_⟩
        · rw [upd_ne (ne_of_none z nD)]
          exact sI _ _ z
        · rw [upd_same, List.take_add_one, hn, List.map_append, en]
          rfl
      · rintro HI ⟨sI, eI⟩
        rw [List.take_of_length_le (by omega)] at eI
        have e2 : (ls.map fun (n : Nat) => V.int (n : Int)) = (ls.map fun (n : Nat) => (n : Int)).map V.int := by rw [List.map_map]; rfl
        rw [e2] at eI
        refine ⟨D, _, rfl, SqL.of eI, ?_⟩
        rw [natsum]
        exact q _ sI
    · refine .inr ⟨.ref a, rfl, a, rfl, ⟨_, SqT.of ea⟩, fun D nD => ?_⟩
      refine lc_it (walk_tup (K := K) (a := a) (xs := xs)) (fun i HI => Same H HI ∧ HI D = some (.lst ((ls.take i).map fun (n : Nat) => .int (n : Int)))) ⟨same_upd nD, upd_same⟩ (fun i HI _ z => SqT.of (z.1 _ _ ea)) ?_ ?_
      · rintro i x HI H1 hi ⟨sI, eI⟩ ⟨rfl, hx⟩
        obtain ⟨n, hn, c, ys, rfl, ec, en⟩ := paired_get hp hx
        refine ⟨rfl, ?_⟩
        unfold tYes
        refine iteT ?_
        refine ⟨.ref c, rfl, c, ys, rfl, .inr (SqT.of (sI _ _ ec)), _, eI, small1000 (by rw [List.length_map, List.length_take]; omega), fun b o z => ?_, ?_⟩
        · rw [upd_ne (ne_of_none z nD)]
          exact sI _ _ z
        · rw [upd_same, List.take_add_one, hn, List.map_append, en]
          rfl
      · rintro HI ⟨sI, eI⟩
        rw [List.take_of_length_le (by omega)] at eI
        have e2 : (ls.map fun (n : Nat) => V.int (n : Int)) = (ls.map fun (n : Nat) => (n : Int)).map V.int := by rw [List.map_map]; rfl
        rw [e2] at eI
        refine ⟨D, _, rfl, SqL.of eI, ?_⟩
        rw [natsum]
        exact q _ sI

def spBT (C : Addr) : Sp := fun vs H Q _ => ∃ (p l : Addr) (xc : List V) (ps : List (Int × Int)) (L : Int) (a : Addr) (xs : List V) (rows : List (List Int)), vs = [.ref p, .ref a] ∧ SlabAt C H p l xc L ∧ PairsAt H xc ps ∧ (∀ q ∈ ps, 0 ≤ q.1 ∧ q.1 ≤ 1000) ∧ H a = some (.tup xs) ∧ RowsAt H xs rows ∧
  rows.length = ps.length ∧ ps.length ≤ 1000 ∧ ∀ H', Same H H' → Q (.int (lv ps rows)) H'
theorem ok_byte_total {C CN f fb : Addr} {fd db : FuncData} (F : Fun K "byte_total" "byte_total" s_byte_total f fd) (B : Bt mg) (T : SlabC K mg C) (Gb : FnOk P w K mg base (L2N.CX P w) 4 fb db ["self", "number"] (spBytes C CN true)) (bb : Binds K db ["self", "number"] []) (mb : Meth K C "bytes_of" fb) : FnOk P w K mg base CX0 5 f fd ["slab", "rows"] (spBT C) := by
  refine F.ok sc_byte_total (fun vs H Q E h => ?_) (fun cdv A outer s H vs Q E hr h => ?_)
  · obtain ⟨p, l, xc, ps, L, a, xs, rows, rfl, _⟩ := h
    rfl
  · obtain ⟨p, l, xc, ps, L, a, xs, rows, rfl, sl, pr, rg, ea, rw_, hl, h6, q⟩ := h
    refine ⟨_, (pss_one (ps_ret (pe_callB (cr_sum rfl) (by rfl) B.b_sum (by decide +kernel) (pa_cons (pe_lc (own := [("number", 2), ("counts", 3)]) (g := gTup K 2 (gCons (gName 2) (gCons (gName 3) gNil))) (tt := tYes) (by rfl) sc_byte_total.nd (pi_enumT (by rfl) B.b_enumerate (pa_cons (pv 1) pa_nil)) (blkOk_by (own := [("number", 2), ("counts", 3)]) (N := ["slab", "rows", "number", "counts"]) (sc := defScope s_byte_total) (by decide +kernel)) (fun _ _ _ _ _ => pg_tup rfl (pgs_cons (pg_name (i := 2) sc_byte_total.nd rfl (Or.inl rfl)) (pgs_cons (pg_name (i := 3) sc_byte_total.nd rfl (Or.inl rfl)) pgs_nil))) (fun _ _ _ _ _ => pts_nil) (fun _ _ _ _ _ => (pe_op op_mul (pe_meth (pv 0) T.cl mb Gb (hr.mono (by decide)) bb .nil passN (pa_cons (pv 2) pa_nil)) (pe_callB (cr_sumTK (K := K) rfl rfl) (by rfl) B.b_sum (by decide +kernel) (pa_cons (pv 3) pa_nil))))) pa_nil)))), ?_⟩
    have e1 := Paired.length rw_
    refine ⟨.ref a, rfl, a, xs, rfl, SqT.of ea, fun D nD => ?_⟩
    refine lc_it (walk_enumT (K := K) (a := a) (xs := xs)) (fun i HI => Same H HI ∧ HI D = some (.lst ((((ps.zip rows).take i).map fun p => p.1.1 * p.2.sum).map V.int))) ⟨same_upd nD, upd_same⟩ (fun i HI _ z => SqT.of (z.1 _ _ ea)) ?_ ?_
    · rintro i x HI H1 hi ⟨sI, eI⟩ ⟨t, x1, x2, rfl, nt, rfl, g1, g2⟩
      cases g1
      generalize hq : upd HI t _ = H2
      obtain ⟨t2, et⟩ := eqU hq nt
      obtain ⟨ns, hn, cn⟩ := rows_get rw_ g2
      obtain ⟨c, rfl, ec⟩ := (cn.keep sI).keep t2
      have hq' : ps[i]? = some (ps[i]'(by omega)) := List.getElem?_eq_getElem _
      have hz : (ps.zip rows)[i]? = some (ps[i]'(by omega), ns) := List.getElem?_zip_eq_some.mpr ⟨hq', hn⟩
      refine ⟨t, _, rfl, SqT.of et, rfl, _, _, rfl, _, _, rfl, rfl, rfl, ?_⟩
      unfold tYes
      refine iteT ?_
      have s2 := sI.trans t2
      have sl2 := sl.keep s2
      obtain ⟨dx, ob⟩ := sl2.ob
      refine ⟨.ref p, rfl, p, dx, _, rfl, ob, pk_no _ _ (by decide +kernel) (by decide +kernel), _, rfl, p, l, xc, ps, L, _, rfl, sl2, PairsAt.keep s2 pr, ⟨_, .int _⟩, fun j q' ej eq' => ?_, fun z => ?_⟩
      · cases ej
        rw [hq'] at eq'
        cases eq'
        refine ⟨.ref c, rfl, c, ns, rfl, SqT.of ec, _, _, rfl, rfl, .inl ?_, ?_⟩
        · have z := rg _ (List.getElem_mem (by omega : i < ps.length))
          show -(2 ^ 64) < (if true = true then _ else _) ∧ (if true = true then _ else _) < 2 ^ 64
          rw [if_pos rfl]
          omega
        · refine ⟨_, t2 _ _ eI, small1000 (by rw [List.length_map, List.length_map, List.length_take, List.length_zip]; omega), fun b o z => ?_, ?_⟩
          · rw [upd_ne (ne_of_none z nD)]
            exact s2 _ _ z
          · rw [upd_same, List.take_add_one, hz, List.map_append, List.map_append]
            rfl
      · have z2 : (decide ((0 : Int) ≤ (i : Int)) && decide ((i : Int) ≤ (ps.length : Int) - 1)) = false := z
        rw [decide_eq_true (by omega), decide_eq_true (by omega)] at z2
        cases z2
    · rintro HI ⟨sI, eI⟩
      rw [List.take_of_length_le (by rw [List.length_zip]; omega)] at eI
      exact ⟨D, _, rfl, SqL.of eI, q _ sI⟩
structure SF (P : Program) (w : World) (K : PySem.W.Frag) (mg : Str → Option Value) (base : Heap) (C CN fL fl fb fs : Addr) (dL dl db ds : FuncData) : Prop where
  T : SlabC K mg C
  GL : FnOk P w K mg base CX0 1 fL dL ["self"] (spLen C)
  bL : Binds K dL ["self"] []
  le : PySem.W.findIn K (.ref C) "__len__" = some (some (.ref fL))
  lf : PySem.W.isFn K (.ref fL) = true
  Gl : FnOk P w K mg base CX0 1 fl dl ["self"] (spLimit C)
  bl : Binds K dl ["self"] []
  ml : Meth K C "limit" fl
  Gb : FnOk P w K mg base (L2N.CX P w) 4 fb db ["self", "number"] (spBytes C CN true)
  bb : Binds K db ["self", "number"] []
  mb : Meth K C "bytes_of" fb
  Gs : FnOk P w K mg base (L2N.CX P w) 4 fs ds ["self", "number"] (spBytes C CN false)
  bs : Binds K ds ["self", "number"] []
  ms : Meth K C "slots_of" fs
def spCheck (C CT : Addr) : Sp := fun vs H Q E => ∃ (p l : Addr) (xc : List V) (ps : List (Int × Int)) (L : Int) (t : V), vs = [.ref p, t] ∧ SlabAt C H p l xc L ∧ PairsAt H xc ps ∧ SzOk ps ∧ TyT H t ∧
  (∀ i, badT H ps L t = some i → Rz CT "index" (.int i) H E) ∧ (badT H ps L t = none → ∀ H', Same H H' → Q .non H')
theorem ok_check_table {C CN CT fT fL fl fb fs f fA fP fB : Addr} {dT dL dl db ds fd dA dP dB : FuncData} (F : Fun K "check_table" "check_table" s_check_table f fd) (B : Bt mg) (S : SF P w K mg base C CN fL fl fb fs dL dl db ds)
    (XNoTable : XCls K CT fT "index") (INoTable : FnOk P w K mg base CX0 1 fT dT ["self", "index"] (spIni CT "index")) (biNoTable : Binds K dT ["self", "index"] []) (gNoTable : mg "NoTable" = some (.ref CT))
    (GA : FnOk P w K mg base CX0 2 fA dA ["counts", "slots"] spCounts) (mA : mg "are_counts" = some (.ref fA)) (kA : PySem.W.keepIn K (.ref fA) = true) (bA : Binds K dA ["counts", "slots"] [])
    (GP : FnOk P w K mg base CX0 1 fP dP ["rows"] spPT) (mP : mg "page_total" = some (.ref fP)) (kP2 : PySem.W.keepIn K (.ref fP) = true) (bP : Binds K dP ["rows"] [])
    (GB : FnOk P w K mg base CX0 5 fB dB ["slab", "rows"] (spBT C)) (mB : mg "byte_total" = some (.ref fB)) (kB : PySem.W.keepIn K (.ref fB) = true) (bB : Binds K dB ["slab", "rows"] []) :
    FnOk P w K mg base (L2N.CX P w) 6 f fd ["slab", "table"] (spCheck C CT) := by
  obtain ⟨T, GL, bL, le, lf, Gl, bl, ml, Gb, bb, mb, Gs, bs, ms⟩ := S
  obtain ⟨tP, kP⟩ := B.c_pages
  refine F.okXN sc_check_table (fun vs H Q E h => ?_) (fun cdv A outer s H vs Q E hr h => ?_)
  · obtain ⟨p, l, xc, ps, L, t, rfl, _⟩ := h
    rfl
  · obtain ⟨p, l, xc, ps, L, t, rfl, sl, pr, sz, tt, kE, kQ⟩ := h
    refine ⟨_, (pss_cons (ps_if (PW.pt (pw_or (pt_not (pt_val (pe_callB call_isi (by rfl) B.b_isinstance (by decide +kernel) (pa_cons (pv 1) (pa_cons (pe_bltn (v := V.ty "tuple") rfl B.b_tuple (by decide +kernel) rfl) pa_nil))))) (pw_or1 (pt_cmpR op_ne (pe_callB call_len_seq (by rfl) B.b_len (by decide +kernel) (pa_cons (pv 1) pa_nil)) (pe_callB (call_lenI GL le lf bL (hr.mono (by decide))) (by rfl) B.b_len (by decide +kernel) (pa_cons (pv 0) pa_nil)) (nomark _))))) (pss_one (ps_raiseXN rfl (L2N.takes_of rfl rfl rfl rfl) XNoTable INoTable (hr.mono (by decide)) biNoTable rfl gNoTable (pa_cons (pe_un un_neg pe_int) pa_nil))) pss_nil)
      (pss_cons (ps_for (passes_of rfl) rfl (pi_enumT (by rfl) B.b_enumerate (pa_cons (pv 1) pa_nil)) (pg_tup rfl (pgs_cons (pg_name (i := 2) sc_check_table.nd rfl (Or.inl rfl)) (pgs_cons (pg_name (i := 3) sc_check_table.nd rfl (Or.inl rfl)) pgs_nil)))
      (pss_one (ps_if (pt_not (pt_val (pe_call GA (hr.mono (by decide)) rfl mA kA bA .nil pass0 (pa_cons (pv 3) (pa_cons (pe_meth (pv 0) T.cl ms Gs (hr.mono (by decide)) bs .nil (L2N.passes_call (L2N.takes_of rfl rfl rfl rfl) (fun _ _ _ _ h => h)) (pa_cons (pv 2) pa_nil)) pa_nil))))) (pss_one (ps_raiseXN rfl (L2N.takes_of rfl rfl rfl rfl) XNoTable INoTable (hr.mono (by decide)) biNoTable rfl gNoTable (pa_cons (pv 2) pa_nil))) pss_nil)))
      (pss_cons (ps_if (pt_cmpR op_gt (pe_call GP (hr.mono (by decide)) rfl mP kP2 bP .nil pass0 (pa_cons (pv 1) pa_nil)) (pe_glob (v := V.int 60) rfl kP ⟨_, rfl⟩) (nomark _)) (pss_one (ps_raiseXN rfl (L2N.takes_of rfl rfl rfl rfl) XNoTable INoTable (hr.mono (by decide)) biNoTable rfl gNoTable (pa_cons (pe_callB (call_lenI GL le lf bL (hr.mono (by decide))) (by rfl) B.b_len (by decide +kernel) (pa_cons (pv 0) pa_nil)) pa_nil))) pss_nil)
      (pss_one (ps_if (pt_cmpR op_gt (pe_call GB (hr.mono (by decide)) rfl mB kB bB .nil pass0 (pa_cons (pv 0) (pa_cons (pv 1) pa_nil))) (pe_meth0 (pv 0) T.cl ml Gl (hr.mono (by decide)) bl .nil pass0) (nomark _)) (pss_one (ps_raiseXN rfl (L2N.takes_of rfl rfl rfl rfl) XNoTable INoTable (hr.mono (by decide)) biNoTable rfl gNoTable (pa_cons (pe_op op_add (pe_callB (call_lenI GL le lf bL (hr.mono (by decide))) (by rfl) B.b_len (by decide +kernel) (pa_cons (pv 0) pa_nil)) pe_int) pa_nil))) pss_nil))))), ?_⟩
    have e1 := Paired.length pr
    have n6 := sz.n6
    obtain ⟨dx, ob⟩ := sl.ob
    obtain ⟨ty, hk⟩ := tt.1
    refine ⟨t, rfl, t, .ty "tuple", .type ty, .type "tuple", _, rfl, .ty _, hk.ty, kit_ty (kb_tuple hk.mem), _, rfl, ?_⟩
    cases hk with
    | int i => exact iteT (iteT ⟨1, rfl, _, rfl, kE (-1) (badT_no fun a ys ex => by cases ex)⟩)
    | bl b => exact iteT (iteT ⟨1, rfl, _, rfl, kE (-1) (badT_no fun a ys ex => by cases ex)⟩)
    | non => exact iteT (iteT ⟨1, rfl, _, rfl, kE (-1) (badT_no fun a ys ex => by cases ex)⟩)
    | str z => exact iteT (iteT ⟨1, rfl, _, rfl, kE (-1) (badT_no fun a ys ex => by cases ex)⟩)
    | lst e => exact iteT (iteT ⟨1, rfl, _, rfl, kE (-1) (badT_no fun a ys ex ez => by cases ex; rw [e] at ez; cases ez)⟩)
    | dict e => exact iteT (iteT ⟨1, rfl, _, rfl, kE (-1) (badT_no fun a ys ex ez => by cases ex; rw [e] at ez; cases ez)⟩)
    | @tup a xs e =>
      obtain ⟨hl, hI⟩ := tt.2 a xs rfl e
      have hb := badT_tup (ps := ps) (L := L) e
      refine iteF ?_
      refine ⟨.ref a, rfl, a, xs, rfl, .inr (SqT.of e), .ref p, rfl, p, dx, _, rfl, ob, p, l, xc, L, rfl, sl, xc.length, rfl, (by omega), rfl, _, rfl, ?_⟩
      by_cases hxl : xs.length = ps.length
      · rw [if_pos hxl] at hb
        rw [decide_eq_true (show V.int (xs.length : Int) = V.int (xc.length : Int) by rw [hxl, e1])]
        refine iteF ?_
        refine ⟨.ref a, rfl, a, xs, rfl, SqT.of e, for_it (walk_enumT (K := K) (a := a) (xs := xs)) (fun i σ H4 => ∃ y3 y4, σ = [some (.ref p), some (.ref a), y3, y4] ∧ Same H H4 ∧ ∀ (j : Nat) x q, j < i → xs[j]? = some x → ps[j]? = some q → cntB H q.2 x = true) ⟨_, _, rfl, Same.refl _, fun j x q hj => absurd hj (Nat.not_lt_zero j)⟩
          (fun i σ H4 _ ⟨_, _, _, z, _⟩ => SqT.of (z _ _ e)) ?_ ?_⟩
        · rintro j x σ H4 H5 hj ⟨y3, y4, rfl, S4, hs⟩ ⟨T', x1, x2, rfl, nT, rfl, g1, g2⟩
          cases g1
          have g2' : xs[j]? = some x2 := g2
          generalize h6 : upd H4 T' _ = H6
          obtain ⟨t6, e6⟩ := eqU h6 nT
          have S6 := S4.trans t6
          have hx2 := hI x2 (List.mem_of_getElem? g2')
          have hq : ps[j]? = some (ps[j]'(by omega)) := List.getElem?_eq_getElem _
          obtain ⟨dx6, ob6⟩ := (sl.keep S6).ob
          refine ⟨T', _, rfl, SqT.of e6, rfl, _, _, rfl, _, _, rfl, rfl, ?_⟩
          refine ⟨x2, rfl, .ref p, rfl, p, dx6, _, rfl, ob6, pk_no _ _ (by decide +kernel) (by decide +kernel), _, rfl, p, l, xc, ps, L, _, rfl, sl.keep S6, PairsAt.keep S6 pr, ⟨_, .int _⟩, fun i q' ei eq' => ?_, fun z => ?_⟩
          · cases ei
            rw [hq] at eq'
            cases eq'
            refine ⟨x2, _, rfl, hx2.keep S6, _, rfl, ?_⟩
            show if (!(cntB H6 (ps[j]'(by omega)).2 x2)) = true then _ else _
            rw [cntB_keep hx2.1 S6]
            cases c3 : cntB H (ps[j]'(by omega)).2 x2 with
            | false =>
              rw [firstBad_some g2' hq c3 fun i y r hi hy hr' => hs i y r hi hy hr'] at hb
              exact iteT ⟨_, rfl, _, rfl, (kE j hb).keep S6⟩
            | true =>
              refine iteF ⟨_, _, rfl, S6, fun i x q hi hx hq' => ?_⟩
              by_cases ei : i = j
              · subst ei
                rw [g2'] at hx
                cases hx
                rw [hq] at hq'
                cases hq'
                exact c3
              · exact hs i x q (by omega) hx hq'
          · have z2 : (decide ((0 : Int) ≤ (j : Int)) && decide ((j : Int) ≤ (ps.length : Int) - 1)) = false := z
            rw [decide_eq_true (by omega), decide_eq_true (by omega)] at z2
            cases z2
        · rintro σ H4 ⟨y3, y4, rfl, S4, hs⟩
          have fb0 : firstBad H xs ps = none := List.findIdx?_eq_none_iff.mpr fun z hz => by
            obtain ⟨i, hi⟩ := List.mem_iff_getElem?.mp hz
            rw [List.getElem?_zip_eq_some] at hi
            rw [hs i z.1 z.2 (List.getElem?_eq_some_iff.mp hi.1).1 hi.1 hi.2]
            rfl
          rw [fb0] at hb
          have hb : badT H ps L (.ref a) = if 60 < pgs (xs.map (cntI H)) then some (ps.length : Int) else if L < lv ps (xs.map (cntI H)) then some ((ps.length : Int) + 1) else none := hb
          have ra : RowsAt H xs (xs.map (cntI H)) := rowsAt_of fun x hx => by
            obtain ⟨i, hi⟩ := List.mem_iff_getElem?.mp hx
            have lt := (List.getElem?_eq_some_iff.mp hi).1
            exact cntB_at (hs i x (ps[i]'(by omega)) lt hi (List.getElem?_eq_getElem _))
          generalize xs.map (cntI H) = rows at hb ra
          have e2 := Paired.length ra
          refine ⟨.ref a, rfl, a, xs, _, rfl, .inr (S4 _ _ e), lens_of (RowsAt.keep S4 ra), hl, fun H7 S7 => ?_⟩
          have k7 := S4.trans S7
          obtain ⟨dx7, ob7⟩ := (sl.keep k7).ob
          refine ⟨_, 60, rfl, rfl, _, rfl, ?_⟩
          by_cases h60 : 60 < pgs rows
          · rw [if_pos h60] at hb
            rw [decide_eq_true (show (60 : Int) < ((rows.map List.length).sum : Int) by unfold pgs at h60; omega)]
            refine iteT ⟨.ref p, rfl, p, dx7, _, rfl, ob7, p, l, xc, L, rfl, sl.keep k7, xc.length, rfl, (by omega), _, rfl, ?_⟩
            rw [e1]
            exact (kE _ hb).keep k7
          · rw [if_neg h60] at hb
            rw [decide_eq_false (show ¬ (60 : Int) < ((rows.map List.length).sum : Int) by unfold pgs at h60; omega)]
            refine iteF ?_
            refine ⟨.ref p, rfl, .ref a, rfl, p, l, xc, ps, L, a, xs, rows, rfl, sl.keep k7, PairsAt.keep k7 pr, fun q hq => (by have := sz.rg q hq; omega), k7 _ _ e, RowsAt.keep k7 ra, by omega, by omega, fun H8 S8 => ?_⟩
            have k8 := k7.trans S8
            obtain ⟨dx8, ob8⟩ := (sl.keep k8).ob
            refine ⟨.ref p, rfl, p, dx8, _, rfl, ob8, pk_no _ _ (by decide +kernel) (by decide +kernel), p, l, xc, L, rfl, sl.keep k8, _, _, rfl, rfl, _, rfl, ?_⟩
            by_cases hL : L < lv ps rows
            · rw [if_pos hL] at hb
              rw [decide_eq_true hL]
              refine iteT ⟨.ref p, rfl, p, dx8, _, rfl, ob8, p, l, xc, L, rfl, sl.keep k8, xc.length, rfl, (by omega), _, _, rfl, rfl, _, rfl, ?_⟩
              rw [e1]
              exact (kE _ hb).keep k8
            · rw [if_neg hL] at hb
              rw [decide_eq_false hL]
              exact iteF (kQ hb _ k8)
      · rw [if_neg hxl] at hb
        rw [decide_eq_false (show ¬ V.int (xs.length : Int) = V.int (xc.length : Int) from fun z => hxl (by have := V.int.inj z; omega))]
        exact iteT ⟨1, rfl, _, rfl, kE (-1) hb⟩
end
end K20
set_option Elab.async false
set_option linter.all false
set_option maxRecDepth 100000
set_option maxHeartbeats 4000000
namespace K20
open PySem PySem.Spec PyProof.Rows L2 XV SL
section
variable {P : Program} {w : World} {K : PySem.W.Frag} {mg : Str → Option Value} {base : Heap}
def spEmpty (C : Addr) : Sp := fun vs H Q _ => ∃ (p l : Addr) (xc : List V) (L : Int), vs = [.ref p] ∧ SlabAt C H p l xc L ∧ 1 ≤ xc.length ∧ xc.length ≤ 6 ∧ ∀ t H', Same H H' → TabAt H' t (List.replicate xc.length []) → Q t H'
theorem ok_empty {C f fL : Addr} {fd dL : FuncData} (F : Fun K "empty" "empty" s_empty f fd) (B : Bt mg) (T : SlabC K mg C) (GL : FnOk P w K mg base CX0 1 fL dL ["self"] (spLen C)) (bL : Binds K dL ["self"] []) (le : PySem.W.findIn K (.ref C) "__len__" = some (some (.ref fL))) (lf : PySem.W.isFn K (.ref fL) = true) :
    FnOk P w K mg base CX0 3 f fd ["slab"] (spEmpty C) := by
  refine F.ok sc_empty (fun vs H Q E h => ?_) (fun cdv A outer s H vs Q E hr h => ?_)
  · obtain ⟨p, l, xc, L, rfl, _⟩ := h
    rfl
  · obtain ⟨p, l, xc, L, rfl, sl, h1, h6, q⟩ := h
    refine ⟨_, (pss_one (ps_ret (pe_op op_repA (pe_tup (pa_cons (pe_tup pa_nil) pa_nil)) (pe_callB (call_lenI GL le lf bL (hr.mono (by decide))) (by rfl) B.b_len (by decide +kernel) (pa_cons (pv 0) pa_nil))))), ?_⟩
    refine ⟨(by show 0 ≤ sizeLine; decide), fun e0 n0 => ?_⟩
    generalize hq : upd H e0 _ = H1
    obtain ⟨t1, w1⟩ := eqU hq n0
    refine ⟨(by show 1 ≤ sizeLine; decide), fun e1 n1 => ?_⟩
    generalize hq2 : upd H1 e1 _ = H2
    obtain ⟨t2, w2⟩ := eqU hq2 n1
    have s2 := t1.trans t2
    obtain ⟨dx, ob⟩ := (sl.keep s2).ob
    have w1' := t2 _ _ w1
    have rr : ∀ n, RowsAt H2 (List.replicate n (.ref e0)) (List.replicate n []) := fun n => by
      induction n with
      | zero => exact .nil
      | succ n ih => exact .cons ⟨e0, rfl, w1'⟩ ih
    refine ⟨.ref p, rfl, p, dx, _, rfl, ob, p, l, xc, L, rfl, sl.keep s2, xc.length, rfl, (by omega), e1, _, _, rfl, rfl, SqT.of w2, (by simp), (by omega), (by omega), (by show 1 ≤ 1000; decide), fun one => ?_, fun no p' np' => ?_⟩
    · have z : xc.length = 1 := by omega
      refine q _ H2 s2 ⟨e1, [.ref e0], rfl, w2, ?_⟩
      rw [z]
      exact rr 1
    · generalize hq3 : upd H2 p' _ = H3
      obtain ⟨t3, w3⟩ := eqU hq3 np'
      refine q _ H3 (s2.trans t3) ⟨p', _, rfl, w3, RowsAt.keep t3 ?_⟩
      rw [Int.toNat_natCast]
      have z : (List.replicate xc.length ([.ref e0] : List V)).flatten = List.replicate xc.length (.ref e0) := by
        induction xc.length with
        | zero => rfl
        | succ n ih => rw [List.replicate_succ, List.flatten_cons, ih]; rfl
      rw [z]
      exact rr _
end
end K20
set_option Elab.async false
set_option linter.all false
set_option maxRecDepth 100000
set_option maxHeartbeats 4000000
/-! zip of two tuples -/
namespace XV
open PySem PySem.Spec PyProof.Rows L2
/-- the tuples at a and b, the items in new pairs -/
def IzTT (K : PySem.W.Frag) (a b : Addr) : It :=
  ⟨fun i H => ∃ (xs ys : List V) (x y : V), SqT K H a xs ∧ SqT K H b ys ∧ xs[i]? = some x ∧ ys[i]? = some y, fun i H v H' => ∃ T x y, v = .ref T ∧ H T = none ∧ H' = upd H T (.tup [x, y]) ∧ (∀ xs, SqT K H a xs → xs[i]? = some x) ∧ ∀ ys, SqT K H b ys → ys[i]? = some y,
    fun i H => ∃ xs ys : List V, SqT K H a xs ∧ SqT K H b ys ∧ i ≤ xs.length ∧ i ≤ ys.length ∧ (i = xs.length ∨ i = ys.length)⟩
theorem turn_zipTT {P : Program} {w : World} {K : PySem.W.Frag} {elts : List Expr} {kk : Nat} {tpos : Pos} {a b z TI TO i1 i2 : Addr} (S : ZipSep2 z TI TO i1 i2 [i1, a] [i2, b]) (ia : a ≠ i1) (ib : b ≠ i2) :
    Turn P w K (.Tuple elts kk tpos) (IzTT K a b) [z, TI, TO, i1, i2] z (fun i h => IsZip h z TI TO .none ∧ IsTupOf2 h TI (.ref i1) (.ref i2) ∧ (∃ x y, IsTupOf2 h TO x y) ∧ h.IsTupleIter i1 a i ∧ h.IsTupleIter i2 b i) := by
  have five : ∀ {c : Addr}, c ∈ [z, TI, TO, i1, i2] → c = z ∨ c = TI ∨ c = TO ∨ c = i1 ∨ c = i2 := fun hc => by simpa using hc
  refine ⟨List.mem_cons_self, fun i h st c hc => ?_, fun i h h' st k => ?_, ?_, ?_, fun A i s Q E st h => wpAny_pyIter_zip st.1 h⟩
  · obtain ⟨hz, hTI, ⟨x, y, hTO⟩, ⟨o1, e1, _, d1⟩, ⟨o2, e2, _, d2⟩⟩ := st
    rcases five hc with q | q | q | q | q <;> rw [q]
    · exact ⟨_, hz, fun v q => nomatch q⟩
    · exact ⟨_, hTI, fun v q => nomatch q⟩
    · exact ⟨_, hTO, fun v q => nomatch q⟩
    · exact ⟨o1, e1, fun v q => by rw [d1] at q; cases q⟩
    · exact ⟨o2, e2, fun v q => by rw [d2] at q; cases q⟩
  · obtain ⟨hz, hTI, ⟨x, y, hTO⟩, h1, h2⟩ := st
    exact ⟨k z (by simp) _ hz, k TI (by simp) _ hTI, ⟨x, y, k TO (by simp) _ hTO⟩, h1.at fun o q => k i1 (by simp) o q, h2.at fun o q => k i2 (by simp) o q⟩
  · intro X hP hw hK hc i pins s σ H E I hf st hg
    subst hP hw hK
    obtain ⟨hz, hTI, ⟨x0, y0, hTO⟩, h1, h2⟩ := st
    obtain ⟨xs, ys, x, y, hqx, hqy, hx, hy⟩ := hg
    obtain ⟨its, rv, p, _⟩ := I.tuple hqx
    obtain ⟨its2, rv2, p2, _⟩ := I.tuple hqy
    obtain ⟨u, hu, ru⟩ := rv.get hx
    obtain ⟨u2, hu2, ru2⟩ := rv2.get hy
    have ltz : z < s.heap.objs.size := Heap.lt_size hz
    have hi1 : i < its.toArray.size := by
      have := (List.getElem?_eq_some_iff.mp hu).1
      simpa using this
    have hi2 : i < its2.toArray.size := by
      have := (List.getElem?_eq_some_iff.mp hu2).1
      simpa using this
    have D1 := Draws.tuple (prog := X.prog) (w := X.w) (A := X.A.in1) (I.ok.hd hc) i1 a ia its.toArray
    have D2 := Draws.tuple (prog := X.prog) (w := X.w) (A := X.A.in1) (I.ok.hd hc) i2 b ib its2.toArray
    refine wpAny_pyNext_zipD2_item S D1 D2 hz hTI hTO ⟨h1, (show s.heap.IsTuple a its.toArray from p)⟩ ⟨h2, (show s.heap.IsTuple b its2.toArray from p2)⟩ hi1 hi2 fun v1 v2 hp tk e1 e2 z' TO' st1 st2 hT hsz hk => ?_
    obtain rfl : v1 = u := by
      have e1' : its.toArray[i]? = some v1 := e1
      rw [List.getElem?_toArray, hu] at e1'
      exact (Option.some.inj e1').symm
    obtain rfl : v2 = u2 := by
      have e2' : its2.toArray[i]? = some v2 := e2
      rw [List.getElem?_toArray, hu2] at e2'
      exact (Option.some.inj e2').symm
    refine ⟨_, rfl, wpAny_letOwnedTupleGo_zip (s := { s with heap := hp, toks := tk }) z' fun hq z'' sb => ?_⟩
    have hT2 : hq.get? s.heap.objs.size = some { cls := .type "tuple", data := .seq #[v1, v2] } := (sb.2 _ (Nat.ne_of_gt ltz)).trans hT
    have I1 : Inv X pins σ (upd H s.heap.objs.size (.tup [x, y])) { s with heap := hq, toks := tk } :=
      I.turnedNew (t' := tk) (ch := [z, TI, TO, i1, i2]) (fun c o hb q => (sb.2 c (fun q' => hb (by simp [q']))).trans (hk c o (fun q' => hb (by simp [q'])) (fun q' => hb (by simp [q'])) (fun q' => hb (by simp [q'])) (fun q' => hb (by simp [q'])) q)) hf (Nat.le_refl _)
        ⟨by show 2 ≤ sizeLine; decide, [v1, v2], .cons ru (.cons ru2 .nil), ⟨_, hT2, rfl, _, rfl⟩⟩
    refine ⟨.ref s.heap.objs.size, _, I1, rfl, ⟨_, x, y, rfl, I.hok.fresh (Nat.le_refl _), rfl, fun l hl => by rw [I.tuple_inj hl hqx]; exact hx, fun l hl => by rw [I.tuple_inj hl hqy]; exact hy⟩, ⟨z'', ?_, ⟨v1, v2, ?_⟩, ?_, ?_⟩, fun c hcm => ?_⟩
    · exact (sb.2 _ S.TIz).trans (hk _ _ S.TIz S.TITO S.TIi1 S.TIi2 hTI)
    · exact (sb.2 _ S.TOz).trans TO'
    · exact st1.1.at fun o q => (sb.2 _ (Ne.symm S.zi1)).trans q
    · exact st2.1.at fun o q => (sb.2 _ (Ne.symm S.zi2)).trans q
    · have lt : c < s.heap.objs.size := by
        rcases five hcm with q | q | q | q | q <;> rw [q]
        · exact ltz
        · exact Heap.lt_size hTI
        · exact Heap.lt_size hTO
        · obtain ⟨_, e1, _⟩ := h1
          exact Heap.lt_size e1
        · obtain ⟨_, e2, _⟩ := h2
          exact Heap.lt_size e2
      rw [upd_ne (Nat.ne_of_lt lt)]
      exact (hf c hcm).1
  · intro X hP hw hK hc i pins s σ H E I hf st hg
    subst hP hw hK
    obtain ⟨hz, hTI, ⟨x0, y0, hTO⟩, h1, h2⟩ := st
    obtain ⟨xs, ys, hqx, hqy, l1, l2, hend⟩ := hg
    obtain ⟨its, rv, p, _⟩ := I.tuple hqx
    obtain ⟨its2, rv2, p2, _⟩ := I.tuple hqy
    have s1 : its.toArray.size = xs.length := by rw [List.size_toArray, rv.length]
    have s2 : its2.toArray.size = ys.length := by rw [List.size_toArray, rv2.length]
    have D1 := Draws.tuple (prog := X.prog) (w := X.w) (A := X.A.in1) (I.ok.hd hc) i1 a ia its.toArray
    have D2 := Draws.tuple (prog := X.prog) (w := X.w) (A := X.A.in1) (I.ok.hd hc) i2 b ib its2.toArray
    exact wpAny_pyNext_zipD2_end S D1 D2 hz hTI hTO ⟨h1, (show s.heap.IsTuple a its.toArray from p)⟩ ⟨h2, (show s.heap.IsTuple b its2.toArray from p2)⟩ (by omega) (by omega) (by omega) fun h' tk hk => ⟨rfl, I.turnedL (t' := tk) (ch := [z, TI, TO, i1, i2]) (fun c o hb q =>
      hk c o (fun q' => hb (by simp [q'])) (fun q' => hb (by simp [q'])) (fun q' => hb (by simp [q'])) (fun q' => hb (by simp [q'])) q) hf⟩
def iZipTT (K : PySem.W.Frag) (ta : TA) : TI := fun σ H R => ta σ H fun vs H1 => ∃ a b xs ys, vs = [.ref a, .ref b] ∧ SqT K H1 a xs ∧ SqT K H1 b ys ∧ R (IzTT K a b) H1
theorem pi_zipTT {X : Cx} {e e2 : Expr} {ta : TA} {p pos tpos : Pos} {elts : List Expr} {kk : Nat} (hg : Gl X "zip") (hm : X.mg "zip" = none) (ha : PA X [e, e2] ta)
    (hs : starEach [e, e2] X.env = (false, eval e X.env) :: starEach [e2] X.env := by rfl) (hpl : (backTo pos (starEach [e2] X.env)).any (·.1) = false := by rfl) :
    PI X (.Tuple elts kk tpos) (.Call (.Name "zip" p) [e, e2] [] pos) (iZipTT X.K ta) := by
  refine ⟨fun pins s σ H R I h => ?_⟩
  refine Call_ (ld_blt I hg hm PyProof.Rows.boot_zip (PyProof.Rows.callWith_type1 (thn (ha.run pos pins s σ H _ I h) fun us s1 ⟨vs, H1, I1, r1, q1⟩ => ?_) hs hpl))
  obtain ⟨a, b, xs, ys, rfl, hqx, hqy, q⟩ := q1
  obtain ⟨u1, u2, rfl, ra, rb⟩ := vals2 r1
  obtain rfl : u1 = Value.ref a := ra
  obtain rfl : u2 = Value.ref b := rb
  obtain ⟨its, rv, p1, _⟩ := I1.tuple hqx
  obtain ⟨its2, rv2, p2, _⟩ := I1.tuple hqy
  have pa : s1.heap.IsTuple a its.toArray := p1
  have la : a < s1.heap.objs.size := let ⟨_, e, _⟩ := pa; Heap.lt_size e
  have pb : s1.heap.IsTuple b its2.toArray := p2
  have lb : b < s1.heap.objs.size := let ⟨_, e, _⟩ := pb; Heap.lt_size e
  refine zip_begins2 (begins_tuple a its.toArray) (begins_tuple b its2.toArray) pa pb fun h' hz hTI hTO g1 g2 hsz hk => wpAny_pyIter_zip hz ?_
  have S := zip_sep2 (N := s1.heap.objs.size) (fp1 := [a]) (fp2 := [b]) (fun c hc => by rw [List.mem_singleton.mp hc]; exact la) fun c hc => by rw [List.mem_singleton.mp hc]; exact lb
  refine ⟨_, [s1.heap.objs.size + 4, s1.heap.objs.size + 2, s1.heap.objs.size + 3, s1.heap.objs.size, s1.heap.objs.size + 1], _, _, H1, rfl, I1.kept (t' := s1.toks) hk, turn_zipTT S (Nat.ne_of_lt la) (Nat.ne_of_lt (Nat.lt_succ_of_lt lb)), ⟨hz, hTI, ⟨_, _, hTO⟩, ⟨_, g1, rfl, rfl⟩, ⟨_, g2, rfl, rfl⟩⟩, fun c hcm => ?_, q⟩
  have le : s1.heap.objs.size ≤ c := by
    have z : c = s1.heap.objs.size + 4 ∨ c = s1.heap.objs.size + 2 ∨ c = s1.heap.objs.size + 3 ∨ c = s1.heap.objs.size ∨ c = s1.heap.objs.size + 1 := by simpa using hcm
    rcases z with z | z | z | z | z <;> rw [z] <;> first | exact Nat.le_add_right _ _ | exact Nat.le_refl _
  exact I1.fpOk le (I1.hok.fresh le)
theorem walk_zipTT {K : PySem.W.Frag} {a b : Addr} {xs ys : List V} {n : Nat} (e1 : xs.length = n) (e2 : ys.length = n) : Walk (IzTT K a b) n (fun H => SqT K H a xs ∧ SqT K H b ys) (YPair (fun i => xs[i]?) (fun i => ys[i]?)) :=
  ⟨fun i _ hi q => ⟨xs, ys, xs[i]'(by omega), ys[i]'(by omega), q.1, q.2, List.getElem?_eq_getElem _, List.getElem?_eq_getElem _⟩, fun _ q => ⟨xs, ys, q.1, q.2, by omega, by omega, by omega⟩, fun i H v H' _ q ⟨T, x, y, h1, h2, h3, h4, h5⟩ => ⟨T, x, y, h1, h2, h3, h4 xs q.1, h5 ys q.2⟩⟩
end XV
set_option Elab.async false
set_option linter.all false
set_option maxRecDepth 100000
set_option maxHeartbeats 4000000
namespace XV
open PySem PySem.Spec PyProof.Rows L2
theorem passAtN {X : Cx} {W : WX} (tk : L2N.Takes X W) (σ : L2.St) : PassesAt (L2N.CX X.prog X.w) X σ (WE W σ) := fun _ _ _ e s' I c => tk e s' (L2N.XE.of_call I (fun _ _ _ h => h) c)
theorem roomH_mark {k : Nat} {A : Around} (r : Room k A) (h : Option Value) : L2H.RoomH k (A.mark h) := ⟨r.dp, r.un⟩
/-- all keyword-only parameters are written -/
theorem _root_.L2.Fun.kb {K : PySem.W.Frag} {x qual : Str} {st : Stmt} {f : Addr} {fd : FuncData} (F : Fun K x qual st f fd) (n : Nat) {ps ks : List Str}
    (h : ∀ (kV doc pm : Value) (an : Option Addr) (cdv ct : Value) (us ws : List Value), us.length = n → ws.length = ks.length → bindArgs (PySem.W.fnOf x qual (defArgs st) (defBody st) (defScope st) .none kV doc pm an cdv ct) ⟨us, ks.zip ws⟩ = pure (ps.zip (us ++ ws))) :
    KBn K fd ps n ks (fun us ws => us ++ ws) (fun vs zs => vs ++ zs) := by
  obtain ⟨oc, od, kV, doc, pm, an, cdv, ct, osl, rfl, lk, hcd⟩ := F.ex
  exact ⟨fun s us ws X h1 h2 => .of_eq (h kV doc pm an cdv ct us ws h1 h2), fun r1 r2 => r1.append r2⟩
theorem cut_from {xs : List V} {b : Nat} (h : b ≤ xs.length) : cutV xs (some (b : Int)) none = xs.drop b := by
  unfold cutV
  have e1 : HT.sIx xs.length 0 (some (b : Int)) = b := by
    show (if (b : Int) < 0 then ((b : Int) + (xs.length : Int)).toNat else min (b : Int).toNat xs.length) = b
    rw [if_neg (by omega)]
    omega
  have e2 : HT.sIx xs.length xs.length none = xs.length := rfl
  rw [e1, e2, List.take_of_length_le (by rw [List.length_drop]; omega)]
theorem sl_from {K : PySem.W.Frag} {H : Hp} {a : Addr} {xs : List V} {b : Nat} {Q : VK} (e : H a = some (.tup xs)) (h : b ≤ xs.length) (k : ∀ p H1, (∀ q o, H q = some o → H1 q = some o) → H1 p = some (.tup (xs.drop b)) → Q (.ref p) H1) : rSlA K (.ref a) (some (b : Int)) none H Q := by
  refine ⟨a, xs, rfl, SqT.of e, fun hw => ?_, fun hw p np => ?_⟩
  · refine k a H (fun _ _ z => z) ?_
    have e1 : HT.sIx xs.length 0 (some (b : Int)) = b := by
      show (if (b : Int) < 0 then ((b : Int) + (xs.length : Int)).toNat else min (b : Int).toNat xs.length) = b
      rw [if_neg (by omega)]
      omega
    have z : b = 0 := e1.symm.trans hw.1
    rw [z, List.drop_zero]
    exact e
  · rw [cut_from h]
    exact k p _ (fun q o z => by rw [upd_ne (ne_of_none z np)]; exact z) upd_same
theorem sl_fromP {K : PySem.W.Frag} {H : Hp} {σ : L2.St} {a : Addr} {xs : List V} {b : Nat} {Q : VK} (e : H a = some (.tup xs)) (h : b ≤ xs.length) (k : ∀ p H1, (∀ q o, H q = some o → H1 q = some o) → H1 p = some (.tup (xs.drop b)) → Q (.ref p) H1) : tNoPart σ H fun u H3 => rSlA K (.ref a) (some (b : Int)) u H3 Q := sl_from e h k
end XV
namespace K20
open PySem PySem.Spec PyProof.Rows L2 XV SL
abbrev s_pin_table : Stmt := topS 22
theorem sc_pin_table : FnScope ["slab", "pins"] ["slab", "pins"] (defScope s_pin_table) := ⟨rfl, rfl, rfl, by decide +kernel, rfl, by decide +kernel, by decide +kernel⟩
abbrev s_pins_of : Stmt := topS 23
theorem sc_pins_of : FnScope ["slab", "table", "pins", "pinned"] ["slab", "table", "pins"] (defScope s_pins_of) := ⟨rfl, rfl, rfl, by decide +kernel, rfl, by decide +kernel, by decide +kernel⟩
abbrev s_has_pins : Stmt := topS 24
theorem sc_has_pins : FnScope ["table", "pinned", "counts", "least"] ["table", "pinned"] (defScope s_has_pins) := ⟨rfl, rfl, rfl, by decide +kernel, rfl, by decide +kernel, by decide +kernel⟩
abbrev s_has_counts : Stmt := topS 25
theorem sc_has_counts : FnScope ["counts", "least", "beyond", "count", "pin"] ["counts", "least"] (defScope s_has_counts) := ⟨rfl, rfl, rfl, by decide +kernel, rfl, by decide +kernel, by decide +kernel⟩
abbrev s_iNoPins : Stmt := inClass (topS 5) 0
theorem sc_iNoPins : FnScope ["self", "pins"] ["self", "pins"] (defScope s_iNoPins) := ⟨rfl, rfl, rfl, by decide +kernel, rfl, by decide +kernel, by decide +kernel⟩
section
variable {P : Program} {w : World} {K : PySem.W.Frag} {mg : Str → Option Value} {base : Heap}
theorem ok_iNoPins {C fI : Addr} {fd : FuncData} (F : Fun K "__init__" "NoPins.__init__" s_iNoPins fI fd) (T : XCls K C fI "pins") : FnOk P w K mg base CX0 1 fI fd ["self", "pins"] (spIni C "pins") := by
  refine F.ok sc_iNoPins (fun vs H Q E h => ?_) (fun cdv A outer s H vs Q E hr h => ?_)
  · obtain ⟨a, v, rfl, _⟩ := h
    rfl
  · obtain ⟨a, v, rfl, ha, k⟩ := h
    exact ⟨_, pss_one (ps_ost (pv 0) (pv 1)), _, rfl, _, rfl, a, C, rfl, T.ox, T.noF, .inl ⟨ha, fun dx n ne => k dx n ne⟩⟩
theorem ok_iNoPinsH {C fI : Addr} {fd : FuncData} (F : Fun K "__init__" "NoPins.__init__" s_iNoPins fI fd) (T : XCls K C fI "pins") : L2H.FnH P w K mg base CX0 1 fI fd ["self", "pins"] (spIni C "pins") := by
  refine F.okHot sc_iNoPins (fun vs H Q E h => ?_) (fun cdv A outer s H vs Q E p hot hr h => ?_)
  · obtain ⟨a, v, rfl, _⟩ := h
    rfl
  · obtain ⟨a, v, rfl, ha, k⟩ := h
    exact ⟨_, pss_one (ps_ost (pv 0) (pv 1)), _, rfl, _, rfl, a, C, rfl, T.ox, T.noF, .inl ⟨ha, fun dx n ne => k dx n ne⟩⟩
def hcB (ns ms : List Int) : Bool := decide (ms.length ≤ ns.length) && (((ns.drop (ns.length - ms.length)).zip ms).map fun p => decide (p.2 ≤ p.1)).all id
def spHC : Sp := fun vs H Q _ => ∃ (x y : V) (ns ms : List Int), vs = [x, y] ∧ CntAt H x ns ∧ CntAt H y ms ∧ ns.length ≤ 900 ∧ ms.length ≤ 900 ∧ ∀ H', Same H H' → Q (.bl (hcB ns ms)) H'
theorem cr_allK {X : Cx} {K : PySem.W.Frag} (e : X.K = K) (hc : X.calm = true) : CallR X (.builtin "all") (rAll K) := by
  subst e
  exact cr_all hc
theorem ok_has_counts {f : Addr} {fd : FuncData} (F : Fun K "has_counts" "has_counts" s_has_counts f fd) (B : Bt mg) (b_zip : mg "zip" = none) (b_all : mg "all" = none) : FnOk P w K mg base CX0 1 f fd ["counts", "least"] spHC := by
  refine F.ok sc_has_counts (fun vs H Q E h => ?_) (fun cdv A outer s H vs Q E hr h => ?_)
  · obtain ⟨x, y, ns, ms, rfl, _⟩ := h
    rfl
  · obtain ⟨x, y, ns, ms, rfl, ⟨c, rfl, ec⟩, ⟨d, rfl, ed⟩, l1, l2, q⟩ := h
    refine ⟨_, (pss_cons (ps_set (i := 2) sc_has_counts.nd rfl (Or.inl rfl) (pe_op op_sub (pe_callB call_len_seq (by rfl) B.b_len (by decide +kernel) (pa_cons (pv 0) pa_nil)) (pe_callB call_len_seq (by rfl) B.b_len (by decide +kernel) (pa_cons (pv 1) pa_nil))))
      (pss_one (ps_ret (pe_and (pe_cmpR op_ge (pv 2) pe_int (nomark _)) (pe_one (pe_callB (cr_allK (K := K) rfl rfl) (by rfl) b_all (by decide +kernel) (pa_cons (pe_lc (own := [("count", 3), ("pin", 4)]) (g := gTup K 2 (gCons (gName 3) (gCons (gName 4) gNil))) (tt := tYes) (by rfl) sc_has_counts.nd (pi_zipTT (by rfl) b_zip (pa_cons (pe_slice sl_tupA (pv 0) (po_some (pv 2)) po_none) (pa_cons (pv 1) pa_nil))) (blkOk_by (own := [("count", 3), ("pin", 4)]) (N := ["counts", "least", "beyond", "count", "pin"]) (sc := defScope s_has_counts) (by decide +kernel)) (fun _ _ _ _ _ => pg_tup rfl (pgs_cons (pg_name (i := 3) sc_has_counts.nd rfl (Or.inl rfl)) (pgs_cons (pg_name (i := 4) sc_has_counts.nd rfl (Or.inl rfl)) pgs_nil))) (fun _ _ _ _ _ => pts_nil) (fun _ _ _ _ _ => (pe_cmpR op_ge (pv 3) (pv 4) (nomark _)))) pa_nil))))))), ?_⟩
    refine ⟨.ref c, rfl, c, _, rfl, .inr (SqT.of ec), .ref d, rfl, d, _, rfl, .inr (SqT.of ed), _, _, rfl, rfl, ?_⟩
    rw [List.length_map, List.length_map]
    refine ⟨_, rfl, _, 0, rfl, rfl, _, rfl, ?_⟩
    by_cases c0 : ms.length ≤ ns.length
    rotate_left
    · rw [decide_eq_false (show ¬ (0 : Int) ≤ (ns.length : Int) - (ms.length : Int) by omega)]
      refine iteF ?_
      have z : hcB ns ms = false := by
        unfold hcB
        rw [decide_eq_false c0, Bool.false_and]
      have z2 := q _ (Same.refl _)
      rw [z] at z2
      exact z2
    rw [decide_eq_true (show (0 : Int) ≤ (ns.length : Int) - (ms.length : Int) by omega)]
    refine iteT ?_
    obtain ⟨b, hb⟩ : ∃ b : Nat, b = ns.length - ms.length := ⟨_, rfl⟩
    have eb : V.int ((ns.length : Int) - (ms.length : Int)) = V.int (b : Int) := by rw [show (ns.length : Int) - (ms.length : Int) = (b : Int) by omega]
    refine ⟨.ref c, rfl, .int (b : Int), congrArg (fun z => some (some z)) eb, (b : Int), rfl, ?_⟩
    refine sl_fromP (K := K) (a := c) (b := b) ec (by rw [List.length_map]; omega) (fun c' H1 S1 ec' => ?_)
    rw [← List.map_drop] at ec'
    have hn : (ns.drop b).length = ms.length := by rw [List.length_drop]; omega
    refine ⟨.ref d, rfl, c', d, _, _, rfl, SqT.of ec', SqT.of (S1 _ _ ed), fun D nD => ?_⟩
    refine lc_it (walk_zipTT (K := K) (a := c') (b := d) (xs := (ns.drop b).map V.int) (ys := ms.map V.int) (n := ms.length) (by rw [List.length_map, hn]) (List.length_map ..)) (fun i HI => Same H1 HI ∧ HI D = some (.lst (((((ns.drop b).zip ms).map fun p => decide (p.2 ≤ p.1)).take i).map V.bl))) ⟨same_upd nD, upd_same⟩ (fun i HI _ z => ⟨SqT.of (z.1 _ _ ec'), SqT.of (z.1 _ _ (S1 _ _ ed))⟩) ?_ ?_
    · rintro i x HI H2 hi ⟨sI, eI⟩ ⟨t, x1, x2, rfl, nt, rfl, g1, g2⟩
      generalize hq : upd HI t _ = H3
      obtain ⟨t3, et⟩ := eqU hq nt
      have g1 : ((ns.drop b).map V.int)[i]? = some x1 := g1
      have g2 : (ms.map V.int)[i]? = some x2 := g2
      rw [List.getElem?_map] at g1 g2
      obtain ⟨i1, f1, rfl⟩ := Option.map_eq_some_iff.mp g1
      obtain ⟨i2, f2, rfl⟩ := Option.map_eq_some_iff.mp g2
      have hz : ((ns.drop b).zip ms)[i]? = some (i1, i2) := List.getElem?_zip_eq_some.mpr ⟨f1, f2⟩
      refine ⟨t, _, rfl, SqT.of et, rfl, _, _, rfl, _, _, rfl, rfl, rfl, ?_⟩
      unfold tYes
      refine iteT ?_
      refine ⟨_, rfl, _, rfl, i1, i2, rfl, rfl, _, t3 _ _ eI, small1000 (by rw [List.length_map, List.length_take, List.length_map, List.length_zip]; omega), fun b o z => ?_, ?_⟩
      · rw [upd_ne (ne_of_none z nD)]
        exact (sI.trans t3) _ _ z
      · rw [upd_same, List.take_add_one, List.getElem?_map, hz, List.map_append]
        rfl
    · rintro HI ⟨sI, eI⟩
      rw [List.take_of_length_le (by rw [List.length_map, List.length_zip]; omega)] at eI
      have z := q _ (Same.trans S1 sI)
      unfold hcB at z
      rw [decide_eq_true c0, Bool.true_and, ← hb] at z
      exact ⟨D, _, rfl, SqL.of eI, z⟩
def hpB (r1 r2 : List (List Int)) : Bool := ((r1.zip r2).map fun p => hcB p.1 p.2).all id
def Short (rows : List (List Int)) : Prop := ∀ ns ∈ rows, ns.length ≤ 900
def spHP : Sp := fun vs H Q _ => ∃ (x y : V) (r1 r2 : List (List Int)), vs = [x, y] ∧ TabAt H x r1 ∧ TabAt H y r2 ∧ r1.length = r2.length ∧ r1.length ≤ 900 ∧ Short r1 ∧ Short r2 ∧ ∀ H', Same H H' → Q (.bl (hpB r1 r2)) H'
theorem ok_has_pins {f fH : Addr} {fd dH : FuncData} (F : Fun K "has_pins" "has_pins" s_has_pins f fd) (B : Bt mg) (b_zip : mg "zip" = none) (b_all : mg "all" = none)
    (GH : FnOk P w K mg base CX0 1 fH dH ["counts", "least"] spHC) (mH : mg "has_counts" = some (.ref fH)) (kH : PySem.W.keepIn K (.ref fH) = true) (bH : Binds K dH ["counts", "least"] []) : FnOk P w K mg base CX0 2 f fd ["table", "pinned"] spHP := by
  refine F.ok sc_has_pins (fun vs H Q E h => ?_) (fun cdv A outer s H vs Q E hr h => ?_)
  · obtain ⟨x, y, r1, r2, rfl, _⟩ := h
    rfl
  · obtain ⟨x, y, r1, r2, rfl, ⟨a, xs, rfl, ea, ra⟩, ⟨b, ys, rfl, eb, rb⟩, hl, h9, s1, s2, q⟩ := h
    have e1 := Paired.length ra
    have e2 := Paired.length rb
    refine ⟨_, (pss_one (ps_ret (pe_callB (cr_allK (K := K) rfl rfl) (by rfl) b_all (by decide +kernel) (pa_cons (pe_lc (own := [("counts", 2), ("least", 3)]) (g := gTup K 2 (gCons (gName 2) (gCons (gName 3) gNil))) (tt := tYes) (by rfl) sc_has_pins.nd (pi_zipTT (by rfl) b_zip (pa_cons (pv 0) (pa_cons (pv 1) pa_nil))) (blkOk_by (own := [("counts", 2), ("least", 3)]) (N := ["table", "pinned", "counts", "least"]) (sc := defScope s_has_pins) (by decide +kernel)) (fun _ _ _ _ _ => pg_tup rfl (pgs_cons (pg_name (i := 2) sc_has_pins.nd rfl (Or.inl rfl)) (pgs_cons (pg_name (i := 3) sc_has_pins.nd rfl (Or.inl rfl)) pgs_nil))) (fun _ _ _ _ _ => pts_nil) (fun _ _ _ _ _ => (pe_call GH (hr.mono (by decide)) rfl mH kH bH .nil pass0 (pa_cons (pv 2) (pa_cons (pv 3) pa_nil))))) pa_nil)))), ?_⟩
    refine ⟨.ref a, rfl, .ref b, rfl, a, b, xs, ys, rfl, SqT.of ea, SqT.of eb, fun D nD => ?_⟩
    refine lc_it (walk_zipTT (K := K) (a := a) (b := b) (xs := xs) (ys := ys) (n := r1.length) (by omega) (by omega)) (fun i HI => Same H HI ∧ HI D = some (.lst ((((r1.zip r2).map fun p => hcB p.1 p.2).take i).map V.bl))) ⟨same_upd nD, upd_same⟩ (fun i HI _ z => ⟨SqT.of (z.1 _ _ ea), SqT.of (z.1 _ _ eb)⟩) ?_ ?_
    · rintro i x HI H2 hi ⟨sI, eI⟩ ⟨t, x1, x2, rfl, nt, rfl, g1, g2⟩
      generalize hq : upd HI t _ = H3
      obtain ⟨t3, et⟩ := eqU hq nt
      obtain ⟨ns, f1, c1⟩ := rows_get ra g1
      obtain ⟨ms, f2, c2⟩ := rows_get rb g2
      have hz : (r1.zip r2)[i]? = some (ns, ms) := List.getElem?_zip_eq_some.mpr ⟨f1, f2⟩
      have s3 := sI.trans t3
      refine ⟨t, _, rfl, SqT.of et, rfl, _, _, rfl, _, _, rfl, rfl, rfl, ?_⟩
      unfold tYes
      refine iteT ?_
      refine ⟨x1, rfl, x2, rfl, x1, x2, ns, ms, rfl, c1.keep s3, c2.keep s3, s1 _ (List.mem_of_getElem? f1), s2 _ (List.mem_of_getElem? f2), fun H4 s4 => ?_⟩
      refine ⟨_, s4 _ _ (t3 _ _ eI), small1000 (by rw [List.length_map, List.length_take, List.length_map, List.length_zip]; omega), fun b o z => ?_, ?_⟩
      · rw [upd_ne (ne_of_none z nD)]
        exact (s3.trans s4) _ _ z
      · rw [upd_same, List.take_add_one, List.getElem?_map, hz, List.map_append]
        rfl
    · rintro HI ⟨sI, eI⟩
      rw [List.take_of_length_le (by rw [List.length_map, List.length_zip]; omega)] at eI
      exact ⟨D, _, rfl, SqL.of eI, q _ sI⟩
/-- the pins as a table: None is the empty one; NoPins -/
def spPinT (C CP : Addr) : Sp := fun vs H Q E => ∃ (p l : Addr) (xc : List V) (ps : List (Int × Int)) (L : Int) (t : V), vs = [.ref p, t] ∧ SlabAt C H p l xc L ∧ PairsAt H xc ps ∧ SzOk ps ∧ TyT H t ∧
  (t = .non → ∀ t' H', Same H H' → TabAt H' t' (List.replicate ps.length []) → Q t' H') ∧
  (t ≠ .non → ∀ i, badT H ps L t = some i → Rz CP "pins" t H E) ∧ (t ≠ .non → badT H ps L t = none → ∀ H', Same H H' → Q t H')
theorem ok_pin_table {C CT CP f fC fE fP : Addr} {fd dC dE dP : FuncData} (F : Fun K "pin_table" "pin_table" s_pin_table f fd) (gT : mg "NoTable" = some (.ref CT)) (eTT : PySem.W.exmOne K (.ref CT) (.ref CT) = some true)
    (GC : FnOk P w K mg base (L2N.CX P w) 6 fC dC ["slab", "table"] (spCheck C CT)) (mC : mg "check_table" = some (.ref fC)) (kC : PySem.W.keepIn K (.ref fC) = true) (bC : Binds K dC ["slab", "table"] [])
    (GE : FnOk P w K mg base CX0 3 fE dE ["slab"] (spEmpty C)) (mE : mg "empty" = some (.ref fE)) (kE : PySem.W.keepIn K (.ref fE) = true) (bE : Binds K dE ["slab"] [])
    (TP : XCls K CP fP "pins") (IP : L2H.FnH P w K mg base CX0 1 fP dP ["self", "pins"] (spIni CP "pins")) (bP : Binds K dP ["self", "pins"] []) (gP : mg "NoPins" = some (.ref CP)) :
    FnOk P w K mg base (L2.CX P w) 7 f fd ["slab", "pins"] (spPinT C CP) := by
  refine F.okX sc_pin_table (fun vs H Q E h => ?_) (fun cdv A outer s H vs Q E hr h => ?_)
  · obtain ⟨p, l, xc, ps, L, t, rfl, _⟩ := h
    rfl
  · obtain ⟨p, l, xc, ps, L, t, rfl, sl, pr, sz, tt, k0, kE', kQ⟩ := h
    have n1 := sz.n1
    have n6 := sz.n6
    have e1 := Paired.length pr
    refine ⟨_, pss_cons (ps_if (pt_cmpR op_isN (pv 1) pe_non (nomark _)) (pss_one (ps_ret (pe_call GE (hr.mono (by decide)) rfl mE kE bE .nil pass0 (pa_cons (pv 0) pa_nil)))) pss_nil)
      (pss_cons (L2H.ps_try_onlyX (c := .ref CT) rfl rfl ⟨rfl, rfl, .inl gT⟩ (L2H.passesAt_of rfl) (takes_of rfl rfl rfl rfl)
        (fun W pn xe tkN tkP _ => pss_one (ps_expr (pe_callS GC (hr.mono (by decide)) rfl mC kC bC (fun σ => passAtN tkN σ) (pa_cons (pv 0) (pa_cons (pv 1) pa_nil)))))
        (fun a oe cls d pn hz hf tkS hot => pss_one (ps_raiseXH hot tkS TP IP (roomH_mark (hr.mono (by decide)) _) bP rfl gP (pa_cons (pv 1) pa_nil))))
      (pss_one (ps_ret (pv 1)))), ?_⟩
    by_cases c : t = .non
    · subst c
      refine ⟨_, rfl, rfl, _, rfl, ?_⟩
      rw [decide_eq_true rfl]
      exact iteT ⟨.ref p, rfl, p, l, xc, L, rfl, sl, by omega, by omega, fun t' H' s' ta => k0 rfl t' H' s' (by rw [← e1]; exact ta)⟩
    · refine ⟨_, rfl, rfl, _, rfl, ?_⟩
      rw [decide_eq_false c]
      refine iteF ⟨.ref p, rfl, t, rfl, p, l, xc, ps, L, t, rfl, sl, pr, sz, tt, fun i hb d H' nd s' ed => ⟨true, eTT, fun _ a na => ⟨t, rfl, t, rfl, (kE' c i hb).keep s'⟩, fun z => Bool.noConfusion z⟩, fun hb H' s' => ⟨t, rfl, kQ c hb H' s'⟩⟩
/-- the pins of a table that are asked with pn: the table t' of the rows prows -/
def PinsAre (H : Hp) (ps : List (Int × Int)) (L : Int) (pn : V) (H' : Hp) (t' : V) (prows : List (List Int)) : Prop := TabAt H' t' prows ∧ TabOk ps L prows ∧ ((pn = .non ∧ prows = List.replicate ps.length []) ∨ (pn ≠ .non ∧ t' = pn ∧ TabAt H pn prows))
def spPinsOf (C CT CP : Addr) : Sp := fun vs H Q E => ∃ (p l : Addr) (xc : List V) (ps : List (Int × Int)) (L : Int) (t pn : V), vs = [.ref p, t, pn] ∧ SlabAt C H p l xc L ∧ PairsAt H xc ps ∧ SzOk ps ∧ 0 ≤ L ∧ TyT H t ∧ TyT H pn ∧
  (∀ i, badT H ps L t = some i → Rz CT "index" (.int i) H E) ∧
  ∀ rows, TabAt H t rows → TabOk ps L rows → (pn ≠ .non → ∀ i, badT H ps L pn = some i → Rz CP "pins" pn H E) ∧
    ∀ prows t' H', Same H H' → PinsAre H ps L pn H' t' prows → (hpB rows prows = false → Rz CP "pins" pn H' E) ∧ (hpB rows prows = true → ∀ H3, Same H' H3 → Q t' H3)
theorem empty_ok {ps : List (Int × Int)} {L : Int} (h : 0 ≤ L) : TabOk ps L (List.replicate ps.length []) := by
  have hs : ∀ (qs : List (Int × Int)) n, ((qs.zip (List.replicate n ([] : List Int))).map fun p => p.1.1 * p.2.sum).sum = 0 := fun qs => by
    induction qs with
    | nil => intro n; rfl
    | cons q qs ih =>
      intro n
      cases n with
      | zero => rfl
      | succ n =>
        rw [List.replicate_succ, List.zip_cons_cons, List.map_cons, List.sum_cons, ih]
        show q.1 * ([] : List Int).sum + 0 = 0
        rw [List.sum_nil, Int.mul_zero]
        rfl
  refine ⟨List.length_replicate, fun i q ns _ hn => ?_, ?_, ?_⟩
  · have e := List.eq_of_mem_replicate (List.mem_of_getElem? hn)
    subst e
    exact ⟨.nil, fun n hn => nomatch hn⟩
  · unfold pgs
    rw [List.map_replicate, List.sum_replicate_nat]
    show ps.length * 0 ≤ 60
    omega
  · show ((ps.zip (List.replicate ps.length [])).map fun p => p.1.1 * p.2.sum).sum ≤ L
    rw [hs]
    exact h
theorem le_sum {n : Nat} : ∀ {l : List Nat}, n ∈ l → n ≤ l.sum
  | m :: l, h => by
    rw [List.sum_cons]
    rcases List.mem_cons.mp h with e | h
    · omega
    · have := le_sum h
      omega
theorem short_of {ps : List (Int × Int)} {L : Int} {rows : List (List Int)} (h : TabOk ps L rows) : Short rows := fun ns hn => by
  have z : ns.length ≤ pgs rows := by
    unfold pgs
    exact le_sum (List.mem_map_of_mem hn)
  have := h.few
  omega
theorem cntI_keep {H H' : Hp} {x : V} (h : Ty H x) (k : Same H H') : cntI H' x = cntI H x := by
  cases x with
  | ref c =>
    obtain ⟨o, e⟩ := h.here
    show (match H' c with | some (.tup ys) => ys.map iV | _ => []) = (match H c with | some (.tup ys) => ys.map iV | _ => [])
    rw [e, k _ _ e]
  | _ => rfl
theorem findIdx_congr2 {α : Type} {p q : α → Bool} : ∀ {xs : List α}, (∀ x ∈ xs, p x = q x) → xs.findIdx? p = xs.findIdx? q
  | [], _ => rfl
  | x :: xs, h => by
    rw [List.findIdx?_cons, List.findIdx?_cons, h x List.mem_cons_self, findIdx_congr2 fun y hy => h y (List.mem_cons_of_mem _ hy)]
theorem badT_keep {H H' : Hp} {ps : List (Int × Int)} {L : Int} {t : V} (h : TyT H t) (k : Same H H') : badT H' ps L t = badT H ps L t := by
  cases t with
  | ref a =>
    obtain ⟨o, e⟩ := h.1.here
    by_cases ht : ∃ xs, o = .tup xs
    · obtain ⟨xs, rfl⟩ := ht
      obtain ⟨_, hI⟩ := h.2 a xs rfl e
      rw [badT_tup e, badT_tup (k _ _ e)]
      have e1 : firstBad H' xs ps = firstBad H xs ps := by
        unfold firstBad
        exact findIdx_congr2 fun q hq => by rw [cntB_keep (hI q.1 (List.of_mem_zip hq).1).1 k]
      have e2 : xs.map (cntI H') = xs.map (cntI H) := List.map_congr_left fun x hx => cntI_keep (hI x hx).1 k
      rw [e1, e2]
    · rw [badT_no (H := H) (t := .ref a) (fun b xs eb ez => by cases eb; rw [e] at ez; cases ez; exact ht ⟨_, rfl⟩), badT_no (H := H') (t := .ref a) (fun b xs eb ez => by cases eb; rw [k _ _ e] at ez; cases ez; exact ht ⟨_, rfl⟩)]
  | _ => rfl
theorem pinT_of {C CP p l : Addr} {H H1 : Hp} {xc : List V} {ps : List (Int × Int)} {L : Int} {pn : V} {Q : VK} {E : XK} (S1 : Same H H1) (sl : SlabAt C H p l xc L) (pr : PairsAt H xc ps) (sz : SzOk ps) (hL : 0 ≤ L) (tp : TyT H pn)
    (k1 : pn ≠ .non → ∀ i, badT H ps L pn = some i → Rz CP "pins" pn H E) (k : ∀ t' prows H2, Same H H2 → PinsAre H ps L pn H2 t' prows → Q t' H2) : spPinT C CP [.ref p, pn] H1 Q E := by
  refine ⟨p, l, xc, ps, L, pn, rfl, sl.keep S1, PairsAt.keep S1 pr, sz, tp.keep S1, fun e t' H2 s2 ta => k t' _ H2 (S1.trans s2) ⟨ta, empty_ok hL, .inl ⟨e, rfl⟩⟩, fun hn i hb => (k1 hn i (by rw [← hb, badT_keep tp S1])).keep S1, fun hn hb H2 s2 => ?_⟩
  rw [badT_keep tp S1] at hb
  obtain ⟨rows, ta, ok⟩ := badT_none hb
  exact k pn rows H2 (S1.trans s2) ⟨ta.keep (S1.trans s2), ok, .inr ⟨hn, rfl, ta⟩⟩
theorem tab_len {H : Hp} {t : V} {r1 r2 : List (List Int)} (a : TabAt H t r1) (b : TabAt H t r2) : r1 = r2 := by
  obtain ⟨x, xs, rfl, e, z⟩ := a
  obtain ⟨y, ys, ey, e2, z2⟩ := b
  cases ey
  rw [e] at e2
  cases e2
  rw [← rows_of z, ← rows_of z2]
theorem ok_pins_of {C CT CP f fC fN fP fI : Addr} {fd dC dN dP dI : FuncData} (F : Fun K "pins_of" "pins_of" s_pins_of f fd) (B : Bt mg)
    (GC : FnOk P w K mg base (L2N.CX P w) 6 fC dC ["slab", "table"] (spCheck C CT)) (mC : mg "check_table" = some (.ref fC)) (kC : PySem.W.keepIn K (.ref fC) = true) (bC : Binds K dC ["slab", "table"] [])
    (GN : FnOk P w K mg base (L2.CX P w) 7 fN dN ["slab", "pins"] (spPinT C CP)) (mN : mg "pin_table" = some (.ref fN)) (kN : PySem.W.keepIn K (.ref fN) = true) (bN : Binds K dN ["slab", "pins"] [])
    (GHP : FnOk P w K mg base CX0 2 fP dP ["table", "pinned"] spHP) (mHP : mg "has_pins" = some (.ref fP)) (kHP : PySem.W.keepIn K (.ref fP) = true) (bHP : Binds K dP ["table", "pinned"] [])
    (XNoPins : XCls K CP fI "pins") (INoPins : FnOk P w K mg base CX0 1 fI dI ["self", "pins"] (spIni CP "pins")) (biNoPins : Binds K dI ["self", "pins"] []) (gNoPins : mg "NoPins" = some (.ref CP)) :
    FnOk P w K mg base (L2.CX P w) 8 f fd ["slab", "table", "pins"] (spPinsOf C CT CP) := by
  refine F.okX sc_pins_of (fun vs H Q E h => ?_) (fun cdv A outer s H vs Q E hr h => ?_)
  · obtain ⟨p, l, xc, ps, L, t, pn, rfl, _⟩ := h
    rfl
  · obtain ⟨p, l, xc, ps, L, t, pn, rfl, sl, pr, sz, hL, tt, tp, kE, kR⟩ := h
    refine ⟨_, (pss_cons (ps_expr (pe_call GC.weakN (hr.mono (by decide)) rfl mC kC bC .nil (passes_call (takes_of rfl rfl rfl rfl) (fun _ _ _ _ h => h)) (pa_cons (pv 0) (pa_cons (pv 1) pa_nil))))
      (pss_cons (ps_set (i := 3) sc_pins_of.nd rfl (Or.inl rfl) (pe_call GN (hr.mono (by decide)) rfl mN kN bN .nil (passes_call (takes_of rfl rfl rfl rfl) (fun _ _ _ _ h => h)) (pa_cons (pv 0) (pa_cons (pv 2) pa_nil))))
      (pss_cons (ps_if (pt_not (pt_val (pe_call GHP (hr.mono (by decide)) rfl mHP kHP bHP .nil pass0 (pa_cons (pv 1) (pa_cons (pv 3) pa_nil))))) (pss_one (ps_raiseX rfl (takes_of rfl rfl rfl rfl) XNoPins INoPins (hr.mono (by decide)) biNoPins rfl gNoPins (pa_cons (pv 2) pa_nil))) pss_nil)
      (pss_one (ps_ret (pv 3)))))), ?_⟩
    refine ⟨.ref p, rfl, t, rfl, p, l, xc, ps, L, t, rfl, sl, pr, sz, tt, kE, fun hb H1 S1 => ?_⟩
    obtain ⟨rows, ta, ok⟩ := badT_none hb
    obtain ⟨k1, k2⟩ := kR rows ta ok
    have n6 := sz.n6
    refine ⟨.ref p, rfl, pn, rfl, pinT_of S1 sl pr sz hL tp k1 fun t' prows H2 S2 pa => ?_⟩
    obtain ⟨q1, q2⟩ := k2 prows t' H2 S2 pa
    have e1 := ok.len
    have e2 := pa.2.1.len
    refine ⟨t, rfl, t', rfl, t, t', rows, prows, rfl, ta.keep S2, pa.1, by omega, by omega, short_of ok, short_of pa.2.1, fun H3 S3 => ⟨_, rfl, ?_⟩⟩
    cases c : hpB rows prows with
    | false => exact iteT ⟨pn, rfl, pn, rfl, (q1 c).keep S3⟩
    | true => exact iteF ⟨t', rfl, q2 c H3 S3⟩
end
end K20
set_option Elab.async false
set_option linter.all false
set_option maxRecDepth 100000
set_option maxHeartbeats 4000000
/-! sorted of a tuple of ints, any number of them -/
namespace XV
open PySem PySem.Spec PyProof.Rows L2 Srt SrtO
section
variable {prog : Program} {w : World} {A : Around} {E : Value → Shared → Prop} {s : Shared}
theorem collect_tup {l : Addr} {vs : List Value} {Q : List Value → Shared → Prop} (hl : s.heap.IsTuple l vs.toArray)
    (h : Q vs { s with heap := (s.heap.push (seqObj "list" #[] 0)).update s.heap.objs.size (Obj.mapSeq (· ++ vs.toArray)) }) (hsz : vs.length ≤ sizeLine) :
    wpAny (model prog w) A (collect (.ref l)) Q E s := by
  obtain ⟨o, ho, hc, n, hd⟩ := id hl
  unfold collect
  refine wpAny_bind (wpAny_runValue (codeAny_builtin entry_proto_collect' ?_))
  show wpAny _ _ (do again (.builtin "list.__iadd__" ⟨[← newList [], .ref l], []⟩)) _ _ s
  refine wpAny_bind (wpAny_newList (wpAny_pure ⟨Code.quiet_builtin _ (by decide +kernel), codeAny_builtin entry_list_iadd' ?_⟩))
  show wpAny _ _ (Builtin.List.listExtendWith (.ref s.heap.objs.size) (.ref l) (.ref s.heap.objs.size)) _ _ { s with heap := s.heap.push (seqObj "list" #[] 0) }
  unfold Builtin.List.listExtendWith
  have ho' : (s.heap.push (seqObj "list" #[] 0)).get? l = some o := Heap.get?_push_of_some _ ho
  refine wpAny_bind (wpAny_typeOf (T := "tuple") ⟨o, ho', hc⟩ ?_)
  have ht : (Value.type "tuple" == Value.type "tuple") = true := by rfl
  rw [if_pos (by rw [ht]; simp)]
  refine wpAny_bind (listItems_at ho' hd ?_)
  refine wpAny_bind (listItems_at (xs := #[]) (n := 0) (Heap.get?_push_size _ rfl) rfl ?_)
  rw [if_neg (by simp)]
  refine wpAny_bind (listUpdate_at (xs := #[]) (n := 0) (Heap.get?_push_size _ rfl) rfl ?_ (Nat.zero_le _) (by show (#[] ++ vs.toArray).size ≤ sizeLine + 1; simp only [Array.size_append, List.size_toArray, List.length_nil]; omega))
  refine wpAny_pure ?_
  show wpAny (model prog w) A (do
      let o ← load s.heap.objs.size
      match o.data with
      | .seq xs _ => pure xs.toList
      | _ => unsupported "internal:collect") Q E { s with heap := (s.heap.push (seqObj "list" #[] 0)).update s.heap.objs.size (Obj.mapSeq (· ++ vs.toArray)) }
  refine wpAny_bind (wpAny_load (get?_update_seq (Heap.get?_push_size _ rfl) _) ?_)
  show wpAny _ _ (pure ((#[] : Array Value) ++ vs.toArray).toList) Q E _
  rw [show ((#[] : Array Value) ++ vs.toArray).toList = vs by simp]
  exact wpAny_pure h
theorem sorted_ordT {l : Addr} {vs : List Value} {ltv : Value → Value → Bool} {Q : Value → Shared → Prop} (O : Swo ltv) (hl : s.heap.IsTuple l vs.toArray) (hz : vs.length ≤ sizeLine)
    (hS : 2 ≤ vs.length → ∀ (h₁ : Heap) (a : Addr), h₁.get? a = some (seqObj "list" vs.toArray 0) → (∀ b o, s.heap.get? b = some o → b ≠ a ∧ h₁.get? b = some o) → SortableO prog w A.in1.in1 { s with heap := h₁ } a vs ltv)
    (h : ∀ out : List Value, Srtd ltv out → Stb ltv out vs → Q (.ref (s.heap.objs.size + 1)) { s with heap := sortedAll s.heap vs out.toArray }) :
    wpAny (model prog w) A (call (.builtin "sorted") [.ref l]) Q E s := by
  refine Calls.call_function_entry kind_sorted plain_sorted entry_sorted (args_sorted1 _) ?_
  unfold Builtin.«sorted»
  refine wpAny_bind (m := checkCount "sorted" 1 1 _) (wpAny_pure ?_)
  refine wpAny_bind (collect_tup hl ?_ hz)
  refine wpAny_bind (wpAny_newList ?_ hz)
  have hsz : ((s.heap.push (seqObj "list" #[] 0)).update s.heap.objs.size (Obj.mapSeq (· ++ vs.toArray))).objs.size = s.heap.objs.size + 1 := by
    rw [Heap.size_update, size_push']
  have hoL : (((s.heap.push (seqObj "list" #[] 0)).update s.heap.objs.size (Obj.mapSeq (· ++ vs.toArray))).push (seqObj "list" vs.toArray 0)).get? (s.heap.objs.size + 1) = some (seqObj "list" vs.toArray 0) := by
    rw [← hsz]; exact Heap.get?_push_size _ rfl
  have keep : ∀ b o, s.heap.get? b = some o → b ≠ s.heap.objs.size + 1 ∧ (((s.heap.push (seqObj "list" #[] 0)).update s.heap.objs.size (Obj.mapSeq (· ++ vs.toArray))).push (seqObj "list" vs.toArray 0)).get? b = some o := fun b o q => by
    have hlt : b < s.heap.objs.size := Heap.lt_size q
    refine ⟨Nat.ne_of_lt (Nat.lt_succ_of_lt hlt), Heap.get?_push_of_some _ ?_⟩
    rw [Heap.get?_update_ne _ _ _ _ (Nat.ne_of_lt hlt)]
    exact Heap.get?_push_of_some _ q
  show wpAny _ _ _ _ _ { s with heap := ((s.heap.push (seqObj "list" #[] 0)).update s.heap.objs.size (Obj.mapSeq (· ++ vs.toArray))).push (seqObj "list" vs.toArray 0) }
  rw [hsz]
  refine wpAny_bind (wpAny_holding (wpAny_call_entry slot_list_sort ⟨_, hoL, rfl⟩ entry_list_sort (list_sort_ord O hoL hz (fun h2 => hS h2 _ _ hoL keep) fun out hs hb => ⟨_, rfl, ?_⟩) (args_list_sort _)))
  exact wpAny_pure ⟨_, rfl, h out hs hb⟩
end
def rSortedU (K : PySem.W.Frag) : List V → Hp → VK → Prop := fun vs H Q => ∃ (a : Addr) (ns : List Int), vs = [V.ref a] ∧ SqT K H a (ns.map V.int) ∧
  ∀ (ns' : List Int) (p : Addr), ns'.Perm ns → ns'.Pairwise (· ≤ ·) → H p = none → Q (.ref p) (upd H p (.lst (ns'.map V.int)))
theorem cr_sortedU {X : Cx} : CallR X (.builtin "sorted") (rSortedU X.K) := by
  intro pins s σ H vs us Q I r h
  obtain ⟨a, ns, rfl, hs, q⟩ := h
  obtain ⟨u, rfl, ru⟩ := vals1 r
  obtain rfl : u = Value.ref a := ru
  obtain ⟨its, rv, pl, hz⟩ := I.tuple hs
  have pl' : s.heap.IsTuple a its.toArray := pl
  have hi := rv.ints
  refine sorted_ordT SrtO.swo_int pl' (by rw [← rv.length]; exact hz) (fun h2 h₁ a' _ _ => SrtO.ints_sortable hi h2) fun out h1 h2 => ?_
  obtain ⟨k1, k2, k3⟩ := SrtO.ints_out hi h1 h2
  obtain ⟨ep, he'⟩ := PyProof.Rows.sortedAll_at s.heap its out.toArray
  have hlen : ((out.map SrtO.iv).map V.int).length ≤ sizeLine := by
    rw [List.length_map, k2.length_eq]
    rw [List.length_map] at hz
    exact hz
  exact ⟨.ref _, upd H (s.heap.objs.size + 1) (.lst ((out.map SrtO.iv).map V.int)), I.laid (t' := s.toks) (fun _ _ => PyProof.Rows.sortedAll_old) (Nat.le_succ _) ⟨hlen, out, ep, vals_of_ints k1, he'⟩, rfl, q _ _ k2 k3 (I.hok.fresh (Nat.le_succ _))⟩
end XV
set_option Elab.async false
set_option linter.all false
set_option maxRecDepth 100000
set_option maxHeartbeats 4000000
/-! the text of a value of any of the kinds that a law hands around -/
namespace XV
open PySem PySem.Spec PyProof.Rows L2
/-- a value's text -/
inductive Txt1 (K : PySem.W.Frag) (H : Hp) : V → Str → Prop
  | int {i : Int} : i.natAbs.log2 < 1920 → Txt1 K H (.int i) (toString i)
  | non : Txt1 K H .non "None"
  | bl {b : Bool} : Txt1 K H (.bl b) (if b then "True" else "False")
  | str {x : Str} : (reprText x).length ≤ sizeLine → Txt1 K H (.str x) (reprText x)
  | dat {a : Addr} {d : PyData} : Dp K H (.ref a) d → d.showable = true → d.hasDict = false → d.depth ≤ 64 → d.shown.length ≤ sizeLine → Txt1 K H (.ref a) d.shown
  | edic {a : Addr} : H a = some (.dK []) → Txt1 K H (.ref a) (PyData.shown (.dict []))
def rRepr1 (K : PySem.W.Frag) : List V → Hp → VK → Prop := fun xs H Q => ∃ x z, xs = [x] ∧ Txt1 K H x z ∧ Q (.str z) H
theorem call_repr1 {X : Cx} (hg : X.A.guards = some []) (hu : X.A.units + 66 < cLine) : CallR X (.builtin "repr") (rRepr1 X.K) := by
  intro pins s σ H xs us Q I r h
  obtain ⟨x, z, rfl, hx, q⟩ := h
  obtain ⟨u, rfl, rx⟩ := vals1 r
  cases hx with
  | int hz =>
    obtain ⟨t, rfl⟩ := rx
    exact PySem.P.repr_of_int hz ⟨.str _, H, I.tok _, ⟨_, rfl⟩, q⟩
  | non =>
    obtain rfl : u = Value.none := rx
    exact PySem.P.repr_of_none ⟨.str _, H, I.tok _, ⟨_, rfl⟩, q⟩
  | bl =>
    rename_i b
    obtain rfl : u = Value.bool b := rx
    exact PySem.P.repr_of_bool ⟨.str _, H, I.tok _, ⟨_, rfl⟩, q⟩
  | str hz =>
    obtain ⟨t, rfl⟩ := rx
    exact PySem.P.repr_of_str ⟨.str _, H, I.tok _, ⟨_, rfl⟩, q⟩ hz
  | @dat a d hd h1 h2 h3 h4 =>
    obtain ⟨as, rd⟩ := Dp.reads I d _ _ hd rx
    obtain rfl : u = Value.ref a := rx
    exact repr_of_reads' rd h1 (PyData.noDict_hsm h2) hg (by omega) (fun _ _ e => e) (fun h' u tk hk => ⟨.str d.shown, H, I.kept (t' := tk) hk, ⟨_, rfl⟩, q⟩) h4
  | @edic a e =>
    obtain rfl : u = Value.ref a := rx
    obtain ⟨_, y, vs, r, o, es, ep, e1, ex, e2, ko, pr, nd⟩ := I.hok a _ e
    cases r
    have he : es.toList = [] := by
      generalize es.toList = l at pr
      cases pr
      rfl
    have rd : Reads s.heap (.ref a) (.dict []) (a :: [] ++ []) := .dict e1 ex.1 e2 (by rw [he]; exact .nil) (by rw [he]; exact .nil)
    refine repr_of_reads' rd (by simp [PyData.showable, PyData.showableKv]) (fun _ hm => ?_) hg (by simp [PyData.depth, PyData.depthKv]; omega) (fun _ _ e => e) (fun h' u tk hk => ⟨.str _, H, I.kept (t' := tk) hk, ⟨_, rfl⟩, q⟩) (by show (PyData.shown (.dict [])).length ≤ sizeLine; simp only [PyData.shown, PyData.shownKv]; decide +kernel)
    have z : sysModules = a := by simpa using hm
    rw [← z] at y
    cases y
theorem Txt1.keep {K : PySem.W.Frag} {H H' : Hp} {x : V} {z : Str} (h : Txt1 K H x z) (k : Same H H') (kd : ∀ {v d}, Dp K H v d → Dp K H' v d) : Txt1 K H' x z := by
  cases h with
  | int h => exact .int h
  | non => exact .non
  | bl => exact .bl
  | str h => exact .str h
  | dat h1 h2 h3 h4 h5 => exact .dat (kd h1) h2 h3 h4 h5
  | edic e => exact .edic (k _ _ e)
end XV
set_option Elab.async false
set_option linter.all false
set_option maxRecDepth 100000
set_option maxHeartbeats 4000000
/-! != of tuples with the same items; of a list and the empty one; lists of ints as data -/
namespace XV
open PySem PySem.Spec PyProof.Rows L2
def rNeT (K : PySem.W.Frag) : R2 := fun x y H Q => ∃ (a b : Addr) (xs : List V), x = .ref a ∧ y = .ref b ∧ SqT K H a xs ∧ SqT K H b xs ∧ (∀ z ∈ xs, flatB z = true ∨ ∃ c, z = .ref c) ∧ Q (.bl false) H
theorem op_neT {X : Cx} (hu : X.A.units < cLine) : OpR X (compareOp .NotEq) (rNeT X.K) := by
  intro pins s σ H x y v u Q I rx ry h
  obtain ⟨a, b, xs, rfl, rfl, ha, hb, hf, q⟩ := h
  cases rx
  cases ry
  obtain ⟨its, r1, p1, z1⟩ := I.tuple ha
  obtain ⟨its2, r2, p2, z2⟩ := I.tuple hb
  have e1 := r1.length
  have e2 := r2.length
  have hsz : its.toArray.size = its2.toArray.size := by
    rw [List.size_toArray, List.size_toArray, ← e1, ← e2]
  have t1 : s.heap.IsTuple a its.toArray := let ⟨o, h1, h2, n, h3⟩ := p1; ⟨o, h1, h2, n, h3⟩
  have t2 : s.heap.IsTuple b its2.toArray := let ⟨o, h1, h2, n, h3⟩ := p2; ⟨o, h1, h2, n, h3⟩
  refine SeqAt.RcNeAt.tuples (e := fun _ => true) t1 t2 hu (fun j h1 h2 => ?_) X.prog X.w _ _ ?_
  · have h1' : j < its.length := by simpa using h1
    have hj : j < xs.length := by omega
    obtain ⟨u1, g1, q1⟩ := r1.get (List.getElem?_eq_getElem hj)
    obtain ⟨u2, g2, q2⟩ := r2.get (List.getElem?_eq_getElem hj)
    have f1 : its.toArray[j] = u1 := by
      have := (List.getElem?_eq_some_iff.mp g1).2
      simpa using this
    have f2 : its2.toArray[j] = u2 := by
      have := (List.getElem?_eq_some_iff.mp g2).2
      simpa using this
    rw [f1, f2]
    rcases hf _ (List.getElem_mem hj) with c | ⟨c, e⟩
    · exact eqAt_same q1 q2 c
    · rw [e] at q1 q2
      cases q1
      cases q2
      exact SeqAt.EqAt.same _
  · have e : (!((List.range (min its.toArray.size its2.toArray.size)).all (fun _ => true) && its.toArray.size == its2.toArray.size)) = false := by
      rw [hsz]
      simp
    rw [e]
    exact ⟨.bl false, H, I, rfl, q⟩
/-- a list and the empty one, asked for a difference -/
def rNeNil (K : PySem.W.Frag) : R2 := fun x y H Q => ∃ (a b : Addr) (xs : List V), x = .ref a ∧ y = .ref b ∧ SqL K H a xs ∧ SqL K H b [] ∧ Q (.bl (!xs.isEmpty)) H
theorem op_neNil {X : Cx} (hu : X.A.units < cLine) : OpR X (compareOp .NotEq) (rNeNil X.K) := by
  intro pins s σ H x y v u Q I rx ry h
  obtain ⟨a, b, xs, rfl, rfl, ha, hb, q⟩ := h
  cases rx
  cases ry
  obtain ⟨its, r1, p1, z1⟩ := I.list ha
  obtain ⟨its2, r2, p2, z2⟩ := I.list hb
  cases r2
  have e1 := r1.length
  by_cases c : xs = []
  · subst c
    cases r1
    refine SeqAt.RcNeAt.lists (e := fun _ => true) p1.isList p2.isList rfl hu (fun j h1 h2 => absurd h1 (by simp)) X.prog X.w _ _ ?_
    exact ⟨.bl false, H, I, rfl, q⟩
  · have z : (!xs.isEmpty) = true := by
      cases xs with
      | nil => exact absurd rfl c
      | cons x xs => rfl
    rw [z] at q
    refine SeqAt.RcNeAt.lists_lengths p1.isList p2.isList ?_ hu X.prog X.w _ _ ?_
    · rw [bne_iff_ne, List.size_toArray, List.size_toArray, ← e1]
      intro e
      exact c (List.length_eq_zero_iff.mp e)
    · exact ⟨.bl true, H, I, rfl, q⟩
end XV
namespace SL
open PySem PySem.Spec PyProof.Rows L2 XV
def dInts (ns : List Int) : List PyData := ns.map PyData.int
theorem dpInts {K : PySem.W.Frag} {H : Hp} : ∀ ns : List Int, DpAll K H (ns.map V.int) (dInts ns)
  | [] => .nil
  | n :: ns => .cons (.int n) (dpInts ns)
theorem dInts_lay : ∀ ns : List Int, PyData.canLayAll0 (dInts ns) = true
  | [] => by simp [dInts, PyData.canLayAll0]
  | n :: ns => by
    have h := dInts_lay ns
    unfold dInts at h ⊢
    simp [PyData.canLayAll0, PyData.canLay0, h]
theorem dInts_depth : ∀ ns : List Int, PyData.depthAll (dInts ns) = 0
  | [] => by simp [dInts, PyData.depthAll]
  | n :: ns => by
    have h := dInts_depth ns
    unfold dInts at h ⊢
    simp [PyData.depthAll, PyData.depth, h]
theorem dInts_shaped (ns : List Int) : SeqAt.shaped (.list (dInts ns)) = true := by
  have h1 := dInts_depth ns
  have h2 : PyData.depth (.list (dInts ns)) ≤ 64 := by
    simp only [PyData.depth]
    omega
  show (PyData.canLay0 (.list (dInts ns)) && decide (PyData.depth (.list (dInts ns)) ≤ 64)) = true
  rw [Bool.and_eq_true]
  exact ⟨by simp only [PyData.canLay0]; exact dInts_lay ns, decide_eq_true h2⟩
theorem dInts_eqvAll : ∀ ns ms : List Int, PyData.eqvAll (dInts ns) (dInts ms) = decide (ns = ms)
  | [], [] => by simp [dInts, PyData.eqvAll]
  | [], _ :: _ => by simp [dInts, PyData.eqvAll]
  | _ :: _, [] => by simp [dInts, PyData.eqvAll]
  | n :: ns, m :: ms => by
    have h := dInts_eqvAll ns ms
    unfold dInts at h ⊢
    simp only [List.map_cons, PyData.eqvAll, PyData.eqv, h]
    by_cases h1 : n = m
    · by_cases h2 : ns = ms
      · subst h1 h2
        simp
      · simp [h1, h2]
    · simp [h1]
theorem dInts_eqv (ns ms : List Int) : PyData.eqv (.list (dInts ns)) (.list (dInts ms)) = decide (ns = ms) := by
  have e : PyData.eqv (.list (dInts ns)) (.list (dInts ms)) = PyData.eqvAll (dInts ns) (dInts ms) := by simp only [PyData.eqv]
  rw [e, dInts_eqvAll]
theorem sorted_eq {ns ms : List Int} (hp : ms.Perm ns) (h1 : ms.Pairwise (· ≤ ·)) : ns = ms ↔ ns.Pairwise (· ≤ ·) :=
  ⟨fun e => by rw [e]; exact h1, fun h2 => (List.Perm.eq_of_pairwise (le := fun a b => a ≤ b) (fun a b _ _ x y => Int.le_antisymm x y) h1 h2 hp).symm⟩
end SL
set_option Elab.async false
set_option linter.all false
set_option maxRecDepth 100000
set_option maxHeartbeats 4000000
/-! values of a bent table: what is known of them whatever is made beside; their texts -/
namespace SL
open PySem PySem.Spec PyProof.Rows L2 XV LamX
/-- all but l and the tables of code objects stays -/
def Keeps (l : Addr) (H H' : Hp) : Prop := ∀ b o, H b = some o → b ≠ l → (∀ q, o ≠ .tbl q) → H' b = some o
theorem Keeps.refl {l : Addr} {H : Hp} : Keeps l H H := fun _ _ z _ _ => z
theorem Keeps.trans {l : Addr} {H H1 H2 : Hp} (a : Keeps l H H1) (b : Keeps l H1 H2) : Keeps l H H2 := fun c o z n t => b c o (a c o z n t) n t
theorem Keeps.same {l : Addr} {H H' : Hp} (k : Same H H') : Keeps l H H' := fun b o z _ _ => k b o z
theorem Keeps.ext {l : Addr} {H H' : Hp} (k : ExtN H H') : Keeps l H H' := fun b o z _ t => k b o z t
/-! ### lengths of texts -/
theorem textFrom_le : ∀ (ts : List Str) (k : Nat) (acc : Str), (textFrom k acc ts).length ≤ acc.length + piled ts
  | [], k, acc => by
    show acc.length ≤ acc.length + piled []
    omega
  | t :: r, k, acc => by
    have h := textFrom_le r (k + 1) (acc ++ (if k > 0 then ", " else "" : String) ++ t)
    have e : (acc ++ (if k > 0 then ", " else "" : String) ++ t).length = acc.length + (if k > 0 then 2 else 0) + t.length := by
      rw [strLen_append, strLen_append]
      split <;> rfl
    rw [e] at h
    show (textFrom (k + 1) (acc ++ (if k > 0 then ", " else "" : String) ++ t) r).length ≤ _
    rw [piled_cons]
    have : (if k > 0 then 2 else 0) ≤ 2 := by split <;> omega
    omega
theorem listText_le (ts : List Str) : (listText ts).length ≤ 2 + piled ts := by
  unfold listText
  rw [strLen_append]
  have h := textFrom_le ts 0 "["
  have e1 : ((("[" : String) : Str)).length = 1 := rfl
  have e2 : ((("]" : String) : Str)).length = 1 := rfl
  omega
theorem tupleText_le (ts : List Str) : (tupleText ts).length ≤ 3 + piled ts := by
  unfold tupleText
  rw [strLen_append, strLen_append]
  have e1 : ((("(" : String) : Str)).length = 1 := rfl
  have e3 : (((if ts.length == 1 then ",)" else ")" : String) : Str)).length ≤ 2 := by split <;> decide
  by_cases c : ts = []
  · subst c
    have z : (Str.join ", " ([] : List Str)).length = 0 := rfl
    omega
  · have h := join_length_add ts c
    omega
theorem piled_le {m : Nat} : ∀ {ts : List Str}, (∀ t ∈ ts, t.length ≤ m) → piled ts ≤ ts.length * (m + 2)
  | [], _ => by
    show piled [] ≤ _
    exact Nat.zero_le _
  | t :: r, h => by
    have ih := piled_le (ts := r) fun u hu => h u (List.mem_cons_of_mem _ hu)
    have h1 := h t List.mem_cons_self
    rw [piled_cons, List.length_cons, Nat.succ_mul]
    omega
/-! ### values with data that stays -/
def DatOf (K : PySem.W.Frag) (l : Addr) (H : Hp) (x : V) (n m : Nat) : Prop := ∃ d : PyData, (∀ H', Keeps l H H' → Dp K H' x d) ∧ d.showable = true ∧ d.hasDict = false ∧ d.depth ≤ n ∧ d.shown.length ≤ m
theorem all_dat {K : PySem.W.Frag} {l : Addr} {H : Hp} {n m : Nat} : ∀ {xs : List V}, (∀ y ∈ xs, DatOf K l H y n m) → ∃ ds : List PyData, (∀ H', Keeps l H H' → DpAll K H' xs ds) ∧ PyData.showableAll ds = true ∧ PyData.hasDictAll ds = false ∧ PyData.depthAll ds ≤ n ∧ (∀ t ∈ PyData.shownAll ds, t.length ≤ m) ∧ (PyData.shownAll ds).length = xs.length
  | [], _ => ⟨[], fun _ _ => .nil, by simp [PyData.showableAll], by simp [PyData.hasDictAll], by simp [PyData.depthAll], fun t ht => by simp [PyData.shownAll] at ht, by simp [PyData.shownAll]⟩
  | x :: xs, h => by
    obtain ⟨ds, a1, a2, a3, a4, a5, a6⟩ := all_dat (xs := xs) fun y hy => h y (List.mem_cons_of_mem _ hy)
    obtain ⟨d, b1, b2, b3, b4, b5⟩ := h x List.mem_cons_self
    refine ⟨d :: ds, fun H' k => .cons (b1 H' k) (a1 H' k), by simp [PyData.showableAll, a2, b2], by simp [PyData.hasDictAll, a3, b3], by simp only [PyData.depthAll]; omega, fun t ht => ?_, by simp [PyData.shownAll, a6]⟩
    simp only [PyData.shownAll] at ht
    rcases List.mem_cons.mp ht with e | ht
    · rw [e]
      exact b5
    · exact a5 t ht
theorem dat_seq {K : PySem.W.Frag} {l b : Addr} {H : Hp} {xs : List V} {n m c : Nat} (hb : b ≠ l) (e : H b = some (.tup xs) ∨ H b = some (.lst xs)) (h : ∀ y ∈ xs, DatOf K l H y n m) (hc : xs.length ≤ c) : DatOf K l H (.ref b) (n + 1) (3 + c * (m + 2)) := by
  obtain ⟨ds, a1, a2, a3, a4, a5, a6⟩ := all_dat h
  have hp := piled_le a5
  have hm : (PyData.shownAll ds).length * (m + 2) ≤ c * (m + 2) := Nat.mul_le_mul_right _ (by omega)
  rcases e with e | e
  · refine ⟨.tuple ds, fun H' k => .tup (SqT.of (k b _ e hb fun q z => by cases z)) (a1 H' k), by simpa [PyData.showable] using a2, by simpa [PyData.hasDict] using a3, by simp only [PyData.depth]; omega, ?_⟩
    simp only [PyData.shown]
    have := tupleText_le (PyData.shownAll ds)
    omega
  · refine ⟨.list ds, fun H' k => .lst (SqL.of (k b _ e hb fun q z => by cases z)) (a1 H' k), by simpa [PyData.showable] using a2, by simpa [PyData.hasDict] using a3, by simp only [PyData.depth]; omega, ?_⟩
    simp only [PyData.shown]
    have := listText_le (PyData.shownAll ds)
    omega
/-! ### flat values, items, tables -/
def BF (x : V) : Prop := (∃ i, x = .int i ∧ i.natAbs.log2 < 1920) ∨ (∃ b, x = .bl b) ∨ x = .non ∨ x = .str "1"
theorem small_log {i : Int} (h1 : -1000000000 ≤ i) (h2 : i ≤ 1000000000) : i.natAbs.log2 < 1920 := by
  by_cases c : i.natAbs = 0
  · rw [c]
    decide
  · refine (Nat.log2_lt c).mpr (Nat.lt_of_lt_of_le (m := 2 ^ 30) (by omega) (Nat.pow_le_pow_right (by decide) (by decide)))
theorem BF.int {i : Int} (h1 : -1000000000 ≤ i) (h2 : i ≤ 1000000000) : BF (.int i) := .inl ⟨i, rfl, small_log h1 h2⟩
theorem BF.ty {H : Hp} {x : V} (h : BF x) : Ty H x := by
  rcases h with ⟨i, rfl, _⟩ | ⟨b, rfl⟩ | rfl | rfl
  · exact ⟨_, .int i⟩
  · exact ⟨_, .bl b⟩
  · exact ⟨_, .non⟩
  · exact ⟨_, .str _⟩
theorem BF.dat {K : PySem.W.Frag} {l : Addr} {H : Hp} {x : V} (h : BF x) : DatOf K l H x 0 1999 := by
  rcases h with ⟨i, rfl, hi⟩ | ⟨b, rfl⟩ | rfl | rfl
  · refine ⟨.int i, fun _ _ => .int i, by simpa [PyData.showable] using hi, by simp [PyData.hasDict], by simp [PyData.depth], ?_⟩
    simp only [PyData.shown]
    show (Str.ofString (toString i)).length ≤ 1999
    rw [PySem.ofString_length]
    have := int_text_length_le (k := 1920) (by decide) hi
    omega
  · refine ⟨.bool b, fun _ _ => .bl b, by simp [PyData.showable], by simp [PyData.hasDict], by simp [PyData.depth], ?_⟩
    simp only [PyData.shown]
    cases b <;> decide
  · exact ⟨.none, fun _ _ => .non, by simp [PyData.showable], by simp [PyData.hasDict], by simp [PyData.depth], by simp only [PyData.shown]; decide⟩
  · exact ⟨.str "1", fun _ _ => .str _, by simp [PyData.showable], by simp [PyData.hasDict], by simp [PyData.depth], by simp only [PyData.shown]; decide +kernel⟩
def BV (l : Addr) (H : Hp) (x : V) : Prop := BF x ∨ ∃ b, x = .ref b ∧ b ≠ l ∧ H b = some (.lst [.int 1])
def BI (l : Addr) (H : Hp) (x : V) : Prop := BF x ∨ ∃ b xs, x = .ref b ∧ b ≠ l ∧ (H b = some (.tup xs) ∨ H b = some (.lst xs)) ∧ xs.length ≤ 90 ∧ ∀ y ∈ xs, BV l H y
def BT (l : Addr) (H : Hp) (x : V) : Prop := ∃ b xs, x = .ref b ∧ b ≠ l ∧ (H b = some (.tup xs) ∨ H b = some (.lst xs)) ∧ xs.length ≤ 8 ∧ ∀ y ∈ xs, BI l H y
def BO (l : Addr) (H : Hp) (x : V) : Prop := x = .non ∨ (∃ b, x = .ref b ∧ b ≠ l ∧ H b = some (.dK [])) ∨ BT l H x
theorem BV.keep {l : Addr} {H H' : Hp} {x : V} (h : BV l H x) (k : Keeps l H H') : BV l H' x := by
  rcases h with h | ⟨b, e, n, z⟩
  · exact .inl h
  · exact .inr ⟨b, e, n, k b _ z n fun q z => by cases z⟩
theorem seq_keep {l b : Addr} {H H' : Hp} {xs : List V} (k : Keeps l H H') (n : b ≠ l) (h : H b = some (.tup xs) ∨ H b = some (.lst xs)) : H' b = some (.tup xs) ∨ H' b = some (.lst xs) :=
  h.elim (fun z => .inl (k b _ z n fun q z => by cases z)) fun z => .inr (k b _ z n fun q z => by cases z)
theorem BI.keep {l : Addr} {H H' : Hp} {x : V} (h : BI l H x) (k : Keeps l H H') : BI l H' x := by
  rcases h with h | ⟨b, xs, e, n, z, hl, hy⟩
  · exact .inl h
  · exact .inr ⟨b, xs, e, n, seq_keep k n z, hl, fun y h => (hy y h).keep k⟩
theorem BT.keep {l : Addr} {H H' : Hp} {x : V} (h : BT l H x) (k : Keeps l H H') : BT l H' x := by
  obtain ⟨b, xs, e, n, z, hl, hy⟩ := h
  exact ⟨b, xs, e, n, seq_keep k n z, hl, fun y h => (hy y h).keep k⟩
theorem BO.keep {l : Addr} {H H' : Hp} {x : V} (h : BO l H x) (k : Keeps l H H') : BO l H' x := by
  rcases h with h | ⟨b, e, n, z⟩ | h
  · exact .inl h
  · exact .inr (.inl ⟨b, e, n, k b _ z n fun q z => by cases z⟩)
  · exact .inr (.inr (h.keep k))
theorem BV.ty {l : Addr} {H : Hp} {x : V} (h : BV l H x) : Ty H x := by
  rcases h with h | ⟨b, rfl, n, z⟩
  · exact h.ty
  · exact ⟨_, .lst z⟩
theorem BI.ty {l : Addr} {H : Hp} {x : V} (h : BI l H x) : TyI H x := by
  rcases h with h | ⟨b, xs, rfl, n, z, hl, hy⟩
  · refine ⟨h.ty, fun a xs e => ?_⟩
    rcases h with ⟨i, rfl, _⟩ | ⟨b, rfl⟩ | rfl | rfl <;> cases e
  · rcases z with z | z
    · refine ⟨⟨_, .tup z⟩, fun a ys e ez y hm => ?_⟩
      cases e
      rw [z] at ez
      cases ez
      exact (hy y hm).ty
    · refine ⟨⟨_, .lst z⟩, fun a ys e ez y hm => ?_⟩
      cases e
      rw [z] at ez
      cases ez
theorem BO.ty {l : Addr} {H : Hp} {x : V} (h : BO l H x) : TyT H x := by
  rcases h with rfl | ⟨b, rfl, n, z⟩ | ⟨b, xs, rfl, n, z, hl, hy⟩
  · exact ⟨⟨_, .non⟩, fun a xs e => nomatch e⟩
  · refine ⟨⟨_, .dict z⟩, fun a xs e ez => ?_⟩
    cases e
    rw [z] at ez
    cases ez
  · rcases z with z | z
    · refine ⟨⟨_, .tup z⟩, fun a ys e ez => ?_⟩
      cases e
      rw [z] at ez
      cases ez
      exact ⟨by omega, fun y hm => (hy y hm).ty⟩
    · refine ⟨⟨_, .lst z⟩, fun a ys e ez => ?_⟩
      cases e
      rw [z] at ez
      cases ez
theorem BO.big {l : Addr} {H : Hp} {t : V} (h : BO l H t) : ∀ (a : Addr) (xs : List V), t = .ref a → H a = some (.tup xs) → ∀ x ∈ xs, ∀ (b : Addr) (ys : List V), x = .ref b → H b = some (.tup ys) → ys.length ≤ 900 := by
  intro a xs e ez x hx b ys eb ey
  rcases h with rfl | ⟨c, rfl, n, z⟩ | ⟨c, zs, rfl, n, z, hl, hy⟩
  · cases e
  · cases e
    rw [z] at ez
    cases ez
  · cases e
    rcases z with z | z
    · rw [z] at ez
      cases ez
      rcases hy x hx with hf | ⟨d, ws, ed, _, zd, hd, _⟩
      · subst eb
        rcases hf with ⟨i, e, _⟩ | ⟨b, e⟩ | e | e <;> cases e
      · rw [eb] at ed
        cases ed
        rcases zd with zd | zd
        · rw [ey] at zd
          cases zd
          omega
        · rw [ey] at zd
          cases zd
    · rw [z] at ez
      cases ez
theorem BV.dat {K : PySem.W.Frag} {l : Addr} {H : Hp} {x : V} (h : BV l H x) : DatOf K l H x 1 2004 := by
  rcases h with h | ⟨b, rfl, n, z⟩
  · obtain ⟨d, a1, a2, a3, a4, a5⟩ := h.dat (K := K) (l := l) (H := H)
    exact ⟨d, a1, a2, a3, by omega, by omega⟩
  · refine dat_seq (c := 1) (m := 1999) n (.inr z) (fun y hy => ?_) (Nat.le_refl _)
    rw [List.mem_singleton.mp hy]
    exact (BF.int (by decide) (by decide)).dat
theorem BI.dat {K : PySem.W.Frag} {l : Addr} {H : Hp} {x : V} (h : BI l H x) : DatOf K l H x 2 180543 := by
  rcases h with h | ⟨b, xs, rfl, n, z, hl, hy⟩
  · obtain ⟨d, a1, a2, a3, a4, a5⟩ := h.dat (K := K) (l := l) (H := H)
    exact ⟨d, a1, a2, a3, by omega, by omega⟩
  · exact dat_seq (c := 90) (m := 2004) n z (fun y h => (hy y h).dat) hl
/-- the text of such a value, now and later -/
theorem BO.txt {K : PySem.W.Frag} {l : Addr} {H : Hp} {x : V} (h : BO l H x) : ∃ z, ∀ H', Keeps l H H' → Txt1 K H' x z := by
  rcases h with rfl | ⟨b, rfl, n, z⟩ | ⟨b, xs, rfl, n, z, hl, hy⟩
  · exact ⟨_, fun _ _ => .non⟩
  · exact ⟨_, fun H' k => .edic (k b _ z n fun q z => by cases z)⟩
  · obtain ⟨d, a1, a2, a3, a4, a5⟩ := dat_seq (K := K) (c := 8) (m := 180543) n z (fun y h => (hy y h).dat) hl
    exact ⟨_, fun H' k => .dat (a1 H' k) a2 a3 (by omega) (Nat.le_trans a5 (by rw [sizeLine_eq]; omega))⟩
end SL
namespace XV
open PySem PySem.Spec PyProof.Rows L2 SL
/-- t + u, whatever they are -/
theorem catA_of {K : PySem.W.Frag} {H : Hp} {a b : Addr} {xs ys : List V} {Q : VK} (ea : H a = some (.tup xs)) (eb : H b = some (.tup ys)) (hl : xs.length + ys.length ≤ 100000) (k : ∀ p H1, Same H H1 → H1 p = some (.tup (xs ++ ys)) → Q (.ref p) H1) : rCatA K (.ref a) (.ref b) H Q := by
  refine ⟨a, b, xs, ys, rfl, rfl, SqT.of ea, SqT.of eb, by rw [sizeLine_eq]; omega, fun hx => ?_, fun hx hy => ?_, fun hx hy p np => ?_⟩
  · subst hx
    exact k b H (Same.refl _) eb
  · subst hy
    exact k a H (Same.refl _) (by rw [List.append_nil]; exact ea)
  · exact k p _ (same_upd np) upd_same
/-- t[lo:hi] -/
theorem slA_of {K : PySem.W.Frag} {H : Hp} {a : Addr} {xs : List V} {lo hi : Option Int} {Q : VK} (e : H a = some (.tup xs)) (k : ∀ p H1, Same H H1 → H1 p = some (.tup (cutV xs lo hi)) → Q (.ref p) H1) : rSlA K (.ref a) lo hi H Q := by
  refine ⟨a, xs, rfl, SqT.of e, fun hw => k a H (Same.refl _) ?_, fun hw p np => k p _ (same_upd np) upd_same⟩
  unfold cutV
  rw [hw.1, hw.2, List.drop_zero, List.take_of_length_le (by omega)]
  exact e
end XV
set_option Elab.async false
set_option linter.all false
set_option maxRecDepth 100000
set_option maxHeartbeats 4000000
/-! a tuple the other way round -/
namespace XV
open PySem PySem.Spec PyProof.Rows L2
theorem places_rev (n : Nat) : Builtin.Slice.slicePlaces ((n : Int) - 1) (-1) (-1) = n := by
  unfold Builtin.Slice.slicePlaces
  have h1 : ¬ ((-1 : Int) > 0) := by omega
  simp only [h1, if_false]
  split
  · have e : -(-1 : Int) = 1 := rfl
    rw [e, Int.ediv_one]
    omega
  · omega
theorem adjust_rev (n : Nat) : Builtin.Slice.sliceAdjust none none (-1) (n : Int) = ((n : Int) - 1, -1) := by
  unfold Builtin.Slice.sliceAdjust
  have h1 : (-1 : Int) < 0 := by omega
  simp only [h1, if_true]
theorem fm_map {α β : Type} {f : α → Option β} {g : α → β} : ∀ {l : List α}, (∀ m ∈ l, f m = some (g m)) → l.filterMap f = l.map g
  | [], _ => rfl
  | a :: l, h => by
    rw [List.filterMap_cons, h a List.mem_cons_self, fm_map fun m hm => h m (List.mem_cons_of_mem _ hm), List.map_cons]
theorem pick_rev (xs : Array Value) : ((List.range xs.size).filterMap fun (m : Nat) => xs[(((xs.size : Int) - 1) + (m : Int) * (-1)).toNat]?).toArray = xs.toList.reverse.toArray := by
  have e : ∀ (l : List Value), ((List.range l.length).filterMap fun (m : Nat) => l[(((l.length : Int) - 1) + (m : Int) * (-1)).toNat]?) = l.reverse := by
    intro l
    apply List.ext_getElem?
    intro i
    have h1 : ((List.range l.length).filterMap fun (m : Nat) => l[(((l.length : Int) - 1) + (m : Int) * (-1)).toNat]?) = (List.range l.length).map fun m => l.getD (l.length - 1 - m) .none := by
      refine fm_map fun m hm => ?_
      have lt := List.mem_range.mp hm
      have z : (((l.length : Int) - 1) + (m : Int) * (-1)).toNat = l.length - 1 - m := by omega
      rw [z, List.getElem?_eq_getElem (by omega), List.getD_eq_getElem?_getD, List.getElem?_eq_getElem (by omega)]
      rfl
    rw [h1]
    by_cases hi : i < l.length
    · rw [List.getElem?_map, List.getElem?_range hi, List.getElem?_reverse hi]
      rw [List.getElem?_eq_getElem (by omega)]
      simp only [Option.map]
      rw [List.getD_eq_getElem?_getD, List.getElem?_eq_getElem (by omega)]
      rfl
    · rw [List.getElem?_eq_none (by simp; omega), List.getElem?_eq_none (by simp; omega)]
  have e2 := e xs.toList
  simp only [Array.length_toList, Array.getElem?_toList] at e2
  rw [e2]
section
variable {prog : Program} {w : World} {A : Around} {E : Value → Shared → Prop} {s : Shared}
theorem getItem_tuple_rev {t sl : Addr} {items : Array Value} {vs : Value} {Q : Value → Shared → Prop} (ht : IsTup s.heap t items) (hs : s.heap.IsSliceOf sl .none .none vs) (ps : IsPart vs (some (-1)))
    (h : Q (.ref s.heap.objs.size) { s with heap := s.heap.push { cls := .type "tuple", data := .seq items.toList.reverse.toArray } })
    (hsz : items.size ≤ sizeLine) : wpAny (model prog w) A (getItem (.ref t) (.ref sl)) Q E s := by
  have htake : sizeOk (.seq items.toList.reverse.toArray) := by
    show items.toList.reverse.toArray.size ≤ sizeLine
    rw [List.size_toArray, List.length_reverse, Array.length_toList]
    exact hsz
  obtain ⟨os, hos, hcs, hds⟩ := id hs
  have hTs : s.TypeIs (.ref sl) "slice" := ⟨os, hos, hcs⟩
  unfold getItem
  try with_reducible refine wpAny_holding ?_
  first | refine wpAny_bind (wpAny_pure ?_) | skip
  refine wpAny_bind (wpAny_sequenceKey ht.typeIs (by decide) ?_)
  refine wpAny_bind (wpAny_callSpecial?_slot (name := Str.ofString "__getitem__") ht.typeIs PyProof.Rows.slot_tuple_getitem
    (wpAny_call_entry PyProof.Rows.slot_tuple_getitem ht.typeIs entry_tuple_getitem ?_ (args_tuple_getitem _ _)))
  show wpAny _ _ (Builtin.Tuple.tupleItemsOf (.ref t) >>= _) _ _ s
  refine wpAny_bind (tupleItemsOf_ ht ?_)
  refine wpAny_bind (wpAny_typeOf hTs ?_)
  rw [if_pos (by decide)]
  have ap : ∀ {A' : Around} {E' : Value → Shared → Prop} {Q' : Int × Int × Nat → Shared → Prop}, Q' ((items.size : Int) - 1, -1, items.size) s → wpAny (model prog w) A' (Builtin.Slice.sliceApplied (.ref sl) (pure (items.size : Int))) Q' E' s := fun {A' E' Q'} hq => by
    unfold Builtin.Slice.sliceApplied Builtin.Slice.sliceFields
    refine wpAny_bind (wpAny_bind (wpAny_field hos hds (x := .none) rfl (wpAny_bind (wpAny_field hos hds (x := .none) rfl (wpAny_bind (wpAny_field hos hds (x := vs) rfl (wpAny_pure ?_)))))))
    refine wpAny_bind (HT.slicePart_ ps ?_)
    show wpAny _ _ (if ((-1 : Int) == 0) = true then _ else _) _ _ s
    rw [if_neg (by decide)]
    refine wpAny_bind (slicePart_none (wpAny_bind (slicePart_none (wpAny_bind (wpAny_pure ?_)))))
    show wpAny _ _ (match Builtin.Slice.sliceAdjust none none (-1) (items.size : Int) with | (lo, hi) => pure (lo, (-1 : Int), Builtin.Slice.slicePlaces lo hi (-1))) _ _ s
    rw [adjust_rev]
    show wpAny _ _ (pure ((items.size : Int) - 1, (-1 : Int), Builtin.Slice.slicePlaces ((items.size : Int) - 1) (-1) (-1))) _ _ s
    rw [places_rev]
    exact wpAny_pure hq
  refine wpAny_bind (ap ?_)
  have hno : ¬ ((((items.size : Int) - 1) == 0 && (-1 : Int) == 1 && items.size == items.size) = true) := by
    intro q
    rw [Bool.and_eq_true, Bool.and_eq_true] at q
    exact absurd q.1.2 (by decide)
  show wpAny _ _ (if (((items.size : Int) - 1) == 0 && (-1 : Int) == 1 && items.size == items.size) = true then _ else _) _ _ s
  rw [if_neg hno, pick_rev]
  first
    | exact wpAny_bind (m := Builtin.Tuple.tupleExact _) (wpAny_newObj_type (wpAny_pure ⟨_, rfl, wpAny_pure h⟩) htake)
    | exact wpAny_bind (m := Builtin.Tuple.tupleExact _) (wpAny_newObj_type (wpAny_bind (wpAny_pure (wpAny_pure ⟨_, rfl, wpAny_pure h⟩))) htake)
    | exact wpAny_bind (wpAny_bind (m := Builtin.Tuple.tupleExact _) (wpAny_newObj_type (wpAny_pure (wpAny_pure ⟨_, rfl, wpAny_pure h⟩)) htake))
    | exact wpAny_bind (wpAny_bind (m := Builtin.Tuple.tupleExact _) (wpAny_newObj_type (wpAny_pure ⟨_, rfl, wpAny_pure h⟩) htake))
end
def tRevT (K : PySem.W.Frag) (te : TE) : TE := fun σ H Q => te σ H fun x H1 => ∃ a xs, x = .ref a ∧ SqT K H1 a xs ∧ ∀ p, H1 p = none → Q (.ref p) (upd H1 p (.tup xs.reverse))
section
variable {X : Cx}
theorem pe_revT {e : Expr} {te : TE} {k : Nat} {p1 p2 p3 pos : Pos} (he : PE X e te) : PE X (.Subscript e (.Slice none none (some (.UnaryOp .USub (.Constant (.int 1) k p1) p2)) p3) pos) (tRevT X.K te) := by
  refine ⟨fun pins s σ H Q I h => ?_⟩
  refine Subscript_ (thn (he.run pins s σ H _ I h) fun v s1 ⟨x, H1, I1, r1, q1⟩ => ?_)
  obtain ⟨a, xs, ex, hx, q⟩ := q1
  subst ex
  cases r1
  have hst : PO X (some (.UnaryOp .USub (.Constant (.int 1) k p1) p2)) (tPart (tUn (rU fun i => .int (-i)) (tC (.int 1)))) := po_some (pe_un un_neg pe_int)
  refine wpAny_Slice (thn (po_none.run pins s1 σ H1 (fun o H2 => o = none ∧ H2 = H1) I1 ⟨rfl, rfl⟩) fun vl s2 ⟨l, H2, I2, pl, el, e2⟩ => ?_)
  subst el e2
  refine thn (po_none.run pins s2 σ H2 (fun o H3 => o = none ∧ H3 = H2) I2 ⟨rfl, rfl⟩) fun vu s3 ⟨u, H3, I3, pu, eu, e3⟩ => ?_
  subst eu e3
  refine thn (hst.run pins s3 σ H3 (fun o H4 => o = some (-1) ∧ H4 = H3) I3 ⟨1, rfl, -1, rfl, rfl, rfl⟩) fun vs s4 ⟨o, H4, I4, ps, eo, e4⟩ => ?_
  subst eo e4
  cases pl
  cases pu
  have I5 : Inv X pins σ H4 { s4 with heap := s4.heap.push { cls := .type "slice", data := .fields #[.none, .none, vs] } } := I4.kept (t' := s4.toks) fun b ob q => Heap.get?_push_of_some _ q
  obtain ⟨its, r, ht, hz⟩ := I5.tuple hx
  have hlen := r.length
  show wpAny (model X.prog X.w) X.A (subscriptTail e (.Slice none none (some (.UnaryOp .USub (.Constant (.int 1) k p1) p2)) p3) (.ref a) (.ref s4.heap.objs.size)) (EP X pins σ Q) X.xe { s4 with heap := s4.heap.push { cls := .type "slice", data := .fields #[.none, .none, vs] } }
  refine tail_any (ops := [.ref a, .ref s4.heap.objs.size]) ht.typeIs (PyProof.Rows.slot_tuple_getitem.lookup) ?_ (by with_unfolding_all rfl)
  refine getItem_tuple_rev ht (Heap.IsSliceOf.new _ .none .none vs) ps ?_ (by rw [List.size_toArray]; omega)
  refine ⟨.ref _, _, I5.laid (t' := s4.toks) (o := .tup xs.reverse) (fun b ob q => Heap.get?_push_of_some _ q) (Nat.le_refl _) ?_, rfl, q _ (I5.hok.fresh (Nat.le_refl _))⟩
  exact ⟨by rw [List.length_reverse]; exact hz, _, r.reverse, IsTup.new _ _⟩
end
end XV
set_option Elab.async false
set_option linter.all false
set_option maxRecDepth 100000
set_option maxHeartbeats 4000000
/-! values as data: what a frame's slots hold, told without the heap -/
namespace DL
open PySem PySem.Spec PyProof.Rows L2 XV SL
mutual
def Dh (H : Hp) : V → PyData → Prop
  | v, .none => v = .non
  | v, .bool b => v = .bl b
  | v, .int i => v = .int i
  | v, .str s => v = .str s
  | v, .list ds => ∃ a xs, v = .ref a ∧ H a = some (.lst xs) ∧ DhL H xs ds
  | v, .tuple ds => ∃ a xs, v = .ref a ∧ H a = some (.tup xs) ∧ DhL H xs ds
  | v, .dict kvs => kvs = [] ∧ ∃ a, v = .ref a ∧ H a = some (.dK [])
termination_by structural _ d => d
def DhL (H : Hp) : List V → List PyData → Prop
  | xs, [] => xs = []
  | xs, d :: ds => ∃ y ys, xs = y :: ys ∧ Dh H y d ∧ DhL H ys ds
termination_by structural _ ds => ds
end
theorem dhL_nil {H : Hp} : DhL H [] [] := rfl
theorem dhL_cons {H : Hp} {x : V} {xs : List V} {d : PyData} {ds : List PyData} (a : Dh H x d) (b : DhL H xs ds) : DhL H (x :: xs) (d :: ds) := ⟨x, xs, rfl, a, b⟩
theorem DhL.paired {H : Hp} : ∀ {ds : List PyData} {xs : List V}, DhL H xs ds → Paired (Dh H) xs ds
  | [], xs, h => by
    have h : xs = [] := h
    subst h
    exact .nil
  | d :: ds, xs, h => by
    obtain ⟨y, ys, rfl, a, b⟩ := h
    exact .cons a (DhL.paired b)
theorem DhL.of {H : Hp} : ∀ {ds : List PyData} {xs : List V}, Paired (Dh H) xs ds → DhL H xs ds
  | [], [], _ => rfl
  | d :: ds, x :: xs, .cons a r => dhL_cons a (DhL.of r)
mutual
theorem Dh.keep {H H' : Hp} (k : Same H H') : ∀ (d : PyData) (v : V), Dh H v d → Dh H' v d
  | .none, v, h => h
  | .bool b, v, h => h
  | .int i, v, h => h
  | .str s, v, h => h
  | .list ds, v, h => by
    obtain ⟨a, xs, e, z, r⟩ := h
    exact ⟨a, xs, e, k _ _ z, Dh.keepL k ds xs r⟩
  | .tuple ds, v, h => by
    obtain ⟨a, xs, e, z, r⟩ := h
    exact ⟨a, xs, e, k _ _ z, Dh.keepL k ds xs r⟩
  | .dict kvs, v, h => by
    obtain ⟨e1, a, e, z⟩ := h
    exact ⟨e1, a, e, k _ _ z⟩
theorem Dh.keepL {H H' : Hp} (k : Same H H') : ∀ (ds : List PyData) (xs : List V), DhL H xs ds → DhL H' xs ds
  | [], xs, h => h
  | d :: ds, xs, h => by
    obtain ⟨y, ys, e, a, b⟩ := h
    exact ⟨y, ys, e, Dh.keep k d y a, Dh.keepL k ds ys b⟩
end
mutual
def plain : PyData → Bool
  | .list ds => plainL ds
  | .tuple ds => plainL ds
  | .dict _ => false
  | .none => true
  | .bool _ => true
  | .int _ => true
  | .str _ => true
def plainL : List PyData → Bool
  | [] => true
  | d :: ds => plain d && plainL ds
end
mutual
theorem Dh.dp {K : PySem.W.Frag} {H : Hp} : ∀ (d : PyData) (v : V), Dh H v d → plain d = true → Dp K H v d
  | .none, v, h, _ => by
    have h : v = .non := h
    subst h
    exact .non
  | .bool b, v, h, _ => by
    have h : v = .bl b := h
    subst h
    exact .bl b
  | .int i, v, h, _ => by
    have h : v = .int i := h
    subst h
    exact .int i
  | .str s, v, h, _ => by
    have h : v = .str s := h
    subst h
    exact .str s
  | .list ds, v, h, p => by
    obtain ⟨a, xs, rfl, z, r⟩ := h
    exact .lst (SqL.of z) (Dh.dpL ds xs r (by simpa [plain] using p))
  | .tuple ds, v, h, p => by
    obtain ⟨a, xs, rfl, z, r⟩ := h
    exact .tup (SqT.of z) (Dh.dpL ds xs r (by simpa [plain] using p))
  | .dict kvs, v, h, p => by simp [plain] at p
theorem Dh.dpL {K : PySem.W.Frag} {H : Hp} : ∀ (ds : List PyData) (xs : List V), DhL H xs ds → plainL ds = true → DpAll K H xs ds
  | [], xs, h, _ => by
    have h : xs = [] := h
    subst h
    exact .nil
  | d :: ds, xs, h, p => by
    obtain ⟨y, ys, rfl, a, b⟩ := h
    rw [plainL, Bool.and_eq_true] at p
    exact .cons (Dh.dp d y a p.1) (Dh.dpL ds ys b p.2)
end
/-- what a slot holds -/
inductive DV where
  | no
  | d (x : PyData)
  | own (xs : List PyData)
  | bor (xs : List PyData)
  | slab (ps : List (Int × Int)) (L : Int)
  | well
  | any (v : V)
def DV.isOwn : DV → Bool
  | .own _ => true
  | _ => false
def DV.isBor : DV → Bool
  | .bor _ => true
  | _ => false
/-- a frame: the class of slabs, the heap at its entry, the part of it that is data, the wells -/
structure DC where
  C : Addr
  H0 : Hp
  B0 : Hp
  W : Addr → Prop
  TT : List (Addr × Str)
/-- tables of code objects -/
def DC.T (c : DC) (w : Addr) : Prop := ∃ nm, (w, nm) ∈ c.TT
/-- a well, or a table of code objects -/
def IsWell (c : DC) (H : Hp) (w : Addr) : Prop := (c.T w ∧ ∀ nm, (w, nm) ∈ c.TT → LamX.TabS H w nm) ∨ (¬ c.T w ∧ ∃ i j k : Int, H w = some (.lst [.int i, .int j, .int k]))
theorem IsWell.here {c : DC} {H : Hp} {w : Addr} (h : IsWell c H w) : ∃ o, H w = some o := by
  rcases h with ⟨⟨nm, m⟩, h⟩ | ⟨_, i, j, k, z⟩
  · obtain ⟨q, z, _⟩ := h nm m
    exact ⟨_, z⟩
  · exact ⟨_, z⟩
theorem IsWell.keep {c : DC} {H H' : Hp} {w : Addr} (h : IsWell c H w) (k : ∀ b o, H b = some o → (b = w ∨ ∀ xs, o ≠ .lst xs) → H' b = some o) : IsWell c H' w := by
  rcases h with ⟨t, h⟩ | ⟨t, i, j, l, z⟩
  · refine .inl ⟨t, fun nm m => ?_⟩
    obtain ⟨q, z, ok, h2⟩ := h nm m
    refine ⟨q, k _ _ z (.inl rfl), ok, fun pos cv e => ?_⟩
    obtain ⟨c', e1, e2⟩ := h2 pos cv e
    exact ⟨c', e1, k _ _ e2 (.inr fun xs e => by cases e)⟩
  · exact .inr ⟨t, i, j, l, k _ _ z (.inl rfl)⟩
def RepV (c : DC) (B H : Hp) (v : V) : DV → Prop
  | .no => True
  | .d x => Dh B v x
  | .own xs => ∃ l vs, v = .ref l ∧ H l = some (.lst vs) ∧ B l = none ∧ c.H0 l = none ∧ DhL B vs xs
  | .bor xs => ∃ l vs, v = .ref l ∧ H l = some (.lst vs) ∧ ¬ c.W l ∧ DhL B vs xs
  | .slab ps L => ∃ p l xc, v = .ref p ∧ SlabAt c.C B p l xc L ∧ PairsAt B xc ps
  | .well => ∃ w, v = .ref w ∧ c.W w ∧ ¬ c.T w
  | .any u => v = u
def RepO (c : DC) (B H : Hp) (p : Option V × DV) : Prop := p.2 = .no ∨ ∃ v, p.1 = some v ∧ RepV c B H v p.2
def Ap (p q : Option V × DV) : Prop := p.2.isOwn = true → q.2.isOwn = true → p.1 ≠ q.1
theorem Ap.symm {p q : Option V × DV} (h : Ap p q) : Ap q p := fun a b e => h b a e.symm
theorem ap_no {p q : Option V × DV} (h : p.2.isOwn = false) : Ap p q := fun a => by rw [h] at a; cases a
structure Sd (c : DC) (σ : L2.St) (H : Hp) (ρ : List DV) (τ : List (Option V × DV)) (B : Hp) : Prop where
  len : σ.length = ρ.length
  sub : Same B H
  ext : Same c.B0 B
  new : ∀ b o, B b = some o → c.B0 b = some o ∨ c.H0 b = none
  keep : ∀ b o, c.H0 b = some o → ¬ c.W b → H b = some o
  wl : ∀ w, c.W w → B w = none ∧ c.H0 w ≠ none ∧ IsWell c H w
  rep : ∀ p ∈ σ.zip ρ ++ τ, RepO c B H p
  ap : (σ.zip ρ ++ τ).Pairwise Ap
  nbor : ∀ x ∈ ρ, x.isBor = false
  tup : ∀ b xs, H b = some (.tup xs) → B b = some (.tup xs)
section
variable {c : DC} {σ : L2.St} {H H' B B' : Hp} {ρ : List DV} {τ : List (Option V × DV)} {v : V} {x : DV}
theorem Sd.fresh (s : Sd c σ H ρ τ B) {p : Addr} (h : H p = none) : c.H0 p = none := by
  cases e : c.H0 p with
  | none => rfl
  | some o =>
    by_cases w : c.W p
    · obtain ⟨o, z⟩ := (s.wl p w).2.2.here
      rw [h] at z
      cases z
    · have z := s.keep p o e w
      rw [h] at z
      cases z
theorem RepV.grow {x : DV} (h : RepV c B H v x) (kb : Same B B') (kh : ∀ b o, H b = some o → ¬ c.W b → H' b = some o) (nw : ∀ b o, B' b = some o → B b = some o ∨ H b = none) (hw : ∀ w, c.W w → c.H0 w ≠ none) : RepV c B' H' v x := by
  cases x with
  | no => trivial
  | d x => exact Dh.keep kb _ _ h
  | own xs =>
    obtain ⟨l, vs, e, z, nb, n0, r⟩ := h
    refine ⟨l, vs, e, kh l _ z fun w => hw l w n0, ?_, n0, Dh.keepL kb _ _ r⟩
    cases q : B' l with
    | none => rfl
    | some o =>
      rcases nw l o q with q' | q'
      · rw [nb] at q'
        cases q'
      · rw [z] at q'
        cases q'
  | bor xs =>
    obtain ⟨l, vs, e, z, n, r⟩ := h
    exact ⟨l, vs, e, kh l _ z n, n, Dh.keepL kb _ _ r⟩
  | slab ps L =>
    obtain ⟨p, l, xc, e, s, r⟩ := h
    exact ⟨p, l, xc, e, s.keep kb, PairsAt.keep kb r⟩
  | well => exact h
  | any u => exact h
/-- the heap grows, the data grows -/
theorem Sd.grow (s : Sd c σ H ρ τ B) (kb : Same B B') (sub : Same B' H') (kh : ∀ b o, H b = some o → ¬ c.W b → H' b = some o) (nw : ∀ b o, B' b = some o → B b = some o ∨ H b = none) (wl : ∀ w, c.W w → IsWell c H' w) (tp : ∀ b xs, H' b = some (.tup xs) → B' b = some (.tup xs)) : Sd c σ H' ρ τ B' where
  len := s.len
  sub := sub
  ext := s.ext.trans kb
  new := fun b o z => (nw b o z).elim (fun q => s.new b o q) fun q => .inr (s.fresh q)
  keep := fun b o z n => kh b o (s.keep b o z n) n
  wl := fun w hw => by
    obtain ⟨a, b, hww⟩ := s.wl w hw
    obtain ⟨o', z⟩ := hww.here
    refine ⟨?_, b, wl w hw⟩
    cases q : B' w with
    | none => rfl
    | some o =>
      rcases nw w o q with q' | q'
      · rw [a] at q'
        cases q'
      · rw [z] at q'
        cases q'
  rep := fun p hp => (s.rep p hp).elim .inl fun ⟨v, e, r⟩ => .inr ⟨v, e, r.grow kb kh nw fun w hw => (s.wl w hw).2.1⟩
  ap := s.ap
  nbor := s.nbor
  tup := tp
/-- a new thing that is never changed -/
theorem Sd.newB (s : Sd c σ H ρ τ B) {p : Addr} (n : H p = none) (o : HO) : Sd c σ (upd H p o) ρ τ (upd B p o) := by
  have nb : B p = none := by
    cases q : B p with
    | none => rfl
    | some u =>
      have := s.sub _ _ q
      rw [n] at this
      cases this
  refine s.grow (same_upd nb) (fun b u z => ?_) (fun b u z _ => same_upd n _ _ z) (fun b u z => ?_) (fun w hw => ?_) fun b xs z => ?_
  · by_cases e : b = p
    · subst e
      rw [upd_same] at z ⊢
      exact z
    · rw [upd_ne e] at z ⊢
      exact s.sub _ _ z
  · by_cases e : b = p
    · subst e
      exact .inr n
    · rw [upd_ne e] at z
      exact .inl z
  · exact (s.wl w hw).2.2.keep fun _ _ z _ => same_upd n _ _ z
  · by_cases e : b = p
    · subst e
      rw [upd_same] at z ⊢
      exact z
    · rw [upd_ne e] at z ⊢
      exact s.tup _ _ z
theorem Sd.push (s : Sd c σ H ρ τ B) (h : RepV c B H v x) (n : x.isOwn = false) : Sd c σ H ρ ((some v, x) :: τ) B :=
  { s with
    rep := fun p hp => by
      rcases List.mem_append.mp hp with hp | hp
      · exact s.rep p (List.mem_append_left _ hp)
      · rcases List.mem_cons.mp hp with e | hp
        · subst e
          exact .inr ⟨v, rfl, h⟩
        · exact s.rep p (List.mem_append_right _ hp)
    ap := by
      have z := List.pairwise_append.mp s.ap
      refine List.pairwise_append.mpr ⟨z.1, List.pairwise_cons.mpr ⟨fun q _ => ap_no n, z.2.1⟩, fun a ha b hb => ?_⟩
      rcases List.mem_cons.mp hb with e | hb
      · subst e
        exact (ap_no n).symm
      · exact z.2.2 a ha b hb }
theorem Sd.pop {p : Option V × DV} (s : Sd c σ H ρ (p :: τ) B) : Sd c σ H ρ τ B :=
  { s with
    rep := fun q hq => by
      rcases List.mem_append.mp hq with hq | hq
      · exact s.rep q (List.mem_append_left _ hq)
      · exact s.rep q (List.mem_append_right _ (List.mem_cons_of_mem _ hq))
    ap := by
      have z := List.pairwise_append.mp s.ap
      exact List.pairwise_append.mpr ⟨z.1, (List.pairwise_cons.mp z.2.1).2, fun a ha b hb => z.2.2 a ha b (List.mem_cons_of_mem _ hb)⟩ }
theorem Sd.top (s : Sd c σ H ρ ((some v, x) :: τ) B) (n : x ≠ .no) : RepV c B H v x := by
  rcases s.rep (some v, x) (List.mem_append_right _ List.mem_cons_self) with e | ⟨u, e, r⟩
  · exact absurd e n
  · cases e
    exact r
theorem Sd.topR (s : Sd c σ H ρ ((some v, x) :: τ) B) : RepV c B H v x := by
  cases x with
  | no => trivial
  | _ => exact s.top (by intro h; cases h)
/-- a new list of one's own -/
theorem Sd.newOwn (s : Sd c σ H ρ τ B) {p : Addr} (n : H p = none) {vs : List V} {xs : List PyData} (r : DhL B vs xs) : Sd c σ (upd H p (.lst vs)) ρ ((some (.ref p), .own xs) :: τ) B := by
  have nb : B p = none := by
    cases q : B p with
    | none => rfl
    | some u =>
      have := s.sub _ _ q
      rw [n] at this
      cases this
  have s1 : Sd c σ (upd H p (.lst vs)) ρ τ B := s.grow (Same.refl _) (s.sub.trans (same_upd n)) (fun b u z _ => same_upd n _ _ z) (fun b u z => .inl z) (fun w hw => (s.wl w hw).2.2.keep fun _ _ z _ => same_upd n _ _ z) fun b ys z => s.tup _ _ (by
    by_cases e : b = p
    · subst e
      rw [upd_same] at z
      cases z
    · rw [upd_ne e] at z
      exact z)
  refine { s1 with rep := fun q hq => ?_, ap := ?_ }
  · rcases List.mem_append.mp hq with hq | hq
    · exact s1.rep q (List.mem_append_left _ hq)
    · rcases List.mem_cons.mp hq with e | hq
      · subst e
        exact .inr ⟨_, rfl, p, vs, rfl, upd_same, nb, s.fresh n, r⟩
      · exact s1.rep q (List.mem_append_right _ hq)
  · have z := List.pairwise_append.mp s1.ap
    have far : ∀ q ∈ σ.zip ρ ++ τ, Ap (some (V.ref p), DV.own xs) q := fun q hq _ ho e => by
      rcases s.rep q hq with e2 | ⟨u, e2, r2⟩
      · rw [e2] at ho
        cases ho
      · rw [e2] at e
        cases e
        obtain ⟨a, y⟩ := q
        cases y with
        | own ys =>
          obtain ⟨l, ws, e3, z3, _⟩ := r2
          cases e3
          rw [n] at z3
          cases z3
        | _ => cases ho
    refine List.pairwise_append.mpr ⟨z.1, List.pairwise_cons.mpr ⟨fun q hq => far q (List.mem_append_right _ hq), z.2.1⟩, fun a ha b hb => ?_⟩
    rcases List.mem_cons.mp hb with e | hb
    · subst e
      exact (far a (List.mem_append_left _ ha)).symm
    · exact z.2.2 a ha b hb
/-! ### slots -/
theorem zip_set : ∀ {σ : L2.St} {ρ : List DV} {i : Nat} {a : Option V} {b : DV}, (σ.set i a).zip (ρ.set i b) = (σ.zip ρ).set i (a, b)
  | [], _, _, _, _ => by simp
  | _ :: _, [], _, _, _ => by simp
  | _ :: σ, _ :: ρ, 0, _, _ => rfl
  | x :: σ, y :: ρ, i + 1, a, b => by
    simp only [List.set_cons_succ, List.zip_cons_cons]
    rw [zip_set]
theorem pw_set {α : Type} {R : α → α → Prop} (sym : ∀ a b, R a b → R b a) {x : α} : ∀ {l : List α} {i : Nat}, l.Pairwise R → (∀ y ∈ l, R x y) → (l.set i x).Pairwise R
  | [], _, _, _ => .nil
  | y :: l, 0, h, k => by
    obtain ⟨h1, h2⟩ := List.pairwise_cons.mp h
    exact List.pairwise_cons.mpr ⟨fun z hz => k z (List.mem_cons_of_mem _ hz), h2⟩
  | y :: l, i + 1, h, k => by
    obtain ⟨h1, h2⟩ := List.pairwise_cons.mp h
    refine List.pairwise_cons.mpr ⟨fun z hz => ?_, pw_set sym h2 fun z hz => k z (List.mem_cons_of_mem _ hz)⟩
    rcases List.mem_or_eq_of_mem_set hz with hz | e
    · exact h1 z hz
    · subst e
      exact sym _ _ (k y List.mem_cons_self)
/-- the value on top goes into slot i -/
theorem Sd.set {p : Option V × DV} (s : Sd c σ H ρ (p :: τ) B) (i : Nat) (hb : p.2.isBor = false) : Sd c (σ.set i p.1) H (ρ.set i p.2) τ B where
  len := by rw [List.length_set, List.length_set, s.len]
  sub := s.sub
  ext := s.ext
  new := s.new
  keep := s.keep
  wl := s.wl
  rep := fun q hq => by
    rw [zip_set] at hq
    rcases List.mem_append.mp hq with hq | hq
    · rcases List.mem_or_eq_of_mem_set hq with hq | e
      · exact s.rep q (List.mem_append_left _ hq)
      · subst e
        exact s.rep p (List.mem_append_right _ List.mem_cons_self)
    · exact s.rep q (List.mem_append_right _ (List.mem_cons_of_mem _ hq))
  ap := by
    rw [zip_set]
    have z := List.pairwise_append.mp s.ap
    have z2 := List.pairwise_cons.mp z.2.1
    refine List.pairwise_append.mpr ⟨pw_set (fun a b h => h.symm) z.1 fun y hy => (z.2.2 y hy p List.mem_cons_self).symm, z2.2, fun a ha b hb => ?_⟩
    rcases List.mem_or_eq_of_mem_set ha with ha | e
    · exact z.2.2 a ha b (List.mem_cons_of_mem _ hb)
    · subst e
      exact z2.1 b hb
  nbor := fun x hx => by
    rcases List.mem_or_eq_of_mem_set hx with hx | e
    · exact s.nbor x hx
    · rw [e]
      exact hb
  tup := s.tup
theorem zip_get {σ : L2.St} {ρ : List DV} {i : Nat} {x : DV} (hl : σ.length = ρ.length) (h : ρ[i]? = some x) : ∃ a, σ[i]? = some a ∧ (σ.zip ρ)[i]? = some (a, x) := by
  have lt := (List.getElem?_eq_some_iff.mp h).1
  refine ⟨σ[i]'(by omega), List.getElem?_eq_getElem _, ?_⟩
  exact List.getElem?_zip_eq_some.mpr ⟨List.getElem?_eq_getElem _, h⟩
theorem Sd.slot (s : Sd c σ H ρ τ B) {i : Nat} (h : ρ[i]? = some x) (n : x ≠ .no) : ∃ v, σ[i]? = some (some v) ∧ RepV c B H v x ∧ (σ.zip ρ)[i]? = some (some v, x) := by
  obtain ⟨a, e1, e2⟩ := zip_get s.len h
  rcases s.rep _ (List.mem_append_left _ (List.mem_of_getElem? e2)) with e | ⟨v, e, r⟩
  · exact absurd e n
  · have e : a = some v := e
    subst e
    exact ⟨v, e1, r, e2⟩
/-- slot i is forgotten -/
theorem Sd.drop (s : Sd c σ H ρ τ B) (i : Nat) (o : Option V) : Sd c (σ.set i o) H (ρ.set i .no) τ B := by
  have s2 : Sd c σ H ρ ((o, .no) :: τ) B :=
    { s with
      rep := fun p hp => by
        rcases List.mem_append.mp hp with hp | hp
        · exact s.rep p (List.mem_append_left _ hp)
        · rcases List.mem_cons.mp hp with e | hp
          · subst e
            exact .inl rfl
          · exact s.rep p (List.mem_append_right _ hp)
      ap := by
        have z := List.pairwise_append.mp s.ap
        refine List.pairwise_append.mpr ⟨z.1, List.pairwise_cons.mpr ⟨fun q _ => ap_no rfl, z.2.1⟩, fun a ha b hb => ?_⟩
        rcases List.mem_cons.mp hb with e | hb
        · subst e
          exact (ap_no rfl).symm
        · exact z.2.2 a ha b hb }
  exact s2.set i rfl
/-- what a slot holds is handed on -/
theorem Sd.take (s : Sd c σ H ρ τ B) {i : Nat} {v : V} (h : (σ.zip ρ)[i]? = some (some v, x)) : Sd c σ H (ρ.set i .no) ((some v, x) :: τ) B where
  len := by rw [List.length_set, s.len]
  sub := s.sub
  ext := s.ext
  new := s.new
  keep := s.keep
  wl := s.wl
  rep := fun q hq => by
    have hσ : σ.set i (some v) = σ := by
      obtain ⟨h1, _⟩ := List.getElem?_zip_eq_some.mp h
      obtain ⟨lt, e⟩ := List.getElem?_eq_some_iff.mp h1
      have e : σ[i] = some v := e
      rw [← e]
      exact List.set_getElem_self lt
    rcases List.mem_append.mp hq with hq | hq
    · rw [← hσ, zip_set] at hq
      rcases List.mem_or_eq_of_mem_set hq with hq | e
      · exact s.rep q (List.mem_append_left _ hq)
      · subst e
        exact .inl rfl
    · rcases List.mem_cons.mp hq with e | hq
      · subst e
        exact s.rep _ (List.mem_append_left _ (List.mem_of_getElem? h))
      · exact s.rep q (List.mem_append_right _ hq)
  ap := by
    have hσ : σ.set i (some v) = σ := by
      obtain ⟨h1, _⟩ := List.getElem?_zip_eq_some.mp h
      obtain ⟨lt, e⟩ := List.getElem?_eq_some_iff.mp h1
      have e : σ[i] = some v := e
      rw [← e]
      exact List.set_getElem_self lt
    have z := List.pairwise_append.mp s.ap
    have e : σ.zip (ρ.set i .no) = (σ.zip ρ).set i (some v, .no) := by
      rw [← zip_set, hσ]
    rw [e]
    have other : ∀ a ∈ (σ.zip ρ).set i (some v, DV.no), Ap a (some v, x) := fun a ha => by
      obtain ⟨j, hj⟩ := List.mem_iff_getElem?.mp ha
      by_cases ij : i = j
      · subst ij
        rw [List.getElem?_set_self (List.getElem?_eq_some_iff.mp h).1] at hj
        cases hj
        exact ap_no rfl
      · rw [List.getElem?_set_ne ij] at hj
        obtain ⟨lj, ej⟩ := List.getElem?_eq_some_iff.mp hj
        obtain ⟨li, ei⟩ := List.getElem?_eq_some_iff.mp h
        have pw := List.pairwise_iff_getElem.mp z.1
        rcases Nat.lt_or_ge i j with hij | hij
        · have q := pw i j li lj hij
          rw [ei, ej] at q
          exact q.symm
        · have q := pw j i lj li (by omega)
          rw [ei, ej] at q
          exact q
    refine List.pairwise_append.mpr ⟨pw_set (fun a b h => h.symm) z.1 fun y hy => ap_no rfl, List.pairwise_cons.mpr ⟨fun q hq => z.2.2 _ (List.mem_of_getElem? h) q hq, z.2.1⟩, fun a ha b hb => ?_⟩
    rcases List.mem_cons.mp hb with e2 | hb
    · subst e2
      exact other a ha
    · rcases List.mem_or_eq_of_mem_set ha with ha | e3
      · exact z.2.2 a ha b hb
      · subst e3
        exact ap_no rfl
  nbor := fun x hx => by
    rcases List.mem_or_eq_of_mem_set hx with hx | e
    · exact s.nbor x hx
    · rw [e]
      rfl
  tup := s.tup
/-- a list of one's own, on top, becomes data -/
theorem Sd.frz {xs : List PyData} (s : Sd c σ H ρ ((some v, .own xs) :: τ) B) : ∃ B', Same B B' ∧ Sd c σ H ρ ((some v, .d (.list xs)) :: τ) B' := by
  obtain ⟨l, vs, rfl, z, nb, n0, r⟩ := s.top (x := .own xs) (by intro h; cases h)
  have sB : Same B (upd B l (.lst vs)) := same_upd nb
  refine ⟨upd B l (.lst vs), sB, ?_⟩
  have nw : ¬ c.W l := fun w => (s.wl l w).2.1 n0
  have ap := List.pairwise_append.mp s.ap
  have ap2 := List.pairwise_cons.mp ap.2.1
  have far : ∀ q ∈ σ.zip ρ ++ τ, Ap (some (V.ref l), DV.own xs) q := fun q hq => by
    rcases List.mem_append.mp hq with hq | hq
    · exact (ap.2.2 q hq _ List.mem_cons_self).symm
    · exact ap2.1 q hq
  have rep' : ∀ q ∈ σ.zip ρ ++ τ, RepO c (upd B l (.lst vs)) H q := fun q hq => by
    rcases s.rep q (by
      rcases List.mem_append.mp hq with hq | hq
      · exact List.mem_append_left _ hq
      · exact List.mem_append_right _ (List.mem_cons_of_mem _ hq)) with e | ⟨u, e, ru⟩
    · exact .inl e
    · refine .inr ⟨u, e, ?_⟩
      have fa := far q hq
      obtain ⟨q1, q2⟩ := q
      have e : q1 = some u := e
      subst e
      cases q2 with
      | no => trivial
      | d x => exact Dh.keep sB _ _ ru
      | own ys =>
        obtain ⟨l', ws, rfl, z', nb', n0', r'⟩ := ru
        have ne : l' ≠ l := fun e => fa rfl rfl (by rw [e])
        exact ⟨l', ws, rfl, z', by rw [upd_ne ne]; exact nb', n0', Dh.keepL sB _ _ r'⟩
      | bor ys =>
        obtain ⟨l', ws, rfl, z', n', r'⟩ := ru
        exact ⟨l', ws, rfl, z', n', Dh.keepL sB _ _ r'⟩
      | slab ps L =>
        obtain ⟨p, l', xc, e, s', r'⟩ := ru
        exact ⟨p, l', xc, e, s'.keep sB, PairsAt.keep sB r'⟩
      | well => exact ru
      | any u' => exact ru
  exact {
    len := s.len
    sub := fun b o q => by
      by_cases e : b = l
      · subst e
        rw [upd_same] at q
        rw [z]
        exact q
      · rw [upd_ne e] at q
        exact s.sub _ _ q
    ext := s.ext.trans sB
    new := fun b o q => by
      by_cases e : b = l
      · subst e
        exact .inr n0
      · rw [upd_ne e] at q
        exact s.new _ _ q
    keep := s.keep
    wl := fun w hw => by
      have e : w ≠ l := fun e => nw (by rw [← e]; exact hw)
      rw [upd_ne e]
      exact s.wl w hw
    rep := fun q hq => by
      rcases List.mem_append.mp hq with hq | hq
      · exact rep' q (List.mem_append_left _ hq)
      · rcases List.mem_cons.mp hq with e | hq
        · subst e
          exact .inr ⟨_, rfl, l, vs, rfl, upd_same, Dh.keepL sB _ _ r⟩
        · exact rep' q (List.mem_append_right _ hq)
    ap := List.pairwise_append.mpr ⟨ap.1, List.pairwise_cons.mpr ⟨fun q _ => ap_no rfl, ap2.2⟩, fun a ha b hb => by
      rcases List.mem_cons.mp hb with e | hb
      · subst e
        exact (ap_no rfl).symm
      · exact ap.2.2 a ha b (List.mem_cons_of_mem _ hb)⟩
    nbor := s.nbor
    tup := fun b ys q => by
      by_cases e : b = l
      · subst e
        rw [z] at q
        cases q
      · rw [upd_ne e]
        exact s.tup _ _ q }
/-- the list of one's own on top is changed -/
theorem Sd.mutTop {l : Addr} {xs xs' : List PyData} {vs' : List V} (s : Sd c σ H ρ ((some (.ref l), .own xs) :: τ) B) (hb : ∀ p ∈ τ, p.2.isBor = true → p.1 ≠ some (.ref l)) (r : DhL B vs' xs') : Sd c σ (upd H l (.lst vs')) ρ ((some (.ref l), .own xs') :: τ) B := by
  obtain ⟨l0, vs, e0, z, nb, n0, r0⟩ := s.top (x := .own xs) (by intro h; cases h)
  cases e0
  have nw : ¬ c.W l := fun w => (s.wl l w).2.1 n0
  have ap := List.pairwise_append.mp s.ap
  have ap2 := List.pairwise_cons.mp ap.2.1
  have far : ∀ q ∈ σ.zip ρ ++ τ, Ap (some (V.ref l), DV.own xs) q := fun q hq => by
    rcases List.mem_append.mp hq with hq | hq
    · exact (ap.2.2 q hq _ List.mem_cons_self).symm
    · exact ap2.1 q hq
  have rep' : ∀ q ∈ σ.zip ρ ++ τ, RepO c B (upd H l (.lst vs')) q := fun q hq => by
    rcases s.rep q (by
      rcases List.mem_append.mp hq with hq | hq
      · exact List.mem_append_left _ hq
      · exact List.mem_append_right _ (List.mem_cons_of_mem _ hq)) with e | ⟨u, e, ru⟩
    · exact .inl e
    · refine .inr ⟨u, e, ?_⟩
      have fa := far q hq
      have nbq : q.2.isBor = true → q.1 ≠ some (.ref l) := fun hbq => by
        rcases List.mem_append.mp hq with hq | hq
        · have := s.nbor q.2 (List.of_mem_zip (a := q.1) (b := q.2) (by simpa using hq)).2
          rw [this] at hbq
          cases hbq
        · exact hb q hq hbq
      obtain ⟨q1, q2⟩ := q
      have e : q1 = some u := e
      subst e
      cases q2 with
      | no => trivial
      | d x => exact ru
      | own ys =>
        obtain ⟨l', ws, rfl, z', nb', n0', r'⟩ := ru
        have ne : l' ≠ l := fun e => fa rfl rfl (by rw [e])
        exact ⟨l', ws, rfl, by rw [upd_ne ne]; exact z', nb', n0', r'⟩
      | bor ys =>
        obtain ⟨l', ws, rfl, z', n', r'⟩ := ru
        have ne : l' ≠ l := fun e => nbq rfl (by rw [e])
        exact ⟨l', ws, rfl, by rw [upd_ne ne]; exact z', n', r'⟩
      | slab ps L => exact ru
      | well => exact ru
      | any u' => exact ru
  exact {
    len := s.len
    sub := fun b o q => by
      have e : b ≠ l := fun e => by rw [e, nb] at q; cases q
      rw [upd_ne e]
      exact s.sub _ _ q
    ext := s.ext
    new := s.new
    keep := fun b o q w => by
      have e : b ≠ l := fun e => by rw [e, n0] at q; cases q
      rw [upd_ne e]
      exact s.keep _ _ q w
    wl := fun w hw => by
      have e : w ≠ l := fun e => nw (by rw [← e]; exact hw)
      obtain ⟨h1, h2, h3⟩ := s.wl w hw
      have zl := z
      exact ⟨h1, h2, h3.keep fun b o z q => by
        have e2 : b ≠ l := fun e2 => by
          rcases q with q | q
          · exact e (q.symm.trans e2)
          · rw [e2, zl] at z
            cases z
            exact q _ rfl
        rw [upd_ne e2]
        exact z⟩
    rep := fun q hq => by
      rcases List.mem_append.mp hq with hq | hq
      · exact rep' q (List.mem_append_left _ hq)
      · rcases List.mem_cons.mp hq with e | hq
        · subst e
          exact .inr ⟨_, rfl, l, vs', rfl, upd_same, nb, n0, r⟩
        · exact rep' q (List.mem_append_right _ hq)
    ap := List.pairwise_append.mpr ⟨ap.1, List.pairwise_cons.mpr ⟨fun q hq => ap2.1 q hq, ap2.2⟩, fun a ha b hb => by
      rcases List.mem_cons.mp hb with e | hb
      · subst e
        exact fun h1 _ => (far a (List.mem_append_left _ ha)).symm h1 rfl
      · exact ap.2.2 a ha b (List.mem_cons_of_mem _ hb)⟩
    nbor := s.nbor
    tup := fun b ys q => by
      by_cases e : b = l
      · subst e
        rw [upd_same] at q
        cases q
      · rw [upd_ne e] at q
        exact s.tup _ _ q }
/-- the heap grows somehow: all new tuples are data -/
theorem Sd.more (s : Sd c σ H ρ τ B) (k : Same H H') : ∃ B', Same B B' ∧ (∀ b o, B' b = some o → B b = some o ∨ (H b = none ∧ ∃ xs, o = .tup xs)) ∧ (∀ b xs, H b = none → H' b = some (.tup xs) → B' b = some (.tup xs)) ∧ Sd c σ H' ρ τ B' := by
  have sB : Same B fun b => match H b, H' b with | none, some (.tup xs) => some (.tup xs) | _, _ => B b := fun b o z => by
    have e := s.sub _ _ z
    show (match H b, H' b with | none, some (.tup xs) => some (HO.tup xs) | _, _ => B b) = some o
    rw [e]
    exact z
  have nt : ∀ b xs, H b = none → H' b = some (.tup xs) → (match H b, H' b with | none, some (.tup xs) => some (HO.tup xs) | _, _ => B b) = some (.tup xs) := fun b xs e1 e2 => by rw [e1, e2]
  refine ⟨fun b => match H b, H' b with | none, some (.tup xs) => some (.tup xs) | _, _ => B b, sB, fun b o z => ?_, nt, ?_⟩
  · have z : (match H b, H' b with | none, some (.tup xs) => some (HO.tup xs) | _, _ => B b) = some o := z
    split at z
    · rename_i xs e1 e2
      cases z
      exact .inr ⟨e1, xs, rfl⟩
    · exact .inl z
  refine s.grow sB (fun b o z => ?_) (fun b o z _ => k _ _ z) (fun b o z => ?_) (fun w hw => (s.wl w hw).2.2.keep fun _ _ z _ => k _ _ z) fun b xs z => ?_
  · have z : (match H b, H' b with | none, some (.tup xs) => some (HO.tup xs) | _, _ => B b) = some o := z
    split at z
    · rename_i xs e1 e2
      rw [e2]
      exact z
    · exact k _ _ (s.sub _ _ z)
  · have z : (match H b, H' b with | none, some (.tup xs) => some (HO.tup xs) | _, _ => B b) = some o := z
    split at z
    · rename_i xs e1 e2
      exact .inr e1
    · exact .inl z
  · by_cases e : H b = none
    · exact nt b xs e z
    · obtain ⟨o, e⟩ := Option.ne_none_iff_exists'.mp e
      have z2 := k _ _ e
      rw [z] at z2
      cases z2
      exact sB _ _ (s.tup _ _ e)
end
end DL
set_option Elab.async false
set_option linter.all false
set_option maxRecDepth 100000
set_option maxHeartbeats 4000000
/-! expressions, told over data -/
namespace DL
open PySem PySem.Spec PyProof.Rows L2 XV SL
abbrev EZ := Addr → Str → DV → Prop
abbrev Env := List DV
abbrev TD := Env → (DV → Env → Prop) → EZ → Prop
abbrev TDA := Env → (List DV → Env → Prop) → EZ → Prop
abbrev TDT := Env → (Bool → Env → Prop) → EZ → Prop
/-- what a frame has done to the heap -/
structure Fin (c : DC) (H' B' : Hp) : Prop where
  sub : Same B' H'
  ext : Same c.B0 B'
  new : ∀ b o, B' b = some o → c.B0 b = some o ∨ c.H0 b = none
  keep : ∀ b o, c.H0 b = some o → ¬ c.W b → H' b = some o
  wl : ∀ w, c.W w → IsWell c H' w
  tup : ∀ b xs, H' b = some (.tup xs) → B' b = some (.tup xs)
theorem Sd.fin {c : DC} {σ : L2.St} {H B : Hp} {ρ : Env} {τ : List (Option V × DV)} (s : Sd c σ H ρ τ B) : Fin c H B := ⟨s.sub, s.ext, s.new, s.keep, fun w h => (s.wl w h).2.2, s.tup⟩
def XW (c : DC) (E : XK) : EZ := fun C n x => ∀ v H' B' d, Fin c H' B' → RepV c B' H' v x → H' d = some (.xd [(n, v)]) → c.H0 d = none → E (.ref C) (some d) H'
def pushT : List V → List DV → List (Option V × DV) → List (Option V × DV)
  | v :: vs, x :: xs, τ => pushT vs xs ((some v, x) :: τ)
  | _, _, τ => τ
def lift (c : DC) (E : EZ) (t : TD) : TE := fun σ H Q => ∃ ρ τ B, Sd c σ H ρ τ B ∧ t ρ (fun x ρ' => ∀ v H' B', Sd c σ H' ρ' ((some v, x) :: τ) B' → Q v H') E
def liftA (c : DC) (E : EZ) (t : TDA) : TA := fun σ H Q => ∃ ρ τ B, Sd c σ H ρ τ B ∧ t ρ (fun xs ρ' => ∀ vs H' B', vs.length = xs.length → Sd c σ H' ρ' (pushT vs xs τ) B' → Q vs H') E
def liftT (c : DC) (E : EZ) (t : TDT) : TT := fun σ H Q => ∃ ρ τ B, Sd c σ H ρ τ B ∧ t ρ (fun b ρ' => ∀ H' B', Sd c σ H' ρ' τ B' → Q b H') E
def MonoE (t : TD) : Prop := ∀ ρ Q Q' Z, (∀ x r, Q x r → Q' x r) → t ρ Q Z → t ρ Q' Z
def MonoA (t : TDA) : Prop := ∀ ρ Q Q' Z, (∀ x r, Q x r → Q' x r) → t ρ Q Z → t ρ Q' Z
def MonoT (t : TDT) : Prop := ∀ ρ Q Q' Z, (∀ x r, Q x r → Q' x r) → t ρ Q Z → t ρ Q' Z
structure PDE (c : DC) (E : EZ) (X : Cx) (e : Expr) (t : TD) : Prop where
  pe : PE X e (lift c E t)
  mono : MonoE t
structure PDA (c : DC) (E : EZ) (X : Cx) (es : List Expr) (t : TDA) : Prop where
  pa : PA X es (liftA c E t)
  mono : MonoA t
  len : ∀ ρ Q Z, t ρ Q Z → t ρ (fun xs r => xs.length = es.length ∧ Q xs r) Z
structure PDT (c : DC) (E : EZ) (X : Cx) (e : Expr) (t : TDT) : Prop where
  pt : PT X e (liftT c E t)
  mono : MonoT t
structure PDW (c : DC) (E : EZ) (X : Cx) (e : Expr) (t : TDT) : Prop where
  pw : PW X e (liftT c E t)
  mono : MonoT t
theorem pe_wk {X : Cx} {e : Expr} {t t' : TE} (h : PE X e t) (k : ∀ σ H Q, t' σ H Q → t σ H Q) : PE X e t' := ⟨fun pins s σ H Q I q => h.run pins s σ H Q I (k σ H Q q)⟩
theorem pt_wk {X : Cx} {e : Expr} {t t' : TT} (h : PT X e t) (k : ∀ σ H Q, t' σ H Q → t σ H Q) : PT X e t' := ⟨fun pins s σ H Q I q => h.run pins s σ H Q I (k σ H Q q)⟩
theorem pw_wk {X : Cx} {e : Expr} {t t' : TT} (h : PW X e t) (k : ∀ σ H Q, t' σ H Q → t σ H Q) : PW X e t' := ⟨fun wh pins s σ H Q I q => h.run wh pins s σ H Q I (k σ H Q q)⟩
theorem pa_wk {X : Cx} {es : List Expr} {t t' : TA} (h : PA X es t) (k : ∀ σ H Q, t' σ H Q → t σ H Q) : PA X es t' := ⟨fun pos pins s σ H Q I q => h.run pos pins s σ H Q I (k σ H Q q)⟩
/-! ### views -/
def lstOf : DV → Option (List PyData)
  | .d (.list xs) => some xs
  | .own xs => some xs
  | .bor xs => some xs
  | _ => none
def tupOf : DV → Option (List PyData)
  | .d (.tuple xs) => some xs
  | _ => none
def seqOf : DV → Option (List PyData)
  | .d (.list xs) => some xs
  | .d (.tuple xs) => some xs
  | .own xs => some xs
  | .bor xs => some xs
  | _ => none
/-- as data -/
def datOf : DV → Option PyData
  | .d x => some x
  | .own xs => some (.list xs)
  | .bor xs => some (.list xs)
  | _ => none
section
variable {c : DC} {E : EZ} {X : Cx} {σ : L2.St} {H H' B B' : Hp} {ρ : Env} {τ : List (Option V × DV)} {v w : V} {x y : DV}
theorem lst_at {xs : List PyData} (s : Same B H) (h : RepV c B H v x) (e : lstOf x = some xs) : ∃ l vs, v = .ref l ∧ H l = some (.lst vs) ∧ DhL B vs xs := by
  cases x with
  | d d =>
    cases d with
    | list ds =>
      cases e
      obtain ⟨a, vs, e1, z, r⟩ := h
      exact ⟨a, vs, e1, s _ _ z, r⟩
    | _ => cases e
  | own ys =>
    cases e
    obtain ⟨l, vs, e1, z, _, _, r⟩ := h
    exact ⟨l, vs, e1, z, r⟩
  | bor ys =>
    cases e
    obtain ⟨l, vs, e1, z, _, r⟩ := h
    exact ⟨l, vs, e1, z, r⟩
  | _ => cases e
theorem tup_at {xs : List PyData} (s : Same B H) (h : RepV c B H v x) (e : tupOf x = some xs) : ∃ l vs, v = .ref l ∧ B l = some (.tup vs) ∧ H l = some (.tup vs) ∧ DhL B vs xs := by
  cases x with
  | d d =>
    cases d with
    | tuple ds =>
      cases e
      obtain ⟨a, vs, e1, z, r⟩ := h
      exact ⟨a, vs, e1, z, s _ _ z, r⟩
    | _ => cases e
  | _ => cases e
theorem seq_cases {x : DV} {xs : List PyData} (e : seqOf x = some xs) : lstOf x = some xs ∨ tupOf x = some xs := by
  cases x with
  | d d =>
    cases d with
    | list ds => exact .inl e
    | tuple ds => exact .inr e
    | _ => cases e
  | own ys => exact .inl e
  | bor ys => exact .inl e
  | _ => cases e
theorem seq_at {K : PySem.W.Frag} {xs : List PyData} (s : Same B H) (h : RepV c B H v x) (e : seqOf x = some xs) : ∃ l vs, v = .ref l ∧ (SqL K H l vs ∨ SqT K H l vs) ∧ DhL B vs xs := by
  rcases seq_cases e with e | e
  · obtain ⟨l, vs, e1, z, r⟩ := lst_at s h e
    exact ⟨l, vs, e1, .inl (SqL.of z), r⟩
  · obtain ⟨l, vs, e1, _, z, r⟩ := tup_at s h e
    exact ⟨l, vs, e1, .inr (SqT.of z), r⟩
theorem dat_at {K : PySem.W.Frag} {d : PyData} (s : Same B H) (h : RepV c B H v x) (e : datOf x = some d) (p : plain d = true) : Dp K H v d := by
  cases x with
  | d d' =>
    cases e
    exact Dh.dp _ _ (Dh.keep s _ _ h) p
  | own ys =>
    cases e
    obtain ⟨l, vs, rfl, z, _, _, r⟩ := h
    exact .lst (SqL.of z) (Dh.dpL _ _ (Dh.keepL s _ _ r) (by simpa [plain] using p))
  | bor ys =>
    cases e
    obtain ⟨l, vs, rfl, z, _, r⟩ := h
    exact .lst (SqL.of z) (Dh.dpL _ _ (Dh.keepL s _ _ r) (by simpa [plain] using p))
  | _ => cases e
theorem dhL_len {xs : List V} {ds : List PyData} (h : DhL B xs ds) : xs.length = ds.length := Paired.length h.paired
theorem dhL_app {xs ys : List V} {ds es : List PyData} (h : DhL B xs ds) (k : DhL B ys es) : DhL B (xs ++ ys) (ds ++ es) := by
  induction ds generalizing xs with
  | nil =>
    have h : xs = [] := h
    subst h
    exact k
  | cons d ds ih =>
    obtain ⟨z, zs, rfl, a, b⟩ := h
    exact dhL_cons a (ih b)
theorem dhL_get {xs : List V} {ds : List PyData} (h : DhL B xs ds) {i : Nat} {d : PyData} (e : ds[i]? = some d) : ∃ z, xs[i]? = some z ∧ Dh B z d := by
  induction ds generalizing xs i with
  | nil => simp at e
  | cons d' ds ih =>
    obtain ⟨z, zs, rfl, a, b⟩ := h
    cases i with
    | zero =>
      simp at e
      subst e
      exact ⟨z, rfl, a⟩
    | succ i => simpa using ih b (by simpa using e)
theorem dhL_get' {xs : List V} {ds : List PyData} (h : DhL B xs ds) {i : Nat} {z : V} (e : xs[i]? = some z) : ∃ d, ds[i]? = some d ∧ Dh B z d := by
  have hl := dhL_len h
  have lt := (List.getElem?_eq_some_iff.mp e).1
  obtain ⟨z', e', hd⟩ := dhL_get h (i := i) (List.getElem?_eq_getElem (by omega))
  rw [e] at e'
  cases e'
  exact ⟨_, List.getElem?_eq_getElem _, hd⟩
theorem dhL_take {xs : List V} {ds : List PyData} (h : DhL B xs ds) (n : Nat) : DhL B (xs.take n) (ds.take n) := by
  induction ds generalizing xs n with
  | nil =>
    have h : xs = [] := h
    subst h
    simp [DhL]
  | cons d ds ih =>
    obtain ⟨z, zs, rfl, a, b⟩ := h
    cases n with
    | zero => exact rfl
    | succ n => exact dhL_cons a (ih b n)
theorem dhL_drop {xs : List V} {ds : List PyData} (h : DhL B xs ds) (n : Nat) : DhL B (xs.drop n) (ds.drop n) := by
  induction ds generalizing xs n with
  | nil =>
    have h : xs = [] := h
    subst h
    simp [DhL]
  | cons d ds ih =>
    obtain ⟨z, zs, rfl, a, b⟩ := h
    cases n with
    | zero => exact dhL_cons a b
    | succ n => exact ih b n
/-! ### names, constants -/
def tdVar (i : Nat) : TD := fun ρ Q _ => match ρ[i]? with
  | some (.own xs) => Q (.d (.list xs)) (ρ.set i (.d (.list xs)))
  | some .no => False
  | none => False
  | some (.bor _) => False
  | some x => Q x ρ
def tdBor (i : Nat) : TD := fun ρ Q _ => match ρ[i]? with
  | some (.own xs) => Q (.bor xs) ρ
  | some .no => False
  | none => False
  | some (.bor _) => False
  | some x => Q x ρ
def tdOwn (i : Nat) : TD := fun ρ Q _ => match ρ[i]? with
  | some (.own xs) => Q (.own xs) (ρ.set i .no)
  | some .no => False
  | none => False
  | some (.bor _) => False
  | some x => Q x ρ
def tdC (x : PyData) : TD := fun ρ Q _ => Q (.d x) ρ
def tdAny (v : V) : TD := fun ρ Q _ => Q (.any v) ρ
theorem mono_var {i : Nat} : MonoE (tdVar i) := fun ρ Q Q' Z k h => by
  unfold tdVar at h ⊢
  split at h <;> first | exact k _ _ h | exact h.elim
theorem mono_bor {i : Nat} : MonoE (tdBor i) := fun ρ Q Q' Z k h => by
  unfold tdBor at h ⊢
  split at h <;> first | exact k _ _ h | exact h.elim
theorem mono_own {i : Nat} : MonoE (tdOwn i) := fun ρ Q Q' Z k h => by
  unfold tdOwn at h ⊢
  split at h <;> first | exact k _ _ h | exact h.elim
/-- slot i holds an own list: now it is data -/
theorem Sd.frzSlot {xs : List PyData} {i : Nat} (s : Sd c σ H ρ τ B) (e : ρ[i]? = some (.own xs)) : ∃ v B', σ[i]? = some (some v) ∧ Sd c σ H (ρ.set i (.d (.list xs))) τ B' ∧ RepV c B' H v (.d (.list xs)) := by
  obtain ⟨v, e1, r, z⟩ := s.slot e (by intro h; cases h)
  obtain ⟨B', sB, s2⟩ := (s.take z).frz
  have rv := s2.topR
  refine ⟨v, B', e1, ?_, rv⟩
  have s3 := s2.set i rfl
  have hσ : σ.set i (some v) = σ := by
    obtain ⟨lt, e⟩ := List.getElem?_eq_some_iff.mp e1
    rw [← e]
    exact List.set_getElem_self lt
  have s4 : Sd c (σ.set i (some v)) H ((ρ.set i .no).set i (.d (.list xs))) τ B' := s3
  rw [hσ, List.set_set] at s4
  exact s4
theorem var_plain {i : Nat} {Q : VK} {v : V} (s : Sd c σ H ρ τ B) (e : ρ[i]? = some x) (n1 : x ≠ .no) (n2 : x.isOwn = false) (h : ∀ v H' B', Sd c σ H' ρ ((some v, x) :: τ) B' → Q v H') : ∃ v, σ[i]? = some (some v) ∧ Q v H := by
  obtain ⟨v, e1, r, _⟩ := s.slot e n1
  exact ⟨v, e1, h v H B (s.push r n2)⟩
theorem pdv {i : Nat} {n : Str} {pos : Pos} (h : PE X (.Name n pos) (tVar i)) : PDE c E X (.Name n pos) (tdVar i) := by
  refine ⟨pe_wk h fun σ H Q q => ?_, mono_var⟩
  obtain ⟨ρ, τ, B, s, q⟩ := q
  unfold tdVar at q
  split at q
  · rename_i xs e
    obtain ⟨v, B', e1, s2, r⟩ := s.frzSlot e
    exact ⟨v, e1, q v H B' (s2.push r rfl)⟩
  · exact q.elim
  · exact q.elim
  · exact q.elim
  · rename_i x n1 n2 n3 e
    refine var_plain (v := .non) s e (fun z => n2 z) ?_ q
    cases x with
    | own xs => exact (n1 xs rfl).elim
    | _ => rfl
theorem pdb {i : Nat} {n : Str} {pos : Pos} (h : PE X (.Name n pos) (tVar i)) : PDE c E X (.Name n pos) (tdBor i) := by
  refine ⟨pe_wk h fun σ H Q q => ?_, mono_bor⟩
  obtain ⟨ρ, τ, B, s, q⟩ := q
  unfold tdBor at q
  split at q
  · rename_i xs e
    obtain ⟨v, e1, r, _⟩ := s.slot e (by intro h; cases h)
    obtain ⟨l, vs, e2, z, nb, n0, rr⟩ := r
    exact ⟨v, e1, q v H B (s.push (x := .bor xs) ⟨l, vs, e2, z, fun w => (s.wl l w).2.1 n0, rr⟩ rfl)⟩
  · exact q.elim
  · exact q.elim
  · exact q.elim
  · rename_i x n1 n2 n3 e
    refine var_plain (v := .non) s e (fun z => n2 z) ?_ q
    cases x with
    | own xs => exact (n1 xs rfl).elim
    | _ => rfl
theorem pdo {i : Nat} {n : Str} {pos : Pos} (h : PE X (.Name n pos) (tVar i)) : PDE c E X (.Name n pos) (tdOwn i) := by
  refine ⟨pe_wk h fun σ H Q q => ?_, mono_own⟩
  obtain ⟨ρ, τ, B, s, q⟩ := q
  unfold tdOwn at q
  split at q
  · rename_i xs e
    obtain ⟨v, e1, r, z⟩ := s.slot e (by intro h; cases h)
    exact ⟨v, e1, q v H B (s.take z)⟩
  · exact q.elim
  · exact q.elim
  · exact q.elim
  · rename_i x n1 n2 n3 e
    refine var_plain (v := .non) s e (fun z => n2 z) ?_ q
    cases x with
    | own xs => exact (n1 xs rfl).elim
    | _ => rfl
theorem pd_c {e : Expr} {v : V} {x : PyData} (h : PE X e (tC v)) (r : ∀ B, Dh B v x) : PDE c E X e (tdC x) :=
  ⟨pe_wk h fun σ H Q ⟨ρ, τ, B, s, q⟩ => q v H B (s.push (x := .d x) (r B) rfl), fun ρ Q Q' Z k h => k _ _ h⟩
theorem pd_any {e : Expr} {v : V} (h : PE X e (tC v)) : PDE c E X e (tdAny v) :=
  ⟨pe_wk h fun σ H Q ⟨ρ, τ, B, s, q⟩ => q v H B (s.push (x := .any v) rfl rfl), fun ρ Q Q' Z k h => k _ _ h⟩
theorem pd_int {i : Int} {j pos} : PDE c E X (.Constant (.int i) j pos) (tdC (.int i)) := pd_c pe_int fun _ => rfl
theorem pd_bl {b : Bool} {j pos} : PDE c E X (.Constant (.bool b) j pos) (tdC (.bool b)) := pd_c pe_bl fun _ => rfl
theorem pd_non {j pos} : PDE c E X (.Constant .none j pos) (tdC .none) := pd_c pe_non fun _ => rfl
theorem pd_str {z : Str} {j pos} : PDE c E X (.Constant (.str z) j pos) (tdC (.str z)) := pd_c pe_str fun _ => rfl
/-! ### operators -/
abbrev S2 := DV → DV → (DV → Prop) → Prop
def MonoS (s : S2) : Prop := ∀ x y Q Q', (∀ z, Q z → Q' z) → s x y Q → s x y Q'
/-- what an operator does to values, over data -/
def OpS (X : Cx) (R : R2 → Prop) (s : S2) : Prop := MonoS s ∧ ∃ r : R2, R r ∧ ∀ (c : DC) σ ρ τ B H v w x y (Q' : DV → Prop) (Qv : VK), Sd c σ H ρ ((some w, y) :: (some v, x) :: τ) B → s x y Q' → (∀ z u H' B', Q' z → Sd c σ H' ρ ((some u, z) :: τ) B' → Qv u H') → r v w H Qv
def tdOp (s : S2) (ta tb : TD) : TD := fun ρ Q Z => ta ρ (fun x ρ1 => tb ρ1 (fun y ρ2 => s x y fun z => Q z ρ2) Z) Z
theorem mono_op {s : S2} {ta tb : TD} (h : MonoS s) (a : MonoE ta) (b : MonoE tb) : MonoE (tdOp s ta tb) := fun ρ Q Q' Z k q => a _ _ _ _ (fun x ρ1 q1 => b _ _ _ _ (fun y ρ2 q2 => h _ _ _ _ (fun z => k z ρ2) q2) q1) q
theorem op_run {s : S2} {r : R2} {ta tb : TD} {Q : VK} (ma : MonoE ta) (mb : MonoE tb) (hr : ∀ (c : DC) σ ρ τ B H v w x y (Q' : DV → Prop) (Qv : VK), Sd c σ H ρ ((some w, y) :: (some v, x) :: τ) B → s x y Q' → (∀ z u H' B', Q' z → Sd c σ H' ρ ((some u, z) :: τ) B' → Qv u H') → r v w H Qv)
    (q : lift c E (tdOp s ta tb) σ H Q) : tOp r (lift c E ta) (lift c E tb) σ H Q := by
  obtain ⟨ρ, τ, B, sd, q⟩ := q
  refine ⟨ρ, τ, B, sd, ma _ _ _ _ (fun x ρ1 q1 v H1 B1 s1 => ?_) q⟩
  refine ⟨ρ1, _, B1, s1, mb _ _ _ _ (fun y ρ2 q2 w H2 B2 s2 => ?_) q1⟩
  exact hr c σ ρ2 τ B2 H2 v w x y _ Q s2 q2 fun z u H' B' hz s3 => hz u H' B' s3
variable {a b : Expr} {ta tb tc : TD} {pos : Pos}
theorem pd_op {op : Operator} {s : S2} (hs : OpS X (OpR X (binaryOp op)) s) (ha : PDE c E X a ta) (hb : PDE c E X b tb) : PDE c E X (.BinOp a op b pos) (tdOp s ta tb) := by
  obtain ⟨m, r, hr, k⟩ := hs
  exact ⟨pe_wk (pe_op hr ha.pe hb.pe) fun σ H Q q => op_run ha.mono hb.mono k q, mono_op m ha.mono hb.mono⟩
theorem pd_ix {s : S2} (hs : OpS X (IxR X) s) (ha : PDE c E X a ta) (hb : PDE c E X b tb) (hp : PlainIx b) : PDE c E X (.Subscript a b pos) (tdOp s ta tb) := by
  obtain ⟨m, r, hr, k⟩ := hs
  exact ⟨pe_wk (pe_ix hr ha.pe hb.pe hp) fun σ H Q q => op_run ha.mono hb.mono k q, mono_op m ha.mono hb.mono⟩
theorem pd_cmp {op : CmpOp} {s : S2} (hs : OpS X (OpR X (compareOp op)) s) (ha : PDE c E X a ta) (hb : PDE c E X b tb) (hm : behindInMarks op b = false) : PDE c E X (.Compare a [op] [b] pos) (tdOp s ta tb) := by
  obtain ⟨m, r, hr, k⟩ := hs
  exact ⟨pe_wk (pe_cmpR hr ha.pe hb.pe hm) fun σ H Q q => op_run ha.mono hb.mono k q, mono_op m ha.mono hb.mono⟩
/-- a bool as a test -/
def isBl (Q : Bool → Prop) : DV → Prop
  | .d (.bool b) => Q b
  | _ => False
theorem isBl_mono {Q Q' : Bool → Prop} (k : ∀ b, Q b → Q' b) : ∀ {x : DV}, isBl Q x → isBl Q' x
  | .d (.bool b), h => k b h
def tdT (t : TD) : TDT := fun ρ Q Z => t ρ (fun x ρ' => isBl (fun b => Q b ρ') x) Z
theorem mono_t {t : TD} (h : MonoE t) : MonoT (tdT t) := fun ρ Q Q' Z k q => h _ _ _ _ (fun x r => isBl_mono fun b => k b r) q
theorem isBl_at {Q : Bool → Prop} {x : DV} (h : isBl Q x) : ∃ b, x = .d (.bool b) ∧ Q b := by
  cases x with
  | d d =>
    cases d with
    | bool b => exact ⟨b, rfl, h⟩
    | _ => exact h.elim
  | _ => exact h.elim
theorem t_run {t : TD} {Q : Bool → Hp → Prop} (m : MonoE t) (q : liftT c E (tdT t) σ H Q) : lift c E t σ H fun v H' => ∃ k, v = .bl k ∧ Q k H' := by
  obtain ⟨ρ, τ, B, s, q⟩ := q
  refine ⟨ρ, τ, B, s, m _ _ _ _ (fun x ρ' hx v H' B' s' => ?_) q⟩
  obtain ⟨b, rfl, hb⟩ := isBl_at hx
  have e : v = .bl b := s'.topR
  exact ⟨b, e, hb H' B' s'.pop⟩
theorem pdt_cmp {op : CmpOp} {s : S2} (hs : OpS X (OpR X (compareOp op)) s) (ha : PDE c E X a ta) (hb : PDE c E X b tb) (hm : behindInMarks op b = false) : PDT c E X (.Compare a [op] [b] pos) (tdT (tdOp s ta tb)) := by
  obtain ⟨m, r, hr, k⟩ := hs
  exact ⟨pt_wk (pt_cmpR hr ha.pe hb.pe hm) fun σ H Q q => op_run ha.mono hb.mono k (t_run (mono_op m ha.mono hb.mono) q), mono_t (mono_op m ha.mono hb.mono)⟩
theorem pdt_val {e : Expr} {t : TD} (h : PDE c E X e t) (he : ∀ whole, isTrue e X.env whole = (do let v ← whole; standAt e.pos; holding [v] (truthy v)) := by intro _; rfl) : PDT c E X e (tdT t) :=
  ⟨pt_wk (pt_val h.pe he) fun σ H Q q => t_run h.mono q, mono_t h.mono⟩
def tdChain (s s' : S2) (ta tb tc : TD) : TD := fun ρ Q Z => ta ρ (fun x ρ1 => tb ρ1 (fun y ρ2 => s x y (isBl fun k => if k = true then tc ρ2 (fun z ρ3 => s' y z fun u => Q u ρ3) Z else Q (.d (.bool false)) ρ2)) Z) Z
/-! ### not, and, or, if -/
variable {tA tB' : TDT} {rest : List Expr}
def tdAnd (t u : TDT) : TDT := fun ρ Q Z => t ρ (fun k ρ1 => if k = true then u ρ1 Q Z else Q false ρ1) Z
def tdOr (t u : TDT) : TDT := fun ρ Q Z => t ρ (fun k ρ1 => if k = true then Q true ρ1 else u ρ1 Q Z) Z
def tdNot (t : TDT) : TDT := fun ρ Q Z => t ρ (fun k ρ1 => Q (!k) ρ1) Z
theorem mono_and {t u : TDT} (h : MonoT t) (k : MonoT u) : MonoT (tdAnd t u) := fun ρ Q Q' Z m q => h _ _ _ _ (fun b r hb => by
  cases b with
  | true => exact k _ _ _ _ m hb
  | false => exact m _ _ hb) q
theorem mono_or {t u : TDT} (h : MonoT t) (k : MonoT u) : MonoT (tdOr t u) := fun ρ Q Q' Z m q => h _ _ _ _ (fun b r hb => by
  cases b with
  | true => exact m _ _ hb
  | false => exact k _ _ _ _ m hb) q
theorem mono_not {t : TDT} (h : MonoT t) : MonoT (tdNot t) := fun ρ Q Q' Z m q => h _ _ _ _ (fun b r hb => m _ _ hb) q
theorem pdw_and1 (h : PDT c E X a tA) : PDW c E X (.BoolOp .And [a] pos) tA := ⟨pw_and1 h.pt, h.mono⟩
theorem pdw_or1 (h : PDT c E X a tA) : PDW c E X (.BoolOp .Or [a] pos) tA := ⟨pw_or1 h.pt, h.mono⟩
theorem pdw_and (ha : PDT c E X a tA) (hb : PDW c E X (.BoolOp .And (b :: rest) pos) tB') : PDW c E X (.BoolOp .And (a :: b :: rest) pos) (tdAnd tA tB') :=
  ⟨pw_wk (pw_and ha.pt hb.pw) fun σ H Q ⟨ρ, τ, B, s, q⟩ => ⟨ρ, τ, B, s, ha.mono _ _ _ _ (fun k ρ1 hk H' B' s' => by
    cases k with
    | true => exact ⟨ρ1, τ, B', s', hk⟩
    | false => exact hk H' B' s') q⟩, mono_and ha.mono hb.mono⟩
theorem pdw_or (ha : PDT c E X a tA) (hb : PDW c E X (.BoolOp .Or (b :: rest) pos) tB') : PDW c E X (.BoolOp .Or (a :: b :: rest) pos) (tdOr tA tB') :=
  ⟨pw_wk (pw_or ha.pt hb.pw) fun σ H Q ⟨ρ, τ, B, s, q⟩ => ⟨ρ, τ, B, s, ha.mono _ _ _ _ (fun k ρ1 hk H' B' s' => by
    cases k with
    | true => exact hk H' B' s'
    | false => exact ⟨ρ1, τ, B', s', hk⟩) q⟩, mono_or ha.mono hb.mono⟩
theorem PDW.t {e : Expr} (h : PDW c E X e tA) : PDT c E X e tA := ⟨h.pw.pt, h.mono⟩
theorem pdt_not (h : PDT c E X a tA) : PDT c E X (.UnaryOp .Not a pos) (tdNot tA) :=
  ⟨pt_wk (pt_not h.pt) fun σ H Q q => q, mono_not h.mono⟩
def tdIf (t : TDT) (ta tb : TD) : TD := fun ρ Q Z => t ρ (fun k ρ1 => if k = true then ta ρ1 Q Z else tb ρ1 Q Z) Z
theorem mono_if {t : TDT} (h : MonoT t) (a : MonoE ta) (b : MonoE tb) : MonoE (tdIf t ta tb) := fun ρ Q Q' Z m q => h _ _ _ _ (fun k r hb => by
  cases k with
  | true => exact a _ _ _ _ m hb
  | false => exact b _ _ _ _ m hb) q
theorem pd_if {e : Expr} (hc : PDT c E X e tA) (ha : PDE c E X a ta) (hb : PDE c E X b tb) : PDE c E X (.IfExp e a b pos) (tdIf tA ta tb) :=
  ⟨pe_wk (pe_ifExp hc.pt ha.pe hb.pe) fun σ H Q ⟨ρ, τ, B, s, q⟩ => ⟨ρ, τ, B, s, hc.mono _ _ _ _ (fun k ρ1 hk H' B' s' => by
    cases k with
    | true => exact ⟨ρ1, τ, B', s', hk⟩
    | false => exact ⟨ρ1, τ, B', s', hk⟩) q⟩, mono_if hc.mono ha.mono hb.mono⟩
/-- and, or, not as values (bools) -/
def tdAndV (ta tb : TD) : TD := fun ρ Q Z => ta ρ (fun x ρ1 => isBl (fun k => if k = true then tb ρ1 Q Z else Q (.d (.bool false)) ρ1) x) Z
def tdOrV (ta tb : TD) : TD := fun ρ Q Z => ta ρ (fun x ρ1 => isBl (fun k => if k = true then Q (.d (.bool true)) ρ1 else tb ρ1 Q Z) x) Z
def tdNotV (ta : TD) : TD := fun ρ Q Z => ta ρ (fun x ρ1 => isBl (fun k => Q (.d (.bool (!k))) ρ1) x) Z
theorem pd_one {op} (h : PDE c E X a ta) : PDE c E X (.BoolOp op [a] pos) ta := ⟨pe_one h.pe, h.mono⟩
theorem pd_and (ha : PDE c E X a ta) (hb : PDE c E X (.BoolOp .And (b :: rest) pos) tb) : PDE c E X (.BoolOp .And (a :: b :: rest) pos) (tdAndV ta tb) := by
  refine ⟨pe_wk (pe_and ha.pe hb.pe) fun σ H Q ⟨ρ, τ, B, s, q⟩ => ⟨ρ, τ, B, s, ha.mono _ _ _ _ (fun x ρ1 hx v H' B' s' => ?_) q⟩, fun ρ Q Q' Z m q => ha.mono _ _ _ _ (fun x r hx => isBl_mono (fun k hk => ?_) hx) q⟩
  · obtain ⟨k, rfl, hk⟩ := isBl_at hx
    have e : v = .bl k := s'.topR
    refine ⟨k, e, ?_⟩
    cases k with
    | true => exact ⟨ρ1, τ, B', s'.pop, hk⟩
    | false => exact hk _ H' B' (s'.pop.push (x := .d (.bool false)) rfl rfl)
  · cases k with
    | true => exact hb.mono _ _ _ _ m hk
    | false => exact m _ _ hk
theorem pd_or (ha : PDE c E X a ta) (hb : PDE c E X (.BoolOp .Or (b :: rest) pos) tb) : PDE c E X (.BoolOp .Or (a :: b :: rest) pos) (tdOrV ta tb) := by
  refine ⟨pe_wk (pe_or ha.pe hb.pe) fun σ H Q ⟨ρ, τ, B, s, q⟩ => ⟨ρ, τ, B, s, ha.mono _ _ _ _ (fun x ρ1 hx v H' B' s' => ?_) q⟩, fun ρ Q Q' Z m q => ha.mono _ _ _ _ (fun x r hx => isBl_mono (fun k hk => ?_) hx) q⟩
  · obtain ⟨k, rfl, hk⟩ := isBl_at hx
    have e : v = .bl k := s'.topR
    refine ⟨k, e, ?_⟩
    cases k with
    | false => exact ⟨ρ1, τ, B', s'.pop, hk⟩
    | true => exact hk _ H' B' (s'.pop.push (x := .d (.bool true)) rfl rfl)
  · cases k with
    | false => exact hb.mono _ _ _ _ m hk
    | true => exact m _ _ hk
theorem pd_not (ha : PDE c E X a ta) : PDE c E X (.UnaryOp .Not a pos) (tdNotV ta) := by
  refine ⟨pe_wk (pe_not ha.pe) fun σ H Q ⟨ρ, τ, B, s, q⟩ => ⟨ρ, τ, B, s, ha.mono _ _ _ _ (fun x ρ1 hx v H' B' s' => ?_) q⟩, fun ρ Q Q' Z m q => ha.mono _ _ _ _ (fun x r hx => isBl_mono (fun k hk => m _ _ hk) hx) q⟩
  obtain ⟨k, rfl, hk⟩ := isBl_at hx
  have e : v = .bl k := s'.topR
  exact ⟨k, e, hk _ H' B' (s'.pop.push (x := .d (.bool (!k))) rfl rfl)⟩
/-! ### arguments, tuples, lists -/
variable {es : List Expr} {tr : TDA} {e : Expr}
def tdNil : TDA := fun ρ Q _ => Q [] ρ
def tdCons (t : TD) (u : TDA) : TDA := fun ρ Q Z => t ρ (fun x ρ1 => u ρ1 (fun xs ρ2 => Q (x :: xs) ρ2) Z) Z
theorem pda_nil : PDA c E X [] tdNil := ⟨pa_wk pa_nil fun σ H Q ⟨ρ, τ, B, s, q⟩ => q [] H B rfl s, fun ρ Q Q' Z k q => k _ _ q, fun ρ Q Z q => ⟨rfl, q⟩⟩
theorem pda_cons (ha : PDE c E X e ta) (hr : PDA c E X es tr) (hs : starEach (e :: es) X.env = (false, eval e X.env) :: starEach es X.env := by rfl) : PDA c E X (e :: es) (tdCons ta tr) :=
  ⟨pa_wk (pa_cons ha.pe hr.pa hs) fun σ H Q ⟨ρ, τ, B, s, q⟩ => ⟨ρ, τ, B, s, ha.mono _ _ _ _ (fun x ρ1 q1 v H1 B1 s1 => ⟨ρ1, _, B1, s1, hr.mono _ _ _ _ (fun xs ρ2 q2 vs H2 B2 hl s2 => q2 (v :: vs) H2 B2 (by rw [List.length_cons, List.length_cons, hl]) s2) q1⟩) q⟩,
    fun ρ Q Q' Z k q => ha.mono _ _ _ _ (fun x r q1 => hr.mono _ _ _ _ (fun xs r2 q2 => k _ _ q2) q1) q,
    fun ρ Q Z q => ha.mono _ _ _ _ (fun x r q1 => hr.mono _ _ _ _ (fun xs r2 q2 => ⟨by rw [List.length_cons, List.length_cons, q2.1], q2.2⟩) (hr.len _ _ _ q1)) q⟩
/-- all of them as data; a list of one's own becomes data -/
def asDat : List DV → Option (List PyData)
  | [] => some []
  | .d x :: r => (asDat r).map (x :: ·)
  | .own xs :: r => (asDat r).map (.list xs :: ·)
  | _ :: _ => none
theorem Sd.swap {p q : Option V × DV} (s : Sd c σ H ρ (p :: q :: τ) B) : Sd c σ H ρ (q :: p :: τ) B :=
  { s with
    rep := fun z hz => s.rep z (by
      rcases List.mem_append.mp hz with hz | hz
      · exact List.mem_append_left _ hz
      · refine List.mem_append_right _ ?_
        rcases List.mem_cons.mp hz with e | hz
        · rw [e]
          exact List.mem_cons_of_mem _ List.mem_cons_self
        · rcases List.mem_cons.mp hz with e | hz
          · rw [e]
            exact List.mem_cons_self
          · exact List.mem_cons_of_mem _ (List.mem_cons_of_mem _ hz))
    ap := by
      obtain ⟨h1, h2, h3⟩ := List.pairwise_append.mp s.ap
      obtain ⟨h4, h5⟩ := List.pairwise_cons.mp h2
      obtain ⟨h6, h7⟩ := List.pairwise_cons.mp h5
      refine List.pairwise_append.mpr ⟨h1, List.pairwise_cons.mpr ⟨fun z hz => ?_, List.pairwise_cons.mpr ⟨fun z hz => h4 z (List.mem_cons_of_mem _ hz), h7⟩⟩, fun a ha b hb => h3 a ha b ?_⟩
      · rcases List.mem_cons.mp hz with e | hz
        · rw [e]
          exact (h4 q List.mem_cons_self).symm
        · exact h6 z hz
      · rcases List.mem_cons.mp hb with e | hb
        · rw [e]
          exact List.mem_cons_of_mem _ List.mem_cons_self
        · rcases List.mem_cons.mp hb with e | hb
          · rw [e]
            exact List.mem_cons_self
          · exact List.mem_cons_of_mem _ (List.mem_cons_of_mem _ hb) }
/-- the arguments as data: none of them is an own list any more -/
theorem Sd.args : ∀ {vs : List V} {xs : List DV} {ds : List PyData} {τ : List (Option V × DV)} {B : Hp}, Sd c σ H ρ (pushT vs xs τ) B → vs.length = xs.length → asDat xs = some ds → ∃ B', Same B B' ∧ Sd c σ H ρ τ B' ∧ DhL B' vs ds
  | [], [], ds, τ, B, s, _, e => by
    cases e
    exact ⟨B, Same.refl _, s, rfl⟩
  | v :: vs, x :: xs, ds, τ, B, s, hl, e => by
    have hl' : vs.length = xs.length := by simpa using hl
    cases x with
    | d x =>
      simp only [asDat, Option.map_eq_some_iff] at e
      obtain ⟨ds', e1, rfl⟩ := e
      obtain ⟨B', sB, s1, r⟩ := Sd.args (τ := (some v, .d x) :: τ) s hl' e1
      exact ⟨B', sB, s1.pop, dhL_cons s1.topR r⟩
    | own ys =>
      simp only [asDat, Option.map_eq_some_iff] at e
      obtain ⟨ds', e1, rfl⟩ := e
      obtain ⟨B1, sB, s1, r⟩ := Sd.args (τ := (some v, .own ys) :: τ) s hl' e1
      obtain ⟨B', sB', s2⟩ := s1.frz
      exact ⟨B', sB.trans sB', s2.pop, dhL_cons s2.topR (Dh.keepL sB' _ _ r)⟩
    | _ => simp [asDat] at e
def tdTup (t : TDA) : TD := fun ρ Q Z => t ρ (fun xs ρ1 => match asDat xs with
  | some ds => ds.length ≤ 100000 ∧ Q (.d (.tuple ds)) ρ1
  | none => False) Z
def tdLst (t : TDA) : TD := fun ρ Q Z => t ρ (fun xs ρ1 => match asDat xs with
  | some ds => ds.length ≤ 100000 ∧ Q (.own ds) ρ1
  | none => False) Z
theorem pd_tup {x1} (h : PDA c E X es tr) : PDE c E X (.Tuple es x1 pos) (tdTup tr) := by
  refine ⟨pe_wk (pe_tup h.pa) fun σ H Q ⟨ρ, τ, B, s, q⟩ => ⟨ρ, τ, B, s, h.mono _ _ _ _ (fun xs ρ1 q1 vs H1 B1 hl s1 => ?_) q⟩, fun ρ Q Q' Z k q => h.mono _ _ _ _ (fun xs r q1 => ?_) q⟩
  · split at q1
    · rename_i ds e
      obtain ⟨B2, sB, s2, r⟩ := s1.args hl e
      have hz := dhL_len r
      refine ⟨by rw [sizeLine_eq]; omega, fun p np => ?_⟩
      have s3 := s2.newB np (.tup vs)
      have nB : B2 p = none := by
        cases q : B2 p with
        | none => rfl
        | some o =>
          have := s2.sub _ _ q
          rw [np] at this
          cases this
      exact q1.2 _ _ _ (s3.push (x := .d (.tuple ds)) ⟨p, vs, rfl, upd_same, Dh.keepL (same_upd nB) _ _ r⟩ rfl)
    · exact q1.elim
  · split at q1
    · exact ⟨q1.1, k _ _ q1.2⟩
    · exact q1.elim
theorem pd_lst (h : PDA c E X es tr) : PDE c E X (.List es pos) (tdLst tr) := by
  refine ⟨pe_wk (pe_lst h.pa) fun σ H Q ⟨ρ, τ, B, s, q⟩ => ⟨ρ, τ, B, s, h.mono _ _ _ _ (fun xs ρ1 q1 vs H1 B1 hl s1 => ?_) q⟩, fun ρ Q Q' Z k q => h.mono _ _ _ _ (fun xs r q1 => ?_) q⟩
  · split at q1
    · rename_i ds e
      obtain ⟨B2, sB, s2, r⟩ := s1.args hl e
      have hz := dhL_len r
      refine ⟨by rw [sizeLine_eq]; omega, fun p np => ?_⟩
      exact q1.2 _ _ _ (s2.newOwn np r)
    · exact q1.elim
  · split at q1
    · exact ⟨q1.1, k _ _ q1.2⟩
    · exact q1.elim
end
end DL
set_option Elab.async false
set_option linter.all false
set_option maxRecDepth 100000
set_option maxHeartbeats 4000000
/-! steps from one table to another -/
namespace SL
open PySem PySem.Spec PyProof.Rows L2 XV
def fullB (ns : List Int) (sl : Int) : Bool := match ns with
  | [] => true
  | n :: _ => decide (n = sl)
/-- is the step possible: put, or free, at a page with c objects -/
def posB (q : Int × Int) (ns : List Int) (tot : Nat) (held L : Int) (put : Bool) (c : Int) : Bool :=
  if put = false then decide (c ∈ ns) else if L < held + q.1 then false else if c = 0 then fullB ns q.2 && decide (tot < 60) else decide (c ∈ ns) && decide (c < q.2)
def aft (put : Bool) (c : Int) : Int := if put = true then c + 1 else c - 1
/-- the counts after it, not yet in order -/
def chg (ns : List Int) (put : Bool) (c : Int) : List Int := (if 0 < c then ns.erase c else ns) ++ (if 0 < aft put c then [aft put c] else [])
theorem inV_int (c : Int) : ∀ ns : List Int, inV (.int c) (ns.map V.int) = decide (c ∈ ns)
  | [] => rfl
  | n :: ns => by
    have ih := inV_int c ns
    unfold inV at ih ⊢
    rw [List.map_cons, List.any_cons, ih]
    have e : eqV (V.int n) (V.int c) = decide (c = n) := by
      show (n == c) = decide (c = n)
      by_cases h : c = n
      · subst h; simp
      · rw [decide_eq_false h, beq_eq_false_iff_ne.mpr (fun z => h z.symm)]
    rw [e]
    by_cases h : c = n <;> simp [h]
/-- the place of the first one -/
theorem first_at {c : Int} : ∀ {ns : List Int}, c ∈ ns → ∃ j : Nat, ns[j]? = some c ∧ (∀ m : Nat, m < j → ns[m]? ≠ some c) ∧ ns.eraseIdx j = ns.erase c
  | [], h => by cases h
  | n :: ns, h => by
    by_cases e : n = c
    · subst e
      exact ⟨0, rfl, fun m z => absurd z (Nat.not_lt_zero m), by simp⟩
    · have h' : c ∈ ns := by
        rcases List.mem_cons.mp h with z | z
        · exact (e z.symm).elim
        · exact z
      obtain ⟨j, a1, a2, a3⟩ := first_at h'
      refine ⟨j + 1, by simpa using a1, fun m hm => ?_, ?_⟩
      · cases m with
        | zero => simpa using e
        | succ m => simpa using a2 m (by omega)
      · rw [List.eraseIdx_cons_succ, a3, List.erase_cons, if_neg (by simpa using e)]
/-- the same ints in ascending order -/
def SrtI (ms ns : List Int) : Prop := ms.Perm ns ∧ ms.Pairwise (· ≤ ·)
theorem eqB {H H1 : Hp} {l : Addr} {o : HO} (e : upd H l o = H1) : (∀ b u, H b = some u → b ≠ l → H1 b = some u) ∧ H1 l = some o := by
  subst e
  exact ⟨fun b u z n => by rw [upd_ne n]; exact z, upd_same⟩
theorem ix_or {K : PySem.W.Frag} {H : Hp} {a : Addr} {xs : List V} {j : Nat} {y : V} {Q : VK} (ea : H a = some (.lst xs) ∨ H a = some (.tup xs)) (hy : xs[j]? = some y) (h : Q y H) : rIxL K (.ref a) (.int (j : Int)) H Q ∨ rIxT K (.ref a) (.int (j : Int)) H Q :=
  ea.elim (fun z => .inl ⟨a, xs, _, _, rfl, rfl, SqL.of z, atI_nat hy, h⟩) fun z => .inr ⟨a, xs, _, _, rfl, rfl, SqT.of z, atI_nat hy, h⟩
theorem allFlat : ∀ ns : List Int, (ns.map V.int).all flatV = true
  | [] => rfl
  | n :: ns => by rw [List.map_cons, List.all_cons, allFlat ns]; rfl
def StpAt (H : Hp) (x : V) (k : K3) : Prop := ∃ t, x = .ref t ∧ H t = some (.tup [.str (wd k.1), .int k.2.1, .int k.2.2])
theorem StpAt.keep {H H' : Hp} {x : V} {k : K3} (h : StpAt H x k) (s : Same H H') : StpAt H' x k := let ⟨t, e, z⟩ := h; ⟨t, e, s _ _ z⟩
theorem wd_free (b : Bool) : decide (V.str (wd b) = V.str "free") = !b := by cases b <;> decide +kernel
theorem wd_put (b : Bool) : decide (V.str (wd b) = V.str "put") = b := by cases b <;> decide +kernel
/-- what is_step takes for a step -/
def wdB : V → Bool
  | .str z => decide (z = "free") || decide (z = "put")
  | _ => false
def slB (ps : List (Int × Int)) (n c : V) : Bool := match n with
  | .int i => (match ps[i.toNat]? with
    | some q => inB c 0 q.2
    | none => false)
  | _ => false
def stpB (H : Hp) (ps : List (Int × Int)) : V → Bool
  | .ref t => (match H t with
    | some (.tup [w, n, c]) => wdB w && (inB n 0 ((ps.length : Int) - 1) && slB ps n c)
    | _ => false)
  | _ => false
theorem stpB_eq {H : Hp} {ps : List (Int × Int)} {t : Addr} {w n c : V} (e : H t = some (.tup [w, n, c])) : stpB H ps (.ref t) = (wdB w && (inB n 0 ((ps.length : Int) - 1) && slB ps n c)) := by
  show (match H t with
    | some (.tup [w, n, c]) => wdB w && (inB n 0 ((ps.length : Int) - 1) && slB ps n c)
    | _ => false) = _
  rw [e]
theorem inV_wd (z : Str) : inV (.str z) [.str "free", .str "put"] = wdB (.str z) := by
  show ((((("free" : Str)) == z) || ((("put" : Str) == z) || false))) = (decide (z = "free") || decide (z = "put"))
  rw [Bool.or_false]
  have e : ∀ a : Str, (a == z) = decide (z = a) := fun a => by
    by_cases h : z = a
    · subst h; simp
    · rw [decide_eq_false h, beq_eq_false_iff_ne.mpr (fun y => h y.symm)]
  rw [e, e]
theorem slB_at {ps : List (Int × Int)} {j : Nat} {q : Int × Int} {c : V} (hq : ps[j]? = some q) : slB ps (.int (j : Int)) c = inB c 0 q.2 := by
  show (match ps[(j : Int).toNat]? with | some q => inB c 0 q.2 | none => false) = _
  rw [Int.toNat_natCast, hq]
theorem stpB_at {H : Hp} {ps : List (Int × Int)} {x : V} (h : stpB H ps x = true) : ∃ (b : Bool) (j : Nat) (c : Int) (q : Int × Int), StpAt H x (b, (j : Int), c) ∧ ps[j]? = some q ∧ 0 ≤ c ∧ c ≤ q.2 := by
  cases x with
  | ref t =>
    have h' : (match H t with
      | some (.tup [w, n, c]) => wdB w && (inB n 0 ((ps.length : Int) - 1) && slB ps n c)
      | _ => false) = true := h
    split at h'
    · rename_i w n c e
      rw [Bool.and_eq_true, Bool.and_eq_true] at h'
      obtain ⟨h1, h2, h3⟩ := h'
      obtain ⟨i, rfl⟩ := inB_int h2
      have h3' : (match ps[i.toNat]? with | some q => inB c 0 q.2 | none => false) = true := h3
      cases eq : ps[i.toNat]? with
      | none => rw [eq] at h3'; cases h3'
      | some q =>
        rw [eq] at h3'
        have h3' : inB c 0 q.2 = true := h3'
        obtain ⟨m, rfl⟩ := inB_int h3'
        have z2 : (decide (0 ≤ i) && decide (i ≤ (ps.length : Int) - 1)) = true := h2
        have z3 : (decide (0 ≤ m) && decide (m ≤ q.2)) = true := h3'
        rw [Bool.and_eq_true, decide_eq_true_eq, decide_eq_true_eq] at z2 z3
        have ei : i = (i.toNat : Int) := by omega
        cases w with
        | str z =>
          have h1' : (decide (z = "free") || decide (z = "put")) = true := h1
          rw [Bool.or_eq_true, decide_eq_true_eq, decide_eq_true_eq] at h1'
          rcases h1' with rfl | rfl
          · exact ⟨false, i.toNat, m, q, ⟨t, rfl, by rw [e]; show some (HO.tup [V.str _, V.int i, V.int m]) = some (HO.tup [V.str _, V.int (i.toNat : Int), V.int m]); rw [← ei]; rfl⟩, eq, z3.1, z3.2⟩
          · exact ⟨true, i.toNat, m, q, ⟨t, rfl, by rw [e]; show some (HO.tup [V.str _, V.int i, V.int m]) = some (HO.tup [V.str _, V.int (i.toNat : Int), V.int m]); rw [← ei]; rfl⟩, eq, z3.1, z3.2⟩
        | _ => cases h1
    · cases h'
  | _ => cases h
end SL
set_option Elab.async false
set_option linter.all false
set_option maxRecDepth 100000
set_option maxHeartbeats 4000000
/-! the list of the possible steps as it grows -/
namespace SL
open PySem PySem.Spec PyProof.Rows L2 XV
section
variable {X : Cx} {K : PySem.W.Frag} {w : World}
theorem pi_listK {tg l : Expr} {tl : TE} (k : X.K = K) (h : PE X l tl) : PI X tg l (iList K tl) := by
  subst k
  exact pi_list h
theorem pi_enumTK {e : Expr} {ta : TA} {p pos tpos : Pos} {elts : List Expr} {kk : Nat} (k : X.K = K) (hg : Gl X "enumerate") (hm : X.mg "enumerate" = none) (ha : PA X [e] ta) (hs : starEach [e] X.env = [(false, eval e X.env)] := by rfl) :
    PI X (.Tuple elts kk tpos) (.Call (.Name "enumerate" p) [e] [] pos) (iEnumT K ta) := by
  subst k
  exact pi_enumT hg hm ha hs
theorem op_catTK (k : X.K = K) : OpR X (binaryOp .Add) (rCatT K) := by
  subst k
  exact op_catT
theorem cr_setIK (k : X.K = K) (e : X.w = w) (hc : X.calm = true) : CallR X (.type "set") (rSetI K w) := by
  subst k e
  exact cr_setI hc
theorem cr_sortedSetK (e : X.w = w) (hc : X.calm = true) : CallR X (.builtin "sorted") (rSortedSet w) := by
  subst e
  exact cr_sortedSet hc
end
theorem walk_it {J : It} {n : Nat} {G : Hp → Prop} {Y : Nat → Hp → V → Hp → Prop} (w : Walk J n G Y) {g : TG} {tt : TT} {tb : L2.St → Hp → (Hp → Prop) → Prop} {vs : List Nat} {σ : L2.St} {H : Hp} {Nx : Hp → Prop} (Pv : Nat → Hp → Prop) (h0 : Pv 0 H) (hG : ∀ i H, i ≤ n → Pv i H → G H)
    (hs : ∀ i x H H', i < n → Pv i H → Y i H x H' → g x (wipe σ vs) H' fun σ2 H2 => wipe σ2 vs = wipe σ vs ∧ tt σ2 H2 fun b H3 => if b = true then tb σ2 H3 (Pv (i + 1)) else Pv (i + 1) H3) (hd : ∀ H, Pv n H → Nx H) : tWalk g tt tb vs σ J H Nx := by
  refine ⟨fun i m H => m = n - i ∧ i ≤ n ∧ Pv i H, ⟨n, by simp, Nat.zero_le _, h0⟩, ?_⟩
  rintro i m H ⟨rfl, hi, p⟩
  have q := hG i H hi p
  by_cases hlt : i < n
  · refine .inr ⟨w.goes i H hlt q, Pv (i + 1), fun H' p' => ⟨n - (i + 1), by omega, rfl, hlt, p'⟩, fun x H' y => hs i x H H' hlt p (w.yields i H x H' hlt q y)⟩
  · have e : i = n := by omega
    subst e
    exact .inl ⟨w.stops H q, hd H p⟩
def PosK (ps : List (Int × Int)) (L : Int) (rows : List (List Int)) (k : K3) : Prop := ∃ (j : Nat) (q : Int × Int) (ns : List Int), k.2.1 = (j : Int) ∧ ps[j]? = some q ∧ rows[j]? = some ns ∧ (k.2.2 = 0 ∨ k.2.2 ∈ ns) ∧ posB q ns (pgs rows) (lv ps rows) L k.1 k.2.2 = true
structure Acc (ps : List (Int × Int)) (L : Int) (rows : List (List Int)) (D : Addr) (S : K3 → Prop) (n : Nat) (H : Hp) (ts : List V) (ks : List K3) : Prop where
  at_ : H D = some (.lst ts)
  rd : Paired (StpAt H) ts ks
  asc : ks.Pairwise fun a b => bef a b = true
  mem : ∀ k, k ∈ ks ↔ PosK ps L rows k ∧ S k
  len : ks.length ≤ n
theorem stp_up {H H' : Hp} (k : ∀ b xs, H b = some (.tup xs) → H' b = some (.tup xs)) : ∀ {xs : List V} {ks : List K3}, Paired (StpAt H) xs ks → Paired (StpAt H') xs ks
  | _, _, .nil => .nil
  | _, _, .cons ⟨t, e, z⟩ r => .cons ⟨t, e, k _ _ z⟩ (stp_up k r)
theorem psnoc {α β : Type} {F : α → β → Prop} {a : α} {b : β} (h : F a b) : ∀ {xs : List α} {ys : List β}, Paired F xs ys → Paired F (xs ++ [a]) (ys ++ [b])
  | _, _, .nil => .cons h .nil
  | _, _, .cons z r => .cons z (psnoc h r)
section
variable {ps : List (Int × Int)} {L : Int} {rows : List (List Int)} {D : Addr} {S S' : K3 → Prop} {n n' : Nat} {H H' : Hp} {ts : List V} {ks : List K3}
theorem Acc.keep (a : Acc ps L rows D S n H ts ks) (s : Same H H') : Acc ps L rows D S n H' ts ks := ⟨s _ _ a.at_, stp_up (fun b xs z => s _ _ z) a.rd, a.asc, a.mem, a.len⟩
theorem Acc.to (a : Acc ps L rows D S n H ts ks) (h : ∀ k, PosK ps L rows k → (S' k ↔ S k)) (hn : n ≤ n') : Acc ps L rows D S' n' H ts ks :=
  ⟨a.at_, a.rd, a.asc, fun k => ⟨fun m => ⟨((a.mem k).mp m).1, (h k ((a.mem k).mp m).1).mpr ((a.mem k).mp m).2⟩, fun m => (a.mem k).mpr ⟨m.1, (h k m.1).mp m.2⟩⟩, Nat.le_trans a.len hn⟩
theorem Acc.app (a : Acc ps L rows D S n H ts ks) {t : V} {k : K3} (ht : StpAt H t k) (hk : PosK ps L rows k) (hb : ∀ k', PosK ps L rows k' → S k' → bef k' k = true) (h : ∀ k', PosK ps L rows k' → (S' k' ↔ S k' ∨ k' = k)) : Acc ps L rows D S' (n + 1) (upd H D (.lst (ts ++ [t]))) (ts ++ [t]) (ks ++ [k]) := by
  have up : ∀ b xs, H b = some (.tup xs) → upd H D (.lst (ts ++ [t])) b = some (.tup xs) := fun b xs z => by
    rw [upd_ne fun e => by rw [e, a.at_] at z; cases z]
    exact z
  obtain ⟨u, rfl, eu⟩ := ht
  refine ⟨upd_same, psnoc ⟨u, rfl, up _ _ eu⟩ (stp_up up a.rd), ?_, fun k' => ⟨fun m => ?_, fun m => ?_⟩, ?_⟩
  · refine List.pairwise_append.mpr ⟨a.asc, List.pairwise_singleton _ _, fun x hx y hy => ?_⟩
    rw [List.mem_singleton.mp hy]
    exact hb x ((a.mem x).mp hx).1 ((a.mem x).mp hx).2
  · rcases List.mem_append.mp m with m | m
    · exact ⟨((a.mem k').mp m).1, (h k' ((a.mem k').mp m).1).mpr (.inl ((a.mem k').mp m).2)⟩
    · rw [List.mem_singleton.mp m]
      exact ⟨hk, (h k hk).mpr (.inr rfl)⟩
  · rcases (h k' m.1).mp m.2 with z | z
    · exact List.mem_append_left _ ((a.mem k').mpr ⟨m.1, z⟩)
    · rw [z]
      exact List.mem_append_right _ List.mem_cons_self
  · have := a.len
    rw [List.length_append]
    show ks.length + 1 ≤ n + 1
    omega
end
theorem le_sumN : ∀ {ls : List Nat} {n : Nat}, n ∈ ls → n ≤ ls.sum
  | [], _, h => nomatch h
  | m :: ls, n, h => by
    rw [List.sum_cons]
    rcases List.mem_cons.mp h with h | h
    · omega
    · have := le_sumN h
      omega
theorem g_name {i : Nat} {v : V} {σ : L2.St} {H : Hp} {k : L2.St → Hp → Prop} (σ' : L2.St) (e : σ.set i (some v) = σ') (h : k σ' H) : gName i v σ H k := by
  subst e
  exact h
def wr : Bool → Nat
  | false => 0
  | true => 1
theorem cat_or {K : PySem.W.Frag} {H : Hp} {a b : Addr} {xs ys : List V} {Q : VK} (ha : H a = some (.tup xs)) (hb : H b = some (.tup ys)) (hx : xs ≠ []) (hz : xs.length + ys.length ≤ sizeLine) (h : ∀ p H', Same H H' → H' p = some (.tup (xs ++ ys)) → Q (.ref p) H') : rCatT K (.ref a) (.ref b) H Q := by
  refine ⟨a, b, xs, ys, rfl, rfl, SqT.of ha, SqT.of hb, hx, hz, fun e => ?_, fun _ p np => h p _ (same_upd np) upd_same⟩
  subst e
  exact h a H (fun _ _ z => z) (by rw [List.append_nil]; exact ha)
def gSteps : List (Int × Int) → Int → List (List Int) → Hp → VK → Prop := fun ps L rows H Q => ∀ (D : Addr) (H' : Hp) (ts : List V) (ks : List K3), H D = none → Same H H' → Acc ps L rows D (fun _ => True) 800 H' ts ks → Q (.ref D) H'
end SL
set_option Elab.async false
set_option linter.all false
set_option maxRecDepth 100000
set_option maxHeartbeats 4000000
/-! a table after a possible step is a table -/
namespace SL
open PySem PySem.Spec PyProof.Rows L2 XV
def srtI (ns : List Int) : List Int := ns.mergeSort fun a b => decide (a ≤ b)
theorem srtI_ok (ns : List Int) : SrtI (srtI ns) ns := by
  refine ⟨List.mergeSort_perm _ _, ?_⟩
  have z := List.pairwise_mergeSort (le := fun a b : Int => decide (a ≤ b)) (fun a b c h1 h2 => by simp only [decide_eq_true_eq] at *; omega) (fun a b => by simp only [Bool.or_eq_true, decide_eq_true_eq]; omega) ns
  exact z.imp fun h => of_decide_eq_true h
theorem SrtI.eq {ms ks ns : List Int} (h : SrtI ms ns) (h' : SrtI ks ns) : ms = ks := by
  refine List.Perm.eq_of_pairwise (le := fun a b : Int => a ≤ b) (fun a b _ _ h1 h2 => by omega) h.2 h'.2 (h.1.trans h'.1.symm)
def posD (ps : List (Int × Int)) (L : Int) (rows : List (List Int)) (k : K3) : Bool := match k.2.1 with
  | .ofNat j => (match ps[j]?, rows[j]? with
    | some q, some ns => posB q ns (pgs rows) (lv ps rows) L k.1 k.2.2
    | _, _ => false)
  | .negSucc _ => false
def aftR (rows : List (List Int)) (k : K3) : List (List Int) := rows.set k.2.1.toNat (srtI (chg (rows.getD k.2.1.toNat []) k.1 k.2.2))
theorem posB_c {q : Int × Int} {ns : List Int} {tot : Nat} {held L : Int} {b : Bool} {c : Int} (h : posB q ns tot held L b c = true) : c = 0 ∨ c ∈ ns := by
  unfold posB at h
  split at h
  · exact .inr (of_decide_eq_true h)
  · split at h
    · cases h
    · split at h
      · rename_i z
        exact .inl z
      · rw [Bool.and_eq_true, decide_eq_true_eq] at h
        exact .inr h.1
theorem posD_at {ps : List (Int × Int)} {L : Int} {rows : List (List Int)} {j : Nat} {q : Int × Int} {ns : List Int} {b : Bool} {c : Int} (hq : ps[j]? = some q) (hn : rows[j]? = some ns) : posD ps L rows (b, (j : Int), c) = posB q ns (pgs rows) (lv ps rows) L b c := by
  show (match ps[j]?, rows[j]? with
    | some q, some ns => posB q ns (pgs rows) (lv ps rows) L b c
    | _, _ => false) = _
  rw [hq, hn]
theorem posD_iff {ps : List (Int × Int)} {L : Int} {rows : List (List Int)} {k : K3} : posD ps L rows k = true ↔ PosK ps L rows k := by
  obtain ⟨b, i, c⟩ := k
  constructor
  · intro h
    cases i with
    | negSucc n => cases h
    | ofNat j =>
      have h' : (match ps[j]?, rows[j]? with
        | some q, some ns => posB q ns (pgs rows) (lv ps rows) L b c
        | _, _ => false) = true := h
      split at h'
      · rename_i q ns hq hn
        exact ⟨j, q, ns, rfl, hq, hn, posB_c h', h'⟩
      · cases h'
  · rintro ⟨j, q, ns, e, hq, hn, _, h⟩
    have e' : i = (j : Int) := e
    subst e'
    rw [posD_at hq hn]
    exact h
theorem pgs_setL : ∀ {rows : List (List Int)} {k : Nat} {ns ms : List Int}, rows[k]? = some ns → pgs (rows.set k ms) + ns.length = pgs rows + ms.length
  | [], _, _, _, h => by simp at h
  | r :: rows, 0, ns, ms, h => by
    simp at h
    subst h
    show (ms.length :: rows.map List.length).sum + r.length = (r.length :: rows.map List.length).sum + ms.length
    rw [List.sum_cons, List.sum_cons]
    omega
  | r :: rows, k + 1, ns, ms, h => by
    have ih := pgs_setL (rows := rows) (k := k) (ms := ms) (by simpa using h)
    show (r.length :: (rows.set k ms).map List.length).sum + ns.length = (r.length :: rows.map List.length).sum + ms.length
    rw [List.sum_cons, List.sum_cons]
    unfold pgs at ih
    omega
theorem lv_setL : ∀ {ps : List (Int × Int)} {rows : List (List Int)} {k : Nat} {q : Int × Int} {ns ms : List Int}, ps[k]? = some q → rows[k]? = some ns → lv ps (rows.set k ms) = lv ps rows + q.1 * (ms.sum - ns.sum)
  | [], _, _, _, _, _, h, _ => by simp at h
  | _ :: _, [], _, _, _, _, _, h => by simp at h
  | p :: ps, r :: rows, 0, q, ns, ms, h1, h2 => by
    simp at h1 h2
    subst h1 h2
    show (p.1 * ms.sum :: (ps.zip rows).map fun p => p.1.1 * p.2.sum).sum = (p.1 * r.sum :: (ps.zip rows).map fun p => p.1.1 * p.2.sum).sum + p.1 * (ms.sum - r.sum)
    rw [List.sum_cons, List.sum_cons, Int.mul_sub]
    omega
  | p :: ps, r :: rows, k + 1, q, ns, ms, h1, h2 => by
    have ih := lv_setL (ps := ps) (rows := rows) (k := k) (q := q) (ns := ns) (ms := ms) (by simpa using h1) (by simpa using h2)
    show (p.1 * r.sum :: (ps.zip (rows.set k ms)).map fun p => p.1.1 * p.2.sum).sum = (p.1 * r.sum :: (ps.zip rows).map fun p => p.1.1 * p.2.sum).sum + q.1 * (ms.sum - ns.sum)
    rw [List.sum_cons, List.sum_cons]
    unfold lv at ih
    omega
theorem perm_sumI {a b : List Int} (h : a.Perm b) : a.sum = b.sum := by
  induction h with
  | nil => rfl
  | cons x _ ih => rw [List.sum_cons, List.sum_cons, ih]
  | swap x y l =>
    rw [List.sum_cons, List.sum_cons, List.sum_cons, List.sum_cons]
    omega
  | trans _ _ h1 h2 => rw [h1, h2]
/-- what a possible step does to the counts -/
theorem chg_ok {q : Int × Int} {ns : List Int} {tot : Nat} {held L : Int} {b : Bool} {c : Int} (ha : ∀ n ∈ ns, 1 ≤ n ∧ n ≤ q.2) (h2 : 1 ≤ q.2) (ht : ns.length ≤ tot) (h60 : tot ≤ 60) (h : posB q ns tot held L b c = true) :
    (∀ n ∈ chg ns b c, 1 ≤ n ∧ n ≤ q.2) ∧ (chg ns b c).sum = (if b = true then ns.sum + 1 else ns.sum - 1) ∧ (chg ns b c).length + tot ≤ 60 + ns.length ∧ (b = true → held + q.1 ≤ L) ∧ 0 ≤ c ∧ c ≤ q.2 ∧ (0 < c → c ∈ ns) := by
  have hs : ∀ {c}, c ∈ ns → (ns.erase c).sum = ns.sum - c ∧ (ns.erase c).length + 1 = ns.length ∧ ∀ n ∈ ns.erase c, n ∈ ns := fun {c} hc => by
    have p := List.perm_cons_erase hc
    have z := perm_sumI p
    rw [List.sum_cons] at z
    have l := p.length_eq
    rw [List.length_cons] at l
    exact ⟨by omega, by omega, fun n hn => List.mem_of_mem_erase hn⟩
  have cm := posB_c h
  unfold posB at h
  cases b with
  | false =>
    rw [if_pos rfl, decide_eq_true_eq] at h
    obtain ⟨a1, a2⟩ := ha c h
    obtain ⟨s1, s2, s3⟩ := hs h
    unfold chg aft
    rw [if_pos (show 0 < c by omega), if_neg (show ¬ false = true by decide)]
    refine ⟨?_, ?_, ?_, fun z => absurd z (by decide), by omega, a2, fun _ => h⟩
    · intro n hn
      rcases List.mem_append.mp hn with m | m
      · exact ha n (s3 n m)
      · split at m
        · rw [List.mem_singleton.mp m]
          omega
        · cases m
    · rw [List.sum_append, s1]
      split
      · rw [if_neg (by decide), List.sum_cons, List.sum_nil]
        omega
      · rw [if_neg (by decide), List.sum_nil]
        omega
    · rw [List.length_append]
      split
      · rw [List.length_singleton]
        omega
      · rw [List.length_nil]
        omega
  | true =>
    rw [if_neg (by decide)] at h
    split at h
    · cases h
    rename_i hL
    split at h
    · rename_i e
      subst e
      rw [Bool.and_eq_true, decide_eq_true_eq] at h
      refine ⟨?_, ?_, ?_, fun _ => by omega, by omega, by omega, fun z => absurd z (by decide)⟩
      · intro n hn
        have hn : n ∈ ns ++ [1] := hn
        rcases List.mem_append.mp hn with m | m
        · exact ha n m
        · rw [List.mem_singleton.mp m]
          omega
      · show (ns ++ [1]).sum = _
        rw [List.sum_append, if_pos rfl]
        rfl
      · show (ns ++ [1]).length + tot ≤ _
        rw [List.length_append]
        show ns.length + 1 + tot ≤ _
        omega
    · rename_i e
      rw [Bool.and_eq_true, decide_eq_true_eq, decide_eq_true_eq] at h
      obtain ⟨a1, a2⟩ := ha c h.1
      obtain ⟨s1, s2, s3⟩ := hs h.1
      have e3 : chg ns true c = ns.erase c ++ [c + 1] := by
        show (if 0 < c then ns.erase c else ns) ++ (if 0 < c + 1 then [c + 1] else []) = _
        rw [if_pos (by omega), if_pos (by omega)]
      rw [e3]
      refine ⟨?_, ?_, ?_, fun _ => by omega, by omega, a2, fun _ => h.1⟩
      · intro n hn
        rcases List.mem_append.mp hn with m | m
        · exact ha n (s3 n m)
        · rw [List.mem_singleton.mp m]
          omega
      · rw [List.sum_append, s1, if_pos rfl, List.sum_cons, List.sum_nil]
        omega
      · rw [List.length_append, List.length_singleton]
        omega
theorem aft_ok {ps : List (Int × Int)} {L : Int} {rows : List (List Int)} {b : Bool} {j : Nat} {c : Int} {q : Int × Int} {ns ms : List Int} (sz : SzOk ps) (ok : TabOk ps L rows) (hq : ps[j]? = some q) (hn : rows[j]? = some ns) (h : posB q ns (pgs rows) (lv ps rows) L b c = true) (hm : SrtI ms (chg ns b c)) :
    TabOk ps L (rows.set j ms) ∧ lv ps (rows.set j ms) = lv ps rows + (if b = true then q.1 else -q.1) ∧ rows.set j ms = aftR rows (b, (j : Int), c) := by
  obtain ⟨a1, a2, a3, a4, a5, a6, a7⟩ := chg_ok (ok.cnt j q ns hq hn).2 (sz.rg q (List.mem_of_getElem? hq)).2.1 (le_sumN (List.mem_map_of_mem (List.mem_of_getElem? hn))) ok.few h
  have r1 := (sz.rg q (List.mem_of_getElem? hq)).1
  have a3p : (chg ns b c).length + pgs rows ≤ 60 + ns.length := a3
  have s1 := perm_sumI hm.1
  have l1 := hm.1.length_eq
  have e1 := lv_setL (ms := ms) hq hn
  have e2 := pgs_setL (ms := ms) hn
  have hlv : lv ps (rows.set j ms) = lv ps rows + (if b = true then q.1 else -q.1) := by
    rw [e1, s1, a2]
    cases b with
    | true =>
      rw [if_pos rfl, if_pos rfl, show ns.sum + 1 - ns.sum = 1 by omega, Int.mul_one]
    | false =>
      rw [if_neg (by decide), if_neg (by decide), show ns.sum - 1 - ns.sum = -1 by omega, Int.mul_neg, Int.mul_one]
  refine ⟨⟨by rw [List.length_set, ok.len], fun i q' ns' hq' hn' => ?_, by omega, ?_⟩, hlv, ?_⟩
  · by_cases e : i = j
    · subst e
      rw [hq] at hq'
      cases hq'
      rw [List.getElem?_set_self (List.getElem?_eq_some_iff.mp hn).1] at hn'
      cases hn'
      exact ⟨hm.2, fun n hn => a1 n (hm.1.mem_iff.mp hn)⟩
    · rw [List.getElem?_set_ne (fun z => e z.symm)] at hn'
      exact ok.cnt i q' ns' hq' hn'
  · rw [hlv]
    have := ok.fit
    cases b with
    | true =>
      have := a4 rfl
      rw [if_pos rfl]
      omega
    | false =>
      rw [if_neg (by decide)]
      omega
  · show _ = rows.set j (srtI (chg (rows.getD j []) b c))
    rw [show rows.getD j [] = ns by rw [List.getD_eq_getElem?_getD, hn]; rfl, hm.eq (srtI_ok _)]
end SL
set_option Elab.async false
set_option linter.all false
set_option maxRecDepth 100000
set_option maxHeartbeats 4000000
/-! operators and built-ins, over data -/
namespace DL
open PySem PySem.Spec PyProof.Rows L2 XV SL
/-- list + list, whatever they are -/
def rCatS (K : PySem.W.Frag) : R2 := fun x y H Q => ∃ l b xs zs, x = .ref l ∧ y = .ref b ∧ SqL K H l xs ∧ SqL K H b zs ∧ xs.length + zs.length ≤ sizeLine ∧ ∀ p, H p = none → Q (.ref p) (upd H p (.lst (xs ++ zs)))
theorem op_catS {X : Cx} : OpR X (binaryOp .Add) (rCatS X.K) := by
  intro pins s σ H x y v u Q I rx ry h
  obtain ⟨l, b, xs, zs, rfl, rfl, hH, hB, hz, q⟩ := h
  cases rx
  cases ry
  obtain ⟨its, r, p1, z1⟩ := I.list hH
  obtain ⟨its2, r2, p2, z2⟩ := I.list hB
  obtain ⟨⟨cls, dd, data, sl⟩, ho, hc, n, hd⟩ := p1.isList
  obtain ⟨⟨cls2, dd2, data2, sl2⟩, ho2, hc2, n2, hd2⟩ := p2.isList
  simp only at hc hd hc2 hd2
  subst hc hd hc2 hd2
  have hl := r.length
  have hl2 := r2.length
  have ea : its.toArray ++ its2.toArray = (its ++ its2).toArray := by simp
  refine concat_meets ⟨_, ho, rfl⟩ ⟨_, ho2, rfl⟩ noFill_list_add seq_list_add PySem.F.slot_list_add PySem.F.entry_list_add (PySem.F.args_list_add_2 _ _) (list_addW l b its.toArray its2.toArray n n2 dd dd2 sl sl2 (by rw [List.size_toArray, List.size_toArray]; omega)) ⟨ho, ho2, ?_⟩
  rw [ea]
  exact ⟨.ref _, _, I.lnew (t' := s.toks) (r.append r2) (by rw [List.length_append]; omega), rfl, q _ I.fresh⟩
section
variable {X : Cx}
theorem opr_or {f : Value → Value → Sem Value} {r r' : R2} (h : OpR X f r) (h' : OpR X f r') : OpR X f (fun x y H Q => r x y H Q ∨ r' x y H Q) := fun pins s σ H x y v u Q I rx ry q => q.elim (h pins s σ H x y v u Q I rx ry) (h' pins s σ H x y v u Q I rx ry)
theorem ixr_or {r r' : R2} (h : IxR X r) (h' : IxR X r') : IxR X (fun x y H Q => r x y H Q ∨ r' x y H Q) := fun a b pins s σ H x y v u Q I rx ry q hp => q.elim (fun z => h a b pins s σ H x y v u Q I rx ry z hp) fun z => h' a b pins s σ H x y v u Q I rx ry z hp
theorem callr_or {f : Value} {r r' : List V → Hp → VK → Prop} (h : CallR X f r) (h' : CallR X f r') : CallR X f (fun xs H Q => r xs H Q ∨ r' xs H Q) := fun pins s σ H xs us Q I rx q => q.elim (h pins s σ H xs us Q I rx) (h' pins s σ H xs us Q I rx)
end
section
variable {c : DC} {σ : L2.St} {H B : Hp} {ρ : Env} {τ : List (Option V × DV)} {v w : V} {x y : DV}
theorem Sd.two (s : Sd c σ H ρ ((some w, y) :: (some v, x) :: τ) B) : RepV c B H v x ∧ RepV c B H w y ∧ Sd c σ H ρ τ B := ⟨s.pop.topR, s.topR, s.pop.pop⟩
theorem Sd.flat (s : Sd c σ H ρ τ B) {u : V} {d : PyData} (h : Dh B u d) : Sd c σ H ρ ((some u, .d d) :: τ) B := s.push (x := .d d) h rfl
/-- a new tuple -/
theorem Sd.newT (s : Sd c σ H ρ τ B) {p : Addr} (n : H p = none) {vs : List V} {ds : List PyData} (r : DhL B vs ds) : Sd c σ (upd H p (.tup vs)) ρ ((some (.ref p), .d (.tuple ds)) :: τ) (upd B p (.tup vs)) := by
  have nB : B p = none := by
    cases q : B p with
    | none => rfl
    | some o =>
      have := s.sub _ _ q
      rw [n] at this
      cases this
  exact (s.newB n (.tup vs)).flat ⟨p, vs, rfl, upd_same, Dh.keepL (same_upd nB) _ _ r⟩
end
/-! ### numbers -/
def sI (C : Int → Int → Prop) (g : Int → Int → PyData) : S2
  | .d (.int i), .d (.int j), Q => C i j ∧ Q (.d (g i j))
  | _, _, _ => False
def sI0 (g : Int → Int → PyData) : S2
  | .d (.int i), .d (.int j), Q => Q (.d (g i j))
  | _, _, _ => False
theorem sI_at {C : Int → Int → Prop} {g : Int → Int → PyData} {x y : DV} {Q : DV → Prop} (h : sI C g x y Q) : ∃ i j, x = .d (.int i) ∧ y = .d (.int j) ∧ C i j ∧ Q (.d (g i j)) := by
  unfold sI at h
  split at h
  · exact ⟨_, _, rfl, rfl, h.1, h.2⟩
  · exact h.elim
theorem sI0_at {g : Int → Int → PyData} {x y : DV} {Q : DV → Prop} (h : sI0 g x y Q) : ∃ i j, x = .d (.int i) ∧ y = .d (.int j) ∧ Q (.d (g i j)) := by
  unfold sI0 at h
  split at h
  · exact ⟨_, _, rfl, rfl, h⟩
  · exact h.elim
theorem mono_sI {C : Int → Int → Prop} {g : Int → Int → PyData} : MonoS (sI C g) := fun x y Q Q' k h => by
  obtain ⟨i, j, rfl, rfl, a, b⟩ := sI_at h
  exact ⟨a, k _ b⟩
theorem mono_sI0 {g : Int → Int → PyData} : MonoS (sI0 g) := fun x y Q Q' k h => by
  obtain ⟨i, j, rfl, rfl, b⟩ := sI0_at h
  exact k _ b
theorem ops_I {X : Cx} {f : Value → Value → Sem Value} {C : Int → Int → Prop} {g : Int → Int → V} {g' : Int → Int → PyData} (h : OpR X f (rI C g)) (e : ∀ B i j, Dh B (g i j) (g' i j)) : OpS X (OpR X f) (sI C g') := by
  refine ⟨mono_sI, _, h, fun c σ ρ τ B H v w x y Q' Qv s hs k => ?_⟩
  obtain ⟨i, j, rfl, rfl, a, b⟩ := sI_at hs
  obtain ⟨r1, r2, s2⟩ := s.two
  exact ⟨i, j, r1, r2, a, k _ _ _ _ b (s2.flat (e _ _ _))⟩
theorem ops_I0 {X : Cx} {f : Value → Value → Sem Value} {g : Int → Int → V} {g' : Int → Int → PyData} (h : OpR X f (rI0 g)) (e : ∀ B i j, Dh B (g i j) (g' i j)) : OpS X (OpR X f) (sI0 g') := by
  refine ⟨mono_sI0, _, h, fun c σ ρ τ B H v w x y Q' Qv s hs k => ?_⟩
  obtain ⟨i, j, rfl, rfl, b⟩ := sI0_at hs
  obtain ⟨r1, r2, s2⟩ := s.two
  exact ⟨i, j, r1, r2, k _ _ _ _ b (s2.flat (e _ _ _))⟩
section
variable {X : Cx}
theorem os_sub : OpS X (OpR X (binaryOp .Sub)) (sI0 fun i j => .int (i - j)) := ops_I0 op_sub fun _ _ _ => rfl
theorem os_fdiv : OpS X (OpR X (binaryOp .FloorDiv)) (sI CDiv fun i j => .int (i / j)) := ops_I op_fdiv fun _ _ _ => rfl
theorem os_mod : OpS X (OpR X (binaryOp .Mod)) (sI (fun _ j => 0 < j) fun i j => .int (i % j)) := ops_I op_mod fun _ _ _ => rfl
theorem os_pow : OpS X (OpR X (binaryOp .Pow)) (sI CPow fun i j => .int (i ^ j.toNat)) := ops_I op_pow fun _ _ _ => rfl
theorem os_lt : OpS X (OpR X (compareOp .Lt)) (sI0 fun i j => .bool (decide (i < j))) := ops_I0 op_lt fun _ _ _ => rfl
theorem os_le : OpS X (OpR X (compareOp .LtE)) (sI0 fun i j => .bool (decide (i ≤ j))) := ops_I0 op_le fun _ _ _ => rfl
theorem os_gt : OpS X (OpR X (compareOp .Gt)) (sI0 fun i j => .bool (decide (j < i))) := ops_I0 op_gt fun _ _ _ => rfl
theorem os_ge : OpS X (OpR X (compareOp .GtE)) (sI0 fun i j => .bool (decide (j ≤ i))) := ops_I0 op_ge fun _ _ _ => rfl
end
/-! ### + and * -/
def sAdd : S2 := fun x y Q => match x, y with
  | .d (.int i), .d (.int j) => Q (.d (.int (i + j)))
  | .d (.tuple a), .d (.tuple b) => a.length + b.length ≤ 100000 ∧ Q (.d (.tuple (a ++ b)))
  | x, y => match lstOf x, lstOf y with
    | some a, some b => a.length + b.length ≤ 100000 ∧ Q (.own (a ++ b))
    | _, _ => False
def sMul : S2 := fun x y Q => match x, y with
  | .d (.int i), .d (.int j) => CMul i j ∧ Q (.d (.int (i * j)))
  | .d (.tuple a), .d (.int k) => a ≠ [] ∧ 0 ≤ k ∧ k ≤ 1000 ∧ a.length ≤ 1000 ∧ Q (.d (.tuple (List.replicate k.toNat a).flatten))
  | x, .d (.int k) => match lstOf x with
    | some a => 0 ≤ k ∧ k ≤ 1000 ∧ a.length ≤ 1000 ∧ Q (.own (List.replicate k.toNat a).flatten)
    | _ => False
  | _, _ => False
theorem dhL_rep {B : Hp} {vs : List V} {ds : List PyData} (h : DhL B vs ds) : ∀ n, DhL B (List.replicate n vs).flatten (List.replicate n ds).flatten
  | 0 => rfl
  | n + 1 => by
    rw [List.replicate_succ, List.replicate_succ, List.flatten_cons, List.flatten_cons]
    exact dhL_app h (dhL_rep h n)
section
variable {X : Cx}
theorem os_add : OpS X (OpR X (binaryOp .Add)) sAdd := by
  refine ⟨fun x y Q Q' k h => ?_, _, opr_or (op_add (X := X)) (opr_or (op_catA (X := X)) (op_catS (X := X))), fun c σ ρ τ B H v w x y Q' Qv s hs k => ?_⟩
  · unfold sAdd at h ⊢
    split at h
    · exact k _ h
    · exact ⟨h.1, k _ h.2⟩
    · split at h
      · exact ⟨h.1, k _ h.2⟩
      · exact h.elim
  · obtain ⟨r1, r2, s2⟩ := s.two
    unfold sAdd at hs
    split at hs
    · rename_i i j
      exact .inl ⟨i, j, r1, r2, k _ _ _ _ hs (s2.flat rfl)⟩
    · rename_i a b
      obtain ⟨l1, vs, rfl, z1, h1⟩ := r1
      obtain ⟨l2, ws, rfl, z2, h2⟩ := r2
      have e1 := dhL_len h1
      have e2 := dhL_len h2
      refine .inr (.inl ⟨l1, l2, vs, ws, rfl, rfl, SqT.of (s2.sub _ _ z1), SqT.of (s2.sub _ _ z2), by rw [sizeLine_eq]; omega, fun e => ?_, fun e1' e => ?_, fun _ _ p np => ?_⟩)
      · subst e
        have ha : a = [] := by
          cases a with
          | nil => rfl
          | cons _ _ => simp at e1
        subst ha
        exact k _ _ _ _ hs.2 (s2.flat ⟨l2, ws, rfl, z2, h2⟩)
      · subst e
        have hb : b = [] := by
          cases b with
          | nil => rfl
          | cons _ _ => simp at e2
        subst hb
        rw [List.append_nil] at hs
        exact k _ _ _ _ hs.2 (s2.flat ⟨l1, vs, rfl, z1, h1⟩)
      · exact k _ _ _ _ hs.2 (s2.newT np (dhL_app h1 h2))
    · split at hs
      · rename_i a b ea eb
        obtain ⟨l1, vs, rfl, z1, h1⟩ := lst_at s2.sub r1 ea
        obtain ⟨l2, ws, rfl, z2, h2⟩ := lst_at s2.sub r2 eb
        have e1 := dhL_len h1
        have e2 := dhL_len h2
        exact .inr (.inr ⟨l1, l2, vs, ws, rfl, rfl, SqL.of z1, SqL.of z2, by rw [sizeLine_eq]; omega, fun p np => k _ _ _ _ hs.2 (s2.newOwn np (dhL_app h1 h2))⟩)
      · exact hs.elim
theorem os_mul : OpS X (OpR X (binaryOp .Mult)) sMul := by
  refine ⟨fun x y Q Q' k h => ?_, _, opr_or (op_mul (X := X)) (opr_or (op_repA (X := X)) (op_rep (X := X))), fun c σ ρ τ B H v w x y Q' Qv s hs k => ?_⟩
  · unfold sMul at h ⊢
    split at h
    · exact ⟨h.1, k _ h.2⟩
    · exact ⟨h.1, h.2.1, h.2.2.1, h.2.2.2.1, k _ h.2.2.2.2⟩
    · split at h
      · exact ⟨h.1, h.2.1, h.2.2.1, k _ h.2.2.2⟩
      · exact h.elim
    · exact h.elim
  · obtain ⟨r1, r2, s2⟩ := s.two
    unfold sMul at hs
    split at hs
    · rename_i i j
      exact .inl ⟨i, j, r1, r2, hs.1, k _ _ _ _ hs.2 (s2.flat rfl)⟩
    · rename_i a n
      obtain ⟨l1, vs, rfl, z1, h1⟩ := r1
      have r2 : w = .int n := r2
      subst r2
      have e1 := dhL_len h1
      obtain ⟨q1, q2, q3, q4, q5⟩ := hs
      refine .inr (.inl ⟨l1, n, vs, rfl, rfl, SqT.of (s2.sub _ _ z1), fun e => ?_, q2, q3, by omega, fun e => ?_, fun _ p np => k _ _ _ _ q5 (s2.newT np (dhL_rep h1 _))⟩)
      · subst e
        apply q1
        cases a with
        | nil => rfl
        | cons _ _ => simp at e1
      · subst e
        refine k _ _ _ _ q5 (s2.flat ⟨l1, vs, rfl, z1, ?_⟩)
        simpa using h1
    · rename_i n _ _
      split at hs
      · rename_i a ea
        obtain ⟨l1, vs, rfl, z1, h1⟩ := lst_at s2.sub r1 ea
        have r2 : w = .int n := r2
        subst r2
        have e1 := dhL_len h1
        obtain ⟨q2, q3, q4, q5⟩ := hs
        refine .inr (.inr ⟨l1, n, vs, rfl, rfl, z1, by omega, by omega, ?_, fun p np => k _ _ _ _ q5 (s2.newOwn np (dhL_rep h1 _))⟩)
        have : vs.length * n.toNat ≤ 1000 * 1000 := Nat.mul_le_mul (by omega) (by omega)
        rw [sizeLine_eq]
        omega
      · exact hs.elim
    · exact hs.elim
end
/-! ### equality, membership -/
def sEqG (neg : Bool) : S2 := fun x y Q => match x, y with
  | .d (.int i), .d (.int j) => Q (.d (.bool (neg ^^ decide (i = j))))
  | x, y => match datOf x, datOf y with
    | some d, some e => plain d = true ∧ plain e = true ∧ SeqAt.shaped d = true ∧ SeqAt.shaped e = true ∧ Q (.d (.bool (neg ^^ PyData.eqv d e)))
    | _, _ => False
theorem mono_eqG {neg : Bool} : MonoS (sEqG neg) := fun x y Q Q' k h => by
  unfold sEqG at h ⊢
  split at h
  · exact k _ h
  · split at h
    · exact ⟨h.1, h.2.1, h.2.2.1, h.2.2.2.1, k _ h.2.2.2.2⟩
    · exact h.elim
abbrev sEq := sEqG false
abbrev sNe := sEqG true
section
variable {X : Cx}
theorem os_eq (hu : X.A.units + 64 < cLine) : OpS X (OpR X (compareOp .Eq)) sEq := by
  refine ⟨mono_eqG, _, op_eqD hu, fun c σ ρ τ B H v w x y Q' Qv s hs k => ?_⟩
  obtain ⟨r1, r2, s2⟩ := s.two
  unfold sEq sEqG at hs
  split at hs
  · rename_i i j
    have r1 : v = .int i := r1
    have r2 : w = .int j := r2
    subst r1 r2
    refine ⟨.int i, .int j, .int i, .int j, rfl, rfl, k _ _ _ _ hs (s2.flat ?_)⟩
    show V.bl (PyData.eqv (.int i) (.int j)) = V.bl (false ^^ decide (i = j))
    rw [Bool.false_xor, ← Bool.beq_eq_decide_eq]
    simp [PyData.eqv]
  · split at hs
    · rename_i d e ed ee
      obtain ⟨q1, q2, q3, q4, q5⟩ := hs
      rw [Bool.false_xor] at q5
      exact ⟨d, e, dat_at s2.sub r1 ed q1, dat_at s2.sub r2 ee q2, q3, q4, k _ _ _ _ q5 (s2.flat rfl)⟩
    · exact hs.elim
theorem os_ne (hu : X.A.units + 64 < cLine) : OpS X (OpR X (compareOp .NotEq)) sNe := by
  refine ⟨mono_eqG, _, op_neD hu, fun c σ ρ τ B H v w x y Q' Qv s hs k => ?_⟩
  obtain ⟨r1, r2, s2⟩ := s.two
  unfold sNe sEqG at hs
  split at hs
  · rename_i i j
    have r1 : v = .int i := r1
    have r2 : w = .int j := r2
    subst r1 r2
    refine ⟨.int i, .int j, .int i, .int j, rfl, rfl, k _ _ _ _ hs (s2.flat ?_)⟩
    show V.bl (!PyData.eqv (.int i) (.int j)) = V.bl (true ^^ decide (i = j))
    rw [Bool.true_xor, ← Bool.beq_eq_decide_eq]
    simp [PyData.eqv]
  · split at hs
    · rename_i d e ed ee
      obtain ⟨q1, q2, q3, q4, q5⟩ := hs
      rw [Bool.true_xor] at q5
      exact ⟨d, e, dat_at s2.sub r1 ed q1, dat_at s2.sub r2 ee q2, q3, q4, k _ _ _ _ q5 (s2.flat rfl)⟩
    · exact hs.elim
end
def flatD : PyData → Bool
  | .none => true
  | .bool _ => true
  | .int _ => true
  | .str _ => true
  | _ => false
/-- x in a tuple of flat things or a list of data -/
def sInG (neg : Bool) : S2 := fun x y Q => match tupOf y, lstOf y, datOf x with
  | some ds, _, some d => flatD d = true ∧ ds.all flatD = true ∧ Q (.d (.bool (neg ^^ ds.any fun z => PyData.eqv z d)))
  | none, some ds, some d => plain d = true ∧ plainL ds = true ∧ SeqAt.shaped d = true ∧ SeqAt.shaped (.list ds) = true ∧ Q (.d (.bool (neg ^^ ds.any fun z => PyData.eqv z d)))
  | _, _, _ => False
theorem mono_inG {neg : Bool} : MonoS (sInG neg) := fun x y Q Q' k h => by
  unfold sInG at h ⊢
  split at h
  · exact ⟨h.1, h.2.1, k _ h.2.2⟩
  · exact ⟨h.1, h.2.1, h.2.2.1, h.2.2.2.1, k _ h.2.2.2.2⟩
  · exact h.elim
abbrev sIn := sInG false
abbrev sNotIn := sInG true
theorem flat_eqV {B : Hp} {x y : V} {d e : PyData} (h1 : Dh B x d) (h2 : Dh B y e) (f1 : flatD d = true) (f2 : flatD e = true) : flatV x = true ∧ flatV y = true ∧ eqV y x = PyData.eqv e d := by
  cases d <;> cases e <;> first
    | (simp [flatD] at f1; done)
    | (simp [flatD] at f2; done)
    | (simp only [Dh] at h1 h2; subst h1 h2; refine ⟨rfl, rfl, ?_⟩; simp [eqV, PyData.eqv, b2i])
theorem flat_in {B : Hp} {x : V} {d : PyData} (h1 : Dh B x d) (f1 : flatD d = true) : ∀ {ys : List V} {ds : List PyData}, DhL B ys ds → ds.all flatD = true → ys.all flatV = true ∧ inV x ys = ds.any fun z => PyData.eqv z d
  | ys, [], h, _ => by
    have h : ys = [] := h
    subst h
    exact ⟨rfl, rfl⟩
  | ys, e :: ds, h, f => by
    obtain ⟨y, zs, rfl, a, b⟩ := h
    rw [List.all_cons, Bool.and_eq_true] at f
    obtain ⟨i1, i2⟩ := flat_in h1 f1 b f.2
    obtain ⟨j1, j2, j3⟩ := flat_eqV h1 a f1 f.1
    refine ⟨by rw [List.all_cons, j2, i1]; rfl, ?_⟩
    rw [inV, List.any_cons, List.any_cons, j3]
    rw [inV] at i2
    rw [i2]
theorem datOf_flat {c : DC} {B H : Hp} {v : V} {x : DV} {d : PyData} (r : RepV c B H v x) (e : datOf x = some d) (f : flatD d = true) : Dh B v d := by
  cases x with
  | d d' =>
    cases e
    exact r
  | own ys =>
    cases e
    cases f
  | bor ys =>
    cases e
    cases f
  | _ => cases e
section
variable {X : Cx}
theorem os_in (hu : X.A.units + 65 < cLine) : OpS X (OpR X (compareOp .In)) sIn := by
  refine ⟨mono_inG, _, opr_or (op_inD hu) (op_in_seq (X := X)), fun c σ ρ τ B H v w x y Q' Qv s hs k => ?_⟩
  obtain ⟨r1, r2, s2⟩ := s.two
  unfold sIn sInG at hs
  split at hs
  · rename_i ds _ d et ed
    obtain ⟨f1, f2, q⟩ := hs
    have hd := datOf_flat r1 ed f1
    obtain ⟨l, vs, rfl, z1, z2, h2⟩ := tup_at s2.sub r2 et
    obtain ⟨i1, i2⟩ := flat_in hd f1 h2 f2
    refine .inr ⟨l, vs, rfl, .inr (SqT.of z2), ?_, i1, ?_⟩
    · cases d <;> first | (simp [flatD] at f1; done) | (simp only [Dh] at hd; subst hd; rfl)
    · rw [Bool.false_xor] at q
      exact k _ _ _ _ q (s2.flat (congrArg V.bl i2))
  · rename_i ds d et el ed
    obtain ⟨q1, q2, q3, q4, q5⟩ := hs
    obtain ⟨l, vs, rfl, z, h2⟩ := lst_at s2.sub r2 el
    rw [Bool.false_xor] at q5
    exact .inl ⟨d, ds, dat_at s2.sub r1 ed q1, .lst (SqL.of z) (Dh.dpL _ _ (Dh.keepL s2.sub _ _ h2) q2), q3, q4, k _ _ _ _ q5 (s2.flat rfl)⟩
  · exact hs.elim
theorem os_notIn (hu : X.A.units + 65 < cLine) : OpS X (OpR X (compareOp .NotIn)) sNotIn := by
  refine ⟨mono_inG, _, opr_or (op_notInD hu) (op_notIn_seq (X := X)), fun c σ ρ τ B H v w x y Q' Qv s hs k => ?_⟩
  obtain ⟨r1, r2, s2⟩ := s.two
  unfold sNotIn sInG at hs
  split at hs
  · rename_i ds _ d et ed
    obtain ⟨f1, f2, q⟩ := hs
    have hd := datOf_flat r1 ed f1
    obtain ⟨l, vs, rfl, z1, z2, h2⟩ := tup_at s2.sub r2 et
    obtain ⟨i1, i2⟩ := flat_in hd f1 h2 f2
    refine .inr ⟨l, vs, rfl, .inr (SqT.of z2), ?_, i1, ?_⟩
    · cases d <;> first | (simp [flatD] at f1; done) | (simp only [Dh] at hd; subst hd; rfl)
    · rw [Bool.true_xor] at q
      exact k _ _ _ _ q (s2.flat (congrArg V.bl (congrArg not i2)))
  · rename_i ds d et el ed
    obtain ⟨q1, q2, q3, q4, q5⟩ := hs
    obtain ⟨l, vs, rfl, z, h2⟩ := lst_at s2.sub r2 el
    rw [Bool.true_xor] at q5
    exact .inl ⟨d, ds, dat_at s2.sub r1 ed q1, .lst (SqL.of z) (Dh.dpL _ _ (Dh.keepL s2.sub _ _ h2) q2), q3, q4, k _ _ _ _ q5 (s2.flat rfl)⟩
  · exact hs.elim
end
/-- is None -/
def sIsN (neg : Bool) : S2 := fun x y Q => match x, y with
  | .d .none, .d .none => Q (.d (.bool (!neg)))
  | .d _, .d .none => Q (.d (.bool neg))
  | _, _ => False
theorem dh_non {B : Hp} {v : V} {d : PyData} (h : Dh B v d) (n : d ≠ .none) : v ≠ .non := by
  cases d with
  | none => exact absurd rfl n
  | bool b => simp only [Dh] at h; subst h; intro z; cases z
  | int b => simp only [Dh] at h; subst h; intro z; cases z
  | str b => simp only [Dh] at h; subst h; intro z; cases z
  | list b =>
    obtain ⟨a, xs, rfl, _⟩ := h
    intro z
    cases z
  | tuple b =>
    obtain ⟨a, xs, rfl, _⟩ := h
    intro z
    cases z
  | dict b =>
    obtain ⟨_, a, rfl, _⟩ := h
    intro z
    cases z
section
variable {X : Cx}
theorem isN_go {neg : Bool} {c : DC} {σ : L2.St} {ρ : Env} {τ : List (Option V × DV)} {B H : Hp} {v w : V} {x y : DV} {Q' : DV → Prop} {Qv : VK} (s : Sd c σ H ρ ((some w, y) :: (some v, x) :: τ) B) (hs : sIsN neg x y Q') (k : ∀ z u H' B', Q' z → Sd c σ H' ρ ((some u, z) :: τ) B' → Qv u H') : w = .non ∧ Qv (.bl (neg ^^ decide (v = .non))) H := by
  obtain ⟨r1, r2, s2⟩ := s.two
  unfold sIsN at hs
  split at hs
  · have r1 : v = .non := r1
    subst r1
    refine ⟨r2, ?_⟩
    have := k _ _ _ _ hs (s2.flat (u := .bl (!neg)) rfl)
    simpa using this
  · rename_i d n
    have r1 : Dh B v d := r1
    refine ⟨r2, ?_⟩
    rw [decide_eq_false (dh_non r1 (fun e => n e)), Bool.xor_false]
    exact k _ _ _ _ hs (s2.flat rfl)
  · exact hs.elim
theorem mono_isN {neg : Bool} : MonoS (sIsN neg) := fun x y Q Q' k h => by
  unfold sIsN at h ⊢
  split at h
  · exact k _ h
  · exact k _ h
  · exact h.elim
theorem os_isN : OpS X (OpR X (compareOp .Is)) (sIsN false) := by
  refine ⟨mono_isN, _, op_isN, fun c σ ρ τ B H v w x y Q' Qv s hs k => ?_⟩
  obtain ⟨e, q⟩ := isN_go s hs k
  rw [Bool.false_xor] at q
  exact ⟨e, q⟩
theorem os_notN : OpS X (OpR X (compareOp .IsNot)) (sIsN true) := by
  refine ⟨mono_isN, _, op_notN, fun c σ ρ τ B H v w x y Q' Qv s hs k => ?_⟩
  obtain ⟨e, q⟩ := isN_go s hs k
  rw [Bool.true_xor] at q
  exact ⟨e, q⟩
end
/-! ### places and slices -/
def sIx : S2 := fun x y Q => match seqOf x, y with
  | some xs, .d (.int i) => (match atI xs i with
    | some d => Q (.d d)
    | none => False)
  | _, _ => False
theorem dhL_atI {B : Hp} {vs : List V} {ds : List PyData} {i : Int} {d : PyData} (h : DhL B vs ds) (e : atI ds i = some d) : ∃ v, atI vs i = some v ∧ Dh B v d := by
  have hl := dhL_len h
  unfold atI at e ⊢
  rw [hl]
  cases hx : ixN ds.length i with
  | none => rw [hx] at e; cases e
  | some j =>
    rw [hx] at e
    obtain ⟨v, e1, e2⟩ := dhL_get h (i := j) e
    exact ⟨v, e1, e2⟩
section
variable {X : Cx}
theorem os_ix : OpS X (IxR X) sIx := by
  refine ⟨fun x y Q Q' k h => ?_, _, ixr_or (ix_list (X := X)) (ix_tup (X := X)), fun c σ ρ τ B H v w x y Q' Qv s hs k => ?_⟩
  · unfold sIx at h ⊢
    split at h
    · split at h
      · exact k _ h
      · exact h.elim
    · exact h.elim
  · obtain ⟨r1, r2, s2⟩ := s.two
    unfold sIx at hs
    split at hs
    · rename_i xs i es
      split at hs
      · rename_i d ed
        have r2 : w = .int i := r2
        subst r2
        rcases seq_cases es with e | e
        · obtain ⟨l, vs, rfl, z, h1⟩ := lst_at s2.sub r1 e
          obtain ⟨u, e1, e2⟩ := dhL_atI h1 ed
          exact .inl ⟨l, vs, i, u, rfl, rfl, SqL.of z, e1, k _ _ _ _ hs (s2.flat e2)⟩
        · obtain ⟨l, vs, rfl, _, z, h1⟩ := tup_at s2.sub r1 e
          obtain ⟨u, e1, e2⟩ := dhL_atI h1 ed
          exact .inr ⟨l, vs, i, u, rfl, rfl, SqT.of z, e1, k _ _ _ _ hs (s2.flat e2)⟩
      · exact hs.elim
    · exact hs.elim
end
def cutD (xs : List PyData) (lo hi : Option Int) : List PyData := (xs.drop (HT.sIx xs.length 0 lo)).take (HT.sIx xs.length xs.length hi - HT.sIx xs.length 0 lo)
theorem dhL_cut {B : Hp} {vs : List V} {ds : List PyData} {lo hi : Option Int} (h : DhL B vs ds) : DhL B (cutV vs lo hi) (cutD ds lo hi) := by
  unfold cutV cutD
  rw [dhL_len h]
  exact dhL_take (dhL_drop h _) _
abbrev TDO := Env → (Option Int → Env → Prop) → EZ → Prop
def tdoNone : TDO := fun ρ Q _ => Q none ρ
def isInt (Q : Int → Prop) : DV → Prop
  | .d (.int i) => Q i
  | _ => False
theorem isInt_at {Q : Int → Prop} {x : DV} (h : isInt Q x) : ∃ i, x = .d (.int i) ∧ Q i := by
  cases x with
  | d d =>
    cases d with
    | int i => exact ⟨i, rfl, h⟩
    | _ => exact h.elim
  | _ => exact h.elim
theorem isInt_mono {Q Q' : Int → Prop} (k : ∀ i, Q i → Q' i) {x : DV} (h : isInt Q x) : isInt Q' x := by
  obtain ⟨i, rfl, q⟩ := isInt_at h
  exact k i q
def tdoSome (t : TD) : TDO := fun ρ Q Z => t ρ (fun x ρ1 => isInt (fun i => Q (some i) ρ1) x) Z
def liftO (c : DC) (E : EZ) (t : TDO) : TO := fun σ H Q => ∃ ρ τ B, Sd c σ H ρ τ B ∧ t ρ (fun o ρ' => ∀ H' B', Sd c σ H' ρ' τ B' → Q o H') E
structure PDO (c : DC) (E : EZ) (X : Cx) (e : Option Expr) (t : TDO) : Prop where
  po : PO X e (liftO c E t)
  mono : ∀ ρ Q Q' Z, (∀ x r, Q x r → Q' x r) → t ρ Q Z → t ρ Q' Z
theorem po_wk {X : Cx} {e : Option Expr} {t t' : TO} (h : PO X e t) (k : ∀ σ H Q, t' σ H Q → t σ H Q) : PO X e t' := ⟨fun pins s σ H Q I q => h.run pins s σ H Q I (k σ H Q q)⟩
section
variable {c : DC} {E : EZ} {X : Cx} {e : Expr} {te : TD} {tl th : TDO} {lo hi : Option Expr} {pos p2 : Pos}
theorem pdo_none : PDO c E X none tdoNone := ⟨po_wk po_none fun σ H Q ⟨ρ, τ, B, s, q⟩ => q H B s, fun ρ Q Q' Z k q => k _ _ q⟩
theorem pdo_some (h : PDE c E X e te) : PDO c E X (some e) (tdoSome te) := by
  refine ⟨po_wk (po_some h.pe) fun σ H Q ⟨ρ, τ, B, s, q⟩ => ⟨ρ, τ, B, s, h.mono _ _ _ _ (fun x ρ1 hx v H' B' s' => ?_) q⟩, fun ρ Q Q' Z k q => h.mono _ _ _ _ (fun x r hx => isInt_mono (fun i hi => k _ _ hi) hx) q⟩
  obtain ⟨i, rfl, hi⟩ := isInt_at hx
  exact ⟨i, s'.topR, hi H' B' s'.pop⟩
def sCut (x : DV) (lo hi : Option Int) (Q : DV → Prop) : Prop := match tupOf x, lstOf x with
  | some ds, _ => Q (.d (.tuple (cutD ds lo hi)))
  | none, some ds => Q (.own (cutD ds lo hi))
  | _, _ => False
theorem sCut_mono {x : DV} {lo hi : Option Int} {Q Q' : DV → Prop} (k : ∀ z, Q z → Q' z) (h : sCut x lo hi Q) : sCut x lo hi Q' := by
  unfold sCut at h ⊢
  split at h
  · exact k _ h
  · exact k _ h
  · exact h.elim
def tdCut (te : TD) (tl th : TDO) : TD := fun ρ Q Z => te ρ (fun x ρ1 => tl ρ1 (fun l ρ2 => th ρ2 (fun u ρ3 => sCut x l u fun z => Q z ρ3) Z) Z) Z
theorem pd_cut (he : PDE c E X e te) (hl : PDO c E X lo tl) (hh : PDO c E X hi th) : PDE c E X (.Subscript e (.Slice lo hi none p2) pos) (tdCut te tl th) := by
  refine ⟨pe_wk (pe_slice ((sl_list (X := X)).or (sl_tupA (X := X))) he.pe hl.po hh.po) fun σ H Q ⟨ρ, τ, B, s, q⟩ => ⟨ρ, τ, B, s, he.mono _ _ _ _ (fun x ρ1 q1 v H1 B1 s1 => ⟨ρ1, _, B1, s1, hl.mono _ _ _ _ (fun l ρ2 q2 H2 B2 s2 => ⟨ρ2, _, B2, s2, hh.mono _ _ _ _ (fun u ρ3 q3 H3 B3 s3 => ?_) q2⟩) q1⟩) q⟩,
    fun ρ Q Q' Z k q => he.mono _ _ _ _ (fun x ρ1 q1 => hl.mono _ _ _ _ (fun l ρ2 q2 => hh.mono _ _ _ _ (fun u ρ3 q3 => sCut_mono (fun z hz => k _ _ hz) q3) q2) q1) q⟩
  have r := s3.topR
  have s4 := s3.pop
  unfold sCut at q3
  split at q3
  · rename_i ds et
    obtain ⟨a, vs, rfl, zb, z, h1⟩ := tup_at s4.sub r et
    refine .inr ⟨a, vs, rfl, SqT.of z, fun hw => ?_, fun _ p np => ?_⟩
    · refine q3 _ _ _ (s4.flat ⟨a, vs, rfl, zb, ?_⟩)
      have : cutD ds l u = ds := by
        unfold cutD
        rw [← dhL_len h1, hw.1, hw.2, List.drop_zero, List.take_of_length_le (by rw [dhL_len h1]; omega)]
      rw [this]
      exact h1
    · exact q3 _ _ _ (s4.newT np (dhL_cut h1))
  · rename_i ds et el
    obtain ⟨a, vs, rfl, z, h1⟩ := lst_at s4.sub r el
    exact .inl ⟨a, vs, rfl, SqL.of z, fun p np => q3 _ _ _ (s4.newOwn np (dhL_cut h1))⟩
  · exact q3.elim
end
/-! ### built-ins -/
abbrev S1 := List DV → (DV → Prop) → Prop
def CallS (X : Cx) (f : Value) (s : S1) : Prop := (∀ xs Q Q', (∀ z, Q z → Q' z) → s xs Q → s xs Q') ∧ ∃ r, CallR X f r ∧ ∀ (c : DC) σ ρ τ B H vs xs (Q' : DV → Prop) (Qv : VK), vs.length = xs.length → Sd c σ H ρ (pushT vs xs τ) B → s xs Q' → (∀ z u H' B', Q' z → Sd c σ H' ρ ((some u, z) :: τ) B' → Qv u H') → r vs H Qv
def tdCall (s : S1) (t : TDA) : TD := fun ρ Q Z => t ρ (fun xs ρ1 => s xs fun z => Q z ρ1) Z
section
variable {c : DC} {E : EZ} {X : Cx} {e : Expr} {es : List Expr} {t : TDA} {x id T : _} {p pos : Pos} {s : S1}
theorem call_run {r : List V → Hp → VK → Prop} {σ : L2.St} {H : Hp} {Q : VK} (ma : MonoA t) (hr : ∀ (c : DC) σ ρ τ B H vs xs (Q' : DV → Prop) (Qv : VK), vs.length = xs.length → Sd c σ H ρ (pushT vs xs τ) B → s xs Q' → (∀ z u H' B', Q' z → Sd c σ H' ρ ((some u, z) :: τ) B' → Qv u H') → r vs H Qv)
    (q : lift c E (tdCall s t) σ H Q) : tCB r (liftA c E t) σ H Q := by
  obtain ⟨ρ, τ, B, sd, q⟩ := q
  exact ⟨ρ, τ, B, sd, ma _ _ _ _ (fun xs ρ1 q1 vs H1 B1 hl s1 => hr c σ ρ1 τ B1 H1 vs xs _ Q hl s1 q1 fun z u H' B' hz s3 => hz u H' B' s3) q⟩
theorem pd_callB (hs : CallS X (.builtin id) s) (hg : Gl X x) (hm : X.mg x = none) (hv : bootBuiltins x = some (.builtin id)) (ha : PDA c E X (e :: es) t) (hn : x ≠ "__name__" := by decide) (hdb : (x == ("__debug__" : Str)) = false := by decide)
    (he : starEach (e :: es) X.env = (false, eval e X.env) :: starEach es X.env := by rfl) (hpl : (backTo pos (starEach es X.env)).any (·.1) = false := by rfl) : PDE c E X (.Call (.Name x p) (e :: es) [] pos) (tdCall s t) := by
  obtain ⟨m, r, hr, k⟩ := hs
  exact ⟨pe_wk (pe_callB hr hg hm hv ha.pa hn hdb he hpl) fun σ H Q q => call_run ha.mono k q, fun ρ Q Q' Z k' q => ha.mono _ _ _ _ (fun xs ρ1 q1 => m _ _ _ (fun z hz => k' _ _ hz) q1) q⟩
theorem pd_callTy (hs : CallS X (.type T) s) (hg : Gl X x) (hm : X.mg x = none) (hv : bootBuiltins x = some (.type T)) (ha : PDA c E X (e :: es) t) (hn : x ≠ "__name__" := by decide) (hdb : (x == ("__debug__" : Str)) = false := by decide)
    (he : starEach (e :: es) X.env = (false, eval e X.env) :: starEach es X.env := by rfl) (hpl : (backTo pos (starEach es X.env)).any (·.1) = false := by rfl) : PDE c E X (.Call (.Name x p) (e :: es) [] pos) (tdCall s t) := by
  obtain ⟨m, r, hr, k⟩ := hs
  exact ⟨pe_wk (pe_callTy hr hg hm hv ha.pa hn hdb he hpl) fun σ H Q q => call_run ha.mono k q, fun ρ Q Q' Z k' q => ha.mono _ _ _ _ (fun xs ρ1 q1 => m _ _ _ (fun z hz => k' _ _ hz) q1) q⟩
end
def one (s : DV → (DV → Prop) → Prop) : S1 := fun xs Q => match xs with
  | [x] => s x Q
  | _ => False
def two (s : DV → DV → (DV → Prop) → Prop) : S1 := fun xs Q => match xs with
  | [x, y] => s x y Q
  | _ => False
theorem len1 {vs : List V} {x : DV} (h : vs.length = [x].length) : ∃ v, vs = [v] := by
  match vs, h with
  | [v], _ => exact ⟨v, rfl⟩
theorem len2 {vs : List V} {x y : DV} (h : vs.length = [x, y].length) : ∃ v w, vs = [v, w] := by
  match vs, h with
  | [v, w], _ => exact ⟨v, w, rfl⟩
/-- one argument -/
theorem calls1 {X : Cx} {f : Value} {s : DV → (DV → Prop) → Prop} {r : List V → Hp → VK → Prop} (hr : CallR X f r) (m : ∀ x Q Q', (∀ z, Q z → Q' z) → s x Q → s x Q')
    (k : ∀ (c : DC) σ ρ τ B H v x (Q' : DV → Prop) (Qv : VK), Sd c σ H ρ τ B → RepV c B H v x → s x Q' → (∀ z u H' B', Q' z → Sd c σ H' ρ ((some u, z) :: τ) B' → Qv u H') → r [v] H Qv) : CallS X f (one s) := by
  refine ⟨fun xs Q Q' kk h => ?_, r, hr, fun c σ ρ τ B H vs xs Q' Qv hl sd hs kq => ?_⟩
  · unfold one at h ⊢
    split at h
    · exact m _ _ _ kk h
    · exact h.elim
  · unfold one at hs
    split at hs
    · rename_i x
      obtain ⟨v, rfl⟩ := len1 hl
      have sd' : Sd c σ H ρ ((some v, x) :: τ) B := sd
      exact k c σ ρ τ B H v x Q' Qv sd'.pop sd'.topR hs kq
    · exact hs.elim
theorem calls2 {X : Cx} {f : Value} {s : DV → DV → (DV → Prop) → Prop} {r : List V → Hp → VK → Prop} (hr : CallR X f r) (m : ∀ x y Q Q', (∀ z, Q z → Q' z) → s x y Q → s x y Q')
    (k : ∀ (c : DC) σ ρ τ B H v w x y (Q' : DV → Prop) (Qv : VK), Sd c σ H ρ τ B → RepV c B H v x → RepV c B H w y → s x y Q' → (∀ z u H' B', Q' z → Sd c σ H' ρ ((some u, z) :: τ) B' → Qv u H') → r [v, w] H Qv) : CallS X f (two s) := by
  refine ⟨fun xs Q Q' kk h => ?_, r, hr, fun c σ ρ τ B H vs xs Q' Qv hl sd hs kq => ?_⟩
  · unfold two at h ⊢
    split at h
    · exact m _ _ _ _ kk h
    · exact h.elim
  · unfold two at hs
    split at hs
    · rename_i x y
      obtain ⟨v, w, rfl⟩ := len2 hl
      have sd' : Sd c σ H ρ ((some w, y) :: (some v, x) :: τ) B := sd
      exact k c σ ρ τ B H v w x y Q' Qv sd'.pop.pop sd'.pop.topR sd'.topR hs kq
    · exact hs.elim
def sLen (x : DV) (Q : DV → Prop) : Prop := match seqOf x with
  | some xs => Q (.d (.int xs.length))
  | none => False
def intsOf : List PyData → Option (List Int)
  | [] => some []
  | .int i :: r => (intsOf r).map (i :: ·)
  | _ :: _ => none
theorem intsOf_map (ns : List Int) : intsOf (ns.map .int) = some ns := by
  induction ns with
  | nil => rfl
  | cons n ns ih => simp [intsOf, ih]
theorem intsOf_at {ds : List PyData} {ns : List Int} (h : intsOf ds = some ns) : ds = ns.map .int := by
  induction ds generalizing ns with
  | nil => cases h; rfl
  | cons d ds ih =>
    cases d with
    | int i =>
      simp only [intsOf, Option.map_eq_some_iff] at h
      obtain ⟨ms, e, rfl⟩ := h
      rw [ih e]
      rfl
    | _ => cases h
theorem dhL_ints {B : Hp} {vs : List V} {ns : List Int} (h : DhL B vs (ns.map .int)) : vs = ns.map V.int := by
  induction ns generalizing vs with
  | nil => exact h
  | cons n ns ih =>
    obtain ⟨y, ys, rfl, a, b⟩ := h
    have a : y = .int n := a
    rw [a, ih b]
    rfl
theorem ints_dhL {B : Hp} (ns : List Int) : DhL B (ns.map V.int) (ns.map .int) := by
  induction ns with
  | nil => rfl
  | cons n ns ih => exact dhL_cons rfl ih
def onInts (x : DV) (Q : List Int → Prop) : Prop := match seqOf x with
  | some xs => (match intsOf xs with
    | some ns => Q ns
    | none => False)
  | none => False
theorem onInts_at {x : DV} {Q : List Int → Prop} (h : onInts x Q) : ∃ ns, seqOf x = some (ns.map .int) ∧ Q ns := by
  unfold onInts at h
  split at h
  · rename_i xs e
    split at h
    · rename_i ns e2
      exact ⟨ns, by rw [e, intsOf_at e2], h⟩
    · exact h.elim
  · exact h.elim
theorem onInts_mono {x : DV} {Q Q' : List Int → Prop} (k : ∀ ns, Q ns → Q' ns) (h : onInts x Q) : onInts x Q' := by
  obtain ⟨ns, e, q⟩ := onInts_at h
  unfold onInts
  rw [e]
  show (match intsOf (ns.map .int) with | some ns => Q' ns | none => False)
  rw [intsOf_map]
  exact k _ q
section
variable {X : Cx}
theorem cs_len : CallS X (.builtin "len") (one sLen) := by
  refine calls1 call_len_seq (fun x Q Q' k h => ?_) (fun c σ ρ τ B H v x Q' Qv s r hs k => ?_)
  · unfold sLen at h ⊢
    split at h
    · exact k _ h
    · exact h.elim
  · unfold sLen at hs
    split at hs
    · rename_i xs e
      obtain ⟨l, vs, rfl, z, h1⟩ := seq_at (K := X.K) s.sub r e
      refine ⟨l, vs, rfl, z, k _ _ _ _ hs (s.flat ?_)⟩
      rw [dhL_len h1]
      rfl
    · exact hs.elim
theorem cs_sum (hc : X.calm = true) : CallS X (.builtin "sum") (one fun x Q => onInts x fun ns => Q (.d (.int ns.sum))) := by
  refine calls1 (s := fun x Q => onInts x (fun ns => Q (.d (.int ns.sum)))) (callr_or (cr_sum hc) (cr_sumT hc)) (fun x Q Q' k h => onInts_mono (fun ns => k _) h) (fun c σ ρ τ B H v x Q' Qv s r hs k => ?_)
  obtain ⟨ns, e, q⟩ := onInts_at hs
  rcases seq_cases e with e | e
  · obtain ⟨l, vs, rfl, z, h1⟩ := lst_at s.sub r e
    rw [dhL_ints h1] at z
    exact .inl ⟨l, ns, rfl, SqL.of z, k _ _ _ _ q (s.flat rfl)⟩
  · obtain ⟨l, vs, rfl, _, z, h1⟩ := tup_at s.sub r e
    rw [dhL_ints h1] at z
    exact .inr ⟨l, ns, rfl, SqT.of z, k _ _ _ _ q (s.flat rfl)⟩
def minI : List Int → Int
  | [] => 0
  | n :: ns => ns.foldl min n
def maxI : List Int → Int
  | [] => 0
  | n :: ns => ns.foldl max n
theorem foldl_min : ∀ (ns : List Int) (n : Int), ns.foldl min n ≤ n ∧ (∀ y ∈ ns, ns.foldl min n ≤ y) ∧ (ns.foldl min n = n ∨ ns.foldl min n ∈ ns)
  | [], n => ⟨Int.le_refl _, fun y h => (nomatch h), .inl rfl⟩
  | m :: ns, n => by
    obtain ⟨h1, h2, h3⟩ := foldl_min ns (min n m)
    rw [List.foldl_cons]
    refine ⟨by omega, fun y hy => ?_, ?_⟩
    · rcases List.mem_cons.mp hy with e | hy
      · omega
      · exact h2 y hy
    · rcases h3 with h3 | h3
      · rw [h3]
        by_cases c : n ≤ m
        · exact .inl (by omega)
        · exact .inr (by rw [show min n m = m by omega]; exact List.mem_cons_self)
      · exact .inr (List.mem_cons_of_mem _ h3)
theorem foldl_max : ∀ (ns : List Int) (n : Int), n ≤ ns.foldl max n ∧ (∀ y ∈ ns, y ≤ ns.foldl max n) ∧ (ns.foldl max n = n ∨ ns.foldl max n ∈ ns)
  | [], n => ⟨Int.le_refl _, fun y h => (nomatch h), .inl rfl⟩
  | m :: ns, n => by
    obtain ⟨h1, h2, h3⟩ := foldl_max ns (max n m)
    rw [List.foldl_cons]
    refine ⟨by omega, fun y hy => ?_, ?_⟩
    · rcases List.mem_cons.mp hy with e | hy
      · omega
      · exact h2 y hy
    · rcases h3 with h3 | h3
      · rw [h3]
        by_cases c : m ≤ n
        · exact .inl (by omega)
        · exact .inr (by rw [show max n m = m by omega]; exact List.mem_cons_self)
      · exact .inr (List.mem_cons_of_mem _ h3)
theorem minI_ok {ns : List Int} (h : ns ≠ []) : minI ns ∈ ns ∧ ∀ y ∈ ns, minI ns ≤ y := by
  cases ns with
  | nil => exact absurd rfl h
  | cons n ns =>
    obtain ⟨h1, h2, h3⟩ := foldl_min ns n
    refine ⟨?_, fun y hy => ?_⟩
    · rcases h3 with h3 | h3
      · rw [minI, h3]
        exact List.mem_cons_self
      · exact List.mem_cons_of_mem _ h3
    · rcases List.mem_cons.mp hy with e | hy
      · rw [e]
        exact h1
      · exact h2 y hy
theorem maxI_ok {ns : List Int} (h : ns ≠ []) : maxI ns ∈ ns ∧ ∀ y ∈ ns, y ≤ maxI ns := by
  cases ns with
  | nil => exact absurd rfl h
  | cons n ns =>
    obtain ⟨h1, h2, h3⟩ := foldl_max ns n
    refine ⟨?_, fun y hy => ?_⟩
    · rcases h3 with h3 | h3
      · rw [maxI, h3]
        exact List.mem_cons_self
      · exact List.mem_cons_of_mem _ h3
    · rcases List.mem_cons.mp hy with e | hy
      · rw [e]
        exact h1
      · exact h2 y hy
/-- min, max of a list of ints, of two ints -/
theorem cs_minL (hc : X.calm = true) : CallS X (.builtin "min") (one fun x Q => ∃ ns, lstOf x = some (ns.map .int) ∧ ns ≠ [] ∧ Q (.d (.int (minI ns)))) := by
  refine calls1 (s := fun x Q => ∃ ns, lstOf x = some (ns.map .int) ∧ ns ≠ [] ∧ Q (.d (.int (minI ns)))) (cr_min hc) (fun x Q Q' k h => by obtain ⟨ns, a, b, q⟩ := h; exact ⟨ns, a, b, k _ q⟩) (fun c σ ρ τ B H v x Q' Qv s r ⟨ns, e, ne, q⟩ k => ?_)
  obtain ⟨l, vs, rfl, z, h1⟩ := lst_at s.sub r e
  rw [dhL_ints h1] at z
  refine ⟨l, ns, rfl, SqL.of z, List.length_pos_iff.mpr ne, fun m h2 h3 => ?_⟩
  obtain ⟨h4, h5⟩ := minI_ok ne
  have : m = minI ns := by
    have := h3 _ h4
    have := h5 _ h2
    omega
  exact k _ _ _ _ q (s.flat (by rw [this]; rfl))
theorem cs_maxL (hc : X.calm = true) : CallS X (.builtin "max") (one fun x Q => ∃ ns, lstOf x = some (ns.map .int) ∧ ns ≠ [] ∧ Q (.d (.int (maxI ns)))) := by
  refine calls1 (s := fun x Q => ∃ ns, lstOf x = some (ns.map .int) ∧ ns ≠ [] ∧ Q (.d (.int (maxI ns)))) (cr_max hc) (fun x Q Q' k h => by obtain ⟨ns, a, b, q⟩ := h; exact ⟨ns, a, b, k _ q⟩) (fun c σ ρ τ B H v x Q' Qv s r ⟨ns, e, ne, q⟩ k => ?_)
  obtain ⟨l, vs, rfl, z, h1⟩ := lst_at s.sub r e
  rw [dhL_ints h1] at z
  refine ⟨l, ns, rfl, SqL.of z, List.length_pos_iff.mpr ne, fun m h2 h3 => ?_⟩
  obtain ⟨h4, h5⟩ := maxI_ok ne
  have : m = maxI ns := by
    have := h3 _ h4
    have := h5 _ h2
    omega
  exact k _ _ _ _ q (s.flat (by rw [this]; rfl))
theorem cs_min2 (hc : X.calm = true) : CallS X (.builtin "min") (two (sI0 (fun i j => .int (if j < i then j else i)))) := by
  refine calls2 (s := sI0 (fun i j => .int (if j < i then j else i))) (call_min2 hc) mono_sI0 (fun c σ ρ τ B H v w x y Q' Qv s r1 r2 hs k => ?_)
  obtain ⟨i, j, rfl, rfl, q⟩ := sI0_at hs
  have r1 : v = .int i := r1
  have r2 : w = .int j := r2
  exact ⟨i, j, by rw [r1, r2], k _ _ _ _ q (s.flat rfl)⟩
theorem cs_max2 (hc : X.calm = true) : CallS X (.builtin "max") (two (sI0 (fun i j => .int (if j > i then j else i)))) := by
  refine calls2 (s := sI0 (fun i j => .int (if j > i then j else i))) (call_max2 hc) mono_sI0 (fun c σ ρ τ B H v w x y Q' Qv s r1 r2 hs k => ?_)
  obtain ⟨i, j, rfl, rfl, q⟩ := sI0_at hs
  have r1 : v = .int i := r1
  have r2 : w = .int j := r2
  exact ⟨i, j, by rw [r1, r2], k _ _ _ _ q (s.flat rfl)⟩
def sTuple (x : DV) (Q : DV → Prop) : Prop := match seqOf x with
  | some xs => Q (.d (.tuple xs))
  | none => False
def sList (x : DV) (Q : DV → Prop) : Prop := match seqOf x with
  | some xs => Q (.own xs)
  | none => False
theorem cs_tuple : CallS X (.type "tuple") (one sTuple) := by
  refine calls1 call_tuple_of (fun x Q Q' k h => ?_) (fun c σ ρ τ B H v x Q' Qv s r hs k => ?_)
  · unfold sTuple at h ⊢
    split at h
    · exact k _ h
    · exact h.elim
  · unfold sTuple at hs
    split at hs
    · rename_i xs e
      rcases seq_cases e with e | e
      · obtain ⟨l, vs, rfl, z, h1⟩ := lst_at s.sub r e
        exact ⟨l, vs, rfl, .inl ⟨SqL.of z, fun p np => k _ _ _ _ hs (s.newT np h1)⟩⟩
      · obtain ⟨l, vs, rfl, zb, z, h1⟩ := tup_at s.sub r e
        exact ⟨l, vs, rfl, .inr ⟨SqT.of z, k _ _ _ _ hs (s.flat ⟨l, vs, rfl, zb, h1⟩)⟩⟩
    · exact hs.elim
theorem cs_list : CallS X (.type "list") (one sList) := by
  refine calls1 call_list_of (fun x Q Q' k h => ?_) (fun c σ ρ τ B H v x Q' Qv s r hs k => ?_)
  · unfold sList at h ⊢
    split at h
    · exact k _ h
    · exact h.elim
  · unfold sList at hs
    split at hs
    · rename_i xs e
      obtain ⟨l, vs, rfl, z, h1⟩ := seq_at (K := X.K) s.sub r e
      exact ⟨l, vs, rfl, z, fun p np => k _ _ _ _ hs (s.newOwn np h1)⟩
    · exact hs.elim
theorem cs_sorted : CallS X (.builtin "sorted") (one fun x Q => onInts x fun ns => Q (.own ((srtI ns).map .int))) := by
  refine calls1 (s := fun x Q => onInts x (fun ns => Q (.own ((srtI ns).map .int)))) (callr_or (cr_sortedI (X := X)) (cr_sortedU (X := X))) (fun x Q Q' k h => onInts_mono (fun ns => k _) h) (fun c σ ρ τ B H v x Q' Qv s r hs k => ?_)
  obtain ⟨ns, e, q⟩ := onInts_at hs
  rcases seq_cases e with e | e
  · obtain ⟨l, vs, rfl, z, h1⟩ := lst_at s.sub r e
    rw [dhL_ints h1] at z
    refine .inl ⟨l, ns, rfl, SqL.of z, fun ms p h2 h3 np => ?_⟩
    have : ms = srtI ns := SrtI.eq ⟨h2, h3⟩ (srtI_ok ns)
    rw [this]
    exact k _ _ _ _ q (s.newOwn np (ints_dhL _))
  · obtain ⟨l, vs, rfl, _, z, h1⟩ := tup_at s.sub r e
    rw [dhL_ints h1] at z
    refine .inr ⟨l, ns, rfl, SqT.of z, fun ms p h2 h3 np => ?_⟩
    have : ms = srtI ns := SrtI.eq ⟨h2, h3⟩ (srtI_ok ns)
    rw [this]
    exact k _ _ _ _ q (s.newOwn np (ints_dhL _))
/-- int(b), int(n) -/
def sInt (x : DV) (Q : DV → Prop) : Prop := match x with
  | .d (.int i) => Q (.d (.int i))
  | .d (.bool b) => Q (.d (.int (if b then 1 else 0)))
  | _ => False
/-- isinstance(x, a built-in class) -/
def tyN : PyData → String
  | .none => "NoneType"
  | .bool _ => "bool"
  | .int _ => "int"
  | .str _ => "str"
  | .list _ => "list"
  | .tuple _ => "tuple"
  | .dict _ => "dict"
def isTy (t n : String) : Bool := t == n || (n == "int" && t == "bool")
theorem dh_k7 {B : Hp} {v : V} {d : PyData} (h : Dh B v d) : K7 B v (tyN d) := by
  cases d with
  | none => simp only [Dh] at h; subst h; exact .non
  | bool b => simp only [Dh] at h; subst h; exact .bl b
  | int b => simp only [Dh] at h; subst h; exact .int b
  | str b => simp only [Dh] at h; subst h; exact .str b
  | list b =>
    obtain ⟨a, xs, rfl, z, _⟩ := h
    exact .lst z
  | tuple b =>
    obtain ⟨a, xs, rfl, z, _⟩ := h
    exact .tup z
  | dict b =>
    obtain ⟨_, a, rfl, z⟩ := h
    exact .dict z
def sIsi (x y : DV) (Q : DV → Prop) : Prop := match x, y with
  | .d d, .any (.ty n) => (n = "int" ∨ n = "bool" ∨ n = "tuple" ∨ n = "list" ∨ n = "str") ∧ Q (.d (.bool (isTy (tyN d) n)))
  | .own _, .any (.ty n) => (n = "int" ∨ n = "bool" ∨ n = "tuple" ∨ n = "list" ∨ n = "str") ∧ Q (.d (.bool (isTy "list" n)))
  | .bor _, .any (.ty n) => (n = "int" ∨ n = "bool" ∨ n = "tuple" ∨ n = "list" ∨ n = "str") ∧ Q (.d (.bool (isTy "list" n)))
  | _, _ => False
theorem kit5 {t n : String} (h : t ∈ ["int", "bool", "NoneType", "str", "list", "tuple", "dict"]) (hn : n = "int" ∨ n = "bool" ∨ n = "tuple" ∨ n = "list" ∨ n = "str") : kitB t n = some (isTy t n) := by
  rcases hn with rfl | rfl | rfl | rfl | rfl
  · rw [kb_int h]
    unfold isTy
    rw [show ("int" == "int") = true from rfl, Bool.true_and]
  · rw [kb_bool h]
    unfold isTy
    rw [show ("bool" == "int") = false from rfl, Bool.false_and, Bool.or_false]
  · rw [kb_tuple h]
    unfold isTy
    rw [show ("tuple" == "int") = false from rfl, Bool.false_and, Bool.or_false]
  · rw [kb_list h]
    unfold isTy
    rw [show ("list" == "int") = false from rfl, Bool.false_and, Bool.or_false]
  · rw [kb_str h]
    unfold isTy
    rw [show ("str" == "int") = false from rfl, Bool.false_and, Bool.or_false]
theorem cs_isi : CallS X (.builtin "isinstance") (two sIsi) := by
  refine calls2 call_isi (fun x y Q Q' k h => ?_) (fun c σ ρ τ B H v w x y Q' Qv s r1 r2 hs k => ?_)
  · unfold sIsi at h ⊢
    split at h
    · exact ⟨h.1, k _ h.2⟩
    · exact ⟨h.1, k _ h.2⟩
    · exact ⟨h.1, k _ h.2⟩
    · exact h.elim
  · have go : ∀ {t n : String}, K7 H v t → w = .ty n → (n = "int" ∨ n = "bool" ∨ n = "tuple" ∨ n = "list" ∨ n = "str") → Q' (.d (.bool (isTy t n))) → rIsi X.K [v, w] H Qv := fun {t n} k7 ew hn q => by
      subst ew
      exact ⟨v, .ty n, .type t, .type n, _, rfl, .ty _, k7.ty, kit_ty (kit5 k7.mem hn), k _ _ _ _ q (s.flat rfl)⟩
    unfold sIsi at hs
    split at hs
    · rename_i d n
      exact go ((dh_k7 (show Dh B v d from r1)).keep s.sub) r2 hs.1 hs.2
    · rename_i ys n
      obtain ⟨l, vs, rfl, z, _⟩ := lst_at (x := .own ys) s.sub r1 rfl
      exact go (.lst z) r2 hs.1 hs.2
    · rename_i ys n
      obtain ⟨l, vs, rfl, z, _⟩ := lst_at (x := .bor ys) s.sub r1 rfl
      exact go (.lst z) r2 hs.1 hs.2
    · exact hs.elim
theorem cs_int : CallS X (.type "int") (one sInt) := by
  refine calls1 call_int1 (fun x Q Q' k h => ?_) (fun c σ ρ τ B H v x Q' Qv s r hs k => ?_)
  · unfold sInt at h ⊢
    split at h
    · exact k _ h
    · exact k _ h
    · exact h.elim
  · unfold sInt at hs
    split at hs
    · rename_i i
      have r : v = .int i := r
      exact .inl ⟨i, by rw [r], k _ _ _ _ hs (s.flat rfl)⟩
    · rename_i b
      have r : v = .bl b := r
      refine .inr ⟨b, by rw [r], k _ _ _ _ hs (s.flat ?_)⟩
      cases b <;> rfl
    · exact hs.elim
def sNeg (x : DV) (Q : DV → Prop) : Prop := match x with
  | .d (.int i) => Q (.d (.int (-i)))
  | _ => False
def tdNeg (t : TD) : TD := fun ρ Q Z => t ρ (fun x ρ1 => isInt (fun i => Q (.d (.int (-i))) ρ1) x) Z
theorem pd_neg {c : DC} {E : EZ} {e : Expr} {t : TD} {pos : Pos} (h : PDE c E X e t) : PDE c E X (.UnaryOp .USub e pos) (tdNeg t) := by
  refine ⟨pe_wk (pe_un un_neg h.pe) fun σ H Q ⟨ρ, τ, B, s, q⟩ => ⟨ρ, τ, B, s, h.mono _ _ _ _ (fun x ρ1 hx v H' B' s' => ?_) q⟩, fun ρ Q Q' Z k q => h.mono _ _ _ _ (fun x r hx => isInt_mono (fun i hi => k _ _ hi) hx) q⟩
  obtain ⟨i, rfl, hi⟩ := isInt_at hx
  exact ⟨i, s'.topR, hi _ H' B' (s'.pop.flat rfl)⟩
end
end DL
set_option Elab.async false
set_option linter.all false
set_option maxRecDepth 100000
set_option maxHeartbeats 4000000
/-! zip of two tuples -/
namespace XV
open PySem PySem.Spec PyProof.Rows L2
/-- the tuples at a and b, the items in new pairs -/
def IzLT (K : PySem.W.Frag) (a b : Addr) : It :=
  ⟨fun i H => ∃ (xs ys : List V) (x y : V), SqL K H a xs ∧ SqT K H b ys ∧ xs[i]? = some x ∧ ys[i]? = some y, fun i H v H' => ∃ T x y, v = .ref T ∧ H T = none ∧ H' = upd H T (.tup [x, y]) ∧ (∀ xs, SqL K H a xs → xs[i]? = some x) ∧ ∀ ys, SqT K H b ys → ys[i]? = some y,
    fun i H => ∃ xs ys : List V, SqL K H a xs ∧ SqT K H b ys ∧ i ≤ xs.length ∧ i ≤ ys.length ∧ (i = xs.length ∨ i = ys.length)⟩
theorem turn_zipLT {P : Program} {w : World} {K : PySem.W.Frag} {elts : List Expr} {kk : Nat} {tpos : Pos} {a b z TI TO i1 i2 : Addr} (S : ZipSep2 z TI TO i1 i2 [i1, a] [i2, b]) (ia : a ≠ i1) (ib : b ≠ i2) :
    Turn P w K (.Tuple elts kk tpos) (IzLT K a b) [z, TI, TO, i1, i2] z (fun i h => IsZip h z TI TO .none ∧ IsTupOf2 h TI (.ref i1) (.ref i2) ∧ (∃ x y, IsTupOf2 h TO x y) ∧ h.IsListIter i1 a i ∧ h.IsTupleIter i2 b i) := by
  have five : ∀ {c : Addr}, c ∈ [z, TI, TO, i1, i2] → c = z ∨ c = TI ∨ c = TO ∨ c = i1 ∨ c = i2 := fun hc => by simpa using hc
  refine ⟨List.mem_cons_self, fun i h st c hc => ?_, fun i h h' st k => ?_, ?_, ?_, fun A i s Q E st h => wpAny_pyIter_zip st.1 h⟩
  · obtain ⟨hz, hTI, ⟨x, y, hTO⟩, ⟨o1, e1, _, d1⟩, ⟨o2, e2, _, d2⟩⟩ := st
    rcases five hc with q | q | q | q | q <;> rw [q]
    · exact ⟨_, hz, fun v q => nomatch q⟩
    · exact ⟨_, hTI, fun v q => nomatch q⟩
    · exact ⟨_, hTO, fun v q => nomatch q⟩
    · exact ⟨o1, e1, fun v q => by rw [d1] at q; cases q⟩
    · exact ⟨o2, e2, fun v q => by rw [d2] at q; cases q⟩
  · obtain ⟨hz, hTI, ⟨x, y, hTO⟩, h1, h2⟩ := st
    exact ⟨k z (by simp) _ hz, k TI (by simp) _ hTI, ⟨x, y, k TO (by simp) _ hTO⟩, h1.at fun o q => k i1 (by simp) o q, h2.at fun o q => k i2 (by simp) o q⟩
  · intro X hP hw hK hc i pins s σ H E I hf st hg
    subst hP hw hK
    obtain ⟨hz, hTI, ⟨x0, y0, hTO⟩, h1, h2⟩ := st
    obtain ⟨xs, ys, x, y, hqx, hqy, hx, hy⟩ := hg
    obtain ⟨its, rv, p, _⟩ := I.list hqx
    obtain ⟨its2, rv2, p2, _⟩ := I.tuple hqy
    obtain ⟨u, hu, ru⟩ := rv.get hx
    obtain ⟨u2, hu2, ru2⟩ := rv2.get hy
    have ltz : z < s.heap.objs.size := Heap.lt_size hz
    have hi1 : i < its.toArray.size := by
      have := (List.getElem?_eq_some_iff.mp hu).1
      simpa using this
    have hi2 : i < its2.toArray.size := by
      have := (List.getElem?_eq_some_iff.mp hu2).1
      simpa using this
    have D1 := Draws.list (prog := X.prog) (w := X.w) (A := X.A.in1) (I.ok.hd hc) i1 a ia its.toArray
    have D2 := Draws.tuple (prog := X.prog) (w := X.w) (A := X.A.in1) (I.ok.hd hc) i2 b ib its2.toArray
    refine wpAny_pyNext_zipD2_item S D1 D2 hz hTI hTO ⟨h1, p.isList⟩ ⟨h2, (show s.heap.IsTuple b its2.toArray from p2)⟩ hi1 hi2 fun v1 v2 hp tk e1 e2 z' TO' st1 st2 hT hsz hk => ?_
    obtain rfl : v1 = u := by
      have e1' : its.toArray[i]? = some v1 := e1
      rw [List.getElem?_toArray, hu] at e1'
      exact (Option.some.inj e1').symm
    obtain rfl : v2 = u2 := by
      have e2' : its2.toArray[i]? = some v2 := e2
      rw [List.getElem?_toArray, hu2] at e2'
      exact (Option.some.inj e2').symm
    refine ⟨_, rfl, wpAny_letOwnedTupleGo_zip (s := { s with heap := hp, toks := tk }) z' fun hq z'' sb => ?_⟩
    have hT2 : hq.get? s.heap.objs.size = some { cls := .type "tuple", data := .seq #[v1, v2] } := (sb.2 _ (Nat.ne_of_gt ltz)).trans hT
    have I1 : Inv X pins σ (upd H s.heap.objs.size (.tup [x, y])) { s with heap := hq, toks := tk } :=
      I.turnedNew (t' := tk) (ch := [z, TI, TO, i1, i2]) (fun c o hb q => (sb.2 c (fun q' => hb (by simp [q']))).trans (hk c o (fun q' => hb (by simp [q'])) (fun q' => hb (by simp [q'])) (fun q' => hb (by simp [q'])) (fun q' => hb (by simp [q'])) q)) hf (Nat.le_refl _)
        ⟨by show 2 ≤ sizeLine; decide, [v1, v2], .cons ru (.cons ru2 .nil), ⟨_, hT2, rfl, _, rfl⟩⟩
    refine ⟨.ref s.heap.objs.size, _, I1, rfl, ⟨_, x, y, rfl, I.hok.fresh (Nat.le_refl _), rfl, fun l hl => by rw [I.list_inj hl hqx]; exact hx, fun l hl => by rw [I.tuple_inj hl hqy]; exact hy⟩, ⟨z'', ?_, ⟨v1, v2, ?_⟩, ?_, ?_⟩, fun c hcm => ?_⟩
    · exact (sb.2 _ S.TIz).trans (hk _ _ S.TIz S.TITO S.TIi1 S.TIi2 hTI)
    · exact (sb.2 _ S.TOz).trans TO'
    · exact st1.1.at fun o q => (sb.2 _ (Ne.symm S.zi1)).trans q
    · exact st2.1.at fun o q => (sb.2 _ (Ne.symm S.zi2)).trans q
    · have lt : c < s.heap.objs.size := by
        rcases five hcm with q | q | q | q | q <;> rw [q]
        · exact ltz
        · exact Heap.lt_size hTI
        · exact Heap.lt_size hTO
        · obtain ⟨_, e1, _⟩ := h1
          exact Heap.lt_size e1
        · obtain ⟨_, e2, _⟩ := h2
          exact Heap.lt_size e2
      rw [upd_ne (Nat.ne_of_lt lt)]
      exact (hf c hcm).1
  · intro X hP hw hK hc i pins s σ H E I hf st hg
    subst hP hw hK
    obtain ⟨hz, hTI, ⟨x0, y0, hTO⟩, h1, h2⟩ := st
    obtain ⟨xs, ys, hqx, hqy, l1, l2, hend⟩ := hg
    obtain ⟨its, rv, p, _⟩ := I.list hqx
    obtain ⟨its2, rv2, p2, _⟩ := I.tuple hqy
    have s1 : its.toArray.size = xs.length := by rw [List.size_toArray, rv.length]
    have s2 : its2.toArray.size = ys.length := by rw [List.size_toArray, rv2.length]
    have D1 := Draws.list (prog := X.prog) (w := X.w) (A := X.A.in1) (I.ok.hd hc) i1 a ia its.toArray
    have D2 := Draws.tuple (prog := X.prog) (w := X.w) (A := X.A.in1) (I.ok.hd hc) i2 b ib its2.toArray
    exact wpAny_pyNext_zipD2_end S D1 D2 hz hTI hTO ⟨h1, p.isList⟩ ⟨h2, (show s.heap.IsTuple b its2.toArray from p2)⟩ (by omega) (by omega) (by omega) fun h' tk hk => ⟨rfl, I.turnedL (t' := tk) (ch := [z, TI, TO, i1, i2]) (fun c o hb q =>
      hk c o (fun q' => hb (by simp [q'])) (fun q' => hb (by simp [q'])) (fun q' => hb (by simp [q'])) (fun q' => hb (by simp [q'])) q) hf⟩
def iZipLT (K : PySem.W.Frag) (ta : TA) : TI := fun σ H R => ta σ H fun vs H1 => ∃ a b xs ys, vs = [.ref a, .ref b] ∧ SqL K H1 a xs ∧ SqT K H1 b ys ∧ R (IzLT K a b) H1
theorem pi_zipLT {X : Cx} {e e2 : Expr} {ta : TA} {p pos tpos : Pos} {elts : List Expr} {kk : Nat} (hg : Gl X "zip") (hm : X.mg "zip" = none) (ha : PA X [e, e2] ta)
    (hs : starEach [e, e2] X.env = (false, eval e X.env) :: starEach [e2] X.env := by rfl) (hpl : (backTo pos (starEach [e2] X.env)).any (·.1) = false := by rfl) :
    PI X (.Tuple elts kk tpos) (.Call (.Name "zip" p) [e, e2] [] pos) (iZipLT X.K ta) := by
  refine ⟨fun pins s σ H R I h => ?_⟩
  refine Call_ (ld_blt I hg hm PyProof.Rows.boot_zip (PyProof.Rows.callWith_type1 (thn (ha.run pos pins s σ H _ I h) fun us s1 ⟨vs, H1, I1, r1, q1⟩ => ?_) hs hpl))
  obtain ⟨a, b, xs, ys, rfl, hqx, hqy, q⟩ := q1
  obtain ⟨u1, u2, rfl, ra, rb⟩ := vals2 r1
  obtain rfl : u1 = Value.ref a := ra
  obtain rfl : u2 = Value.ref b := rb
  obtain ⟨its, rv, p1, _⟩ := I1.list hqx
  obtain ⟨its2, rv2, p2, _⟩ := I1.tuple hqy
  have pa := p1.isList
  have la : a < s1.heap.objs.size := let ⟨_, e, _⟩ := pa; Heap.lt_size e
  have pb : s1.heap.IsTuple b its2.toArray := p2
  have lb : b < s1.heap.objs.size := let ⟨_, e, _⟩ := pb; Heap.lt_size e
  refine zip_begins2 (begins_list a its.toArray) (begins_tuple b its2.toArray) pa pb fun h' hz hTI hTO g1 g2 hsz hk => wpAny_pyIter_zip hz ?_
  have S := zip_sep2 (N := s1.heap.objs.size) (fp1 := [a]) (fp2 := [b]) (fun c hc => by rw [List.mem_singleton.mp hc]; exact la) fun c hc => by rw [List.mem_singleton.mp hc]; exact lb
  refine ⟨_, [s1.heap.objs.size + 4, s1.heap.objs.size + 2, s1.heap.objs.size + 3, s1.heap.objs.size, s1.heap.objs.size + 1], _, _, H1, rfl, I1.kept (t' := s1.toks) hk, turn_zipLT S (Nat.ne_of_lt la) (Nat.ne_of_lt (Nat.lt_succ_of_lt lb)), ⟨hz, hTI, ⟨_, _, hTO⟩, ⟨_, g1, rfl, rfl⟩, ⟨_, g2, rfl, rfl⟩⟩, fun c hcm => ?_, q⟩
  have le : s1.heap.objs.size ≤ c := by
    have z : c = s1.heap.objs.size + 4 ∨ c = s1.heap.objs.size + 2 ∨ c = s1.heap.objs.size + 3 ∨ c = s1.heap.objs.size ∨ c = s1.heap.objs.size + 1 := by simpa using hcm
    rcases z with z | z | z | z | z <;> rw [z] <;> first | exact Nat.le_add_right _ _ | exact Nat.le_refl _
  exact I1.fpOk le (I1.hok.fresh le)
theorem walk_zipLT {K : PySem.W.Frag} {a b : Addr} {xs ys : List V} {n : Nat} (e1 : xs.length = n) (e2 : ys.length = n) : Walk (IzLT K a b) n (fun H => SqL K H a xs ∧ SqT K H b ys) (YPair (fun i => xs[i]?) (fun i => ys[i]?)) :=
  ⟨fun i _ hi q => ⟨xs, ys, xs[i]'(by omega), ys[i]'(by omega), q.1, q.2, List.getElem?_eq_getElem _, List.getElem?_eq_getElem _⟩, fun _ q => ⟨xs, ys, q.1, q.2, by omega, by omega, by omega⟩, fun i H v H' _ q ⟨T, x, y, h1, h2, h3, h4, h5⟩ => ⟨T, x, y, h1, h2, h3, h4 xs q.1, h5 ys q.2⟩⟩
end XV
set_option Elab.async false
set_option linter.all false
set_option maxRecDepth 100000
set_option maxHeartbeats 4000000
/-! what is walked; targets; statements; loops; comprehensions, over data -/
namespace DL
open PySem PySem.Spec PyProof.Rows L2 XV SL
abbrev Tmp := List (Option V × DV)
structure Wk (J : It) (ds : List PyData) (ps : List (V × PyData)) : Prop where
  go : ∀ i H B, i < ds.length → (∀ p ∈ ps, Dh B p.1 p.2) → Same B H → J.go i H
  stop : ∀ H B, (∀ p ∈ ps, Dh B p.1 p.2) → Same B H → J.stop ds.length H
  yld : ∀ i H x H' B, i < ds.length → (∀ p ∈ ps, Dh B p.1 p.2) → Same B H → J.yld i H x H' → ∃ B2 d, Same B B2 ∧ Same B2 H' ∧ Same H H' ∧ (∀ b o, B2 b = some o → B b = some o ∨ H b = none) ∧ (∀ b o, H' b = some o → H b = some o ∨ B2 b = some o) ∧ ds[i]? = some d ∧ Dh B2 x d
theorem wk_list {K : PySem.W.Frag} {a : Addr} {ds : List PyData} : Wk (Itl K a) ds [(.ref a, .list ds)] := by
  have at_ : ∀ {B H : Hp}, (∀ p ∈ [(V.ref a, PyData.list ds)], Dh B p.1 p.2) → Same B H → ∃ xs, H a = some (.lst xs) ∧ DhL B xs ds := fun h s => by
    obtain ⟨a', xs, e, z, r⟩ := h _ List.mem_cons_self
    cases e
    exact ⟨xs, s _ _ z, r⟩
  refine ⟨fun i H B hi h s => ?_, fun H B h s => ?_, fun i H x H' B hi h s y => ?_⟩
  · obtain ⟨xs, z, r⟩ := at_ h s
    exact (walk_list (K := K) (a := a) (xs := xs)).goes i H (by rw [dhL_len r]; exact hi) (SqL.of z)
  · obtain ⟨xs, z, r⟩ := at_ h s
    have q := (walk_list (K := K) (a := a) (xs := xs)).stops H (SqL.of z)
    rw [dhL_len r] at q
    exact q
  · obtain ⟨xs, z, r⟩ := at_ h s
    obtain ⟨rfl, e⟩ := (walk_list (K := K) (a := a) (xs := xs)).yields i H x H' (by rw [dhL_len r]; exact hi) (SqL.of z) y
    obtain ⟨d, e1, e2⟩ := dhL_get' r e
    exact ⟨B, d, Same.refl _, s, Same.refl _, fun b o q => .inl q, fun b o q => .inl q, e1, e2⟩
theorem wk_tup {K : PySem.W.Frag} {a : Addr} {ds : List PyData} : Wk (Itt K a) ds [(.ref a, .tuple ds)] := by
  have at_ : ∀ {B H : Hp}, (∀ p ∈ [(V.ref a, PyData.tuple ds)], Dh B p.1 p.2) → Same B H → ∃ xs, H a = some (.tup xs) ∧ DhL B xs ds := fun h s => by
    obtain ⟨a', xs, e, z, r⟩ := h _ List.mem_cons_self
    cases e
    exact ⟨xs, s _ _ z, r⟩
  refine ⟨fun i H B hi h s => ?_, fun H B h s => ?_, fun i H x H' B hi h s y => ?_⟩
  · obtain ⟨xs, z, r⟩ := at_ h s
    exact (walk_tup (K := K) (a := a) (xs := xs)).goes i H (by rw [dhL_len r]; exact hi) (SqT.of z)
  · obtain ⟨xs, z, r⟩ := at_ h s
    have q := (walk_tup (K := K) (a := a) (xs := xs)).stops H (SqT.of z)
    rw [dhL_len r] at q
    exact q
  · obtain ⟨xs, z, r⟩ := at_ h s
    obtain ⟨rfl, e⟩ := (walk_tup (K := K) (a := a) (xs := xs)).yields i H x H' (by rw [dhL_len r]; exact hi) (SqT.of z) y
    obtain ⟨d, e1, e2⟩ := dhL_get' r e
    exact ⟨B, d, Same.refl _, s, Same.refl _, fun b o q => .inl q, fun b o q => .inl q, e1, e2⟩
/-- a new pair -/
theorem pair_new {B H : Hp} {T : Addr} {x y : V} {d e : PyData} (n : H T = none) (s : Same B H) (h1 : Dh B x d) (h2 : Dh B y e) : ∃ B2, Same B B2 ∧ Same B2 (upd H T (.tup [x, y])) ∧ Same H (upd H T (.tup [x, y])) ∧ (∀ b o, B2 b = some o → B b = some o ∨ H b = none) ∧ (∀ b o, upd H T (.tup [x, y]) b = some o → H b = some o ∨ B2 b = some o) ∧ Dh B2 (.ref T) (.tuple [d, e]) := by
  have nB : B T = none := by
    cases q : B T with
    | none => rfl
    | some o =>
      have := s _ _ q
      rw [n] at this
      cases this
  refine ⟨upd B T (.tup [x, y]), same_upd nB, fun b o z => ?_, same_upd n, fun b o z => ?_, fun b o z => ?_, T, [x, y], rfl, upd_same, dhL_cons (Dh.keep (same_upd nB) _ _ h1) (dhL_cons (Dh.keep (same_upd nB) _ _ h2) rfl)⟩
  · by_cases e : b = T
    · subst e
      rw [upd_same] at z ⊢
      exact z
    · rw [upd_ne e] at z ⊢
      exact s _ _ z
  · by_cases e : b = T
    · subst e
      exact .inr n
    · rw [upd_ne e] at z
      exact .inl z
  · by_cases e : b = T
    · subst e
      rw [upd_same] at z ⊢
      exact .inr z
    · rw [upd_ne e] at z
      exact .inl z
def enumD (ds : List PyData) : List PyData := ds.zipIdx.map fun p => .tuple [.int (p.2 : Int), p.1]
theorem enumD_len (ds : List PyData) : (enumD ds).length = ds.length := by
  unfold enumD
  rw [List.length_map, List.length_zipIdx]
theorem enumD_get {ds : List PyData} {i : Nat} {d : PyData} (h : ds[i]? = some d) : (enumD ds)[i]? = some (.tuple [.int (i : Int), d]) := by
  unfold enumD
  rw [List.getElem?_map, List.getElem?_zipIdx, h]
  simp
theorem wk_pairs {J : It} {ds : List PyData} {ps : List (V × PyData)} {n : Nat} (hn : n = ds.length)
    (w : ∀ (B H : Hp), (∀ p ∈ ps, Dh B p.1 p.2) → Same B H → ∃ (G : Hp → Prop) (f g : Nat → Option V), G H ∧ Walk J n G (YPair f g) ∧ ∀ i x y, f i = some x → g i = some y → i < n → ∃ d e, Dh B x d ∧ Dh B y e ∧ ds[i]? = some (.tuple [d, e])) : Wk J ds ps := by
  subst hn
  refine ⟨fun i H B hi h s => ?_, fun H B h s => ?_, fun i H x H' B hi h s y => ?_⟩
  · obtain ⟨G, f, g, hG, W, _⟩ := w B H h s
    exact W.goes i H hi hG
  · obtain ⟨G, f, g, hG, W, _⟩ := w B H h s
    exact W.stops H hG
  · obtain ⟨G, f, g, hG, W, k⟩ := w B H h s
    obtain ⟨T, x1, x2, rfl, nT, rfl, g1, g2⟩ := W.yields i H x H' hi hG y
    obtain ⟨d, e, h1, h2, h3⟩ := k i x1 x2 g1 g2 hi
    obtain ⟨B2, s1, s2, s3, nw, nt, hd⟩ := pair_new nT s h1 h2
    exact ⟨B2, _, s1, s2, s3, nw, nt, h3, hd⟩
theorem wk_enum {K : PySem.W.Frag} {a : Addr} {ds : List PyData} : Wk (Ite K a) (enumD ds) [(.ref a, .list ds)] := by
  refine wk_pairs (n := ds.length) (enumD_len ds).symm fun B H h s => ?_
  obtain ⟨a', xs, e, z, r⟩ := h _ List.mem_cons_self
  cases e
  have w := walk_enum (K := K) (a := a) (xs := xs)
  rw [dhL_len r] at w
  refine ⟨_, _, _, SqL.of (s _ _ z), w, fun i x y e1 e2 hi => ?_⟩
  obtain ⟨d, q1, q2⟩ := dhL_get' r e2
  cases e1
  exact ⟨.int i, d, rfl, q2, enumD_get q1⟩
theorem wk_enumT {K : PySem.W.Frag} {a : Addr} {ds : List PyData} : Wk (IteT K a) (enumD ds) [(.ref a, .tuple ds)] := by
  refine wk_pairs (n := ds.length) (enumD_len ds).symm fun B H h s => ?_
  obtain ⟨a', xs, e, z, r⟩ := h _ List.mem_cons_self
  cases e
  have w := walk_enumT (K := K) (a := a) (xs := xs)
  rw [dhL_len r] at w
  refine ⟨_, _, _, SqT.of (s _ _ z), w, fun i x y e1 e2 hi => ?_⟩
  obtain ⟨d, q1, q2⟩ := dhL_get' r e2
  cases e1
  exact ⟨.int i, d, rfl, q2, enumD_get q1⟩
def zipD (ds es : List PyData) : List PyData := (ds.zip es).map fun p => .tuple [p.1, p.2]
theorem zipD_get {ds es : List PyData} {i : Nat} {d e : PyData} (h : ds[i]? = some d) (k : es[i]? = some e) : (zipD ds es)[i]? = some (.tuple [d, e]) := by
  unfold zipD
  have z : (ds.zip es)[i]? = some (d, e) := List.getElem?_zip_eq_some.mpr ⟨h, k⟩
  rw [List.getElem?_map, z]
  rfl
theorem wk_zip {K : PySem.W.Frag} {a b : Addr} {ds es : List PyData} (hl : ds.length = es.length) : Wk (Itz K a b) (zipD ds es) [(.ref a, .list ds), (.ref b, .list es)] := by
  refine wk_pairs (n := ds.length) (by unfold zipD; rw [List.length_map, List.length_zip]; omega) fun B H h s => ?_
  obtain ⟨a', xs, e, z, r⟩ := h _ List.mem_cons_self
  cases e
  obtain ⟨b', ys, e, z', r'⟩ := h _ (List.mem_cons_of_mem _ List.mem_cons_self)
  cases e
  have e1 := dhL_len r
  have e2 := dhL_len r'
  refine ⟨_, _, _, ⟨SqL.of (s _ _ z), SqL.of (s _ _ z')⟩, walk_zip (K := K) (a := a) (b := b) (xs := xs) (ys := ys) (by omega), fun i x y e1 e2 hi => ?_⟩
  obtain ⟨d, q1, q2⟩ := dhL_get' r e1
  obtain ⟨d', q1', q2'⟩ := dhL_get' r' e2
  exact ⟨d, d', q2, q2', zipD_get q1 q1'⟩
theorem wk_zipTT {K : PySem.W.Frag} {a b : Addr} {ds es : List PyData} (hl : ds.length = es.length) : Wk (IzTT K a b) (zipD ds es) [(.ref a, .tuple ds), (.ref b, .tuple es)] := by
  refine wk_pairs (n := ds.length) (by unfold zipD; rw [List.length_map, List.length_zip]; omega) fun B H h s => ?_
  obtain ⟨a', xs, e, z, r⟩ := h _ List.mem_cons_self
  cases e
  obtain ⟨b', ys, e, z', r'⟩ := h _ (List.mem_cons_of_mem _ List.mem_cons_self)
  cases e
  have e1 := dhL_len r
  have e2 := dhL_len r'
  refine ⟨_, _, _, ⟨SqT.of (s _ _ z), SqT.of (s _ _ z')⟩, walk_zipTT (K := K) (a := a) (b := b) (xs := xs) (ys := ys) (by omega) (by omega), fun i x y e1 e2 hi => ?_⟩
  obtain ⟨d, q1, q2⟩ := dhL_get' r e1
  obtain ⟨d', q1', q2'⟩ := dhL_get' r' e2
  exact ⟨d, d', q2, q2', zipD_get q1 q1'⟩
theorem wk_zipTL {K : PySem.W.Frag} {a b : Addr} {ds es : List PyData} (hl : ds.length = es.length) : Wk (IzTL K a b) (zipD ds es) [(.ref a, .tuple ds), (.ref b, .list es)] := by
  refine wk_pairs (n := ds.length) (by unfold zipD; rw [List.length_map, List.length_zip]; omega) fun B H h s => ?_
  obtain ⟨a', xs, e, z, r⟩ := h _ List.mem_cons_self
  cases e
  obtain ⟨b', ys, e, z', r'⟩ := h _ (List.mem_cons_of_mem _ List.mem_cons_self)
  cases e
  have e1 := dhL_len r
  have e2 := dhL_len r'
  refine ⟨_, _, _, ⟨SqT.of (s _ _ z), SqL.of (s _ _ z')⟩, walk_zipTL (K := K) (a := a) (b := b) (xs := xs) (ys := ys) (by omega) (by omega), fun i x y e1 e2 hi => ?_⟩
  obtain ⟨d, q1, q2⟩ := dhL_get' r e1
  obtain ⟨d', q1', q2'⟩ := dhL_get' r' e2
  exact ⟨d, d', q2, q2', zipD_get q1 q1'⟩
theorem wk_zipLT {K : PySem.W.Frag} {a b : Addr} {ds es : List PyData} (hl : ds.length = es.length) : Wk (IzLT K a b) (zipD ds es) [(.ref a, .list ds), (.ref b, .tuple es)] := by
  refine wk_pairs (n := ds.length) (by unfold zipD; rw [List.length_map, List.length_zip]; omega) fun B H h s => ?_
  obtain ⟨a', xs, e, z, r⟩ := h _ List.mem_cons_self
  cases e
  obtain ⟨b', ys, e, z', r'⟩ := h _ (List.mem_cons_of_mem _ List.mem_cons_self)
  cases e
  have e1 := dhL_len r
  have e2 := dhL_len r'
  refine ⟨_, _, _, ⟨SqL.of (s _ _ z), SqT.of (s _ _ z')⟩, walk_zipLT (K := K) (a := a) (b := b) (xs := xs) (ys := ys) (by omega) (by omega), fun i x y e1 e2 hi => ?_⟩
  obtain ⟨d, q1, q2⟩ := dhL_get' r e1
  obtain ⟨d', q1', q2'⟩ := dhL_get' r' e2
  exact ⟨d, d', q2, q2', zipD_get q1 q1'⟩
def rngD (lo : Int) (n : Nat) (c : Int) : List PyData := (List.range n).map fun (i : Nat) => .int (lo + (i : Int) * c)
theorem rngD_get {lo c : Int} {n i : Nat} (h : i < n) : (rngD lo n c)[i]? = some (.int (lo + (i : Int) * c)) := by
  unfold rngD
  rw [List.getElem?_map, List.getElem?_range h]
  rfl
theorem rngD_len {lo c : Int} {n : Nat} : (rngD lo n c).length = n := by
  unfold rngD
  rw [List.length_map, List.length_range]
theorem wk_range {lo : Int} {n : Nat} : Wk (Itr lo n) (rngD lo n 1) [] := by
  have w := walk_range (lo := lo) (n := n)
  refine ⟨fun i H B hi h s => w.goes i H (by rwa [rngD_len] at hi) trivial, fun H B h s => ?_, fun i H x H' B hi h s y => ?_⟩
  · rw [rngD_len]
    exact w.stops H trivial
  · rw [rngD_len] at hi
    obtain ⟨rfl, rfl⟩ := w.yields i H x H' hi trivial y
    refine ⟨B, _, Same.refl _, s, Same.refl _, fun b o q => .inl q, fun b o q => .inl q, rngD_get hi, ?_⟩
    rw [Int.mul_one]
    rfl
theorem wk_rangeC {lo c : Int} {n : Nat} : Wk (Itc lo c n) (rngD lo n c) [] := by
  have w := walk_rangeC (lo := lo) (c := c) (n := n)
  refine ⟨fun i H B hi h s => w.goes i H (by rwa [rngD_len] at hi) trivial, fun H B h s => ?_, fun i H x H' B hi h s y => ?_⟩
  · rw [rngD_len]
    exact w.stops H trivial
  · rw [rngD_len] at hi
    obtain ⟨rfl, rfl⟩ := w.yields i H x H' hi trivial y
    exact ⟨B, _, Same.refl _, s, Same.refl _, fun b o q => .inl q, fun b o q => .inl q, rngD_get hi, rfl⟩
theorem wk_rev {K : PySem.W.Frag} {a : Addr} {ds : List PyData} {n : Nat} (hn : n = ds.length) : Wk (Itv K a n) ds.reverse [(.ref a, .list ds)] := by
  subst hn
  have at_ : ∀ {B H : Hp}, (∀ p ∈ [(V.ref a, PyData.list ds)], Dh B p.1 p.2) → Same B H → ∃ xs, H a = some (.lst xs) ∧ DhL B xs ds ∧ xs.length = ds.length := fun h s => by
    obtain ⟨a', xs, e, z, r⟩ := h _ List.mem_cons_self
    cases e
    exact ⟨xs, s _ _ z, r, dhL_len r⟩
  refine ⟨fun i H B hi h s => ?_, fun H B h s => ?_, fun i H x H' B hi h s y => ?_⟩
  · obtain ⟨xs, z, r, e⟩ := at_ h s
    rw [List.length_reverse] at hi
    have w := walk_rev (K := K) (a := a) (xs := xs)
    rw [e] at w
    exact w.goes i H hi (SqL.of z)
  · obtain ⟨xs, z, r, e⟩ := at_ h s
    have w := walk_rev (K := K) (a := a) (xs := xs)
    rw [e] at w
    rw [List.length_reverse]
    exact w.stops H (SqL.of z)
  · obtain ⟨xs, z, r, e⟩ := at_ h s
    rw [List.length_reverse] at hi
    have w := walk_rev (K := K) (a := a) (xs := xs)
    rw [e] at w
    obtain ⟨rfl, q⟩ := w.yields i H x H' hi (SqL.of z) y
    obtain ⟨d, e1, e2⟩ := dhL_get' r q
    refine ⟨B, d, Same.refl _, s, Same.refl _, fun b o q => .inl q, fun b o q => .inl q, ?_, e2⟩
    rw [List.getElem?_reverse hi]
    exact e1
def keepT (ps : List (V × PyData)) : Tmp := ps.map fun p => (some p.1, .d p.2)
abbrev TDI := Env → (List PyData → Env → Prop) → EZ → Prop
def liftI (c : DC) (E : EZ) (t : TDI) : TI := fun σ H R => ∃ ρ τ B, Sd c σ H ρ τ B ∧ t ρ (fun ds ρ' => ∀ J H' B' ps, Wk J ds ps → Sd c σ H' ρ' (keepT ps ++ τ) B' → R J H') E
structure PDI (c : DC) (E : EZ) (X : Cx) (tg iter : Expr) (t : TDI) : Prop where
  pi : PI X tg iter (liftI c E t)
  mono : ∀ ρ Q Q' Z, (∀ x r, Q x r → Q' x r) → t ρ Q Z → t ρ Q' Z
theorem pi_wk {X : Cx} {tg e : Expr} {t t' : TI} (h : PI X tg e t) (k : ∀ σ H R, t' σ H R → t σ H R) : PI X tg e t' := ⟨fun pins s σ H R I q => h.run pins s σ H R I (k σ H R q)⟩
section
variable {c : DC} {E : EZ} {X : Cx} {tg e e2 : Expr} {te : TD} {ta : TDA}
def lstQ (x : DV) (Q : List PyData → Prop) : Prop := match x with
  | .d (.list ds) => Q ds
  | .own ds => Q ds
  | _ => False
def tupQ (x : DV) (Q : List PyData → Prop) : Prop := match x with
  | .d (.tuple ds) => Q ds
  | _ => False
theorem lstQ_mono {x : DV} {Q Q' : List PyData → Prop} (k : ∀ ds, Q ds → Q' ds) (h : lstQ x Q) : lstQ x Q' := by
  unfold lstQ at h ⊢
  split at h <;> first | exact k _ h | exact h.elim
theorem tupQ_mono {x : DV} {Q Q' : List PyData → Prop} (k : ∀ ds, Q ds → Q' ds) (h : tupQ x Q) : tupQ x Q' := by
  unfold tupQ at h ⊢
  split at h <;> first | exact k _ h | exact h.elim
/-- on top stands a list -/
theorem lstQ_at {σ : L2.St} {H B : Hp} {ρ : Env} {τ : Tmp} {v : V} {x : DV} {Q : List PyData → Prop} (s : Sd c σ H ρ ((some v, x) :: τ) B) (h : lstQ x Q) : ∃ (a : Addr) (ds : List PyData) (B' : Hp) (vs : List V), v = .ref a ∧ Q ds ∧ H a = some (.lst vs) ∧ Sd c σ H ρ ((some (.ref a), .d (.list ds)) :: τ) B' ∧ DhL B' vs ds := by
  unfold lstQ at h
  split at h
  · rename_i ds
    obtain ⟨a, xs, rfl, z, r⟩ := s.topR
    exact ⟨a, ds, B, xs, rfl, h, s.sub _ _ z, s, r⟩
  · rename_i ds
    obtain ⟨B', sB, s'⟩ := s.frz
    obtain ⟨a, xs, rfl, z, r⟩ := s'.topR
    exact ⟨a, ds, B', xs, rfl, h, s'.sub _ _ z, s', r⟩
  · exact h.elim
theorem tupQ_at {σ : L2.St} {H B : Hp} {ρ : Env} {τ : Tmp} {v : V} {x : DV} {Q : List PyData → Prop} (s : Sd c σ H ρ ((some v, x) :: τ) B) (h : tupQ x Q) : ∃ (a : Addr) (ds : List PyData) (vs : List V), v = .ref a ∧ Q ds ∧ x = .d (.tuple ds) ∧ H a = some (.tup vs) ∧ DhL B vs ds := by
  unfold tupQ at h
  split at h
  · rename_i ds
    obtain ⟨a, xs, rfl, z, r⟩ := s.topR
    exact ⟨a, ds, xs, rfl, h, rfl, s.sub _ _ z, r⟩
  · exact h.elim
def tdiL (te : TD) : TDI := fun ρ Q Z => te ρ (fun x ρ1 => lstQ x fun ds => Q ds ρ1) Z
def tdiT (te : TD) : TDI := fun ρ Q Z => te ρ (fun x ρ1 => tupQ x fun ds => Q ds ρ1) Z
theorem pdi_list (h : PDE c E X e te) : PDI c E X tg e (tdiL te) := by
  refine ⟨pi_wk (pi_list h.pe) fun σ H R ⟨ρ, τ, B, s, q⟩ => ⟨ρ, τ, B, s, h.mono _ _ _ _ (fun x ρ1 hx v H' B' s' => ?_) q⟩, fun ρ Q Q' Z k q => h.mono _ _ _ _ (fun x r => lstQ_mono fun ds => k ds r) q⟩
  obtain ⟨a, ds, B2, vs, rfl, hq, z, s2, r⟩ := lstQ_at s' hx
  exact ⟨a, rfl, ⟨vs, SqL.of z⟩, hq _ _ B2 _ wk_list s2⟩
theorem pdi_tup (h : PDE c E X e te) : PDI c E X tg e (tdiT te) := by
  refine ⟨pi_wk (pi_tup h.pe) fun σ H R ⟨ρ, τ, B, s, q⟩ => ⟨ρ, τ, B, s, h.mono _ _ _ _ (fun x ρ1 hx v H' B' s' => ?_) q⟩, fun ρ Q Q' Z k q => h.mono _ _ _ _ (fun x r => tupQ_mono fun ds => k ds r) q⟩
  obtain ⟨a, ds, vs, rfl, hq, rfl, z, r⟩ := tupQ_at s' hx
  exact ⟨a, rfl, ⟨vs, SqT.of z⟩, hq _ _ B' _ wk_tup s'⟩
def on1 (f : DV → (List PyData → Prop) → Prop) : List DV → (List PyData → Prop) → Prop := fun xs Q => match xs with
  | [x] => f x Q
  | _ => False
def tdiE (f : DV → (List PyData → Prop) → Prop) (ta : TDA) : TDI := fun ρ Q Z => ta ρ (fun xs ρ1 => on1 f xs fun ds => Q (enumD ds) ρ1) Z
theorem on1_at {f : DV → (List PyData → Prop) → Prop} {xs : List DV} {Q : List PyData → Prop} (h : on1 f xs Q) : ∃ x, xs = [x] ∧ f x Q := by
  unfold on1 at h
  split at h
  · exact ⟨_, rfl, h⟩
  · exact h.elim
variable {p pos tpos : Pos} {elts : List Expr} {kk : Nat}
theorem pdi_enum (hg : Gl X "enumerate") (hm : X.mg "enumerate" = none) (ha : PDA c E X [e] ta) (hs : starEach [e] X.env = [(false, eval e X.env)] := by rfl) : PDI c E X (.Tuple elts kk tpos) (.Call (.Name "enumerate" p) [e] [] pos) (tdiE lstQ ta) := by
  refine ⟨pi_wk (pi_enum hg hm ha.pa hs) fun σ H R ⟨ρ, τ, B, s, q⟩ => ⟨ρ, τ, B, s, ha.mono _ _ _ _ (fun xs ρ1 hx vs H' B' hl s' => ?_) q⟩, fun ρ Q Q' Z k q => ha.mono _ _ _ _ (fun xs r hx => ?_) q⟩
  · obtain ⟨x, rfl, hx⟩ := on1_at hx
    obtain ⟨v, rfl⟩ := len1 hl
    have s' : Sd c σ H' ρ1 ((some v, x) :: τ) B' := s'
    obtain ⟨a, ds, B2, vs, rfl, hq, z, s2, r⟩ := lstQ_at s' hx
    exact ⟨a, vs, rfl, SqL.of z, hq _ _ B2 _ wk_enum s2⟩
  · obtain ⟨x, rfl, hx⟩ := on1_at hx
    exact lstQ_mono (fun ds => k _ _) hx
theorem pdi_enumT (hg : Gl X "enumerate") (hm : X.mg "enumerate" = none) (ha : PDA c E X [e] ta) (hs : starEach [e] X.env = [(false, eval e X.env)] := by rfl) : PDI c E X (.Tuple elts kk tpos) (.Call (.Name "enumerate" p) [e] [] pos) (tdiE tupQ ta) := by
  refine ⟨pi_wk (pi_enumT hg hm ha.pa hs) fun σ H R ⟨ρ, τ, B, s, q⟩ => ⟨ρ, τ, B, s, ha.mono _ _ _ _ (fun xs ρ1 hx vs H' B' hl s' => ?_) q⟩, fun ρ Q Q' Z k q => ha.mono _ _ _ _ (fun xs r hx => ?_) q⟩
  · obtain ⟨x, rfl, hx⟩ := on1_at hx
    obtain ⟨v, rfl⟩ := len1 hl
    have s' : Sd c σ H' ρ1 ((some v, x) :: τ) B' := s'
    obtain ⟨a, ds, vs, rfl, hq, rfl, z, r⟩ := tupQ_at s' hx
    exact ⟨a, vs, rfl, SqT.of z, hq _ _ B' _ wk_enumT s'⟩
  · obtain ⟨x, rfl, hx⟩ := on1_at hx
    exact tupQ_mono (fun ds => k _ _) hx
def on2 (f g : DV → (List PyData → Prop) → Prop) : List DV → (List PyData → List PyData → Prop) → Prop := fun xs Q => match xs with
  | [x, y] => f x fun ds => g y fun es => Q ds es
  | _ => False
theorem on2_at {f g : DV → (List PyData → Prop) → Prop} {xs : List DV} {Q : List PyData → List PyData → Prop} (h : on2 f g xs Q) : ∃ x y, xs = [x, y] ∧ f x fun ds => g y fun es => Q ds es := by
  unfold on2 at h
  split at h
  · exact ⟨_, _, rfl, h⟩
  · exact h.elim
def tdiZ (f g : DV → (List PyData → Prop) → Prop) (ta : TDA) : TDI := fun ρ Q Z => ta ρ (fun xs ρ1 => on2 f g xs fun ds es => ds.length = es.length ∧ Q (zipD ds es) ρ1) Z
def monoQ (f : DV → (List PyData → Prop) → Prop) : Prop := ∀ x Q Q', (∀ ds, Q ds → Q' ds) → f x Q → f x Q'
theorem mono_tdiZ {f g : DV → (List PyData → Prop) → Prop} (hf : monoQ f) (hg : monoQ g) (m : MonoA ta) : ∀ ρ Q Q' Z, (∀ x r, Q x r → Q' x r) → tdiZ f g ta ρ Q Z → tdiZ f g ta ρ Q' Z := fun ρ Q Q' Z k q => m _ _ _ _ (fun xs r hx => by
  obtain ⟨x, y, rfl, hx⟩ := on2_at hx
  exact hf _ _ _ (fun ds hd => hg _ _ _ (fun es he => ⟨he.1, k _ _ he.2⟩) hd) hx) q
theorem mono_lstQ : monoQ lstQ := fun x Q Q' k h => lstQ_mono k h
theorem mono_tupQ : monoQ tupQ := fun x Q Q' k h => tupQ_mono k h
/-- two lists on top -/
theorem zip_at {f g : DV → (List PyData → Prop) → Prop} {σ : L2.St} {H B : Hp} {ρ : Env} {τ : Tmp} {v w : V} {x y : DV} {Q : List PyData → List PyData → Prop} {mk mk' : List PyData → PyData} {sh sh' : List V → HO}
    (hf : ∀ {τ : Tmp} {v : V} {x : DV} {B : Hp} {Q : List PyData → Prop}, Sd c σ H ρ ((some v, x) :: τ) B → f x Q → ∃ (a : Addr) (ds : List PyData) (B' : Hp) (vs : List V), v = .ref a ∧ Q ds ∧ H a = some (sh vs) ∧ Sd c σ H ρ ((some (.ref a), .d (mk ds)) :: τ) B' ∧ DhL B' vs ds)
    (hg : ∀ {τ : Tmp} {v : V} {x : DV} {B : Hp} {Q : List PyData → Prop}, Sd c σ H ρ ((some v, x) :: τ) B → g x Q → ∃ (a : Addr) (ds : List PyData) (B' : Hp) (vs : List V), v = .ref a ∧ Q ds ∧ H a = some (sh' vs) ∧ Sd c σ H ρ ((some (.ref a), .d (mk' ds)) :: τ) B' ∧ DhL B' vs ds)
    (s : Sd c σ H ρ ((some w, y) :: (some v, x) :: τ) B) (h : f x fun ds => g y fun es => Q ds es) : ∃ a b ds es vs ws B', v = .ref a ∧ w = .ref b ∧ Q ds es ∧ H a = some (sh vs) ∧ H b = some (sh' ws) ∧ Sd c σ H ρ ((some (.ref a), .d (mk ds)) :: (some (.ref b), .d (mk' es)) :: τ) B' := by
  obtain ⟨a, ds, B1, vs, rfl, q1, z1, s1, _⟩ := hf s.swap h
  obtain ⟨b, es, B2, ws, rfl, q2, z2, s2, _⟩ := hg s1.swap q1
  exact ⟨a, b, ds, es, vs, ws, B2, rfl, rfl, q2, z1, z2, s2.swap⟩
theorem tupQ_at' {σ : L2.St} {H B : Hp} {ρ : Env} {τ : Tmp} {v : V} {x : DV} {Q : List PyData → Prop} (s : Sd c σ H ρ ((some v, x) :: τ) B) (h : tupQ x Q) : ∃ (a : Addr) (ds : List PyData) (B' : Hp) (vs : List V), v = .ref a ∧ Q ds ∧ H a = some (.tup vs) ∧ Sd c σ H ρ ((some (.ref a), .d (.tuple ds)) :: τ) B' ∧ DhL B' vs ds := by
  obtain ⟨a, ds, vs, rfl, hq, rfl, z, r⟩ := tupQ_at s h
  exact ⟨a, ds, B, vs, rfl, hq, z, s, r⟩
theorem pdi_zip (hg : Gl X "zip") (hm : X.mg "zip" = none) (ha : PDA c E X [e, e2] ta) (hs : starEach [e, e2] X.env = (false, eval e X.env) :: starEach [e2] X.env := by rfl) (hpl : (backTo pos (starEach [e2] X.env)).any (·.1) = false := by rfl) :
    PDI c E X (.Tuple elts kk tpos) (.Call (.Name "zip" p) [e, e2] [] pos) (tdiZ lstQ lstQ ta) := by
  refine ⟨pi_wk (pi_zip hg hm ha.pa hs hpl) fun σ H R ⟨ρ, τ, B, s, q⟩ => ⟨ρ, τ, B, s, ha.mono _ _ _ _ (fun xs ρ1 hx vs H' B' hl s' => ?_) q⟩, mono_tdiZ mono_lstQ mono_lstQ ha.mono⟩
  obtain ⟨x, y, rfl, hx⟩ := on2_at hx
  obtain ⟨v, w, rfl⟩ := len2 hl
  have s' : Sd c σ H' ρ1 ((some w, y) :: (some v, x) :: τ) B' := s'
  obtain ⟨a, b, ds, es, vs, ws, B2, rfl, rfl, ⟨e, q⟩, z1, z2, s2⟩ := zip_at (mk := .list) (mk' := .list) (sh := .lst) (sh' := .lst) lstQ_at lstQ_at s' hx
  exact ⟨a, b, vs, ws, rfl, SqL.of z1, SqL.of z2, q _ _ B2 _ (wk_zip e) s2⟩
theorem pdi_zipTT (hg : Gl X "zip") (hm : X.mg "zip" = none) (ha : PDA c E X [e, e2] ta) (hs : starEach [e, e2] X.env = (false, eval e X.env) :: starEach [e2] X.env := by rfl) (hpl : (backTo pos (starEach [e2] X.env)).any (·.1) = false := by rfl) :
    PDI c E X (.Tuple elts kk tpos) (.Call (.Name "zip" p) [e, e2] [] pos) (tdiZ tupQ tupQ ta) := by
  refine ⟨pi_wk (pi_zipTT hg hm ha.pa hs hpl) fun σ H R ⟨ρ, τ, B, s, q⟩ => ⟨ρ, τ, B, s, ha.mono _ _ _ _ (fun xs ρ1 hx vs H' B' hl s' => ?_) q⟩, mono_tdiZ mono_tupQ mono_tupQ ha.mono⟩
  obtain ⟨x, y, rfl, hx⟩ := on2_at hx
  obtain ⟨v, w, rfl⟩ := len2 hl
  have s' : Sd c σ H' ρ1 ((some w, y) :: (some v, x) :: τ) B' := s'
  obtain ⟨a, b, ds, es, vs, ws, B2, rfl, rfl, ⟨e, q⟩, z1, z2, s2⟩ := zip_at (mk := .tuple) (mk' := .tuple) (sh := .tup) (sh' := .tup) tupQ_at' tupQ_at' s' hx
  exact ⟨a, b, vs, ws, rfl, SqT.of z1, SqT.of z2, q _ _ B2 _ (wk_zipTT e) s2⟩
theorem pdi_zipTL (hg : Gl X "zip") (hm : X.mg "zip" = none) (ha : PDA c E X [e, e2] ta) (hs : starEach [e, e2] X.env = (false, eval e X.env) :: starEach [e2] X.env := by rfl) (hpl : (backTo pos (starEach [e2] X.env)).any (·.1) = false := by rfl) :
    PDI c E X (.Tuple elts kk tpos) (.Call (.Name "zip" p) [e, e2] [] pos) (tdiZ tupQ lstQ ta) := by
  refine ⟨pi_wk (pi_zipTL hg hm ha.pa hs hpl) fun σ H R ⟨ρ, τ, B, s, q⟩ => ⟨ρ, τ, B, s, ha.mono _ _ _ _ (fun xs ρ1 hx vs H' B' hl s' => ?_) q⟩, mono_tdiZ mono_tupQ mono_lstQ ha.mono⟩
  obtain ⟨x, y, rfl, hx⟩ := on2_at hx
  obtain ⟨v, w, rfl⟩ := len2 hl
  have s' : Sd c σ H' ρ1 ((some w, y) :: (some v, x) :: τ) B' := s'
  obtain ⟨a, b, ds, es, vs, ws, B2, rfl, rfl, ⟨e, q⟩, z1, z2, s2⟩ := zip_at (mk := .tuple) (mk' := .list) (sh := .tup) (sh' := .lst) tupQ_at' lstQ_at s' hx
  exact ⟨a, b, vs, ws, rfl, SqT.of z1, SqL.of z2, q _ _ B2 _ (wk_zipTL e) s2⟩
theorem pdi_zipLT (hg : Gl X "zip") (hm : X.mg "zip" = none) (ha : PDA c E X [e, e2] ta) (hs : starEach [e, e2] X.env = (false, eval e X.env) :: starEach [e2] X.env := by rfl) (hpl : (backTo pos (starEach [e2] X.env)).any (·.1) = false := by rfl) :
    PDI c E X (.Tuple elts kk tpos) (.Call (.Name "zip" p) [e, e2] [] pos) (tdiZ lstQ tupQ ta) := by
  refine ⟨pi_wk (pi_zipLT hg hm ha.pa hs hpl) fun σ H R ⟨ρ, τ, B, s, q⟩ => ⟨ρ, τ, B, s, ha.mono _ _ _ _ (fun xs ρ1 hx vs H' B' hl s' => ?_) q⟩, mono_tdiZ mono_lstQ mono_tupQ ha.mono⟩
  obtain ⟨x, y, rfl, hx⟩ := on2_at hx
  obtain ⟨v, w, rfl⟩ := len2 hl
  have s' : Sd c σ H' ρ1 ((some w, y) :: (some v, x) :: τ) B' := s'
  obtain ⟨a, b, ds, es, vs, ws, B2, rfl, rfl, ⟨e, q⟩, z1, z2, s2⟩ := zip_at (mk := .list) (mk' := .tuple) (sh := .lst) (sh' := .tup) lstQ_at tupQ_at' s' hx
  exact ⟨a, b, vs, ws, rfl, SqL.of z1, SqT.of z2, q _ _ B2 _ (wk_zipLT e) s2⟩
def ints1 : List DV → (Int → Prop) → Prop := fun xs Q => match xs with
  | [.d (.int i)] => Q i
  | _ => False
def ints2 : List DV → (Int → Int → Prop) → Prop := fun xs Q => match xs with
  | [.d (.int i), .d (.int j)] => Q i j
  | _ => False
def tdiR1 (ta : TDA) : TDI := fun ρ Q Z => ta ρ (fun xs ρ1 => ints1 xs fun j => (-1000000000000 ≤ j ∧ j ≤ 1000000000000) ∧ Q (rngD 0 j.toNat 1) ρ1) Z
def tdiR2 (ta : TDA) : TDI := fun ρ Q Z => ta ρ (fun xs ρ1 => ints2 xs fun i j => (-1000000000000 ≤ i ∧ i ≤ 1000000000000 ∧ -1000000000000 ≤ j ∧ j ≤ 1000000000000) ∧ Q (rngD i (j - i).toNat 1) ρ1) Z
theorem pdi_range1 (hg : Gl X "range") (hm : X.mg "range" = none) (ha : PDA c E X [e] ta) (hs : starEach [e] X.env = [(false, eval e X.env)] := by rfl) : PDI c E X tg (.Call (.Name "range" p) [e] [] pos) (tdiR1 ta) := by
  refine ⟨pi_wk (pi_range1 hg hm ha.pa hs) fun σ H R ⟨ρ, τ, B, s, q⟩ => ⟨ρ, τ, B, s, ha.mono _ _ _ _ (fun xs ρ1 hx vs H' B' hl s' => ?_) q⟩, fun ρ Q Q' Z k q => ha.mono _ _ _ _ (fun xs r hx => ?_) q⟩
  · unfold ints1 at hx
    split at hx
    · rename_i i
      obtain ⟨v, rfl⟩ := len1 hl
      have s' : Sd c σ H' ρ1 ((some v, .d (.int i)) :: τ) B' := s'
      have e : v = .int i := s'.topR
      subst e
      exact ⟨i, rfl, by omega, by omega, hx.2 _ _ B' [] wk_range s'.pop⟩
    · exact hx.elim
  · unfold ints1 at hx ⊢
    split at hx
    · exact ⟨hx.1, k _ _ hx.2⟩
    · exact hx.elim
theorem pdi_range2 (hg : Gl X "range") (hm : X.mg "range" = none) (ha : PDA c E X [e, e2] ta) (hs : starEach [e, e2] X.env = [(false, eval e X.env), (false, eval e2 X.env)] := by rfl) (hs2 : starEach [e2] X.env = [(false, eval e2 X.env)] := by rfl) : PDI c E X tg (.Call (.Name "range" p) [e, e2] [] pos) (tdiR2 ta) := by
  refine ⟨pi_wk (pi_range2 hg hm ha.pa hs hs2) fun σ H R ⟨ρ, τ, B, s, q⟩ => ⟨ρ, τ, B, s, ha.mono _ _ _ _ (fun xs ρ1 hx vs H' B' hl s' => ?_) q⟩, fun ρ Q Q' Z k q => ha.mono _ _ _ _ (fun xs r hx => ?_) q⟩
  · unfold ints2 at hx
    split at hx
    · rename_i i j
      obtain ⟨v, w, rfl⟩ := len2 hl
      have s' : Sd c σ H' ρ1 ((some w, .d (.int j)) :: (some v, .d (.int i)) :: τ) B' := s'
      have e1 : v = .int i := s'.pop.topR
      have e2 : w = .int j := s'.topR
      subst e1 e2
      exact ⟨i, j, rfl, by omega, hx.2 _ _ B' [] wk_range s'.pop.pop⟩
    · exact hx.elim
  · unfold ints2 at hx ⊢
    split at hx
    · exact ⟨hx.1, k _ _ hx.2⟩
    · exact hx.elim
end
/-! ### targets -/
inductive Pat where
  | nm (i : Nat)
  | tup (ps : List Pat)
mutual
def gP (K : PySem.W.Frag) : Pat → TG
  | .nm i => gName i
  | .tup ps => gTup K ps.length (gPs K ps)
termination_by structural p => p
def gPs (K : PySem.W.Frag) : List Pat → TGs
  | [] => gNil
  | p :: ps => gCons (gP K p) (gPs K ps)
termination_by structural ps => ps
end
mutual
def bindP : Pat → PyData → Env → Option Env
  | .nm i, d, ρ => some (ρ.set i (.d d))
  | .tup ps, .tuple ds, ρ => bindPs ps ds ρ
  | .tup _, _, _ => none
termination_by structural p => p
def bindPs : List Pat → List PyData → Env → Option Env
  | [], [], ρ => some ρ
  | p :: ps, d :: ds, ρ => (bindP p d ρ).bind fun ρ1 => bindPs ps ds ρ1
  | _, _, _ => none
termination_by structural ps => ps
end
mutual
def patIn (is : List Nat) : Pat → Bool
  | .nm i => is.contains i
  | .tup ps => patsIn is ps
termination_by structural p => p
def patsIn (is : List Nat) : List Pat → Bool
  | [] => true
  | p :: ps => patIn is p && patsIn is ps
termination_by structural ps => ps
end
theorem wipe_getN {is : List Nat} {σ : L2.St} {j : Nat} : (wipe σ is)[j]? = if j ∈ is then (σ[j]?).map (fun _ => none) else σ[j]? := by
  induction is with
  | nil => simp [wipe]
  | cons v is ih =>
    unfold wipe
    by_cases e : v = j
    · subst e
      rw [if_pos List.mem_cons_self]
      by_cases lt : v < σ.length
      · rw [List.getElem?_set_self (by rw [wipe_length]; exact lt), List.getElem?_eq_getElem lt]
        rfl
      · rw [List.getElem?_eq_none (by rw [List.length_set, wipe_length]; omega), List.getElem?_eq_none (by omega)]
        rfl
    · rw [List.getElem?_set_ne e, ih]
      simp [List.mem_cons, Ne.symm e]
theorem wipe_set {is : List Nat} {σ : L2.St} {i : Nat} {a : Option V} (h : i ∈ is) : wipe (σ.set i a) is = wipe σ is := by
  refine List.ext_getElem? fun j => ?_
  rw [wipe_getN, wipe_getN]
  by_cases e : i = j
  · subst e
    rw [if_pos h, if_pos h]
    by_cases lt : i < σ.length
    · rw [List.getElem?_set_self lt, List.getElem?_eq_getElem lt]
      rfl
    · rw [List.getElem?_eq_none (by rw [List.length_set]; omega), List.getElem?_eq_none (by omega)]
  · rw [List.getElem?_set_ne e]
section
variable {c : DC} {K : PySem.W.Frag}
mutual
/-- what a target takes -/
theorem gP_ok : ∀ (p : Pat) {σ : L2.St} {H B : Hp} {ρ ρ' : Env} {τ : Tmp} {v : V} {d : PyData} {Q : L2.St → Hp → Prop}, Sd c σ H ρ τ B → Dh B v d → bindP p d ρ = some ρ' → (∀ σ', Sd c σ' H ρ' τ B → (∀ is, patIn is p = true → wipe σ' is = wipe σ is) → Q σ' H) → gP K p v σ H Q
  | .nm i, σ, H, B, ρ, ρ', τ, v, d, Q, s, hd, e, k => by
    simp only [bindP, Option.some.injEq] at e
    subst e
    simp only [gP]
    refine k _ ((s.push (x := .d d) hd rfl).set i rfl) fun is hi => wipe_set ?_
    simpa [patIn] using hi
  | .tup ps, σ, H, B, ρ, ρ', τ, v, .tuple ds, Q, s, hd, e, k => by
    simp only [bindP] at e
    obtain ⟨a, xs, rfl, z, r⟩ := hd
    simp only [gP]
    refine ⟨a, xs, rfl, SqT.of (s.sub _ _ z), ?_, gPs_ok ps s r e fun σ' s' w => k σ' s' fun is hi => w is (by simpa [patIn] using hi)⟩
    rw [dhL_len r]
    exact bindPs_len ps e
  | .tup ps, σ, H, B, ρ, ρ', τ, v, .none, Q, s, hd, e, k => by simp [bindP] at e
  | .tup ps, σ, H, B, ρ, ρ', τ, v, .bool _, Q, s, hd, e, k => by simp [bindP] at e
  | .tup ps, σ, H, B, ρ, ρ', τ, v, .int _, Q, s, hd, e, k => by simp [bindP] at e
  | .tup ps, σ, H, B, ρ, ρ', τ, v, .str _, Q, s, hd, e, k => by simp [bindP] at e
  | .tup ps, σ, H, B, ρ, ρ', τ, v, .list _, Q, s, hd, e, k => by simp [bindP] at e
  | .tup ps, σ, H, B, ρ, ρ', τ, v, .dict _, Q, s, hd, e, k => by simp [bindP] at e
theorem gPs_ok : ∀ (ps : List Pat) {σ : L2.St} {H B : Hp} {ρ ρ' : Env} {τ : Tmp} {vs : List V} {ds : List PyData} {Q : L2.St → Hp → Prop}, Sd c σ H ρ τ B → DhL B vs ds → bindPs ps ds ρ = some ρ' → (∀ σ', Sd c σ' H ρ' τ B → (∀ is, patsIn is ps = true → wipe σ' is = wipe σ is) → Q σ' H) → gPs K ps vs σ H Q
  | [], σ, H, B, ρ, ρ', τ, vs, [], Q, s, hd, e, k => by
    simp only [bindPs, Option.some.injEq] at e
    subst e
    have hd : vs = [] := hd
    subst hd
    simp only [gPs]
    exact ⟨rfl, k _ s fun is _ => rfl⟩
  | [], σ, H, B, ρ, ρ', τ, vs, _ :: _, Q, s, hd, e, k => by simp [bindPs] at e
  | p :: ps, σ, H, B, ρ, ρ', τ, vs, [], Q, s, hd, e, k => by simp [bindPs] at e
  | p :: ps, σ, H, B, ρ, ρ', τ, vs, d :: ds, Q, s, hd, e, k => by
    obtain ⟨y, ys, rfl, a, b⟩ := hd
    simp only [bindPs, Option.bind_eq_some_iff] at e
    obtain ⟨ρ1, e1, e2⟩ := e
    simp only [gPs]
    exact ⟨y, ys, rfl, gP_ok p s a e1 fun σ1 s1 w1 => gPs_ok ps s1 b e2 fun σ2 s2 w2 => k σ2 s2 fun is hi => by
      rw [patsIn, Bool.and_eq_true] at hi
      rw [w2 is hi.2, w1 is hi.1]⟩
theorem bindPs_len : ∀ (ps : List Pat) {ds : List PyData} {ρ ρ' : Env}, bindPs ps ds ρ = some ρ' → ds.length = ps.length
  | [], [], _, _, _ => rfl
  | [], _ :: _, _, _, e => by simp [bindPs] at e
  | p :: ps, [], _, _, e => by simp [bindPs] at e
  | p :: ps, d :: ds, ρ, ρ', e => by
    simp only [bindPs, Option.bind_eq_some_iff] at e
    obtain ⟨ρ1, e1, e2⟩ := e
    rw [List.length_cons, List.length_cons, bindPs_len ps e2]
end
end
end DL
set_option Elab.async false
set_option linter.all false
set_option maxRecDepth 100000
set_option maxHeartbeats 4000000
/-! statements, loops, comprehensions, defs, over data -/
namespace DL
open PySem PySem.Spec PyProof.Rows L2 XV SL
structure DEnds where
  nx : Env → Prop
  rt : DV → Prop
  bk : Env → Prop
  ct : Env → Prop
abbrev TDS := DEnds → Env → EZ → Prop
def NoBor (τ : Tmp) : Prop := ∀ p ∈ τ, p.2.isBor = false
theorem NoBor.keep {τ : Tmp} (h : NoBor τ) (ps : List (V × PyData)) : NoBor (keepT ps ++ τ) := fun p hp => by
  rcases List.mem_append.mp hp with hp | hp
  · obtain ⟨q, _, rfl⟩ := List.mem_map.mp hp
    rfl
  · exact h p hp
def endsOf (c : DC) (τ : Tmp) (D : Ends) : DEnds where
  nx := fun ρ' => ∀ σ' H' B', Sd c σ' H' ρ' τ B' → D.nx σ' H'
  rt := fun x => ∀ v H' B', Fin c H' B' → RepV c B' H' v x → D.rt v H'
  bk := fun ρ' => ∀ σ' H' B', Sd c σ' H' ρ' τ B' → D.bk σ' H'
  ct := fun ρ' => ∀ σ' H' B', Sd c σ' H' ρ' τ B' → D.ct σ' H'
def liftS (c : DC) (E : EZ) (t : TDS) : TS := fun D σ H => ∃ ρ τ B, Sd c σ H ρ τ B ∧ NoBor τ ∧ t (endsOf c τ D) ρ E
def MonoSt (t : TDS) : Prop := ∀ D D' ρ Z, (∀ r, D.nx r → D'.nx r) → (∀ x, D.rt x → D'.rt x) → (∀ r, D.bk r → D'.bk r) → (∀ r, D.ct r → D'.ct r) → t D ρ Z → t D' ρ Z
structure PDS (c : DC) (E : EZ) (X : Cx) (st : Stmt) (t : TDS) : Prop where
  ps : PS X st (liftS c E t)
  mono : MonoSt t
structure PDSs (c : DC) (E : EZ) (X : Cx) (st : List Stmt) (t : TDS) : Prop where
  ps : PSs X st (liftS c E t)
  mono : MonoSt t
theorem ps_wk {X : Cx} {st : Stmt} {t t' : TS} (h : PS X st t) (k : ∀ D σ H, t' D σ H → t D σ H) : PS X st t' := ⟨fun pins s σ H D I q => h.run pins s σ H D I (k D σ H q)⟩
theorem pss_wk {X : Cx} {st : List Stmt} {t t' : TS} (h : PSs X st t) (k : ∀ D σ H, t' D σ H → t D σ H) : PSs X st t' := ⟨fun pins s σ H D I q => h.run pins s σ H D I (k D σ H q)⟩
section
variable {c : DC} {E : EZ} {X : Cx} {st : Stmt} {rest : List Stmt} {t u : TDS} {e : Expr} {te : TD} {pos : Pos}
def tdNext : TDS := fun D ρ _ => D.nx ρ
def tdSeq (t u : TDS) : TDS := fun D ρ Z => t { D with nx := fun r => u D r Z } ρ Z
theorem pds_nil : PDSs c E X [] tdNext := ⟨pss_wk pss_nil fun D σ H ⟨ρ, τ, B, s, nb, q⟩ => q σ H B s, fun D D' ρ Z h1 _ _ _ q => h1 _ q⟩
theorem pds_cons (h1 : PDS c E X st t) (h2 : PDSs c E X rest u) : PDSs c E X (st :: rest) (tdSeq t u) :=
  ⟨pss_wk (pss_cons h1.ps h2.ps) fun D σ H ⟨ρ, τ, B, s, nb, q⟩ => ⟨ρ, τ, B, s, nb, h1.mono { endsOf c τ D with nx := fun r => u (endsOf c τ D) r E } _ ρ E (fun r hr σ' H' B' s' => ⟨r, τ, B', s', nb, hr⟩) (fun _ h => h) (fun _ h => h) (fun _ h => h) q⟩,
    fun D D' ρ Z k1 k2 k3 k4 q => h1.mono { D with nx := fun r => u D r Z } _ ρ Z (fun r hr => h2.mono _ _ _ _ k1 k2 k3 k4 hr) k2 k3 k4 q⟩
theorem pds_one (h1 : PDS c E X st t) : PDSs c E X [st] t := ⟨pss_one h1.ps, h1.mono⟩
theorem pds_pass : PDS c E X (.Pass pos) tdNext := ⟨ps_wk ps_pass fun D σ H ⟨ρ, τ, B, s, nb, q⟩ => q σ H B s, fun D D' ρ Z h1 _ _ _ q => h1 _ q⟩
def tdBreak : TDS := fun D ρ _ => D.bk ρ
def tdCont : TDS := fun D ρ _ => D.ct ρ
theorem pds_break : PDS c E X (.Break pos) tdBreak := ⟨ps_wk ps_break fun D σ H ⟨ρ, τ, B, s, nb, q⟩ => q σ H B s, fun D D' ρ Z _ _ h3 _ q => h3 _ q⟩
theorem pds_cont : PDS c E X (.Continue pos) tdCont := ⟨ps_wk ps_continue fun D σ H ⟨ρ, τ, B, s, nb, q⟩ => q σ H B s, fun D D' ρ Z _ _ _ h4 q => h4 _ q⟩
def tdDrop (te : TD) : TDS := fun D ρ Z => te ρ (fun _ ρ1 => D.nx ρ1) Z
theorem pds_expr (he : PDE c E X e te) (hs : swapsWith e none pos.line X.env = pure false := by rfl) : PDS c E X (.Expr e pos) (tdDrop te) :=
  ⟨ps_wk (ps_expr he.pe hs) fun D σ H ⟨ρ, τ, B, s, nb, q⟩ => ⟨ρ, τ, B, s, he.mono _ _ _ _ (fun x r hr v H' B' s' => hr σ H' B' s'.pop) q⟩, fun D D' ρ Z h1 _ _ _ q => he.mono _ _ _ _ (fun x r hr => h1 _ hr) q⟩
/-- what may be given back: no borrowed thing -/
def tdRet (te : TD) : TDS := fun D ρ Z => te ρ (fun x _ => x.isBor = false ∧ D.rt x) Z
theorem pds_ret (he : PDE c E X e te) : PDS c E X (.Return (some e) pos) (tdRet te) :=
  ⟨ps_wk (ps_ret he.pe) fun D σ H ⟨ρ, τ, B, s, nb, q⟩ => ⟨ρ, τ, B, s, he.mono _ _ _ _ (fun x r hr v H' B' s' => hr.2 v H' B' s'.fin s'.topR) q⟩, fun D D' ρ Z _ h2 _ _ q => he.mono _ _ _ _ (fun x r hr => ⟨hr.1, h2 _ hr.2⟩) q⟩
def tdRetN : TDS := fun D _ _ => D.rt (.d .none)
theorem pds_retN : PDS c E X (.Return none pos) tdRetN := ⟨ps_wk ps_retN fun D σ H ⟨ρ, τ, B, s, nb, q⟩ => q _ H B s.fin rfl, fun D D' ρ Z _ h2 _ _ q => h2 _ q⟩
def tdIfS (k : TDT) (t u : TDS) : TDS := fun D ρ Z => k ρ (fun b r => if b = true then t D r Z else u D r Z) Z
theorem pds_if {e : Expr} {a b : List Stmt} {k : TDT} (hc : PDT c E X e k) (ha : PDSs c E X a t) (hb : PDSs c E X b u) : PDS c E X (.If e a b pos) (tdIfS k t u) :=
  ⟨ps_wk (ps_if hc.pt ha.ps hb.ps) fun D σ H ⟨ρ, τ, B, s, nb, q⟩ => ⟨ρ, τ, B, s, hc.mono _ _ _ _ (fun b r hr H' B' s' => by
    cases b with
    | true => exact ⟨r, τ, B', s', nb, hr⟩
    | false => exact ⟨r, τ, B', s', nb, hr⟩) q⟩,
    fun D D' ρ Z k1 k2 k3 k4 q => hc.mono _ _ _ _ (fun b r hr => by
      cases b with
      | true => exact ha.mono _ _ _ _ k1 k2 k3 k4 hr
      | false => exact hb.mono _ _ _ _ k1 k2 k3 k4 hr) q⟩
/-- x = e -/
def tdSet (i : Nat) (te : TD) : TDS := fun D ρ Z => te ρ (fun x r => x.isBor = false ∧ D.nx (r.set i x)) Z
theorem mono_set {i : Nat} (h : MonoE te) : MonoSt (tdSet i te) := fun D D' ρ Z k1 _ _ _ q => h _ _ _ _ (fun x r hr => ⟨hr.1, k1 _ hr.2⟩) q
theorem pds_set {i : Nat} {x : Str} {pos' : Pos} (hN : X.N.Nodup) (hi : X.N[i]? = some x) (hx : Loc X.env.scope x) (he : PDE c E X e te) (hs : swapsWith e (some (.Name x pos')) pos.line X.env = pure false := by rfl) (hf : X.fn x = true ∨ X.env.scope.names.lookup x = some .local := by first | exact .inl rfl | exact .inr rfl | assumption) :
    PDS c E X (.Assign [.Name x pos'] e pos) (tdSet i te) :=
  ⟨ps_wk (ps_set hN hi hx he.pe hs hf) fun D σ H ⟨ρ, τ, B, s, nb, q⟩ => ⟨ρ, τ, B, s, he.mono _ _ _ _ (fun x r hr v H' B' s' => hr.2 _ H' B' (s'.set i hr.1)) q⟩, mono_set he.mono⟩
/-- a, b = e: a tuple's items -/
def tdUnp (p : Pat) (te : TD) : TDS := fun D ρ Z => te ρ (fun x r => match x with
  | .d d => (match bindP p d r with
    | some r' => D.nx r'
    | none => False)
  | _ => False) Z
theorem pds_unp {p : Pat} {tg : Expr} (he : PDE c E X e te) (hg : PG X tg (gP X.K p)) (hs : swapsWithSole [tg] e pos.line X.env = pure false := by rfl) (hw : swappedStores [tg] e X.env = pure none := by rfl)
    (h1 : (assignEach [tg] X.env).map (·.2) = [assign tg X.env] := by rfl) : PDS c E X (.Assign [tg] e pos) (tdUnp p te) := by
  refine ⟨ps_wk (ps_asg he.pe hg hs hw h1) fun D σ H ⟨ρ, τ, B, s, nb, q⟩ => ⟨ρ, τ, B, s, he.mono _ _ _ _ (fun x r hr v H' B' s' => ?_) q⟩, fun D D' ρ Z k1 _ _ _ q => he.mono _ _ _ _ (fun x r hr => ?_) q⟩
  · split at hr
    · rename_i d
      split at hr
      · rename_i r' e'
        exact gP_ok p s'.pop s'.topR e' fun σ' s2 _ => hr σ' H' B' s2
      · exact hr.elim
    · exact hr.elim
  · split at hr
    · split at hr
      · exact k1 _ hr
      · exact hr.elim
    · exact hr.elim
/-- x += e, ints -/
def tdAug (i : Nat) (f : Int → Int → Int) (te : TD) : TDS := fun D ρ Z => match ρ[i]? with
  | some (.d (.int a)) => te ρ (fun y r => isInt (fun b => D.nx (r.set i (.d (.int (f a b))))) y) Z
  | _ => False
theorem pds_aug {i : Nat} {x : Str} {op : Operator} {f : Int → Int → Int} {pos' : Pos} (hN : X.N.Nodup) (hi : X.N[i]? = some x) (hx : Loc X.env.scope x) (he : PDE c E X e te) (ho : PIp X op (ipI f)) (hf : X.fn x = true ∨ X.env.scope.names.lookup x = some .local := by first | exact .inl rfl | exact .inr rfl | assumption) :
    PDS c E X (.AugAssign (.Name x pos') op e pos) (tdAug i f te) := by
  refine ⟨ps_wk (ps_aug hN hi hx he.pe ho hf) fun D σ H ⟨ρ, τ, B, s, nb, q⟩ => ?_, fun D D' ρ Z k1 _ _ _ q => ?_⟩
  · unfold tdAug at q
    split at q
    · rename_i a ea
      obtain ⟨v, e1, r, _⟩ := s.slot ea (by intro h; cases h)
      have r : v = .int a := r
      subst r
      refine ⟨.int a, e1, ρ, τ, B, s, he.mono _ _ _ _ (fun y r hr w H' B' s' => ?_) q⟩
      obtain ⟨b, rfl, hb⟩ := isInt_at hr
      have ew : w = .int b := s'.topR
      exact ⟨a, b, rfl, ew, hb _ H' B' ((s'.pop.flat (u := .int (f a b)) (d := .int (f a b)) rfl).set i rfl)⟩
    · exact q.elim
  · unfold tdAug at q ⊢
    split at q
    · exact he.mono _ _ _ _ (fun y r hr => isInt_mono (fun b hb => k1 _ hb) hr) q
    · exact q.elim
/-! ### lists of one's own -/
theorem Sd.mutSlot {σ : L2.St} {H B : Hp} {ρ : Env} {τ : Tmp} {i : Nat} {l : Addr} {xs xs' : List PyData} {vs' : List V} (s : Sd c σ H ρ τ B) (nb : NoBor τ) (e : ρ[i]? = some (.own xs)) (e1 : σ[i]? = some (some (.ref l))) (r : DhL B vs' xs') : Sd c σ (upd H l (.lst vs')) (ρ.set i (.own xs')) τ B := by
  obtain ⟨a, ea, ez⟩ := zip_get s.len e
  rw [e1] at ea
  cases ea
  have s2 := ((s.take ez).mutTop (xs' := xs') (fun p hp hb => by rw [nb p hp] at hb; cases hb) r).set i rfl
  have hσ : σ.set i (some (.ref l)) = σ := by
    obtain ⟨lt, e⟩ := List.getElem?_eq_some_iff.mp e1
    rw [← e]
    exact List.set_getElem_self lt
  have s3 : Sd c (σ.set i (some (.ref l))) (upd H l (.lst vs')) ((ρ.set i .no).set i (.own xs')) τ B := s2
  rw [hσ, List.set_set] at s3
  exact s3
/-- x.append(e) -/
def tdApp (i : Nat) (te : TD) : TDS := fun D ρ Z => match ρ[i]? with
  | some (.own _) => te ρ (fun y r => match r[i]?, asDat [y] with
    | some (.own xs), some [d] => xs.length < 100000 ∧ D.nx (r.set i (.own (xs ++ [d])))
    | _, _ => False) Z
  | _ => False
theorem asDat1 {y : DV} {ds : List PyData} (h : asDat [y] = some ds) : ∃ d, ds = [d] := by
  cases y <;> simp [asDat] at h
  · exact ⟨_, h.symm⟩
  · exact ⟨_, h.symm⟩
variable {n : Str} {np p1 p2 : Pos} {i : Nat}
/-- how the append is read -/
def rdApp (K : PySem.W.Frag) (i : Nat) (te : TE) : TE := tBM K "list" rAppend (tVar i) (tCons te tNil)
theorem pds_app (h : ∀ te', PE X e te' → PE X (.Call (.Attribute (.Name n np) "append" p1) [e] [] p2) (rdApp X.K i te')) (he : PDE c E X e te) (hs : swapsWith (.Call (.Attribute (.Name n np) "append" p1) [e] [] p2) none pos.line X.env = pure false := by rfl) : PDS c E X (.Expr (.Call (.Attribute (.Name n np) "append" p1) [e] [] p2) pos) (tdApp i te) := by
  refine ⟨ps_wk (ps_expr (h _ he.pe) hs) fun D σ H ⟨ρ, τ, B, s, nb, q⟩ => ?_, fun D D' ρ Z k1 _ _ _ q => ?_⟩
  · unfold tdApp at q
    split at q
    · rename_i xs0 e0
      obtain ⟨v, e1, r0, _⟩ := s.slot e0 (by intro h; cases h)
      obtain ⟨l, vs0, rfl, z0, _, _, _⟩ := r0
      refine ⟨.ref l, e1, .inl ⟨rfl, _, SqL.of z0⟩, ρ, τ, B, s, he.mono _ _ _ _ (fun y r hr w H' B' s' => ?_) q⟩
      split at hr
      · rename_i xs d e2 ed
        obtain ⟨lt, qq⟩ := hr
        have s1 : Sd c σ H' r (pushT [w] [y] τ) B' := s'
        obtain ⟨B2, sB, s2, rd⟩ := s1.args rfl ed
        obtain ⟨v2, e3, r3, _⟩ := s2.slot e2 (by intro h; cases h)
        rw [e1] at e3
        cases e3
        obtain ⟨l', vs, el, z, _, _, rv⟩ := r3
        cases el
        refine ⟨l, vs, w, rfl, rfl, z, by rw [dhL_len rv, sizeLine_eq]; omega, ?_⟩
        exact qq σ _ B2 (s2.mutSlot nb e2 e1 (dhL_app rv rd))
      · exact hr.elim
    · exact q.elim
  · unfold tdApp at q ⊢
    split at q
    · refine he.mono _ _ _ _ (fun y r hr => ?_) q
      split at hr
      · exact ⟨hr.1, k1 _ hr.2⟩
      · exact hr.elim
    · exact q.elim
/-- x.extend(e) -/
def tdExt (i : Nat) (te : TD) : TDS := fun D ρ Z => match ρ[i]? with
  | some (.own _) => te ρ (fun y r => match r[i]?, lstOf y with
    | some (.own xs), some ds => xs.length + ds.length ≤ 100000 ∧ D.nx (r.set i (.own (xs ++ ds)))
    | _, _ => False) Z
  | _ => False
def rdExt (K : PySem.W.Frag) (i : Nat) (te : TE) : TE := tBM K "list" rExtend (tVar i) (tCons te tNil)
theorem pds_ext (h : ∀ te', PE X e te' → PE X (.Call (.Attribute (.Name n np) "extend" p1) [e] [] p2) (rdExt X.K i te')) (he : PDE c E X e te) (hs : swapsWith (.Call (.Attribute (.Name n np) "extend" p1) [e] [] p2) none pos.line X.env = pure false := by rfl) : PDS c E X (.Expr (.Call (.Attribute (.Name n np) "extend" p1) [e] [] p2) pos) (tdExt i te) := by
  refine ⟨ps_wk (ps_expr (h _ he.pe) hs) fun D σ H ⟨ρ, τ, B, s, nb, q⟩ => ?_, fun D D' ρ Z k1 _ _ _ q => ?_⟩
  · unfold tdExt at q
    split at q
    · rename_i xs0 e0
      obtain ⟨v, e1, r0, _⟩ := s.slot e0 (by intro h; cases h)
      obtain ⟨l, vs0, rfl, z0, _, _, _⟩ := r0
      refine ⟨.ref l, e1, .inl ⟨rfl, _, SqL.of z0⟩, ρ, τ, B, s, he.mono _ _ _ _ (fun y r hr w H' B' s' => ?_) q⟩
      split at hr
      · rename_i xs ds e2 ed
        obtain ⟨lt, qq⟩ := hr
        obtain ⟨b, ws, rfl, zb, rd⟩ := lst_at s'.sub s'.topR ed
        have s2 := s'.pop
        obtain ⟨v2, e3, r3, _⟩ := s2.slot e2 (by intro h; cases h)
        rw [e1] at e3
        cases e3
        obtain ⟨l', vs, el, z, _, _, rv⟩ := r3
        cases el
        refine ⟨l, b, vs, ws, rfl, rfl, z, zb, by rw [dhL_len rv, dhL_len rd, sizeLine_eq]; omega, ?_⟩
        exact qq σ _ B' (s2.mutSlot nb e2 e1 (dhL_app rv rd))
      · exact hr.elim
    · exact q.elim
  · unfold tdExt at q ⊢
    split at q
    · refine he.mono _ _ _ _ (fun y r hr => ?_) q
      split at hr
      · exact ⟨hr.1, k1 _ hr.2⟩
      · exact hr.elim
    · exact q.elim
/-- x[j] = e -/
def tdPut (i : Nat) (te ti : TD) : TDS := fun D ρ Z => te ρ (fun y r => match asDat [y] with
  | some [d] => (match r[i]? with
    | some (.own _) => ti r (fun j r2 => isInt (fun k => match r2[i]? with
      | some (.own xs) => 0 ≤ k ∧ k.toNat < xs.length ∧ D.nx (r2.set i (.own (xs.set k.toNat d)))
      | _ => False) j) Z
    | _ => False)
  | _ => False) Z
theorem dhL_set {B : Hp} {vs : List V} {ds : List PyData} {v : V} {d : PyData} (h : DhL B vs ds) (hd : Dh B v d) (k : Nat) : DhL B (vs.set k v) (ds.set k d) := by
  induction ds generalizing vs k with
  | nil =>
    have h : vs = [] := h
    subst h
    exact rfl
  | cons d' ds ih =>
    obtain ⟨z, zs, rfl, a, b⟩ := h
    cases k with
    | zero => exact dhL_cons hd b
    | succ k => exact dhL_cons a (ih b k)
theorem pds_put {ei : Expr} {ti : TD} (h : ∀ t', PE X ei t' → PG X (.Subscript (.Name n np) ei p1) (gSub (tVar i) t' rSetL)) (he : PDE c E X e te) (hi : PDE c E X ei ti)
    (hs : swapsWithSole [(.Subscript (.Name n np) ei p1)] e pos.line X.env = pure false := by rfl) (hw : swappedStores [(.Subscript (.Name n np) ei p1)] e X.env = pure none := by rfl)
    (h1 : (assignEach [(.Subscript (.Name n np) ei p1)] X.env).map (·.2) = [assign (.Subscript (.Name n np) ei p1) X.env] := by rfl) : PDS c E X (.Assign [.Subscript (.Name n np) ei p1] e pos) (tdPut i te ti) := by
  refine ⟨ps_wk (ps_asg he.pe (h _ hi.pe) hs hw h1) fun D σ H ⟨ρ, τ, B, s, nb, q⟩ => ⟨ρ, τ, B, s, he.mono _ _ _ _ (fun y r hr w H1 B1 s1 => ?_) q⟩, fun D D' ρ Z k1 _ _ _ q => he.mono _ _ _ _ (fun y r hr => ?_) q⟩
  · split at hr
    · rename_i d ed
      have s1' : Sd c σ H1 r (pushT [w] [y] τ) B1 := s1
      obtain ⟨B2, sB, s2, rd⟩ := s1'.args rfl ed
      obtain ⟨_, _, ee, rd1, _⟩ := rd
      cases ee
      split at hr
      · rename_i xs0 e0
        obtain ⟨v, e1, r0, _⟩ := s2.slot e0 (by intro h; cases h)
        obtain ⟨l, vs0, rfl, z0, _, _, _⟩ := r0
        refine ⟨.ref l, e1, r, _, B2, s2.flat rd1, hi.mono _ _ _ _ (fun j r2 hj wj H3 B3 s3 => ?_) hr⟩
        obtain ⟨k, rfl, hk⟩ := isInt_at hj
        have ew : wj = .int k := s3.topR
        subst ew
        have s4 := s3.pop
        have rw' : Dh B3 w d := s4.topR
        have s5 := s4.pop
        split at hk
        · rename_i xs e2
          obtain ⟨k0, klt, qq⟩ := hk
          obtain ⟨v2, e3, r3, _⟩ := s5.slot e2 (by intro h; cases h)
          rw [e1] at e3
          cases e3
          obtain ⟨l', vs, el, z, _, _, rv⟩ := r3
          cases el
          have hl := dhL_len rv
          refine ⟨l, vs, k, k.toNat, rfl, rfl, z, ?_, ?_⟩
          · unfold ixN
            rw [if_pos k0, if_pos (by omega)]
          · exact qq σ _ B3 (s5.mutSlot nb e2 e1 (dhL_set rv rw' _))
        · exact hk.elim
      · exact hr.elim
    · exact hr.elim
  · split at hr
    · split at hr
      · refine hi.mono _ _ _ _ (fun j r2 hj => isInt_mono (fun k hk => ?_) hj) hr
        split at hk
        · exact ⟨hk.1, hk.2.1, k1 _ hk.2.2⟩
        · exact hk.elim
      · exact hr.elim
    · exact hr.elim
/-! ### for -/
def tdFor (ti : TDI) (p : Pat) (tb : TDS) : TDS := fun D ρ Z => ti ρ (fun ds r0 => ∃ W : Nat → Env → Prop, W 0 r0 ∧ (∀ i d r, ds[i]? = some d → W i r → ∃ r2, bindP p d r = some r2 ∧ tb { D with nx := W (i + 1), ct := W (i + 1), bk := D.nx } r2 Z) ∧ ∀ r, W ds.length r → D.nx r) Z
theorem keep_at {σ : L2.St} {H B : Hp} {ρ : Env} {τ : Tmp} {ps : List (V × PyData)} (s : Sd c σ H ρ (keepT ps ++ τ) B) : ∀ p ∈ ps, Dh B p.1 p.2 := fun p hp => by
  have m : (some p.1, DV.d p.2) ∈ keepT ps := List.mem_map.mpr ⟨p, hp, rfl⟩
  rcases s.rep _ (List.mem_append_right _ (List.mem_append_left _ m)) with e | ⟨v, e, r⟩
  · cases e
  · cases e
    exact r
theorem unkeep {σ : L2.St} {H B : Hp} {ρ : Env} {τ : Tmp} : ∀ {ps : List (V × PyData)}, Sd c σ H ρ (keepT ps ++ τ) B → Sd c σ H ρ τ B
  | [], s => s
  | p :: ps, s => unkeep (ps := ps) (Sd.pop (p := (some p.1, DV.d p.2)) (τ := keepT ps ++ τ) s)
theorem wk_walk {J : It} {ds : List PyData} {ps : List (V × PyData)} (w : Wk J ds ps) : Walk J ds.length (fun H => ∃ B, (∀ p ∈ ps, Dh B p.1 p.2) ∧ Same B H) (fun i H x H' => J.yld i H x H') :=
  ⟨fun i H hi ⟨B, h, s⟩ => w.go i H B hi h s, fun H ⟨B, h, s⟩ => w.stop H B h s, fun i H x H' hi _ y => y⟩
/-- a turn's new heap -/
theorem Sd.turn {σ : L2.St} {H H' B B2 : Hp} {ρ : Env} {τ : Tmp} (s : Sd c σ H ρ τ B) (s1 : Same B B2) (s2 : Same B2 H') (s3 : Same H H') (nw : ∀ b o, B2 b = some o → B b = some o ∨ H b = none) (nt : ∀ b o, H' b = some o → H b = some o ∨ B2 b = some o) : Sd c σ H' ρ τ B2 :=
  s.grow s1 s2 (fun b o z _ => s3 _ _ z) nw (fun w hw => (s.wl w hw).2.2.keep fun _ _ z _ => s3 _ _ z) fun b xs z => (nt _ _ z).elim (fun q => s1 _ _ (s.tup _ _ q)) id
variable {tg iter : Expr} {body : List Stmt} {ti : TDI} {p : Pat} {tb : TDS}
theorem pds_for (hp : PassesOwn (model X.prog X.w) X.A X.env X.xe) (hc : X.calm = true) (hi : PDI c E X tg iter ti) (hg : PG X tg (gP X.K p)) (hb : PDSs c E X body tb) (hs : ∀ x, foldedSetIterable iter X.env x = pure x := by intro _; rfl) : PDS c E X (.For tg iter body [] pos) (tdFor ti p tb) := by
  refine ⟨ps_wk (ps_for hp hc hi.pi hg hb.ps hs) fun D σ H ⟨ρ, τ, B, s, nb, q⟩ => ⟨ρ, τ, B, s, hi.mono _ _ _ _ (fun ds r0 hr J H1 B1 ps w s1 => ?_) q⟩, fun D D' ρ Z k1 k2 k3 k4 q => hi.mono _ _ _ _ (fun ds r0 hr => ?_) q⟩
  · obtain ⟨W, h0, ht, he⟩ := hr
    refine for_it (wk_walk w) (fun i σ H => ∃ ρ B, Sd c σ H ρ (keepT ps ++ τ) B ∧ W i ρ) ⟨r0, B1, s1, h0⟩ (fun i σ H _ ⟨ρ, B, s, _⟩ => ⟨B, keep_at s, s.sub⟩) ?_ ?_
    · rintro i x σ H2 H3 hi' ⟨ρ2, B2, s2, w2⟩ y
      obtain ⟨B3, d, a1, a2, a3, a4, a45, a5, a6⟩ := w.yld i H2 x H3 B2 hi' (keep_at s2) s2.sub y
      have s3 := s2.turn a1 a2 a3 a4 a45
      obtain ⟨r2, e2, q2⟩ := ht i d ρ2 a5 w2
      refine gP_ok p s3 a6 e2 fun σ' s4 _ => ⟨r2, _, B3, s4, nb.keep ps, hb.mono { endsOf c τ D with nx := W (i + 1), ct := W (i + 1), bk := (endsOf c τ D).nx } _ r2 E (fun r hr σ5 H5 B5 s5 => ⟨r, B5, s5, hr⟩) (fun x hx => hx) (fun r hr σ5 H5 B5 s5 => hr σ5 H5 B5 (unkeep s5)) (fun r hr σ5 H5 B5 s5 => ⟨r, B5, s5, hr⟩) q2⟩
    · rintro σ2 H2 ⟨ρ2, B2, s2, w2⟩
      exact he ρ2 w2 σ2 H2 B2 (unkeep s2)
  · obtain ⟨W, h0, ht, he⟩ := hr
    refine ⟨W, h0, fun i d r e1 w1 => ?_, fun r w1 => k1 _ (he r w1)⟩
    obtain ⟨r2, e2, q2⟩ := ht i d r e1 w1
    exact ⟨r2, e2, hb.mono { D with nx := W (i + 1), ct := W (i + 1), bk := D.nx } _ r2 Z (fun _ h => h) k2 (fun r hr => k1 _ hr) (fun _ h => h) q2⟩
end
end DL
set_option Elab.async false
set_option linter.all false
set_option maxRecDepth 100000
set_option maxHeartbeats 4000000
/-! data that holds no table of code objects -/
namespace DL
open PySem PySem.Spec PyProof.Rows L2 XV SL
def Nt (B : Hp) : Prop := ∀ b q, B b ≠ some (.tbl q)
def filt (B : Hp) : Hp := fun b => match B b with
  | some (.tbl _) => none
  | o => o
theorem filt_of {B : Hp} {b : Addr} {o : HO} (e : B b = some o) (n : ∀ q, o ≠ .tbl q) : filt B b = some o := by
  unfold filt
  rw [e]
  cases o with
  | tbl q => exact absurd rfl (n q)
  | _ => rfl
theorem filt_sub {B : Hp} : Same (filt B) B := fun b o z => by
  unfold filt at z
  split at z
  · cases z
  · exact z
theorem filt_nt {B : Hp} : Nt (filt B) := fun b q z => by
  have e := filt_sub _ _ z
  unfold filt at z
  rw [e] at z
  cases z
theorem filt_none {B : Hp} {b : Addr} (e : B b = none) : filt B b = none := by
  unfold filt
  rw [e]
mutual
theorem dh_filt {B : Hp} : ∀ (d : PyData) {v : V}, Dh B v d → Dh (filt B) v d
  | .none, v, h => h
  | .bool _, v, h => h
  | .int _, v, h => h
  | .str _, v, h => h
  | .list ds, v, h => by
    obtain ⟨a, xs, e, z, r⟩ := h
    exact ⟨a, xs, e, filt_of z (fun q e => by cases e), dhL_filt ds r⟩
  | .tuple ds, v, h => by
    obtain ⟨a, xs, e, z, r⟩ := h
    exact ⟨a, xs, e, filt_of z (fun q e => by cases e), dhL_filt ds r⟩
  | .dict kvs, v, h => by
    obtain ⟨k, a, e, z⟩ := h
    exact ⟨k, a, e, filt_of z (fun q e => by cases e)⟩
theorem dhL_filt {B : Hp} : ∀ (ds : List PyData) {xs : List V}, DhL B xs ds → DhL (filt B) xs ds
  | [], xs, h => h
  | d :: ds, xs, h => by
    obtain ⟨y, ys, e, a, b⟩ := h
    exact ⟨y, ys, e, dh_filt d a, dhL_filt ds b⟩
end
theorem pairs_filt {B : Hp} : ∀ {xs : List V} {ps : List (Int × Int)}, PairsAt B xs ps → PairsAt (filt B) xs ps
  | _, _, .nil => .nil
  | _, _, .cons ⟨t, e, z⟩ r => .cons ⟨t, e, filt_of z (fun q e => by cases e)⟩ (pairs_filt r)
theorem slab_filt {C : Addr} {B : Hp} {p l : Addr} {xs : List V} {L : Int} (h : SlabAt C B p l xs L) : SlabAt C (filt B) p l xs L :=
  ⟨let ⟨dx, e⟩ := h.ob; ⟨dx, filt_of e (fun q e => by cases e)⟩, filt_of h.ls (fun q e => by cases e)⟩
theorem rep_filt {c : DC} {B H : Hp} {v : V} {x : DV} (h : RepV c B H v x) : RepV c (filt B) H v x := by
  cases x with
  | no => exact h
  | d d => exact dh_filt d h
  | own xs =>
    obtain ⟨l, vs, e, z, n, n0, r⟩ := h
    exact ⟨l, vs, e, z, filt_none n, n0, dhL_filt _ r⟩
  | bor xs =>
    obtain ⟨l, vs, e, z, n, r⟩ := h
    exact ⟨l, vs, e, z, n, dhL_filt _ r⟩
  | slab ps L =>
    obtain ⟨p, l, xc, e, sl, pr⟩ := h
    exact ⟨p, l, xc, e, slab_filt sl, pairs_filt pr⟩
  | well => exact h
  | any _ => exact h
theorem Sd.filt {c : DC} {σ : L2.St} {H B : Hp} {ρ : Env} {τ : List (Option V × DV)} (s : Sd c σ H ρ τ B) (hN : Nt c.B0) : Sd c σ H ρ τ (DL.filt B) :=
  { s with
    sub := filt_sub.trans s.sub
    ext := fun b o z => filt_of (s.ext _ _ z) fun q e => by subst e; exact hN b q z
    new := fun b o z => s.new _ _ (filt_sub _ _ z)
    wl := fun w hw => ⟨filt_none (s.wl w hw).1, (s.wl w hw).2⟩
    rep := fun p hp => (s.rep p hp).elim .inl fun ⟨v, e, r⟩ => .inr ⟨v, e, rep_filt r⟩
    tup := fun b xs z => filt_of (s.tup _ _ z) fun q e => by cases e }
end DL
set_option Elab.async false
set_option linter.all false
set_option maxRecDepth 100000
set_option maxHeartbeats 4000000
/-! comprehensions, defs, calls, raise, over data -/
namespace DL
open PySem PySem.Spec PyProof.Rows L2 XV SL
section
variable {c : DC} {σ : L2.St} {H H' B B' : Hp} {ρ : Env} {τ τ' : Tmp}
theorem Sd.perm (s : Sd c σ H ρ τ B) (h : τ.Perm τ') : Sd c σ H ρ τ' B :=
  { s with
    rep := fun p hp => s.rep p (by
      rcases List.mem_append.mp hp with hp | hp
      · exact List.mem_append_left _ hp
      · exact List.mem_append_right _ (h.mem_iff.mpr hp))
    ap := by
      obtain ⟨h1, h2, h3⟩ := List.pairwise_append.mp s.ap
      exact List.pairwise_append.mpr ⟨h1, h2.perm h (fun h => Ap.symm h), fun a ha b hb => h3 a ha b (h.mem_iff.mpr hb)⟩ }
theorem Sd.takeO (s : Sd c σ H ρ τ B) {i : Nat} {a : Option V} {x : DV} (h : (σ.zip ρ)[i]? = some (a, x)) : Sd c (σ.set i none) H (ρ.set i .no) ((a, x) :: τ) B := by
  have hσ : σ.set i a = σ := by
    obtain ⟨h1, _⟩ := List.getElem?_zip_eq_some.mp h
    obtain ⟨lt, e⟩ := List.getElem?_eq_some_iff.mp h1
    have e : σ[i] = a := e
    rw [← e]
    exact List.set_getElem_self lt
  have z := List.pairwise_append.mp s.ap
  have ez : σ.zip (ρ.set i .no) = (σ.zip ρ).set i (a, .no) := by rw [← zip_set, hσ]
  have other : ∀ b ∈ (σ.zip ρ).set i (a, DV.no), Ap b (a, x) := fun b hb => by
    obtain ⟨j, hj⟩ := List.mem_iff_getElem?.mp hb
    by_cases ij : i = j
    · subst ij
      rw [List.getElem?_set_self (List.getElem?_eq_some_iff.mp h).1] at hj
      cases hj
      exact ap_no rfl
    · rw [List.getElem?_set_ne ij] at hj
      obtain ⟨lj, ej⟩ := List.getElem?_eq_some_iff.mp hj
      obtain ⟨li, ei⟩ := List.getElem?_eq_some_iff.mp h
      have pw := List.pairwise_iff_getElem.mp z.1
      rcases Nat.lt_or_ge i j with hij | hij
      · have q := pw i j li lj hij
        rw [ei, ej] at q
        exact q.symm
      · have q := pw j i lj li (by omega)
        rw [ei, ej] at q
        exact q
  have s2 : Sd c σ H (ρ.set i .no) ((a, x) :: τ) B :=
    { len := by rw [List.length_set, s.len]
      sub := s.sub
      ext := s.ext
      new := s.new
      keep := s.keep
      wl := s.wl
      rep := fun q hq => by
        rcases List.mem_append.mp hq with hq | hq
        · rw [ez] at hq
          rcases List.mem_or_eq_of_mem_set hq with hq | e
          · exact s.rep q (List.mem_append_left _ hq)
          · subst e
            exact .inl rfl
        · rcases List.mem_cons.mp hq with e | hq
          · subst e
            exact s.rep _ (List.mem_append_left _ (List.mem_of_getElem? h))
          · exact s.rep q (List.mem_append_right _ hq)
      ap := by
        rw [ez]
        refine List.pairwise_append.mpr ⟨pw_set (fun a b h => h.symm) z.1 fun y hy => ap_no rfl, List.pairwise_cons.mpr ⟨fun q hq => z.2.2 _ (List.mem_of_getElem? h) q hq, z.2.1⟩, fun a' ha b hb => ?_⟩
        rcases List.mem_cons.mp hb with e2 | hb
        · subst e2
          exact other a' ha
        · rcases List.mem_or_eq_of_mem_set ha with ha | e3
          · exact z.2.2 a' ha b hb
          · subst e3
            exact ap_no rfl
      nbor := fun y hy => by
        rcases List.mem_or_eq_of_mem_set hy with hy | e
        · exact s.nbor y hy
        · rw [e]
          rfl
      tup := s.tup }
  have s3 := s2.drop i none
  rw [List.set_set] at s3
  exact s3
def wipeD (ρ : Env) : List Nat → Env
  | [] => ρ
  | v :: vs => (wipeD ρ vs).set v .no
def rstD (ρ : Env) : List Nat → Env → Env
  | [], r => r
  | v :: vs, r => rstD ρ vs (r.set v ((wipeD ρ vs).getD v .no))
/-- the comprehension's own names are put aside -/
theorem Sd.save (s : Sd c σ H ρ τ B) : ∀ vs : List Nat, ∃ sv : Tmp, NoBor sv ∧ Sd c (wipe σ vs) H (wipeD ρ vs) (sv ++ τ) B ∧ ∀ H' B' r τ', Sd c (wipe σ vs) H' r (sv ++ τ') B' → Sd c σ H' (rstD ρ vs r) τ' B'
  | [] => ⟨[], fun p hp => (nomatch hp), s, fun H' B' r τ' s' => s'⟩
  | v :: vs => by
    obtain ⟨sv, nb, s1, back⟩ := Sd.save s vs
    have hl := s1.len
    by_cases lt : v < (wipeD ρ vs).length
    · have hz : ((wipe σ vs).zip (wipeD ρ vs))[v]? = some ((wipe σ vs)[v]'(by omega), (wipeD ρ vs)[v]) := List.getElem?_zip_eq_some.mpr ⟨List.getElem?_eq_getElem _, List.getElem?_eq_getElem _⟩
      generalize ea : (wipe σ vs)[v]'(by omega) = a at hz
      generalize ex : (wipeD ρ vs)[v] = x at hz
      have nbx : x.isBor = false := s1.nbor x (by rw [← ex]; exact List.getElem_mem _)
      refine ⟨(a, x) :: sv, fun p hp => ?_, s1.takeO hz, fun H' B' r τ' s' => ?_⟩
      · rcases List.mem_cons.mp hp with e | hp
        · rw [e]
          exact nbx
        · exact nb p hp
      · have s2 := s'.set v nbx
        have e1 : (wipe σ (v :: vs)).set v a = wipe σ vs := by
          show ((wipe σ vs).set v none).set v a = _
          rw [List.set_set, ← ea]
          exact List.set_getElem_self _
        have e2 : (wipeD ρ vs).getD v .no = x := by
          rw [List.getD_eq_getElem?_getD, List.getElem?_eq_getElem lt, ex]
          rfl
        have s3 : Sd c ((wipe σ (v :: vs)).set v a) H' (r.set v x) (sv ++ τ') B' := s2
        rw [e1] at s3
        show Sd c σ H' (rstD ρ vs (r.set v ((wipeD ρ vs).getD v .no))) τ' B'
        rw [e2]
        exact back H' B' _ τ' s3
    · have e1 : wipe σ (v :: vs) = wipe σ vs := List.set_eq_of_length_le (by omega)
      have e2 : wipeD ρ (v :: vs) = wipeD ρ vs := List.set_eq_of_length_le (by omega)
      refine ⟨sv, nb, by rw [e1, e2]; exact s1, fun H' B' r τ' s' => ?_⟩
      rw [e1] at s'
      have hr := s'.len
      show Sd c σ H' (rstD ρ vs (r.set v _)) τ' B'
      rw [List.set_eq_of_length_le (by omega)]
      exact back H' B' r τ' s'
theorem Sd.wiped (s : Sd c σ H ρ τ B) : ∀ vs : List Nat, Sd c (wipe σ vs) H (wipeD ρ vs) τ B
  | [] => s
  | v :: vs => (Sd.wiped s vs).drop v none
end
section
variable {c : DC} {E : EZ} {X : Cx}
structure PDTs (c : DC) (E : EZ) (X : Cx) (ifs : List Expr) (t : TDT) : Prop where
  pts : PTs X ifs (liftT c E t)
  mono : MonoT t
theorem pts_wk {X : Cx} {ifs : List Expr} {t t' : TT} (h : PTs X ifs t) (k : ∀ σ H Q, t' σ H Q → t σ H Q) : PTs X ifs t' := ⟨fun pins s σ H Q I q => h.run pins s σ H Q I (k σ H Q q)⟩
def tdYes : TDT := fun ρ Q _ => Q true ρ
theorem pdts_nil : PDTs c E X [] tdYes := ⟨pts_wk pts_nil fun σ H Q ⟨ρ, τ, B, s, q⟩ => q H B s, fun ρ Q Q' Z k q => k _ _ q⟩
theorem pdts_one {e : Expr} {t : TDT} (h : PDT c E X e t) : PDTs c E X [e] t := ⟨pts_one h.pt, h.mono⟩
theorem keep_in {σ : L2.St} {H B : Hp} {ρ : Env} {τ : Tmp} {ps : List (V × PyData)} (s : Sd c σ H ρ τ B) (h : ∀ p ∈ ps, (some p.1, DV.d p.2) ∈ τ) : ∀ p ∈ ps, Dh B p.1 p.2 := fun p hp => by
  rcases s.rep _ (List.mem_append_right _ (h p hp)) with e | ⟨v, e, r⟩
  · cases e
  · cases e
    exact r
theorem wipe_wipe (σ : L2.St) (vs : List Nat) : wipe (wipe σ vs) vs = wipe σ vs := by
  refine List.ext_getElem? fun j => ?_
  rw [wipe_getN, wipe_getN]
  by_cases h : j ∈ vs
  · rw [if_pos h, if_pos h, Option.map_map]
    rfl
  · rw [if_neg h, if_neg h]
def tdLc (ti : TDI) (p : Pat) (tt : TDT) (te : TD) (vs : List Nat) : TD := fun ρ Q Z => ti ρ (fun ds r0 => ∃ W : Nat → List PyData → Env → Prop, W 0 [] (wipeD r0 vs) ∧ (∀ i d acc r, ds[i]? = some d → W i acc r → ∃ r2, bindP p d r = some r2 ∧ tt r2 (fun b r3 => if b = true then te r3 (fun y r4 => match asDat [y] with
    | some [e] => acc.length < 100000 ∧ W (i + 1) (acc ++ [e]) (wipeD r4 vs)
    | _ => False) Z else W (i + 1) acc (wipeD r3 vs)) Z) ∧ ∀ acc r, W ds.length acc r → Q (.own acc) (rstD r0 vs r)) Z
theorem mono_lc {ti : TDI} {p : Pat} {tt : TDT} {te : TD} {vs : List Nat} (hi : ∀ ρ Q Q' Z, (∀ x r, Q x r → Q' x r) → ti ρ Q Z → ti ρ Q' Z) : MonoE (tdLc ti p tt te vs) := fun ρ Q Q' Z k q => hi _ _ _ _ (fun ds r0 ⟨W, h0, ht, he⟩ => ⟨W, h0, ht, fun acc r w => k _ _ (he acc r w)⟩) q
theorem lc_run {K : PySem.W.Frag} {ti : TDI} {p : Pat} {tt : TDT} {te : TD} {vs : List Nat} {σ : L2.St} {H : Hp} {Q : VK} (hi : ∀ ρ Q Q' Z, (∀ x r, Q x r → Q' x r) → ti ρ Q Z → ti ρ Q' Z) (mt : MonoT tt) (me : MonoE te) (hp : patIn vs p = true)
    (q : lift c E (tdLc ti p tt te vs) σ H Q) : tLc (liftI c E ti) (gP K p) (liftT c E tt) (lift c E te) vs σ H Q := by
  obtain ⟨ρ, τ, B, s, q⟩ := q
  refine ⟨ρ, τ, B, s, hi _ _ _ _ (fun ds r0 hr J H1 B1 ps w s1 D nD => ?_) q⟩
  obtain ⟨W, h0, ht, he⟩ := hr
  obtain ⟨sv, nbs, s2, back⟩ := s1.save vs
  have s3 := s2.newOwn nD (vs := []) (xs := []) rfl
  have hb : ∀ p ∈ sv ++ (keepT ps ++ τ), p.2.isBor = true → p.1 ≠ some (V.ref D) := fun q hq hb e => by
    rcases List.mem_append.mp hq with hq | hq
    · rw [nbs q hq] at hb
      cases hb
    · rcases s1.rep q (List.mem_append_right _ hq) with e2 | ⟨u, e2, r2⟩
      · rw [e2] at hb
        cases hb
      · rw [e] at e2
        cases e2
        obtain ⟨a, y⟩ := q
        cases y with
        | bor ys =>
          obtain ⟨l, ws, e3, z3, _⟩ := r2
          cases e3
          rw [nD] at z3
          cases z3
        | _ => cases hb
  have kin : ∀ p ∈ ps, (some p.1, DV.d p.2) ∈ keepT ps := fun p hp => List.mem_map.mpr ⟨p, hp, rfl⟩
  refine lc_it (wk_walk w) (fun i H => ∃ acc r B, Sd c (wipe σ vs) H r ((some (.ref D), .own acc) :: (sv ++ (keepT ps ++ τ))) B ∧ W i acc r) ⟨[], _, B1, s3, h0⟩ (fun i H _ ⟨acc, r, B, s, _⟩ => ⟨B, keep_in s fun p hp => List.mem_cons_of_mem _ (List.mem_append_right _ (List.mem_append_left _ (kin p hp))), s.sub⟩) ?_ ?_
  · rintro i x H2 H3 hi' ⟨acc, r, B2, s2, w2⟩ y
    obtain ⟨B3, d, a1, a2, a3, a4, a45, a5, a6⟩ := w.yld i H2 x H3 B2 hi' (keep_in s2 fun p hp => List.mem_cons_of_mem _ (List.mem_append_right _ (List.mem_append_left _ (kin p hp)))) s2.sub y
    have s3 := s2.turn a1 a2 a3 a4 a45
    obtain ⟨r2, e2, q2⟩ := ht i d acc r a5 w2
    refine gP_ok p s3 a6 e2 fun σ' s4 w4 => ?_
    have ew : wipe σ' vs = wipe σ vs := (w4 vs hp).trans (wipe_wipe _ _)
    refine ⟨ew, r2, _, B3, s4, mt _ _ _ _ (fun b r3 hb3 H4 B4 s5 => ?_) q2⟩
    cases b with
    | true =>
      refine ⟨r3, _, B4, s5, me _ _ _ _ (fun y' r4 hy v H5 B5 s6 => ?_) hb3⟩
      split at hy
      · rename_i e he'
        obtain ⟨lt, w5⟩ := hy
        have s6' : Sd c σ' H5 r4 (pushT [v] [y'] ((some (V.ref D), DV.own acc) :: (sv ++ (keepT ps ++ τ)))) B5 := s6
        obtain ⟨B6, sB, s7, rd⟩ := s6'.args rfl he'
        obtain ⟨l, accV, el, z, _, _, rv⟩ := s7.topR
        cases el
        refine ⟨accV, z, by rw [dhL_len rv, sizeLine_eq]; omega, acc ++ [e], wipeD r4 vs, B6, ?_, w5⟩
        have s8 := (s7.mutTop hb (dhL_app rv rd)).wiped vs
        rw [ew] at s8
        exact s8
      · exact hy.elim
    | false =>
      have s6 := s5.wiped vs
      rw [ew] at s6
      exact ⟨acc, wipeD r3 vs, B4, s6, hb3⟩
  · rintro H2 ⟨acc, r, B2, s2, w2⟩
    have s3 := back H2 B2 r _ (s2.perm (List.perm_middle (a := (some (V.ref D), DV.own acc)) (l₁ := sv) (l₂ := keepT ps ++ τ)).symm)
    have s4 := s3.perm (List.perm_middle (a := (some (V.ref D), DV.own acc)) (l₁ := keepT ps) (l₂ := τ)).symm
    exact he acc r w2 _ H2 B2 (unkeep s4)
theorem pd_lc {elt tg iter : Expr} {ifs : List Expr} {scope : Scope} {own : List (Str × Nat)} {pos : Pos} {ti : TDI} {p : Pat} {tt : TDT} {te : TD} (hc : X.calm = true) (hN : X.N.Nodup) (hi : PDI c E X tg iter ti) (ok : BlkOk X.N X.env.scope scope own) (hp : patIn (own.map (·.2)) p = true)
    (hg : ∀ (s : Shared) (H : Hp) (C : Addr) (cl : List (Str × Addr)) (fp : List Addr), PG (X.blk s H scope (compEnvC scope cl C X.env) fp) tg (gP X.K p)) (ht : ∀ (s : Shared) (H : Hp) (C : Addr) (cl : List (Str × Addr)) (fp : List Addr), PDTs c E (X.blk s H scope (compEnvC scope cl C X.env) fp) ifs tt)
    (he : ∀ (s : Shared) (H : Hp) (C : Addr) (cl : List (Str × Addr)) (fp : List Addr), PDE c E (X.blk s H scope (compEnvC scope cl C X.env) fp) elt te) (hs : ∀ x, foldedSetIterable iter X.env x = pure x := by intro _; rfl) :
    PDE c E X (.ListComp elt [⟨tg, iter, ifs, 0⟩] scope pos) (tdLc ti p tt te (own.map (·.2))) :=
  ⟨pe_wk (pe_lc hc hN hi.pi ok hg (fun s H C cl fp => (ht s H C cl fp).pts) (fun s H C cl fp => (he s H C cl fp).pe) hs) fun σ H Q q => lc_run hi.mono (ht X.s_0 X.H_0 0 [] []).mono (he X.s_0 X.H_0 0 [] []).mono hp q, mono_lc hi.mono⟩
theorem pds_setLc {i : Nat} {y : Str} {py : Pos} {elt tg iter : Expr} {ifs : List Expr} {scope : Scope} {own : List (Str × Nat)} {pos spos : Pos} {ti : TDI} {p : Pat} {tt : TDT} {te : TD} (hc : X.calm = true) (hN : X.N.Nodup) (hy : X.N[i]? = some y) (hyl : X.env.scope.names.lookup y = some .local)
    (hsw : swapsWith (.ListComp elt [⟨tg, iter, ifs, 0⟩] scope pos) (some (.Name y py)) spos.line X.env = pure true) (hi : PDI c E X tg iter ti) (ok : BlkOk X.N X.env.scope scope own) (hp : patIn (own.map (·.2)) p = true)
    (hg : ∀ (s : Shared) (H : Hp) (C : Addr) (cl : List (Str × Addr)) (fp : List Addr), PG (X.blk s H scope (compEnvC scope cl C X.env) fp) tg (gP X.K p)) (ht : ∀ (s : Shared) (H : Hp) (C : Addr) (cl : List (Str × Addr)) (fp : List Addr), PDTs c E (X.blk s H scope (compEnvC scope cl C X.env) fp) ifs tt)
    (he : ∀ (s : Shared) (H : Hp) (C : Addr) (cl : List (Str × Addr)) (fp : List Addr), PDE c E (X.blk s H scope (compEnvC scope cl C X.env) fp) elt te) (hs : ∀ x, foldedSetIterable iter X.env x = pure x := by intro _; rfl) :
    PDS c E X (.Assign [.Name y py] (.ListComp elt [⟨tg, iter, ifs, 0⟩] scope pos) spos) (tdSet i (tdLc ti p tt te (own.map (·.2)))) :=
  ⟨ps_wk (ps_setLc hc hN hy hyl hsw hi.pi ok hg (fun s H C cl fp => (ht s H C cl fp).pts) (fun s H C cl fp => (he s H C cl fp).pe) hs) fun D σ H ⟨ρ, τ, B, s, nb, q⟩ => lc_run hi.mono (ht X.s_0 X.H_0 0 [] []).mono (he X.s_0 X.H_0 0 [] []).mono hp ⟨ρ, τ, B, s, mono_lc hi.mono _ _ _ _ (fun x r hr v H' B' s' => hr.2 _ H' B' (s'.set i hr.1)) q⟩, mono_set (mono_lc hi.mono)⟩
/-! ### defs -/
def spD (C : Addr) (n : Nat) (td : List DV → (DV → Prop) → EZ → Prop) : Sp := fun vs H Q E => ∃ (c : DC) (xs : List DV) (Z : EZ), (c.C = C ∧ Nt c.B0) ∧ c.H0 = H ∧ Same c.B0 H ∧ vs.length = n ∧ xs.length = n ∧ (∀ p ∈ (vs.map some).zip xs, RepO c c.B0 H p) ∧ (∀ x ∈ xs, x.isOwn = false ∧ x.isBor = false) ∧ (∀ w, c.W w → c.B0 w = none ∧ IsWell c H w) ∧ (∀ b ys, H b = some (.tup ys) → c.B0 b = some (.tup ys)) ∧ (∀ C n x, Z C n x → XW c E C n x) ∧
  td xs (fun x => ∀ v H' B', Fin c H' B' → RepV c B' H' v x → Q v H') Z
theorem spD_len {C : Addr} {n : Nat} {td : List DV → (DV → Prop) → EZ → Prop} : ∀ vs H Q E, spD C n td vs H Q E → vs.length = n := fun vs H Q E ⟨c, xs, Z, _, _, _, h, _⟩ => h
def fnD (k : Nat) (t : TDS) : List DV → (DV → Prop) → EZ → Prop := fun xs Q Z => t ⟨fun _ => Q (.d .none), Q, fun _ => False, fun _ => False⟩ (xs ++ List.replicate k .no) Z
theorem fn_start {c : DC} {N : List Str} {vs : List V} {xs : List DV} {n k : Nat} {H : Hp} (h0 : c.H0 = H) (hB : Same c.B0 H) (hv : vs.length = n) (hx : xs.length = n) (hr : ∀ p ∈ (vs.map some).zip xs, RepO c c.B0 H p) (ho : ∀ x ∈ xs, x.isOwn = false ∧ x.isBor = false) (hw : ∀ w, c.W w → c.B0 w = none ∧ IsWell c H w) (htp : ∀ b ys, H b = some (.tup ys) → c.B0 b = some (.tup ys)) (hN : N.length = n + k) :
    Sd c (L2.start N vs) H (xs ++ List.replicate k .no) [] c.B0 := by
  have el : L2.start N vs = vs.map some ++ List.replicate k none := by
    unfold L2.start
    rw [show N.length - vs.length = k by omega]
  have ez : (L2.start N vs).zip (xs ++ List.replicate k DV.no) = (vs.map some).zip xs ++ (List.replicate k (none : Option V)).zip (List.replicate k DV.no) := by
    rw [el, List.zip_append (by rw [List.length_map, hv, hx])]
  have all : ∀ p ∈ (L2.start N vs).zip (xs ++ List.replicate k DV.no) ++ [], RepO c c.B0 H p ∧ p.2.isOwn = false := fun p hp => by
    rw [List.append_nil, ez] at hp
    obtain ⟨p1, p2⟩ := p
    rcases List.mem_append.mp hp with hp | hp
    · exact ⟨hr _ hp, (ho p2 (List.of_mem_zip hp).2).1⟩
    · have : p2 = .no := List.eq_of_mem_replicate (List.of_mem_zip hp).2
      subst this
      exact ⟨.inl rfl, rfl⟩
  exact {
    len := by rw [el]; simp [hv, hx]
    sub := hB
    ext := Same.refl _
    new := fun b o z => .inl z
    keep := fun b o z _ => by rw [← h0]; exact z
    wl := fun w z => ⟨(hw w z).1, (by
      obtain ⟨o, e⟩ := (hw w z).2.here
      rw [h0, e]
      intro q
      cases q), (hw w z).2⟩
    rep := fun p hp => (all p hp).1
    ap := List.pairwise_of_forall_mem_list fun a ha b hb => ap_no (all a ha).2
    nbor := fun x hx => by
      rcases List.mem_append.mp hx with hx | hx
      · exact (ho x hx).2
      · rw [List.eq_of_mem_replicate hx]
        rfl
    tup := htp }
theorem fn_go {C : Addr} {N : List Str} {body : List Stmt} {t : TDS} {n k : Nat} {vs : List V} {H : Hp} {Q : VK} {E : XK} (h : spD C n (fnD k t) vs H Q E) (hN : N.length = n + k)
    (T : ∀ (c : DC) (Z : EZ), (c.C = C ∧ Nt c.B0) → (∀ C n x, Z C n x → XW c E C n x) → PDSs c Z X body t) : ∃ tt, PSs X body tt ∧ tt { nx := fun _ H' => Q .non H', rt := Q } (L2.start N vs) H := by
  obtain ⟨c, xs, Z, hC, h0, hB, hv, hx, hr, ho, hw, htp, hZ, q⟩ := h
  have T1 := T c Z hC hZ
  refine ⟨_, T1.ps, _, [], c.B0, fn_start h0 hB hv hx hr ho hw htp hN, fun p hp => (nomatch hp), ?_⟩
  exact T1.mono ⟨fun _ => ∀ v H' B', Fin c H' B' → RepV c B' H' v (.d .none) → Q v H', fun x => ∀ v H' B', Fin c H' B' → RepV c B' H' v x → Q v H', fun _ => False, fun _ => False⟩ _ _ Z (fun r hr σ' H' B' s' => hr _ H' B' s'.fin rfl) (fun x hx => hx) (fun r hr => hr.elim) (fun r hr => hr.elim) q
/-! ### calls -/
def argsOf : List DV → Option (List DV)
  | [] => some []
  | .own xs :: r => (argsOf r).map (.d (.list xs) :: ·)
  | .no :: _ => none
  | .bor _ :: _ => none
  | x :: r => (argsOf r).map (x :: ·)
theorem argsOf_cons {x : DV} {r ys : List DV} (h : argsOf (x :: r) = some ys) : ∃ y zs, ys = y :: zs ∧ argsOf r = some zs ∧ ((∃ xs, x = .own xs ∧ y = .d (.list xs)) ∨ (x = y ∧ x.isOwn = false ∧ x.isBor = false ∧ x ≠ .no)) := by
  cases x with
  | no => cases h
  | bor _ => cases h
  | own xs =>
    simp only [argsOf, Option.map_eq_some_iff] at h
    obtain ⟨zs, e, rfl⟩ := h
    exact ⟨_, zs, rfl, e, .inl ⟨xs, rfl, rfl⟩⟩
  | d x =>
    simp only [argsOf, Option.map_eq_some_iff] at h
    obtain ⟨zs, e, rfl⟩ := h
    exact ⟨_, zs, rfl, e, .inr ⟨rfl, rfl, rfl, by intro h; cases h⟩⟩
  | slab ps L =>
    simp only [argsOf, Option.map_eq_some_iff] at h
    obtain ⟨zs, e, rfl⟩ := h
    exact ⟨_, zs, rfl, e, .inr ⟨rfl, rfl, rfl, by intro h; cases h⟩⟩
  | well =>
    simp only [argsOf, Option.map_eq_some_iff] at h
    obtain ⟨zs, e, rfl⟩ := h
    exact ⟨_, zs, rfl, e, .inr ⟨rfl, rfl, rfl, by intro h; cases h⟩⟩
  | any v =>
    simp only [argsOf, Option.map_eq_some_iff] at h
    obtain ⟨zs, e, rfl⟩ := h
    exact ⟨_, zs, rfl, e, .inr ⟨rfl, rfl, rfl, by intro h; cases h⟩⟩
section
variable {σ : L2.St} {H : Hp} {ρ : Env}
theorem frz_keep {v : V} {x : DV} {B B' : Hp} (h : RepV c B H v x) (s : Same B B') (n : x.isOwn = false) : RepV c B' H v x := by
  cases x with
  | no => trivial
  | d x => exact Dh.keep s _ _ h
  | own _ => cases n
  | bor xs =>
    obtain ⟨l, vs, e, z, w, r⟩ := h
    exact ⟨l, vs, e, z, w, Dh.keepL s _ _ r⟩
  | slab ps L =>
    obtain ⟨p, l, xc, e, a, r⟩ := h
    exact ⟨p, l, xc, e, a.keep s, PairsAt.keep s r⟩
  | well => exact h
  | any u => exact h
theorem Sd.argsV : ∀ {vs : List V} {xs ys : List DV} {τ : Tmp} {B : Hp}, Sd c σ H ρ (pushT vs xs τ) B → vs.length = xs.length → argsOf xs = some ys → ∃ B', Same B B' ∧ Sd c σ H ρ τ B' ∧ (∀ p ∈ vs.zip ys, RepV c B' H p.1 p.2) ∧ vs.length = ys.length ∧ ∀ y ∈ ys, y.isOwn = false ∧ y.isBor = false
  | [], [], ys, τ, B, s, _, e => by
    cases e
    exact ⟨B, Same.refl _, s, fun p hp => (nomatch hp), rfl, fun y hy => (nomatch hy)⟩
  | v :: vs, x :: xs, ys, τ, B, s, hl, e => by
    have hl' : vs.length = xs.length := by simpa using hl
    obtain ⟨y, zs, rfl, e2, hy⟩ := argsOf_cons e
    obtain ⟨B1, sB, s1, r1, l1, n1⟩ := Sd.argsV (τ := (some v, x) :: τ) s hl' e2
    rcases hy with ⟨ws, rfl, rfl⟩ | ⟨rfl, o1, o2, o3⟩
    · obtain ⟨B', sB', s2⟩ := s1.frz
      refine ⟨B', sB.trans sB', s2.pop, fun p hp => ?_, by rw [List.length_cons, List.length_cons, l1], fun y hy => ?_⟩
      · rcases List.mem_cons.mp hp with e | hp
        · rw [e]
          exact s2.topR
        · obtain ⟨p1, p2⟩ := p
          exact frz_keep (r1 _ hp) sB' (n1 p2 (List.of_mem_zip hp).2).1
      · rcases List.mem_cons.mp hy with e | hy
        · rw [e]
          exact ⟨rfl, rfl⟩
        · exact n1 y hy
    · refine ⟨B1, sB, s1.pop, fun p hp => ?_, by rw [List.length_cons, List.length_cons, l1], fun y hy => ?_⟩
      · rcases List.mem_cons.mp hp with e | hp
        · rw [e]
          exact s1.topR
        · exact r1 p hp
      · rcases List.mem_cons.mp hy with e | hy
        · rw [e]
          exact ⟨o1, o2⟩
        · exact n1 y hy
/-- behind a call -/
theorem Sd.call {τ : Tmp} {B H' B' : Hp} {v : V} {x : DV} (s : Sd c σ H ρ τ B) (f : Fin ⟨c.C, H, B, c.W, c.TT⟩ H' B') (r : RepV ⟨c.C, H, B, c.W, c.TT⟩ B' H' v x) (hb : x.isBor = false) : Sd c σ H' ρ ((some v, x) :: τ) B' := by
  have s1 : Sd c σ H' ρ τ B' := s.grow f.ext f.sub f.keep f.new f.wl f.tup
  have r' : RepV c B' H' v x := by
    cases x with
    | own xs =>
      obtain ⟨l, vs, e, z, nb, n0, rr⟩ := r
      exact ⟨l, vs, e, z, nb, s.fresh n0, rr⟩
    | bor _ => cases hb
    | no => exact r
    | d _ => exact r
    | slab _ _ => exact r
    | well => exact r
    | any _ => exact r
  by_cases ho : x.isOwn = true
  · cases x with
    | own xs =>
      obtain ⟨l, vs, rfl, z, nb, n0, rr⟩ := r
      have far : ∀ q ∈ σ.zip ρ ++ τ, Ap (some (V.ref l), DV.own xs) q := fun q hq _ ho e => by
        rcases s.rep q hq with e2 | ⟨u, e2, r2⟩
        · rw [e2] at ho
          cases ho
        · rw [e2] at e
          cases e
          obtain ⟨a, y⟩ := q
          cases y with
          | own ys =>
            obtain ⟨l', ws, e3, z3, _⟩ := r2
            cases e3
            have n0 : H l = none := n0
            rw [n0] at z3
            cases z3
          | _ => cases ho
      refine { s1 with rep := fun q hq => ?_, ap := ?_ }
      · rcases List.mem_append.mp hq with hq | hq
        · exact s1.rep q (List.mem_append_left _ hq)
        · rcases List.mem_cons.mp hq with e | hq
          · subst e
            exact .inr ⟨_, rfl, r'⟩
          · exact s1.rep q (List.mem_append_right _ hq)
      · have z := List.pairwise_append.mp s1.ap
        refine List.pairwise_append.mpr ⟨z.1, List.pairwise_cons.mpr ⟨fun q hq => far q (List.mem_append_right _ hq), z.2.1⟩, fun a ha b hb => ?_⟩
        rcases List.mem_cons.mp hb with e | hb
        · subst e
          exact (far a (List.mem_append_left _ ha)).symm
        · exact z.2.2 a ha b hb
    | _ => cases ho
  · exact s1.push r' (by simpa using ho)
theorem fin_call {τ : Tmp} {B H' B' : Hp} (s : Sd c σ H ρ τ B) (f : Fin ⟨c.C, H, B, c.W, c.TT⟩ H' B') : Fin c H' B' := (s.grow f.ext f.sub f.keep f.new f.wl f.tup).fin
theorem xw_call {τ : Tmp} {B : Hp} {E : XK} {C : Addr} {n : Str} {x : DV} (s : Sd c σ H ρ τ B) (hb : x.isBor = false) (h : XW c E C n x) : XW ⟨c.C, H, B, c.W, c.TT⟩ E C n x := fun v H' B' d f r z nd => by
  refine h v H' B' d (fin_call s f) ?_ z (s.fresh nd)
  exact (s.call f r hb).topR
end
def tdFn (td : List DV → (DV → Prop) → EZ → Prop) (ta : TDA) : TD := fun ρ Q Z => ta ρ (fun xs r => match argsOf xs with
  | some ys => td ys (fun x => x.isBor = false ∧ Q x r) (fun C n x => x.isBor = false ∧ Z C n x)
  | none => False) Z
def MonoF (td : List DV → (DV → Prop) → EZ → Prop) : Prop := ∀ xs Q Q' Z, (∀ x, Q x → Q' x) → td xs Q Z → td xs Q' Z
theorem mono_fnD {k : Nat} {t : TDS} (h : MonoSt t) : MonoF (fnD k t) := fun xs Q Q' Z m q => h ⟨fun _ => Q (.d .none), Q, fun _ => False, fun _ => False⟩ ⟨fun _ => Q' (.d .none), Q', fun _ => False, fun _ => False⟩ _ Z (fun r hr => m _ hr) (fun x hx => m _ hx) (fun _ h => h) (fun _ h => h) q
theorem mono_fn {td : List DV → (DV → Prop) → EZ → Prop} {ta : TDA} (mf : MonoF td) (ma : MonoA ta) : MonoE (tdFn td ta) := fun ρ Q Q' Z m q => ma _ _ _ _ (fun xs r hx => by
  split at hx
  · exact mf _ _ _ _ (fun x hx => ⟨hx.1, m _ _ hx.2⟩) hx
  · exact hx.elim) q
/-- a call, as the callee sees it -/
theorem call_sp {td : List DV → (DV → Prop) → EZ → Prop} {σ : L2.St} {H B : Hp} {ρ : Env} {τ : Tmp} {vs : List V} {xs : List DV} {n : Nat} {Q : VK} {Qd : DV → Env → Prop} {EX : XK} (mf : MonoF td) (hN : Nt c.B0) (hZ : ∀ C n x, E C n x → XW c EX C n x) (s : Sd c σ H ρ (pushT vs xs τ) B) (hl : vs.length = xs.length) (hn : vs.length = n)
    (h : match argsOf xs with | some ys => td ys (fun x => x.isBor = false ∧ Qd x ρ) (fun C n x => x.isBor = false ∧ E C n x) | none => False)
    (k : ∀ x v H' B', Qd x ρ → Sd c σ H' ρ ((some v, x) :: τ) B' → Q v H') : spD c.C n td vs H Q EX := by
  split at h
  · rename_i ys e
    obtain ⟨B0, sB, s0, r0, l1, n1⟩ := s.argsV hl e
    have s1 := s0.filt hN
    have r1 := fun p hp => rep_filt (r0 p hp)
    refine ⟨⟨c.C, H, DL.filt B0, c.W, c.TT⟩, ys, _, ⟨rfl, filt_nt⟩, rfl, s1.sub, hn, by omega, fun p hp => ?_, n1, fun w hw => ⟨(s1.wl w hw).1, (s1.wl w hw).2.2⟩, s1.tup, fun C n x hx => xw_call s1 hx.1 (hZ C n x hx.2), mf _ _ _ _ (fun x hx v H' B' f r => ?_) h⟩
    · have : ∃ v, p.1 = some v ∧ (v, p.2) ∈ vs.zip ys := by
        rw [List.zip_map_left] at hp
        obtain ⟨q, hq, rfl⟩ := List.mem_map.mp hp
        exact ⟨q.1, rfl, hq⟩
      obtain ⟨v, ev, hv⟩ := this
      have z := r1 _ hv
      refine .inr ⟨v, ev, ?_⟩
      have no := (n1 p.2 (List.of_mem_zip hv).2)
      obtain ⟨p1, p2⟩ := p
      cases p2 with
      | own _ => exact absurd no.1 (by intro h; cases h)
      | bor _ => exact absurd no.2 (by intro h; cases h)
      | no => exact z
      | d _ => exact z
      | slab _ _ => exact z
      | well => exact z
      | any _ => exact z
    · exact k x v H' B' hx.2 (s1.call f r hx.1)
  · exact h.elim
theorem pd_call {CX : CXT} {k n : Nat} {f : Addr} {fd : FuncData} {ps : List Str} {td : List DV → (DV → Prop) → EZ → Prop} {EX : XK} {x : Str} {p pos : Pos} {e : Expr} {es : List Expr} {ta : TDA} {C : Addr}
    (F : FnOk X.prog X.w X.K X.mg X.base CX k f fd ps (spD C n td)) (mf : MonoF td) (hC : c.C = C ∧ Nt c.B0) (hZ : ∀ C n x, E C n x → XW c EX C n x) (hr : Room k X.A) (hg : Gl X x) (hm : X.mg x = some (.ref f)) (hk : PySem.W.keepIn X.K (.ref f) = true) (hb : Binds X.K fd ps []) (hx : Passes CX X EX)
    (ha : PDA c E X (e :: es) ta) (hn : (e :: es).length = n := by rfl) (hdb : (x == ("__debug__" : Str)) = false := by decide) (he : starEach (e :: es) X.env = (false, eval e X.env) :: starEach es X.env := by rfl) (hpl : (backTo pos (starEach es X.env)).any (·.1) = false := by rfl) :
    PDE c E X (.Call (.Name x p) (e :: es) [] pos) (tdFn td ta) := by
  obtain ⟨hC, hN⟩ := hC
  subst hC
  refine ⟨pe_wk (pe_call F hr hg hm hk hb .nil hx ha.pa hdb he hpl) fun σ H Q ⟨ρ, τ, B, s, q⟩ => ⟨ρ, τ, B, s, ha.mono _ _ _ _ (fun xs r hx vs H' B' hl s' => ?_) (ha.len _ _ _ q)⟩, mono_fn mf ha.mono⟩
  show spD c.C n td (vs ++ []) H' Q EX
  rw [List.append_nil]
  exact call_sp (Qd := fun x ρ' => ∀ v H' B', Sd c σ H' ρ' ((some v, x) :: τ) B' → Q v H') mf hN hZ s' hl (by omega) hx.2 fun x v H2 B2 hq s2 => hq v H2 B2 s2
end
end DL
set_option Elab.async false
set_option linter.all false
set_option maxRecDepth 100000
set_option maxHeartbeats 4000000
/-! tables as data -/
namespace SL
open PySem PySem.Spec PyProof.Rows L2 XV
def dTup (ns : List Int) : PyData := .tuple (dInts ns)
def dRows (rows : List (List Int)) : PyData := .tuple (rows.map dTup)
theorem dpTups {K : PySem.W.Frag} {H : Hp} : ∀ {xs : List V} {rows : List (List Int)}, RowsAt H xs rows → DpAll K H xs (rows.map dTup)
  | _, _, .nil => .nil
  | _, _, .cons ⟨c, e, z⟩ r => by
    subst e
    exact .cons (.tup (SqT.of z) (dpInts _)) (dpTups r)
theorem dpRows {K : PySem.W.Frag} {H : Hp} {t : V} {rows : List (List Int)} (h : TabAt H t rows) : Dp K H t (dRows rows) := by
  obtain ⟨a, xs, rfl, e, r⟩ := h
  exact .tup (SqT.of e) (dpTups r)
theorem dTups_lay : ∀ rows : List (List Int), PyData.canLayAll0 (rows.map dTup) = true
  | [] => by simp [PyData.canLayAll0]
  | ns :: rows => by
    have h := dTups_lay rows
    have h1 := dInts_lay ns
    simp [PyData.canLayAll0, dTup, PyData.canLay0, h, h1]
theorem dTups_depth : ∀ rows : List (List Int), PyData.depthAll (rows.map dTup) ≤ 1
  | [] => by simp [PyData.depthAll]
  | ns :: rows => by
    have h := dTups_depth rows
    have h1 := dInts_depth ns
    simp only [List.map_cons, PyData.depthAll, dTup, PyData.depth]
    omega
theorem dRows_shaped (rows : List (List Int)) : SeqAt.shaped (dRows rows) = true := by
  have h1 := dTups_depth rows
  have h2 : PyData.depth (dRows rows) ≤ 64 := by
    simp only [dRows, PyData.depth]
    omega
  show (PyData.canLay0 (dRows rows) && decide (PyData.depth (dRows rows) ≤ 64)) = true
  rw [Bool.and_eq_true]
  exact ⟨by simp only [dRows, PyData.canLay0]; exact dTups_lay rows, decide_eq_true h2⟩
theorem dTup_eqv (ns ms : List Int) : PyData.eqv (dTup ns) (dTup ms) = decide (ns = ms) := by
  have e : PyData.eqv (dTup ns) (dTup ms) = PyData.eqvAll (dInts ns) (dInts ms) := by simp only [dTup, PyData.eqv]
  rw [e, dInts_eqvAll]
theorem dTups_eqvAll : ∀ rs qs : List (List Int), PyData.eqvAll (rs.map dTup) (qs.map dTup) = decide (rs = qs)
  | [], [] => by simp [PyData.eqvAll]
  | [], _ :: _ => by simp [PyData.eqvAll]
  | _ :: _, [] => by simp [PyData.eqvAll]
  | p :: ps, q :: qs => by
    have h := dTups_eqvAll ps qs
    simp only [List.map_cons, PyData.eqvAll, dTup_eqv, h]
    by_cases h1 : p = q
    · by_cases h2 : ps = qs
      · subst h1 h2
        simp
      · simp [h1, h2]
    · simp [h1]
theorem dRows_eqv (rs qs : List (List Int)) : PyData.eqv (dRows rs) (dRows qs) = decide (rs = qs) := by
  have e : PyData.eqv (dRows rs) (dRows qs) = PyData.eqvAll (rs.map dTup) (qs.map dTup) := by simp only [dRows, PyData.eqv]
  rw [e, dTups_eqvAll]
end SL
set_option Elab.async false
set_option linter.all false
set_option maxRecDepth 100000
set_option maxHeartbeats 4000000
/-! lists of steps -/
namespace SL
open PySem PySem.Spec PyProof.Rows L2 XV
def stpK (H : Hp) : V → Option K3
  | .ref t => (match H t with
    | some (.tup [.str z, .int n, .int c]) => if z = "free" then some (false, n, c) else if z = "put" then some (true, n, c) else none
    | _ => none)
  | _ => none
def play (H : Hp) (ps : List (Int × Int)) (L : Int) : List V → Nat → List (List Int) → Except Nat (List (List Int))
  | [], _, rows => .ok rows
  | x :: xs, i, rows => match stpK H x with
    | some k => if posD ps L rows k = true then play H ps L xs (i + 1) (aftR rows k) else .error i
    | none => .error i
theorem stpK_at {H : Hp} {x : V} {k : K3} (h : StpAt H x k) : stpK H x = some k := by
  obtain ⟨b, n, c⟩ := k
  obtain ⟨t, rfl, e⟩ := h
  show (match H t with
    | some (.tup [.str z, .int n, .int c]) => if z = "free" then some (false, n, c) else if z = "put" then some (true, n, c) else none
    | _ => none) = _
  rw [e]
  cases b
  · rfl
  · show (if ("put" : Str) = "free" then some (false, n, c) else if ("put" : Str) = "put" then some (true, n, c) else none) = _
    rw [if_neg (by decide +kernel), if_pos rfl]
theorem stpK_some {H : Hp} {x : V} {k : K3} (h : stpK H x = some k) : StpAt H x k := by
  cases x with
  | ref t =>
    have h' : (match H t with
      | some (.tup [.str z, .int n, .int c]) => if z = "free" then some (false, n, c) else if z = "put" then some (true, n, c) else none
      | _ => none) = some k := h
    split at h'
    · rename_i z n c e
      split at h'
      · rename_i ez
        subst ez
        cases h'
        exact ⟨t, rfl, e⟩
      · split at h'
        · rename_i ez
          subst ez
          cases h'
          exact ⟨t, rfl, e⟩
        · cases h'
    · cases h'
  | _ => cases h
theorem stpK_keep {H H' : Hp} {x : V} (hx : Ty H x) (s : Same H H') : stpK H' x = stpK H x := by
  cases x with
  | ref t =>
    obtain ⟨o, e⟩ := hx.here
    show (match H' t with
      | some (.tup [.str z, .int n, .int c]) => if z = "free" then some (false, n, c) else if z = "put" then some (true, n, c) else none
      | _ => none) = (match H t with
      | some (.tup [.str z, .int n, .int c]) => if z = "free" then some (false, n, c) else if z = "put" then some (true, n, c) else none
      | _ => none)
    rw [e, s _ _ e]
  | _ => rfl
theorem stpB_of {H : Hp} {ps : List (Int × Int)} {L : Int} {rows : List (List Int)} {x : V} {k : K3} (sz : SzOk ps) (ok : TabOk ps L rows) (h : StpAt H x k) (hp : posD ps L rows k = true) : stpB H ps x = true := by
  obtain ⟨j, q, ns, e, hq, hn, _, hb⟩ := posD_iff.mp hp
  obtain ⟨b, n, c⟩ := k
  have e' : n = (j : Int) := e
  subst e'
  obtain ⟨t, rfl, et⟩ := h
  have lt := (List.getElem?_eq_some_iff.mp hq).1
  obtain ⟨_, _, _, _, a5, a6, _⟩ := chg_ok (ok.cnt j q ns hq hn).2 (sz.rg q (List.mem_of_getElem? hq)).2.1 (le_sumN (List.mem_map_of_mem (List.mem_of_getElem? hn))) ok.few hb
  rw [stpB_eq et, slB_at hq]
  have w1 : wdB (.str (wd b)) = true := by cases b <;> decide +kernel
  have w2 : inB (.int (j : Int)) 0 ((ps.length : Int) - 1) = true := by
    show (decide ((0 : Int) ≤ (j : Int)) && decide ((j : Int) ≤ (ps.length : Int) - 1)) = true
    rw [decide_eq_true (by omega), decide_eq_true (by omega)]
    rfl
  have w3 : inB (.int c) 0 q.2 = true := by
    show (decide ((0 : Int) ≤ c) && decide (c ≤ q.2)) = true
    rw [decide_eq_true a5, decide_eq_true a6]
    rfl
  rw [w1, w2, w3]
  rfl
/-- one item is no possible step -/
theorem play_no {H : Hp} {ps : List (Int × Int)} {L : Int} {rows : List (List Int)} {x : V} {xs : List V} {i : Nat} (h : ∀ k, StpAt H x k → posD ps L rows k = false) : play H ps L (x :: xs) i rows = .error i := by
  show (match stpK H x with
    | some k => if posD ps L rows k = true then play H ps L xs (i + 1) (aftR rows k) else .error i
    | none => .error i) = _
  cases e : stpK H x with
  | none => rfl
  | some k =>
    show (if posD ps L rows k = true then play H ps L xs (i + 1) (aftR rows k) else .error i) = _
    rw [h k (stpK_some e), if_neg (by decide)]
theorem play_go {H : Hp} {ps : List (Int × Int)} {L : Int} {rows : List (List Int)} {x : V} {xs : List V} {i : Nat} {k : K3} (h : StpAt H x k) (hp : posD ps L rows k = true) : play H ps L (x :: xs) i rows = play H ps L xs (i + 1) (aftR rows k) := by
  show (match stpK H x with
    | some k => if posD ps L rows k = true then play H ps L xs (i + 1) (aftR rows k) else .error i
    | none => .error i) = _
  rw [stpK_at h]
  show (if posD ps L rows k = true then _ else _) = _
  rw [if_pos hp]
/-- what played is asked with -/
theorem rows_up' {H H' : Hp} (k : ∀ b xs, H b = some (.tup xs) → H' b = some (.tup xs)) : ∀ {xs : List V} {rs : List (List Int)}, RowsAt H xs rs → RowsAt H' xs rs
  | _, _, .nil => .nil
  | _, _, .cons ⟨t, e, z⟩ r => .cons ⟨t, e, k _ _ z⟩ (rows_up' k r)
theorem ixN_nat {n j : Nat} (h : j < n) : ixN n (j : Int) = some j := by
  unfold ixN
  simp [h]
theorem rows_set {H H' : Hp} {t : V} {ms : List Int} (up : ∀ b xs, H b = some (.tup xs) → H' b = some (.tup xs)) (ht : CntAt H' t ms) : ∀ {xs : List V} {rows : List (List Int)} {j : Nat}, RowsAt H xs rows → RowsAt H' (xs.set j t) (rows.set j ms)
  | _, _, _, .nil => .nil
  | _, _, 0, .cons _ r => .cons ht (rows_up' up r)
  | _, _, j + 1, .cons ⟨c, e, z⟩ r => .cons ⟨c, e, up _ _ z⟩ (rows_set up ht r)
structure RowK (H : Hp) (row : V) : Prop where
  ty : Ty H row
  it : ∀ (a : Addr) (xs : List V), row = .ref a → H a = some (.lst xs) → xs.length ≤ 1000 ∧ ∀ x ∈ xs, TyI H x
def spPlayed (C CT CS : Addr) : Sp := fun vs H Q E => ∃ (p l : Addr) (xc : List V) (ps : List (Int × Int)) (L : Int) (t row : V), vs = [.ref p, t, row] ∧ SlabAt C H p l xc L ∧ PairsAt H xc ps ∧ SzOk ps ∧ TyT H t ∧ RowK H row ∧
  (∀ i, badT H ps L t = some i → Rz CT "index" (.int i) H E) ∧ ∀ rows, TabAt H t rows → TabOk ps L rows → ((∀ a xs, row = .ref a → H a ≠ some (.lst xs)) → Rz CS "index" (.int (-1)) H E) ∧
    ∀ a xs, row = .ref a → H a = some (.lst xs) → (∀ i, play H ps L xs 0 rows = .error i → Rz CS "index" (.int (i : Int)) H E) ∧ ∀ rows', play H ps L xs 0 rows = .ok rows' → ∀ H' u, Same H H' → TabAt H' u rows' → Q u H'
end SL
set_option Elab.async false
set_option linter.all false
set_option maxRecDepth 100000
set_option maxHeartbeats 4000000
/-! steps as data: is a step among those of a list -/
namespace SL
open PySem PySem.Spec PyProof.Rows L2 XV
def dK3 (k : K3) : PyData := .tuple [.str (wd k.1), .int k.2.1, .int k.2.2]
theorem dpK3 {K : PySem.W.Frag} {H : Hp} {x : V} {k : K3} (h : StpAt H x k) : Dp K H x (dK3 k) := by
  obtain ⟨t, rfl, e⟩ := h
  exact .tup (SqT.of e) (.cons (.str _) (.cons (.int _) (.cons (.int _) .nil)))
theorem dpK3s {K : PySem.W.Frag} {H : Hp} : ∀ {ts : List V} {ks : List K3}, Paired (StpAt H) ts ks → DpAll K H ts (ks.map dK3)
  | _, _, .nil => .nil
  | _, _, .cons a r => .cons (dpK3 a) (dpK3s r)
theorem dK3s_lay : ∀ ks : List K3, PyData.canLayAll0 (ks.map dK3) = true
  | [] => by simp [PyData.canLayAll0]
  | k :: ks => by
    have h := dK3s_lay ks
    have hw : PyData.strOk (wd k.1) = true := by cases k.1 <;> decide +kernel
    simp [PyData.canLayAll0, PyData.canLay0, dK3, h, hw]
theorem dK3s_depth : ∀ ks : List K3, PyData.depthAll (ks.map dK3) ≤ 1
  | [] => by simp [PyData.depthAll]
  | k :: ks => by
    have h := dK3s_depth ks
    simp only [List.map_cons, PyData.depthAll, dK3, PyData.depth]
    omega
theorem dK3s_shaped (ks : List K3) : SeqAt.shaped (.list (ks.map dK3)) = true := by
  have h1 := dK3s_depth ks
  have h2 : PyData.depth (.list (ks.map dK3)) ≤ 64 := by
    simp only [PyData.depth]
    omega
  show (PyData.canLay0 (.list (ks.map dK3)) && decide (PyData.depth (.list (ks.map dK3)) ≤ 64)) = true
  rw [Bool.and_eq_true]
  exact ⟨by simp only [PyData.canLay0]; exact dK3s_lay ks, decide_eq_true h2⟩
/-- an item of a tuple that may be a step -/
inductive Itm (H : Hp) : V → PyData → Prop
  | int (i : Int) : Itm H (.int i) (.int i)
  | bl (b : Bool) : Itm H (.bl b) (.bool b)
  | non : Itm H .non .none
  | str (z : Str) (h : PyData.strOk z = true) : Itm H (.str z) (.str z)
  | lst {a : Addr} : H a = some (.lst []) → Itm H (.ref a) (.list [])
theorem Itm.dp {K : PySem.W.Frag} {H : Hp} {v : V} {d : PyData} (h : Itm H v d) : Dp K H v d := by
  cases h with
  | int i => exact .int i
  | bl b => exact .bl b
  | non => exact .non
  | str z _ => exact .str z
  | lst e => exact .lst (SqL.of e) .nil
theorem Itm.keep {H H' : Hp} {v : V} {d : PyData} (h : Itm H v d) (s : Same H H') : Itm H' v d := by
  cases h with
  | int i => exact .int i
  | bl b => exact .bl b
  | non => exact .non
  | str z h => exact .str z h
  | lst e => exact .lst (s _ _ e)
theorem Itm.lay {H : Hp} {v : V} {d : PyData} (h : Itm H v d) : PyData.canLay0 d = true ∧ PyData.depth d ≤ 1 := by
  cases h with
  | str z h => exact ⟨by simp [PyData.canLay0, h], by simp [PyData.depth]⟩
  | int i => simp [PyData.canLay0, PyData.depth]
  | bl i => simp [PyData.canLay0, PyData.depth]
  | non => simp [PyData.canLay0, PyData.depth]
  | lst e => simp [PyData.canLay0, PyData.canLayAll0, PyData.depth, PyData.depthAll]
theorem itm3_dp {K : PySem.W.Frag} {H : Hp} {t : Addr} {v1 v2 v3 : V} {d1 d2 d3 : PyData} (e : H t = some (.tup [v1, v2, v3])) (h1 : Itm H v1 d1) (h2 : Itm H v2 d2) (h3 : Itm H v3 d3) : Dp K H (.ref t) (.tuple [d1, d2, d3]) :=
  .tup (SqT.of e) (.cons h1.dp (.cons h2.dp (.cons h3.dp .nil)))
theorem itm3_shaped {H : Hp} {v1 v2 v3 : V} {d1 d2 d3 : PyData} (h1 : Itm H v1 d1) (h2 : Itm H v2 d2) (h3 : Itm H v3 d3) : SeqAt.shaped (.tuple [d1, d2, d3]) = true := by
  obtain ⟨a1, b1⟩ := h1.lay
  obtain ⟨a2, b2⟩ := h2.lay
  obtain ⟨a3, b3⟩ := h3.lay
  show (PyData.canLay0 (.tuple [d1, d2, d3]) && decide (PyData.depth (.tuple [d1, d2, d3]) ≤ 64)) = true
  rw [Bool.and_eq_true]
  refine ⟨by simp [PyData.canLay0, PyData.canLayAll0, a1, a2, a3], decide_eq_true ?_⟩
  simp only [PyData.depth, PyData.depthAll]
  omega
theorem eqv3 (a b c d e f : PyData) : PyData.eqv (.tuple [a, b, c]) (.tuple [d, e, f]) = (PyData.eqv a d && (PyData.eqv b e && PyData.eqv c f)) := by
  have z : PyData.eqv (.tuple [a, b, c]) (.tuple [d, e, f]) = PyData.eqvAll [a, b, c] [d, e, f] := by simp only [PyData.eqv]
  rw [z]
  unfold PyData.eqvAll
  unfold PyData.eqvAll
  unfold PyData.eqvAll
  unfold PyData.eqvAll
  rw [Bool.and_true]
/-- is the step among them; a bool is none of the numbers -/
theorem in_steps {H : Hp} {t : Addr} {v1 v2 v3 : V} {d1 d2 d3 : PyData} (e : H t = some (.tup [v1, v2, v3])) (h1 : Itm H v1 d1) (h2 : Itm H v2 d2) (h3 : Itm H v3 d3) (n2 : ∀ b, v2 ≠ .bl b) (n3 : ∀ b, v3 ≠ .bl b) (ks : List K3) :
    ((ks.map dK3).any fun z => PyData.eqv z (.tuple [d1, d2, d3])) = true ↔ ∃ k ∈ ks, StpAt H (.ref t) k := by
  have one : ∀ k : K3, PyData.eqv (dK3 k) (.tuple [d1, d2, d3]) = true ↔ StpAt H (.ref t) k := fun k => by
    have ev : PyData.eqv (dK3 k) (.tuple [d1, d2, d3]) = (PyData.eqv (.str (wd k.1)) d1 && (PyData.eqv (.int k.2.1) d2 && PyData.eqv (.int k.2.2) d3)) := eqv3 _ _ _ _ _ _
    rw [ev, Bool.and_eq_true, Bool.and_eq_true]
    constructor
    · rintro ⟨a, b, c⟩
      cases h1 with
      | str z hz =>
        cases h2 with
        | int i =>
          cases h3 with
          | int j =>
            simp only [PyData.eqv, beq_iff_eq] at a b c
            exact ⟨t, rfl, by rw [e, a, b, c]⟩
          | bl x => exact absurd rfl (n3 x)
          | non => simp [PyData.eqv] at c
          | str z hz => simp [PyData.eqv] at c
          | lst z => simp [PyData.eqv] at c
        | bl x => exact absurd rfl (n2 x)
        | non => simp [PyData.eqv] at b
        | str z hz => simp [PyData.eqv] at b
        | lst z => simp [PyData.eqv] at b
      | int z => simp [PyData.eqv] at a
      | bl z => simp [PyData.eqv] at a
      | non => simp [PyData.eqv] at a
      | lst z => simp [PyData.eqv] at a
    · rintro ⟨t', et, z⟩
      cases et
      rw [e] at z
      cases z
      cases h1
      cases h2
      cases h3
      simp [PyData.eqv]
  rw [List.any_eq_true]
  constructor
  · rintro ⟨z, hz, h⟩
    obtain ⟨k, hk, rfl⟩ := List.mem_map.mp hz
    exact ⟨k, hk, (one k).mp h⟩
  · rintro ⟨k, hk, h⟩
    exact ⟨dK3 k, List.mem_map_of_mem hk, (one k).mpr h⟩
end SL
set_option Elab.async false
set_option linter.all false
set_option maxRecDepth 100000
set_option maxHeartbeats 4000000
/-! raise; methods; slabs; promises told over the heap, as promises over data -/
namespace DL
open PySem PySem.Spec PyProof.Rows L2 XV SL
section
variable {c : DC} {E : EZ} {X : Cx}
def tdRaise (Cx : Addr) (fld : Str) (ta : TDA) : TDS := fun _ ρ Z => ta ρ (fun xs _ => match argsOf xs with
  | some [x] => Z Cx fld x
  | _ => False) Z
theorem pds_raise {k : Nat} {Cx fI : Addr} {fd : FuncData} {x f : Str} {p pos pos2 : Pos} {e : Expr} {es : List Expr} {ta : TDA} {EX : XK} (hZ : ∀ C n x, E C n x → XW c EX C n x)
    (h : ∀ t, PA X (e :: es) t → PS X (.Raise (some (.Call (.Name x p) (e :: es) [] pos)) none pos2) (fun _ σ H => tMkR Cx f t σ H fun cls d H' => EX cls d H')) (ha : PDA c E X (e :: es) ta) : PDS c E X (.Raise (some (.Call (.Name x p) (e :: es) [] pos)) none pos2) (tdRaise Cx f ta) := by
  refine ⟨ps_wk (h _ ha.pa) fun D σ H ⟨ρ, τ, B, s, nb, q⟩ => ⟨ρ, τ, B, s, ha.mono _ _ _ _ (fun xs r hx vs H1 B1 hl s1 => ?_) q⟩, fun D D' ρ Z k1 _ _ _ q => q⟩
  split at hx
  · rename_i x e'
    obtain ⟨B2, sB, s2, r1, l1, n1⟩ := s1.argsV hl e'
    obtain ⟨v, rfl⟩ := len1 l1
    refine ⟨v, rfl, fun d H' nd sm ez => ?_⟩
    obtain ⟨B3, sB3, _, _, s3⟩ := s2.more sm
    have rv : RepV c B2 H1 v x := r1 (v, x) List.mem_cons_self
    have no := n1 x List.mem_cons_self
    refine hZ _ _ _ hx v H' B3 d s3.fin ?_ ez (s2.fresh nd)
    have := frz_keep rv sB3 no.1
    cases x with
    | own _ => exact absurd no.1 (by intro h; cases h)
    | bor _ => exact absurd no.2 (by intro h; cases h)
    | no => trivial
    | d _ => exact this
    | slab _ _ => exact this
    | well => exact this
    | any _ => exact this
  · exact hx.elim
/-! ### methods of slabs -/
def isSlab : DV → Bool
  | .slab _ _ => true
  | _ => false
def tdM (td : List DV → (DV → Prop) → EZ → Prop) (te : TD) (ta : TDA) : TD := fun ρ Q Z => te ρ (fun x r => isSlab x = true ∧ ta r (fun xs r2 => match argsOf (x :: xs) with
  | some ys => td ys (fun y => y.isBor = false ∧ Q y r2) (fun C n y => y.isBor = false ∧ Z C n y)
  | none => False) Z) Z
theorem pd_meth {n : Nat} {m : Str} {C : Addr} {td : List DV → (DV → Prop) → EZ → Prop} {EX : XK} {o e' : Expr} {es : List Expr} {te : TD} {ta : TDA} (h : ∀ te' ta', PE X o te' → PA X es ta' → PE X e' (tMeth C m (spD C n td) [] EX te' ta')) (h1 : (m == ("pairs" : Str)) = false) (h2 : (m == ("bound" : Str)) = false)
    (mf : MonoF td) (hC : c.C = C ∧ Nt c.B0) (hZ : ∀ C n x, E C n x → XW c EX C n x) (he : PDE c E X o te) (ha : PDA c E X es ta) (hn : es.length + 1 = n) : PDE c E X e' (tdM td te ta) := by
  obtain ⟨hC, hN⟩ := hC
  subst hC
  refine ⟨pe_wk (h _ _ he.pe ha.pa) fun σ H Q ⟨ρ, τ, B, s, q⟩ => ⟨ρ, τ, B, s, he.mono _ _ _ _ (fun x r hx v H1 B1 s1 => ?_) q⟩, fun ρ Q Q' Z k q => he.mono _ _ _ _ (fun x r hx => ⟨hx.1, ha.mono _ _ _ _ (fun xs r2 h2 => ?_) hx.2⟩) q⟩
  · obtain ⟨hs, hx⟩ := hx
    obtain ⟨ps, L, rfl⟩ : ∃ ps L, x = .slab ps L := by
      cases x with
      | slab ps L => exact ⟨ps, L, rfl⟩
      | _ => cases hs
    obtain ⟨p, l, xc, rfl, sl, pr⟩ := s1.topR
    obtain ⟨dx, ob⟩ := sl.ob
    refine ⟨p, dx, _, rfl, s1.sub _ _ ob, pk_no _ _ h1 h2, r, _, B1, s1, ha.mono _ _ _ _ (fun xs r2 h3 vs H2 B2 hl s2 => ?_) (ha.len _ _ _ hx)⟩
    show spD c.C n td (.ref p :: (vs ++ [])) H2 Q EX
    rw [List.append_nil]
    exact call_sp (Qd := fun x ρ' => ∀ v H' B', Sd c σ H' ρ' ((some v, x) :: τ) B' → Q v H') (vs := .ref p :: vs) (xs := .slab ps L :: xs) mf hN hZ s2 (by rw [List.length_cons, List.length_cons, hl]) (by rw [List.length_cons]; omega) h3.2 fun x v H' B' hq s3 => hq v H' B' s3
  · split at h2
    · exact mf _ _ _ _ (fun y hy => ⟨hy.1, k _ _ hy.2⟩) h2
    · exact h2.elim
end
/-! ### a promise over data, opened -/
theorem spD_old {C : Addr} {n : Nat} {td : List DV → (DV → Prop) → EZ → Prop} {vs : List V} {H : Hp} {Q : VK} {E : XK} (h : spD C n td vs H Q E) : ∃ (c : DC) (xs : List DV) (Z : EZ), (c.C = C ∧ Nt c.B0) ∧ c.H0 = H ∧ vs.length = n ∧ xs.length = n ∧ (∀ p ∈ vs.zip xs, RepV c c.B0 H p.1 p.2) ∧ Same c.B0 H ∧
    (∀ H', (∀ b o, H b = some o → ¬ c.W b → H' b = some o) → (∀ w, c.W w → IsWell c H' w) → ∃ B', Fin c H' B' ∧ Same c.B0 B' ∧ (∀ b o, B' b = some o → c.B0 b = some o ∨ (H b = none ∧ ∃ xs, o = .tup xs)) ∧ ∀ b xs, H' b = some (.tup xs) → B' b = some (.tup xs)) ∧ (∀ w, c.W w → c.B0 w = none ∧ IsWell c H w) ∧ (∀ C n x, Z C n x → XW c E C n x) ∧
    td xs (fun x => ∀ v H' B', Fin c H' B' → RepV c B' H' v x → Q v H') Z := by
  obtain ⟨c, xs, Z, hC, h0, hB, hv, hx, hr, ho, hw, htp, hZ, q⟩ := h
  refine ⟨c, xs, Z, hC, h0, hv, hx, fun p hp => ?_, hB, fun H' kh kw => ?_, hw, hZ, q⟩
  · have := hr (some p.1, p.2) (by
      rw [List.zip_map_left]
      exact List.mem_map.mpr ⟨p, hp, rfl⟩)
    rcases this with e | ⟨v, e, r⟩
    · have e : p.2 = .no := e
      rw [e]
      trivial
    · cases e
      exact r
  · have key : ∀ b xs, H' b = some (.tup xs) → H b = none ∨ H b = some (.tup xs) := fun b xs z => by
      cases e : H b with
      | none => exact .inl rfl
      | some o =>
        by_cases w : c.W b
        · exfalso
          rcases kw b w with ⟨⟨nm, m⟩, h⟩ | ⟨_, i, j, k, z2⟩
          · obtain ⟨q, z2, _⟩ := h nm m
            rw [z] at z2
            cases z2
          · rw [z] at z2
            cases z2
        · have z2 := kh _ _ e w
          rw [z] at z2
          cases z2
          exact .inr rfl
    have s0 : Same c.B0 H' := fun b o z => kh _ _ (hB _ _ z) fun w => by
      rw [(hw b w).1] at z
      cases z
    refine ⟨fun b => match c.B0 b, H' b with | none, some (.tup xs) => some (.tup xs) | u, _ => u, ?_, ?_, ?_, ?_⟩
    · refine ⟨fun b o z => ?_, fun b o z => ?_, fun b o z => ?_, fun b o z n => kh _ _ (by rw [← h0]; exact z) n, kw, fun b xs z => ?_⟩
      · have z : (match c.B0 b, H' b with | none, some (.tup xs) => some (HO.tup xs) | u, _ => u) = some o := z
        split at z
        · rename_i xs e1 e2
          rw [e2]
          exact z
        · exact s0 _ _ z
      · show (match c.B0 b, H' b with | none, some (.tup xs) => some (HO.tup xs) | u, _ => u) = some o
        rw [z]
      · have z : (match c.B0 b, H' b with | none, some (.tup xs) => some (HO.tup xs) | u, _ => u) = some o := z
        split at z
        · rename_i xs e1 e2
          rcases key b xs e2 with e | e
          · exact .inr (by rw [h0]; exact e)
          · have := htp _ _ e
            rw [e1] at this
            cases this
        · exact .inl z
      · show (match c.B0 b, H' b with | none, some (.tup xs) => some (HO.tup xs) | u, _ => u) = some (.tup xs)
        rcases key b xs z with e | e
        · have : c.B0 b = none := by
            cases q : c.B0 b with
            | none => rfl
            | some o =>
              have := hB _ _ q
              rw [e] at this
              cases this
          rw [this, z]
        · rw [htp _ _ e]
    · intro b o z
      show (match c.B0 b, H' b with | none, some (.tup xs) => some (HO.tup xs) | u, _ => u) = some o
      rw [z]
    · intro b o z
      have z : (match c.B0 b, H' b with | none, some (.tup xs) => some (HO.tup xs) | u, _ => u) = some o := z
      split at z
      · rename_i xs e1 e2
        cases z
        rcases key b xs e2 with e | e
        · exact .inr ⟨e, xs, rfl⟩
        · have := htp _ _ e
          rw [e1] at this
          cases this
      · exact .inl z
    · intro b xs z
      show (match c.B0 b, H' b with | none, some (.tup xs) => some (HO.tup xs) | u, _ => u) = some (.tup xs)
      rcases key b xs z with e | e
      · have : c.B0 b = none := by
          cases q : c.B0 b with
          | none => rfl
          | some o =>
            have := hB _ _ q
            rw [e] at this
            cases this
        rw [this, z]
      · rw [htp _ _ e]
/-! ### tables, steps, pairs -/
theorem dhL_paired {B : Hp} {α : Type} {R : V → α → Prop} {f : α → PyData} (h : ∀ v a, Dh B v (f a) → R v a) : ∀ {as : List α} {vs : List V}, DhL B vs (as.map f) → Paired R vs as
  | [], vs, r => by
    have r : vs = [] := r
    subst r
    exact .nil
  | a :: as, vs, r => by
    obtain ⟨y, ys, rfl, q1, q2⟩ := r
    exact .cons (h _ _ q1) (dhL_paired h q2)
theorem paired_dhL {B : Hp} {α : Type} {R : V → α → Prop} {f : α → PyData} (h : ∀ v a, R v a → Dh B v (f a)) : ∀ {as : List α} {vs : List V}, Paired R vs as → DhL B vs (as.map f)
  | _, _, .nil => rfl
  | _, _, .cons a r => dhL_cons (h _ _ a) (paired_dhL h r)
theorem dh_pair {B H : Hp} (s : Same B H) {v : V} {q : Int × Int} (h : Dh B v (dPair q)) : PairAt H v q := by
  obtain ⟨a, xs, rfl, z, r⟩ := h
  obtain ⟨_, _, rfl, e1, _, _, rfl, e2, e3⟩ := r
  have e3 : _ = [] := e3
  subst e3
  have e1 : _ = V.int q.1 := e1
  have e2 : _ = V.int q.2 := e2
  subst e1 e2
  exact ⟨a, rfl, s _ _ z⟩
theorem pair_dh {B H : Hp} (tp : ∀ b xs, H b = some (.tup xs) → B b = some (.tup xs)) {v : V} {q : Int × Int} (h : PairAt H v q) : Dh B v (dPair q) := by
  obtain ⟨t, rfl, e⟩ := h
  exact ⟨t, _, rfl, tp _ _ e, dhL_cons rfl (dhL_cons rfl rfl)⟩
theorem dh_cnt {B H : Hp} (s : Same B H) {v : V} {ns : List Int} (h : Dh B v (dTup ns)) : CntAt H v ns := by
  obtain ⟨a, xs, rfl, z, r⟩ := h
  rw [dhL_ints r] at z
  exact ⟨a, rfl, s _ _ z⟩
theorem cnt_dh {B H : Hp} (tp : ∀ b xs, H b = some (.tup xs) → B b = some (.tup xs)) {v : V} {ns : List Int} (h : CntAt H v ns) : Dh B v (dTup ns) := by
  obtain ⟨t, rfl, e⟩ := h
  exact ⟨t, _, rfl, tp _ _ e, ints_dhL _⟩
theorem dh_tab {B H : Hp} (s : Same B H) {v : V} {rows : List (List Int)} (h : Dh B v (dRows rows)) : TabAt H v rows := by
  obtain ⟨a, xs, rfl, z, r⟩ := h
  exact ⟨a, xs, rfl, s _ _ z, dhL_paired (R := CntAt H) (f := dTup) (fun v ns q => dh_cnt s q) r⟩
theorem tab_dh {B H : Hp} (tp : ∀ b xs, H b = some (.tup xs) → B b = some (.tup xs)) {v : V} {rows : List (List Int)} (h : TabAt H v rows) : Dh B v (dRows rows) := by
  obtain ⟨a, xs, rfl, e, r⟩ := h
  exact ⟨a, xs, rfl, tp _ _ e, paired_dhL (R := CntAt H) (f := dTup) (fun v ns q => cnt_dh tp q) r⟩
theorem dh_stp {B H : Hp} (s : Same B H) {v : V} {k : K3} (h : Dh B v (dK3 k)) : StpAt H v k := by
  obtain ⟨a, xs, rfl, z, r⟩ := h
  obtain ⟨_, _, rfl, e1, _, _, rfl, e2, _, _, rfl, e3, e4⟩ := r
  have e4 : _ = [] := e4
  subst e4
  have e1 : _ = V.str (wd k.1) := e1
  have e2 : _ = V.int k.2.1 := e2
  have e3 : _ = V.int k.2.2 := e3
  subst e1 e2 e3
  exact ⟨a, rfl, s _ _ z⟩
theorem stp_dh {B H : Hp} (tp : ∀ b xs, H b = some (.tup xs) → B b = some (.tup xs)) {v : V} {k : K3} (h : StpAt H v k) : Dh B v (dK3 k) := by
  obtain ⟨t, rfl, e⟩ := h
  exact ⟨t, _, rfl, tp _ _ e, dhL_cons rfl (dhL_cons rfl (dhL_cons rfl rfl))⟩
end DL
set_option Elab.async false
set_option linter.all false
set_option maxRecDepth 100000
set_option maxHeartbeats 4000000
/-! slabs made; pairs of names; texts; dicts without entries -/
namespace DL
open PySem PySem.Spec PyProof.Rows L2 XV SL
theorem fn_spec {P : Program} {w : World} {K : PySem.W.Frag} {mg : Str → Option Value} {base : Heap} {CX : CXT} {k n : Nat} {f : Addr} {fd : FuncData} {ps : List Str} {C : Addr} {td td' : List DV → (DV → Prop) → EZ → Prop} (F : FnOk P w K mg base CX k f fd ps (spD C n td)) (h : ∀ xs Q Z, td' xs Q Z → td xs Q Z) : FnOk P w K mg base CX k f fd ps (spD C n td') :=
  F.imp fun vs H Q E ⟨c, xs, Z, hC, h0, hB, hv, hx, hr, ho, hw, htp, hZ, q⟩ => ⟨c, xs, Z, hC, h0, hB, hv, hx, hr, ho, hw, htp, hZ, h _ _ _ q⟩
/-- a call of what raises nothing here -/
def tdFnN (td : List DV → (DV → Prop) → EZ → Prop) (ta : TDA) : TD := fun ρ Q Z => ta ρ (fun xs r => match argsOf xs with
  | some ys => td ys (fun x => x.isBor = false ∧ Q x r) (fun _ _ _ => False)
  | none => False) Z
theorem mono_fnN {td : List DV → (DV → Prop) → EZ → Prop} {ta : TDA} (mf : MonoF td) (ma : MonoA ta) : MonoE (tdFnN td ta) := fun ρ Q Q' Z m q => ma _ _ _ _ (fun xs r hx => by
  split at hx
  · exact mf _ _ _ _ (fun x hx => ⟨hx.1, m _ _ hx.2⟩) hx
  · exact hx.elim) q
theorem call_spN {c : DC} {td : List DV → (DV → Prop) → EZ → Prop} {σ : L2.St} {H B : Hp} {ρ : Env} {τ : Tmp} {vs : List V} {xs : List DV} {n : Nat} {Q : VK} {Qd : DV → Env → Prop} {EX : XK} (mf : MonoF td) (hN : Nt c.B0) (s : Sd c σ H ρ (pushT vs xs τ) B) (hl : vs.length = xs.length) (hn : vs.length = n)
    (h : match argsOf xs with | some ys => td ys (fun x => x.isBor = false ∧ Qd x ρ) (fun _ _ _ => False) | none => False)
    (k : ∀ x v H' B', Qd x ρ → Sd c σ H' ρ ((some v, x) :: τ) B' → Q v H') : spD c.C n td vs H Q EX := by
  have e : (fun (C : Addr) (n : Str) (x : DV) => x.isBor = false ∧ (fun _ _ _ => False : EZ) C n x) = (fun _ _ _ => False) := by
    funext C n x
    simp
  refine call_sp (E := fun _ _ _ => False) (Qd := Qd) mf hN (fun C n x h => h.elim) s hl hn ?_ k
  rw [e]
  exact h
theorem pd_callN {c : DC} {E : EZ} {X : Cx} {CX : CXT} {k n : Nat} {f : Addr} {fd : FuncData} {ps : List Str} {td : List DV → (DV → Prop) → EZ → Prop} {EX : XK} {x : Str} {p pos : Pos} {e : Expr} {es : List Expr} {ta : TDA} {C : Addr}
    (F : FnOk X.prog X.w X.K X.mg X.base CX k f fd ps (spD C n td)) (mf : MonoF td) (hC : c.C = C ∧ Nt c.B0) (hr : Room k X.A) (hg : Gl X x) (hm : X.mg x = some (.ref f)) (hk : PySem.W.keepIn X.K (.ref f) = true) (hb : Binds X.K fd ps []) (hx : Passes CX X EX)
    (ha : PDA c E X (e :: es) ta) (hn : (e :: es).length = n := by rfl) (hdb : (x == ("__debug__" : Str)) = false := by decide) (he : starEach (e :: es) X.env = (false, eval e X.env) :: starEach es X.env := by rfl) (hpl : (backTo pos (starEach es X.env)).any (·.1) = false := by rfl) :
    PDE c E X (.Call (.Name x p) (e :: es) [] pos) (tdFnN td ta) := by
  obtain ⟨hC, hN⟩ := hC
  subst hC
  refine ⟨pe_wk (pe_call F hr hg hm hk hb .nil hx ha.pa hdb he hpl) fun σ H Q ⟨ρ, τ, B, s, q⟩ => ⟨ρ, τ, B, s, ha.mono _ _ _ _ (fun xs r hx vs H' B' hl s' => ?_) (ha.len _ _ _ q)⟩, mono_fnN mf ha.mono⟩
  show spD c.C n td (vs ++ []) H' Q EX
  rw [List.append_nil]
  exact call_spN (Qd := fun x ρ' => ∀ v H' B', Sd c σ H' ρ' ((some v, x) :: τ) B' → Q v H') mf hN s' hl (by omega) hx.2 fun x v H2 B2 hq s2 => hq v H2 B2 s2
section
variable {c : DC} {E : EZ} {X : Cx}
theorem pd_meth0 {m : Str} {C : Addr} {td : List DV → (DV → Prop) → EZ → Prop} {EX : XK} {o e' : Expr} {te : TD} (h : ∀ te', PE X o te' → PE X e' (tMeth C m (spD C 1 td) [] EX te' tNil)) (h1 : (m == ("pairs" : Str)) = false) (h2 : (m == ("bound" : Str)) = false)
    (mf : MonoF td) (hC : c.C = C ∧ Nt c.B0) (hZ : ∀ C n x, E C n x → XW c EX C n x) (he : PDE c E X o te) : PDE c E X e' (tdM td te tdNil) := by
  obtain ⟨hC, hN⟩ := hC
  subst hC
  refine ⟨pe_wk (h _ he.pe) fun σ H Q ⟨ρ, τ, B, s, q⟩ => ⟨ρ, τ, B, s, he.mono _ _ _ _ (fun x r hx v H1 B1 s1 => ?_) q⟩, fun ρ Q Q' Z k q => he.mono _ _ _ _ (fun x r hx => ⟨hx.1, ?_⟩) q⟩
  · obtain ⟨hs, hx⟩ := hx
    obtain ⟨ps, L, rfl⟩ : ∃ ps L, x = .slab ps L := by
      cases x with
      | slab ps L => exact ⟨ps, L, rfl⟩
      | _ => cases hs
    obtain ⟨p, l, xc, rfl, sl, pr⟩ := s1.topR
    obtain ⟨dx, ob⟩ := sl.ob
    refine ⟨p, dx, _, rfl, s1.sub _ _ ob, pk_no _ _ h1 h2, ?_⟩
    show spD c.C 1 td (.ref p :: ([] ++ [])) H1 Q EX
    exact call_sp (Qd := fun x ρ' => ∀ v H' B', Sd c σ H' ρ' ((some v, x) :: τ) B' → Q v H') (vs := [.ref p]) (xs := [.slab ps L]) mf hN hZ s1 rfl rfl hx fun x v H' B' hq s3 => hq v H' B' s3
  · have hx2 := hx.2
    unfold tdNil at hx2 ⊢
    simp only at hx2 ⊢
    split at hx2
    · exact mf _ _ _ _ (fun y hy => ⟨hy.1, k _ _ hy.2⟩) hx2
    · exact hx2.elim
def tdMN (td : List DV → (DV → Prop) → EZ → Prop) (te : TD) (ta : TDA) : TD := fun ρ Q Z => te ρ (fun x r => isSlab x = true ∧ ta r (fun xs r2 => match argsOf (x :: xs) with
  | some ys => td ys (fun y => y.isBor = false ∧ Q y r2) (fun _ _ _ => False)
  | none => False) Z) Z
theorem pd_methN {n : Nat} {m : Str} {C : Addr} {td : List DV → (DV → Prop) → EZ → Prop} {EX : XK} {o e' : Expr} {es : List Expr} {te : TD} {ta : TDA} (h : ∀ te' ta', PE X o te' → PA X es ta' → PE X e' (tMeth C m (spD C n td) [] EX te' ta')) (h1 : (m == ("pairs" : Str)) = false) (h2 : (m == ("bound" : Str)) = false)
    (mf : MonoF td) (hC : c.C = C ∧ Nt c.B0) (he : PDE c E X o te) (ha : PDA c E X es ta) (hn : es.length + 1 = n) : PDE c E X e' (tdMN td te ta) := by
  obtain ⟨hC, hN⟩ := hC
  subst hC
  refine ⟨pe_wk (h _ _ he.pe ha.pa) fun σ H Q ⟨ρ, τ, B, s, q⟩ => ⟨ρ, τ, B, s, he.mono _ _ _ _ (fun x r hx v H1 B1 s1 => ?_) q⟩, fun ρ Q Q' Z k q => he.mono _ _ _ _ (fun x r hx => ⟨hx.1, ha.mono _ _ _ _ (fun xs r2 h2 => ?_) hx.2⟩) q⟩
  · obtain ⟨hs, hx⟩ := hx
    obtain ⟨ps, L, rfl⟩ : ∃ ps L, x = .slab ps L := by
      cases x with
      | slab ps L => exact ⟨ps, L, rfl⟩
      | _ => cases hs
    obtain ⟨p, l, xc, rfl, sl, pr⟩ := s1.topR
    obtain ⟨dx, ob⟩ := sl.ob
    refine ⟨p, dx, _, rfl, s1.sub _ _ ob, pk_no _ _ h1 h2, r, _, B1, s1, ha.mono _ _ _ _ (fun xs r2 h3 vs H2 B2 hl s2 => ?_) (ha.len _ _ _ hx)⟩
    show spD c.C n td (.ref p :: (vs ++ [])) H2 Q EX
    rw [List.append_nil]
    exact call_spN (Qd := fun x ρ' => ∀ v H' B', Sd c σ H' ρ' ((some v, x) :: τ) B' → Q v H') (vs := .ref p :: vs) (xs := .slab ps L :: xs) mf hN s2 (by rw [List.length_cons, List.length_cons, hl]) (by rw [List.length_cons]; omega) h3.2 fun x v H' B' hq s3 => hq v H' B' s3
  · split at h2
    · exact mf _ _ _ _ (fun y hy => ⟨hy.1, k _ _ hy.2⟩) h2
    · exact h2.elim
/-- a, b = e1, e2 -/
def tdPar (i j : Nat) (ta : TDA) : TDS := fun D ρ Z => ta ρ (fun xs r => match xs with
  | [x, y] => x.isBor = false ∧ y.isBor = false ∧ D.nx ((r.set i x).set j y)
  | _ => False) Z
theorem pds_par {i j : Nat} {st : Stmt} {a b : Expr} {ta : TDA} (h : ∀ t, PA X [a, b] t → PS X st (tPar i j t)) (hij : i ≠ j) (ha : PDA c E X [a, b] ta) : PDS c E X st (tdPar i j ta) := by
  refine ⟨ps_wk (h _ ha.pa) fun D σ H ⟨ρ, τ, B, s, nb, q⟩ => ⟨ρ, τ, B, s, ha.mono _ _ _ _ (fun xs r hx vs H1 B1 hl s1 => ?_) q⟩, fun D D' ρ Z k1 _ _ _ q => ha.mono _ _ _ _ (fun xs r hx => ?_) q⟩
  · split at hx
    · rename_i x y
      obtain ⟨v, w, rfl⟩ := len2 hl
      have s2 : Sd c σ H1 r ((some w, y) :: (some v, x) :: τ) B1 := s1
      have s3 := (s2.set j hx.2.1).set i hx.1
      refine ⟨v, w, rfl, hx.2.2 _ H1 B1 ?_⟩
      have s4 : Sd c ((σ.set j (some w)).set i (some v)) H1 ((r.set j y).set i x) τ B1 := s3
      rw [List.set_comm _ _ (Ne.symm hij), List.set_comm _ _ (Ne.symm hij)] at s4
      exact s4
    · exact hx.elim
  · split at hx
    · exact ⟨hx.1, hx.2.1, k1 _ hx.2.2⟩
    · exact hx.elim
/-- {} -/
theorem pd_dict0 {pos : Pos} : PDE c E X (.Dict [] [] pos) (tdC (.dict [])) :=
  ⟨pe_wk pe_dnewK fun σ H Q ⟨ρ, τ, B, s, q⟩ => fun p np => q _ _ _ ((s.newB np (.dK [])).push (x := .d (.dict [])) ⟨rfl, p, rfl, upd_same⟩ rfl), fun ρ Q Q' Z k h => k _ _ h⟩
/-- repr -/
def sRepr (x : DV) (Q : DV → Prop) : Prop := match datOf x with
  | some d => ((plain d = true ∧ d.showable = true ∧ d.hasDict = false ∧ d.depth ≤ 64 ∧ d.shown.length ≤ sizeLine) ∨ d = .dict []) ∧ Q (.d (.str d.shown))
  | none => False
theorem cs_repr (hg : X.A.guards = some []) (hu : X.A.units + 66 < cLine) : CallS X (.builtin "repr") (one sRepr) := by
  refine calls1 (call_repr1 hg hu) (fun x Q Q' k h => ?_) (fun c σ ρ τ B H v x Q' Qv s r hs k => ?_)
  · unfold sRepr at h ⊢
    split at h
    · exact ⟨h.1, k _ h.2⟩
    · exact h.elim
  · unfold sRepr at hs
    split at hs
    · rename_i d ed
      refine ⟨v, d.shown, rfl, ?_, k _ _ _ _ hs.2 (s.flat rfl)⟩
      rcases hs.1 with ⟨p, h1, h2, h3, h4⟩ | rfl
      · have dp := dat_at (K := X.K) s.sub r ed p
        cases d with
        | none =>
          cases dp
          have : PyData.shown .none = ("None" : Str) := by simp only [PyData.shown]
          rw [this]
          exact .non
        | bool b =>
          cases dp
          have : PyData.shown (.bool b) = (if b then "True" else "False" : Str) := by cases b <;> simp [PyData.shown]
          rw [this]
          exact .bl
        | int i =>
          cases dp
          have : PyData.shown (.int i) = (toString i : Str) := by simp only [PyData.shown]
          rw [this]
          exact .int (by simpa [PyData.showable] using h1)
        | str z =>
          cases dp
          have : PyData.shown (.str z) = reprText z := by simp only [PyData.shown]
          rw [this] at h4 ⊢
          exact .str h4
        | list ds =>
          cases dp with
          | lst a b => exact .dat (.lst a b) h1 h2 h3 h4
        | tuple ds =>
          cases dp with
          | tup a b => exact .dat (.tup a b) h1 h2 h3 h4
        | dict kvs => simp [plain] at p
      · cases x with
        | d d' =>
          cases ed
          obtain ⟨_, a, rfl, z⟩ := r
          exact .edic (s.sub _ _ z)
        | _ => cases ed
    · exact hs.elim
/-! ### slabs -/
def inD : PyData → Int → Int → Bool
  | .int i, lo, hi => decide (lo ≤ i) && decide (i ≤ hi)
  | _, _, _ => false
def scD : PyData → Bool
  | .tuple [a, b] => inD a 1 1000 && inD b 1 60
  | _ => false
def pairD : PyData → Int × Int
  | .tuple [.int a, .int b] => (a, b)
  | _ => (0, 0)
/-- what is wrong with classes and a limit -/
def badD (cls lim : PyData) : Option Int := match cls with
  | .list ds => if (decide (1 ≤ ds.length) && decide (ds.length ≤ 6)) = true then (if inD lim 0 1000000 = true then (ds.findIdx? fun x => !scD x).map fun (n : Nat) => (n : Int) else some (-1)) else some (-1)
  | _ => some (-1)
theorem inB_dat {B : Hp} {v : V} {d : PyData} {lo hi : Int} (h : Dh B v d) : inB v lo hi = inD d lo hi := by
  cases d with
  | none => simp only [Dh] at h; subst h; rfl
  | bool b => simp only [Dh] at h; subst h; rfl
  | int b => simp only [Dh] at h; subst h; rfl
  | str b => simp only [Dh] at h; subst h; rfl
  | list b => obtain ⟨a, xs, rfl, _⟩ := h; rfl
  | tuple b => obtain ⟨a, xs, rfl, _⟩ := h; rfl
  | dict b => obtain ⟨_, a, rfl, _⟩ := h; rfl
theorem scB_dat {B H : Hp} (s : Same B H) {v : V} {d : PyData} (h : Dh B v d) : scB H v = scD d := by
  have no : ∀ {a : Addr} {o : HO}, H a = some o → (∀ y z, o ≠ .tup [y, z]) → scB H (.ref a) = false := fun {a o} e n => by
    show (match H a with | some (.tup [y, z]) => inB y 1 1000 && inB z 1 60 | _ => false) = false
    rw [e]
    split
    · rename_i y z e2
      cases e2
      exact absurd rfl (n y z)
    · rfl
  cases d with
  | none => simp only [Dh] at h; subst h; rfl
  | bool b => simp only [Dh] at h; subst h; rfl
  | int b => simp only [Dh] at h; subst h; rfl
  | str b => simp only [Dh] at h; subst h; rfl
  | list b => obtain ⟨a, xs, rfl, e, _⟩ := h; exact no (s _ _ e) fun y z q => by cases q
  | dict b => obtain ⟨_, a, rfl, e⟩ := h; exact no (s _ _ e) fun y z q => by cases q
  | tuple ds =>
    obtain ⟨a, xs, rfl, e, r⟩ := h
    have hl := dhL_len r
    match ds, r with
    | [d1, d2], r =>
      obtain ⟨_, _, rfl, e1, _, _, rfl, e2, e3⟩ := r
      have e3 : _ = [] := e3
      subst e3
      show (match H a with | some (.tup [y, z]) => inB y 1 1000 && inB z 1 60 | _ => false) = (inD d1 1 1000 && inD d2 1 60)
      rw [s _ _ e]
      show (inB _ 1 1000 && inB _ 1 60) = _
      rw [inB_dat e1, inB_dat e2]
    | [], r => exact no (s _ _ e) fun y z q => by cases q; simp at hl
    | [_], r => exact no (s _ _ e) fun y z q => by cases q; simp at hl
    | _ :: _ :: _ :: _, r => exact no (s _ _ e) fun y z q => by cases q; simp at hl
theorem badI_dat {B H : Hp} (s : Same B H) {v w : V} {d e : PyData} (h : Dh B v d) (k : Dh B w e) : badI H v w = badD d e := by
  have no : ∀ {a : Addr} {o : HO}, H a = some o → (∀ y, o ≠ .lst y) → badI H (.ref a) w = some (-1) := fun {a o} e n => by
    unfold badI
    simp only [e]
    split
    · rename_i y e2
      cases e2
      exact absurd rfl (n y)
    · rfl
  cases d with
  | none => simp only [Dh] at h; subst h; rfl
  | bool b => simp only [Dh] at h; subst h; rfl
  | int b => simp only [Dh] at h; subst h; rfl
  | str b => simp only [Dh] at h; subst h; rfl
  | tuple b => obtain ⟨a, xs, rfl, e, _⟩ := h; exact no (s _ _ e) fun y q => by cases q
  | dict b => obtain ⟨_, a, rfl, e⟩ := h; exact no (s _ _ e) fun y q => by cases q
  | list ds =>
    obtain ⟨a, xs, rfl, ea, r⟩ := h
    have hl := dhL_len r
    have hf : badL H xs = (ds.findIdx? fun x => !scD x).map fun (n : Nat) => (n : Int) := by
      unfold badL
      congr 1
      clear hl ea
      induction ds generalizing xs with
      | nil =>
        have r : xs = [] := r
        subst r
        rfl
      | cons d ds ih =>
        obtain ⟨y, ys, rfl, q1, q2⟩ := r
        rw [List.findIdx?_cons, List.findIdx?_cons, scB_dat s q1, ih _ q2]
    unfold badI badD
    simp only [s _ _ ea]
    rw [hl, inB_dat k, hf]
def slabQ (CS : Addr) (Z : EZ) (cls lim : PyData) (Q : List (Int × Int) → Int → Prop) : Prop := match badD cls lim with
  | some i => Z CS "index" (.d (.int i))
  | none => match cls, lim with
    | .list ds, .int L => Q (ds.map pairD) L
    | _, _ => False
theorem slabQ_mono {CS : Addr} {Z : EZ} {cls lim : PyData} {Q Q' : List (Int × Int) → Int → Prop} (k : ∀ ps L, Q ps L → Q' ps L) (h : slabQ CS Z cls lim Q) : slabQ CS Z cls lim Q' := by
  unfold slabQ at h ⊢
  split at h
  · exact h
  · split at h
    · exact k _ _ h
    · exact h.elim
def tdSlab (f : EZ → EZ) (CS : Addr) (ta : TDA) : TD := fun ρ Q Z => ta ρ (fun xs r => match asDat xs with
  | some [cls, lim] => (match cls with
      | .list ds => ds.length ≤ 1000
      | _ => True) ∧ slabQ CS (f Z) cls lim fun ps L => Q (.slab ps L) r
  | _ => False) Z
theorem scD_pair {d : PyData} (h : scD d = true) : d = dPair (pairD d) := by
  unfold scD at h
  split at h
  · rename_i a b
    rw [Bool.and_eq_true] at h
    cases a <;> simp [inD] at h
    cases b <;> simp [inD] at h
    rfl
  · cases h
theorem dhL_pairs {B : Hp} : ∀ {ds : List PyData} {xs : List V}, DhL B xs ds → (∀ d ∈ ds, scD d = true) → PairsAt B xs (ds.map pairD)
  | [], xs, r, _ => by
    have r : xs = [] := r
    subst r
    exact .nil
  | d :: ds, xs, r, h => by
    obtain ⟨y, ys, rfl, q1, q2⟩ := r
    rw [scD_pair (h d List.mem_cons_self)] at q1
    refine .cons (dh_pair (Same.refl _) ?_) (dhL_pairs q2 fun d hd => h d (List.mem_cons_of_mem _ hd))
    exact q1
theorem pd_slab {f : EZ → EZ} {CS : Addr} {EX : XK} {e' : Expr} {es : List Expr} {ta : TDA} {C : Addr} (hC : c.C = C ∧ Nt c.B0) (hZ : ∀ C n x, f E C n x → XW c EX C n x) (h : ∀ t, PA X es t → PE X e' (tMake C (spInit C CS) [] EX t)) (ha : PDA c E X es ta) : PDE c E X e' (tdSlab f CS ta) := by
  obtain ⟨hC, hN⟩ := hC
  subst hC
  refine ⟨pe_wk (h _ ha.pa) fun σ H Q ⟨ρ, τ, B, s, q⟩ => ⟨ρ, τ, B, s, ha.mono _ _ _ _ (fun xs r hx vs H1 B1 hl s1 => ?_) q⟩, fun ρ Q Q' Z k q => ha.mono _ _ _ _ (fun xs r hx => ?_) q⟩
  · split at hx
    · rename_i cls lim ed
      obtain ⟨B2, sB, s2, rd⟩ := s1.args hl ed
      obtain ⟨v, _, rfl, h1, w, _, rfl, h2, e3⟩ := rd
      have e3 : _ = [] := e3
      subst e3
      intro x dx nx ndx hne
      have S0 : Same H1 (upd (upd H1 dx (.own x)) x (.ins c.C dx [])) := fun b o e => by
        rw [upd_ne (ne_of_none e nx), upd_ne (ne_of_none e ndx)]
        exact e
      have hb1 := badI_dat s2.sub h1 h2
      have hb2 := badI_dat (s2.sub.trans S0) h1 h2
      obtain ⟨hlen, hx⟩ := hx
      refine ⟨x, dx, v, w, rfl, upd_same, ⟨_, (dh_k7 h1).keep (s2.sub.trans S0)⟩, ⟨_, (dh_k7 h2).keep (s2.sub.trans S0)⟩, fun a ys ea ez => ?_, fun i e => ?_, fun a ys L e ec el ea l H' nl hk sl => ⟨rfl, ?_⟩⟩
      · subst ea
        cases cls with
        | list ds =>
          obtain ⟨a', xs', ee, z, r⟩ := h1
          cases ee
          have z2 := S0 _ _ (s2.sub _ _ z)
          rw [ez] at z2
          cases z2
          refine ⟨by rw [dhL_len r]; exact hlen, fun y hy => ?_⟩
          obtain ⟨j, hj⟩ := List.mem_iff_getElem?.mp hy
          obtain ⟨d, _, hd⟩ := dhL_get' r hj
          refine ⟨⟨_, (dh_k7 hd).keep (s2.sub.trans S0)⟩, fun b zs eb ez2 y2 hy2 => ?_⟩
          subst eb
          cases d with
          | tuple es' =>
            obtain ⟨b', zs', ee, z3, r3⟩ := hd
            cases ee
            have z4 := S0 _ _ (s2.sub _ _ z3)
            rw [ez2] at z4
            cases z4
            obtain ⟨j2, hj2⟩ := List.mem_iff_getElem?.mp hy2
            obtain ⟨d2, _, hd2⟩ := dhL_get' r3 hj2
            exact ⟨_, (dh_k7 hd2).keep (s2.sub.trans S0)⟩
          | list es' =>
            obtain ⟨b', zs', ee, z3, r3⟩ := hd
            cases ee
            have z4 := S0 _ _ (s2.sub _ _ z3)
            rw [ez2] at z4
            cases z4
          | dict es' =>
            obtain ⟨_, b', ee, z3⟩ := hd
            cases ee
            have z4 := S0 _ _ (s2.sub _ _ z3)
            rw [ez2] at z4
            cases z4
          | none => simp only [Dh] at hd; cases hd
          | bool _ => simp only [Dh] at hd; cases hd
          | int _ => simp only [Dh] at hd; cases hd
          | str _ => simp only [Dh] at hd; cases hd
        | tuple ds =>
          obtain ⟨a', xs', ee, z, r⟩ := h1
          cases ee
          have z2 := S0 _ _ (s2.sub _ _ z)
          rw [ez] at z2
          cases z2
        | dict ds =>
          obtain ⟨_, a', ee, z⟩ := h1
          cases ee
          have z2 := S0 _ _ (s2.sub _ _ z)
          rw [ez] at z2
          cases z2
        | none => simp only [Dh] at h1; cases h1
        | bool _ => simp only [Dh] at h1; cases h1
        | int _ => simp only [Dh] at h1; cases h1
        | str _ => simp only [Dh] at h1; cases h1
      · rw [hb2] at e
        unfold slabQ at hx
        rw [e] at hx
        intro d H' nd sm ez
        have sm' := S0.trans sm
        obtain ⟨B3, sB3, _, _, s3⟩ := s2.more sm'
        refine hZ _ _ _ hx (.int i) H' B3 d s3.fin rfl ez (s2.fresh ?_)
        cases q : H1 d with
        | none => rfl
        | some o =>
          rw [S0 _ _ q] at nd
          cases nd
      · rw [hb2] at e
        unfold slabQ at hx
        rw [e] at hx
        subst ec el
        have hL : lim = .int L := by
          cases lim with
          | int L' => have h2 : V.int L = V.int L' := h2; cases h2; rfl
          | none => simp only [Dh] at h2; cases h2
          | bool _ => simp only [Dh] at h2; cases h2
          | str _ => simp only [Dh] at h2; cases h2
          | list _ => obtain ⟨_, _, ee, _⟩ := h2; cases ee
          | tuple _ => obtain ⟨_, _, ee, _⟩ := h2; cases ee
          | dict _ => obtain ⟨_, _, ee, _⟩ := h2; cases ee
        subst hL
        cases cls with
        | list ds =>
          obtain ⟨a', xs', ee, z, rr⟩ := h1
          cases ee
          have z2 := S0 _ _ (s2.sub _ _ z)
          rw [ea] at z2
          cases z2
          have allsc : ∀ d ∈ ds, scD d = true := by
            unfold badD at e
            simp only at e
            split at e
            · split at e
              · rw [Option.map_eq_none_iff] at e
                intro d hd
                have := List.findIdx?_eq_none_iff.mp e d hd
                simpa using this
              · cases e
            · cases e
          have pr := dhL_pairs rr allsc
          have keepA : ∀ b o, H1 b = some o → H' b = some o := fun b o z => hk b o (S0 _ _ z) (ne_of_none z nx)
          obtain ⟨B3, sB3, nw3, tp3, s3⟩ := s2.more (H' := H') keepA
          have nl1 : H1 l = none := S0.free nl
          obtain ⟨dx', obx⟩ := sl.ob
          have hxl : x ≠ l := fun e => by
            rw [← e, upd_same] at nl
            cases nl
          have s4 : Sd c σ H' r τ (upd (upd B3 x (.ins c.C dx' (pk l L))) l (.lst ys)) := by
            refine s2.grow (fun b o z => ?_) (fun b o z => ?_) (fun b o z _ => keepA _ _ z) (fun b o z => ?_) (fun w hw => (s2.wl w hw).2.2.keep fun _ _ z _ => keepA _ _ z) fun b zs z => ?_
            · have zH := s2.sub _ _ z
              rw [upd_ne (ne_of_none zH nl1), upd_ne (ne_of_none zH nx)]
              exact sB3 _ _ z
            · by_cases e1 : b = l
              · subst e1
                rw [upd_same] at z
                rw [sl.ls]
                exact z
              · rw [upd_ne e1] at z
                by_cases e2 : b = x
                · subst e2
                  rw [upd_same] at z
                  rw [obx]
                  exact z
                · rw [upd_ne e2] at z
                  exact s3.sub _ _ z
            · by_cases e1 : b = l
              · subst e1
                exact .inr nl1
              · rw [upd_ne e1] at z
                by_cases e2 : b = x
                · subst e2
                  exact .inr nx
                · rw [upd_ne e2] at z
                  exact (nw3 _ _ z).elim .inl fun q => .inr q.1
            · have e1 : b ≠ l := fun e => by rw [e, sl.ls] at z; cases z
              have e2 : b ≠ x := fun e => by rw [e, obx] at z; cases z
              rw [upd_ne e1, upd_ne e2]
              exact s3.tup _ _ z
          refine hx _ H' _ (s4.push (x := .slab (ds.map pairD) L) ⟨x, l, ys, rfl, ⟨⟨dx', by rw [upd_ne hxl]; exact upd_same⟩, upd_same⟩, PairsAt.keep (fun b o z => ?_) pr⟩ rfl)
          have zH := s2.sub _ _ z
          rw [upd_ne (ne_of_none zH nl1), upd_ne (ne_of_none zH nx)]
          exact sB3 _ _ z
        | _ => simp at hx
    · exact hx.elim
  · split at hx
    · exact ⟨hx.1, slabQ_mono (fun ps L h => k _ _ h) hx.2⟩
    · exact hx.elim
end
end DL
set_option Elab.async false
set_option linter.all false
set_option maxRecDepth 100000
set_option maxHeartbeats 4000000
/-! what the functions of tables do, over data; how promises over the heap become such -/
namespace DL
open PySem PySem.Spec PyProof.Rows L2 XV SL
theorem dh_ty {B H : Hp} (s : Same B H) {v : V} {d : PyData} (h : Dh B v d) : Ty H v := ⟨_, (dh_k7 h).keep s⟩
theorem dh_tyI {B H : Hp} (s : Same B H) {v : V} {d : PyData} (h : Dh B v d) : TyI H v := by
  refine ⟨dh_ty s h, fun b zs eb ez y hy => ?_⟩
  subst eb
  cases d with
  | tuple es =>
    obtain ⟨b', zs', ee, z3, r3⟩ := h
    cases ee
    rw [s _ _ z3] at ez
    cases ez
    obtain ⟨j, hj⟩ := List.mem_iff_getElem?.mp hy
    obtain ⟨d2, _, hd⟩ := dhL_get' r3 hj
    exact dh_ty s hd
  | list es =>
    obtain ⟨b', zs', ee, z3, r3⟩ := h
    cases ee
    rw [s _ _ z3] at ez
    cases ez
  | dict es =>
    obtain ⟨_, b', ee, z3⟩ := h
    cases ee
    rw [s _ _ z3] at ez
    cases ez
  | none => simp only [Dh] at h; cases h
  | bool _ => simp only [Dh] at h; cases h
  | int _ => simp only [Dh] at h; cases h
  | str _ => simp only [Dh] at h; cases h
theorem dh_seq {B H : Hp} (s : Same B H) {b : Addr} {zs : List V} {d : PyData} (h : Dh B (.ref b) d) (e : H b = some (.tup zs)) : ∃ ds, d = .tuple ds ∧ DhL B zs ds := by
  cases d with
  | tuple es =>
    obtain ⟨b', zs', ee, z3, r3⟩ := h
    cases ee
    rw [s _ _ z3] at e
    cases e
    exact ⟨es, rfl, r3⟩
  | list es =>
    obtain ⟨b', zs', ee, z3, r3⟩ := h
    cases ee
    rw [s _ _ z3] at e
    cases e
  | dict es =>
    obtain ⟨_, b', ee, z3⟩ := h
    cases ee
    rw [s _ _ z3] at e
    cases e
  | none => simp only [Dh] at h; cases h
  | bool _ => simp only [Dh] at h; cases h
  | int _ => simp only [Dh] at h; cases h
  | str _ => simp only [Dh] at h; cases h
theorem dh_tyT {B H : Hp} (s : Same B H) {v : V} {d : PyData} (h : Dh B v d) (hl : ∀ ds, d = .tuple ds → ds.length ≤ 1000) : TyT H v := by
  refine ⟨dh_ty s h, fun a xs e ez => ?_⟩
  subst e
  obtain ⟨ds, rfl, r⟩ := dh_seq s h ez
  refine ⟨by rw [dhL_len r]; exact hl ds rfl, fun x hx => ?_⟩
  obtain ⟨j, hj⟩ := List.mem_iff_getElem?.mp hx
  obtain ⟨d2, _, hd⟩ := dhL_get' r hj
  exact dh_tyI s hd
/-- a new list is added to the data -/
theorem Fin.addL {c : DC} {H' B' : Hp} (f : Fin c H' B') {l : Addr} {xs : List V} (n : c.H0 l = none) (nB : B' l = none) (e : H' l = some (.lst xs)) : Fin c H' (upd B' l (.lst xs)) :=
  ⟨fun b o z => by
    by_cases q : b = l
    · subst q
      rw [upd_same] at z
      rw [e]
      exact z
    · rw [upd_ne q] at z
      exact f.sub _ _ z, f.ext.trans (same_upd nB), fun b o z => by
    by_cases q : b = l
    · subst q
      exact .inr n
    · rw [upd_ne q] at z
      exact f.new _ _ z, f.keep, f.wl, fun b ys z => by
    have q : b ≠ l := fun q => by rw [q, e] at z; cases z
    rw [upd_ne q]
    exact f.tup _ _ z⟩
/-- pairs, as they stand -/
theorem dhL_sorts {B H : Hp} (s : Same B H) {ps : List (Int × Int)} {xs : List V} (h : DhL B xs (ps.map dPair)) : PairsAt H xs ps := dhL_paired (R := PairAt H) (f := dPair) (fun v q z => dh_pair s z) h
theorem sorts_dhL {B H : Hp} (tp : ∀ b xs, H b = some (.tup xs) → B b = some (.tup xs)) {ps : List (Int × Int)} {xs : List V} (h : PairsAt H xs ps) : DhL B xs (ps.map dPair) := paired_dhL (R := PairAt H) (f := dPair) (fun v q z => pair_dh tp z) h
/-! ### what they do -/
def tdDraw : List DV → (DV → Prop) → EZ → Prop := fun xs Q _ => ∃ m : Int, xs = [.well, .d (.int m)] ∧ 0 < m ∧ m < 1073741824 ∧ ∀ n : Int, 0 ≤ n → n < m → Q (.d (.int n))
def tdLSlab : List DV → (DV → Prop) → EZ → Prop := fun xs Q _ => xs = [.well] ∧ ∀ (ps : List (Int × Int)) (L : Int), 1 ≤ ps.length → ps.length ≤ 6 → (∀ q ∈ ps, (1 ≤ q.1 ∧ q.1 ≤ 200) ∧ 1 ≤ q.2 ∧ q.2 ≤ 20) → 6 ≤ L → L ≤ 5100 → Q (.d (.tuple [.list (ps.map dPair), .int L]))
def tdLTable : List DV → (DV → Prop) → EZ → Prop := fun xs Q _ => ∃ (ps : List (Int × Int)) (L : Int), xs = [.well, .d (.list (ps.map dPair)), .d (.int L)] ∧ (∀ q ∈ ps, (1 ≤ q.1 ∧ q.1 ≤ 200) ∧ 1 ≤ q.2 ∧ q.2 ≤ 20) ∧ 1 ≤ ps.length ∧ ps.length ≤ 6 ∧ 0 ≤ L ∧ L ≤ 1000000 ∧
  ∀ (rows : List (List Int)) (m : Int), TabOk ps L rows → pgs rows ≤ 15 → Q (.d (.tuple [dRows rows, .int m]))
/-- of a slab and a table of it -/
def tdTab (g : List (Int × Int) → Int → List (List Int) → DV) : List DV → (DV → Prop) → EZ → Prop := fun xs Q _ => ∃ (ps : List (Int × Int)) (L : Int) (rows : List (List Int)), xs = [.slab ps L, .d (dRows rows)] ∧ SzOk ps ∧ TabOk ps L rows ∧ Q (g ps L rows)
def tdEmpty : List DV → (DV → Prop) → EZ → Prop := fun xs Q _ => ∃ (ps : List (Int × Int)) (L : Int), xs = [.slab ps L] ∧ 1 ≤ ps.length ∧ ps.length ≤ 6 ∧ Q (.d (dRows (List.replicate ps.length [])))
def tdLLive : List DV → (DV → Prop) → EZ → Prop := fun xs Q _ => ∃ (ps : List (Int × Int)) (rows : List (List Int)), xs = [.d (.list (ps.map dPair)), .d (dRows rows)] ∧ (∀ q ∈ ps, 0 ≤ q.1 ∧ q.1 ≤ 1000) ∧ rows.length = ps.length ∧ ps.length ≤ 900 ∧ Q (.d (.int (lv ps rows)))
/-- the possible steps, in ascending order -/
def StepsOf (ps : List (Int × Int)) (L : Int) (rows : List (List Int)) (ks : List K3) : Prop := ks.Pairwise (fun a b => bef a b = true) ∧ (∀ k, k ∈ ks ↔ PosK ps L rows k) ∧ ks.length ≤ 800
theorem bef_irr (k : K3) : bef k k = false := by
  obtain ⟨b, i, c⟩ := k
  unfold bef
  rw [decide_eq_false_iff_not]
  simp
theorem bef_asym {a b : K3} (h : bef a b = true) : bef b a = false := by
  obtain ⟨b1, i1, c1⟩ := a
  obtain ⟨b2, i2, c2⟩ := b
  unfold bef at h ⊢
  rw [decide_eq_true_eq] at h
  rw [decide_eq_false_iff_not]
  simp only at h ⊢
  cases b1 <;> cases b2 <;> simp at h ⊢ <;> omega
/-- there is one such list -/
theorem stepsOf_eq {ps : List (Int × Int)} {L : Int} {rows : List (List Int)} {ks ks' : List K3} (h : StepsOf ps L rows ks) (h' : StepsOf ps L rows ks') : ks = ks' := by
  have nd : ∀ {l : List K3}, l.Pairwise (fun a b => bef a b = true) → l.Nodup := fun h => h.imp fun {a b} q e => by
    subst e
    rw [bef_irr] at q
    cases q
  have pm : ks.Perm ks' := by
    refine (List.perm_ext_iff_of_nodup (nd h.1) (nd h'.1)).mpr fun k => ?_
    rw [h.2.1, h'.2.1]
  exact pm.eq_of_pairwise (fun a b _ _ h1 h2 => by rw [bef_asym h1] at h2; cases h2) h.1 h'.1
def tdSteps : List DV → (DV → Prop) → EZ → Prop := fun xs Q _ => ∃ (ps : List (Int × Int)) (L : Int) (rows : List (List Int)), xs = [.slab ps L, .d (dRows rows)] ∧ SzOk ps ∧ TabOk ps L rows ∧ ∀ ks, StepsOf ps L rows ks → Q (.own (ks.map dK3))
def tdLSteps : List DV → (DV → Prop) → EZ → Prop := fun xs Q _ => ∃ (ps : List (Int × Int)) (L : Int) (rows : List (List Int)), xs = [.d (.list (ps.map dPair)), .d (.int L), .d (dRows rows)] ∧ SzOk ps ∧ TabOk ps L rows ∧ ∀ ks, StepsOf ps L rows ks → Q (.own (ks.map dK3))
def tdLAfter : List DV → (DV → Prop) → EZ → Prop := fun xs Q _ => ∃ (ps : List (Int × Int)) (L : Int) (rows : List (List Int)) (k : K3), xs = [.d (dRows rows), .d (dK3 k)] ∧ SzOk ps ∧ TabOk ps L rows ∧ PosK ps L rows k ∧ Q (.d (dRows (aftR rows k)))
/-- a step of data -/
def stpD : PyData → Option K3
  | .tuple [.str z, .int n, .int c] => if z = "free" then some (false, n, c) else if z = "put" then some (true, n, c) else none
  | _ => none
def playD (ps : List (Int × Int)) (L : Int) : List PyData → Nat → List (List Int) → Except Nat (List (List Int))
  | [], _, rows => .ok rows
  | x :: xs, i, rows => match stpD x with
    | some k => if posD ps L rows k = true then playD ps L xs (i + 1) (aftR rows k) else .error i
    | none => .error i
theorem stpK_dat {B H : Hp} (s : Same B H) {v : V} {d : PyData} (h : Dh B v d) : stpK H v = stpD d := by
  have no : ∀ {a : Addr} {o : HO}, H a = some o → (∀ z n c, o ≠ .tup [.str z, .int n, .int c]) → stpK H (.ref a) = none := fun {a o} e n => by
    show (match H a with
      | some (.tup [.str z, .int n, .int c]) => if z = "free" then some (false, n, c) else if z = "put" then some (true, n, c) else none
      | _ => none) = none
    rw [e]
    split
    · rename_i z n' c e2
      cases e2
      exact absurd rfl (n z n' c)
    · rfl
  cases d with
  | none => simp only [Dh] at h; subst h; rfl
  | bool b => simp only [Dh] at h; subst h; rfl
  | int b => simp only [Dh] at h; subst h; rfl
  | str b => simp only [Dh] at h; subst h; rfl
  | list b => obtain ⟨a, xs, rfl, e, _⟩ := h; exact no (s _ _ e) fun z n c q => by cases q
  | dict b => obtain ⟨_, a, rfl, e⟩ := h; exact no (s _ _ e) fun z n c q => by cases q
  | tuple ds =>
    obtain ⟨a, xs, rfl, e, r⟩ := h
    by_cases q : ∃ z n c, ds = [.str z, .int n, .int c]
    · obtain ⟨z, n, c, rfl⟩ := q
      obtain ⟨_, _, rfl, e1, _, _, rfl, e2, _, _, rfl, e3, e4⟩ := r
      have e4 : _ = [] := e4
      subst e4
      have e1 : _ = V.str z := e1
      have e2 : _ = V.int n := e2
      have e3 : _ = V.int c := e3
      subst e1 e2 e3
      show (match H a with
        | some (.tup [.str z, .int n, .int c]) => if z = "free" then some (false, n, c) else if z = "put" then some (true, n, c) else none
        | _ => none) = _
      rw [s _ _ e]
      rfl
    · have e2 : stpD (.tuple ds) = none := by
        unfold stpD
        split
        · rename_i z n c e3
          cases e3
          exact absurd ⟨z, n, c, rfl⟩ q
        · rfl
      rw [e2]
      refine no (s _ _ e) fun z n c e3 => q ⟨z, n, c, ?_⟩
      cases e3
      have key : ∀ {ds : List PyData}, DhL B [V.str z, V.int n, V.int c] ds → ds = [.str z, .int n, .int c] := fun {ds} r => by
        have hl := dhL_len r
        match ds, r, hl with
        | [d1, d2, d3], r, _ =>
          obtain ⟨_, _, ee, e1, _, _, ee2, e2, _, _, ee3, e3, _⟩ := r
          cases ee
          cases ee2
          cases ee3
          have f1 : d1 = .str z := by
            cases d1 <;> first | (simp only [Dh] at e1; cases e1; done) | (simp only [Dh] at e1; cases e1; rfl) | (obtain ⟨_, _, q, _⟩ := e1; cases q) | (obtain ⟨_, _, q, _⟩ := e1; cases q)
          have f2 : d2 = .int n := by
            cases d2 <;> first | (simp only [Dh] at e2; cases e2; done) | (simp only [Dh] at e2; cases e2; rfl) | (obtain ⟨_, _, q, _⟩ := e2; cases q)
          have f3 : d3 = .int c := by
            cases d3 <;> first | (simp only [Dh] at e3; cases e3; done) | (simp only [Dh] at e3; cases e3; rfl) | (obtain ⟨_, _, q, _⟩ := e3; cases q)
          rw [f1, f2, f3]
      exact key r
theorem play_dat {B H : Hp} (s : Same B H) {ps : List (Int × Int)} {L : Int} : ∀ {ds : List PyData} {xs : List V} {i : Nat} {rows : List (List Int)}, DhL B xs ds → play H ps L xs i rows = playD ps L ds i rows
  | [], xs, i, rows, h => by
    have h : xs = [] := h
    subst h
    rfl
  | d :: ds, xs, i, rows, h => by
    obtain ⟨y, ys, rfl, a, b⟩ := h
    show (match stpK H y with
      | some k => if posD ps L rows k = true then play H ps L ys (i + 1) (aftR rows k) else .error i
      | none => .error i) = (match stpD d with
      | some k => if posD ps L rows k = true then playD ps L ds (i + 1) (aftR rows k) else .error i
      | none => .error i)
    rw [stpK_dat s a]
    cases stpD d with
    | none => rfl
    | some k => simp only [play_dat s b]
/-- what played answers, as the law tells it -/
def outD (ps : List (Int × Int)) (L : Int) (rows : List (List Int)) (row : PyData) : PyData := match row with
  | .list ds => (match playD ps L ds 0 rows with
    | .error i => .tuple [.str "steps", .int (i : Int)]
    | .ok r => .tuple [.str "told", dRows r])
  | _ => .tuple [.str "steps", .int (-1)]
def itmD : PyData → Bool
  | .int _ => true
  | .bool _ => true
  | .none => true
  | .str z => PyData.strOk z
  | .list [] => true
  | _ => false
/-- a list of steps, as far as the law looks into it -/
def rowD : PyData → Prop
  | .list ds => ds.length ≤ 1000 ∧ ∀ d1 d2 d3, .tuple [d1, d2, d3] ∈ ds → itmD d1 = true ∧ itmD d2 = true ∧ itmD d3 = true
  | _ => True
def tdLAsked : List DV → (DV → Prop) → EZ → Prop := fun xs Q _ => ∃ (ps : List (Int × Int)) (L : Int) (rows : List (List Int)) (row : PyData), xs = [.slab ps L, .d (dRows rows), .d row] ∧ SzOk ps ∧ TabOk ps L rows ∧ rowD row ∧ Q (.d (outD ps L rows row))
def tdLDue : List DV → (DV → Prop) → EZ → Prop := fun xs Q _ => ∃ (ps : List (Int × Int)) (L : Int) (rows : List (List Int)) (row : PyData), xs = [.d (.list (ps.map dPair)), .d (.int L), .d (dRows rows), .d row] ∧ SzOk ps ∧ TabOk ps L rows ∧ rowD row ∧ Q (.d (outD ps L rows row))
theorem mf_draw : MonoF tdDraw := fun xs Q Q' Z k ⟨m, a, b, c, h⟩ => ⟨m, a, b, c, fun n h0 h1 => k _ (h n h0 h1)⟩
theorem mf_lslab : MonoF tdLSlab := fun xs Q Q' Z k ⟨a, h⟩ => ⟨a, fun ps L a b c d e => k _ (h ps L a b c d e)⟩
theorem mf_ltable : MonoF tdLTable := fun xs Q Q' Z k ⟨ps, L, a, b, c, d, e, f, h⟩ => ⟨ps, L, a, b, c, d, e, f, fun rows m x y => k _ (h rows m x y)⟩
theorem mf_tab {g} : MonoF (tdTab g) := fun xs Q Q' Z k ⟨ps, L, rows, a, b, c, h⟩ => ⟨ps, L, rows, a, b, c, k _ h⟩
theorem mf_empty : MonoF tdEmpty := fun xs Q Q' Z k ⟨ps, L, a, b, c, h⟩ => ⟨ps, L, a, b, c, k _ h⟩
theorem mf_llive : MonoF tdLLive := fun xs Q Q' Z k ⟨ps, rows, a, b, c, d, h⟩ => ⟨ps, rows, a, b, c, d, k _ h⟩
theorem mf_steps : MonoF tdSteps := fun xs Q Q' Z k ⟨ps, L, rows, a, b, c, h⟩ => ⟨ps, L, rows, a, b, c, fun ks q => k _ (h ks q)⟩
theorem mf_lsteps : MonoF tdLSteps := fun xs Q Q' Z k ⟨ps, L, rows, a, b, c, h⟩ => ⟨ps, L, rows, a, b, c, fun ks q => k _ (h ks q)⟩
theorem mf_lafter : MonoF tdLAfter := fun xs Q Q' Z k ⟨ps, L, rows, kk, a, b, c, d, h⟩ => ⟨ps, L, rows, kk, a, b, c, d, k _ h⟩
theorem mf_lasked : MonoF tdLAsked := fun xs Q Q' Z k ⟨ps, L, rows, row, a, b, c, d, h⟩ => ⟨ps, L, rows, row, a, b, c, d, k _ h⟩
theorem mf_ldue : MonoF tdLDue := fun xs Q Q' Z k ⟨ps, L, rows, row, a, b, c, d, h⟩ => ⟨ps, L, rows, row, a, b, c, d, k _ h⟩
end DL
set_option Elab.async false
set_option linter.all false
set_option maxRecDepth 100000
set_option maxHeartbeats 4000000
/-! turned lists; what the bent rows hold -/
namespace DL
open PySem PySem.Spec PyProof.Rows L2 XV SL
theorem dhL_revH {B : Hp} : ∀ {ds : List PyData} {vs : List V}, DhL B vs ds → DhL B vs.reverse ds.reverse
  | [], vs, h => by
    have h : vs = [] := h
    subst h
    exact rfl
  | d :: ds, vs, h => by
    obtain ⟨v, ws, rfl, a, b⟩ := h
    rw [List.reverse_cons, List.reverse_cons]
    exact dhL_app (dhL_revH b) ⟨v, [], rfl, a, rfl⟩
def tdRev (te : TD) : TD := fun ρ Q Z => te ρ (fun x r => match lstOf x with
  | some xs => Q (.own xs.reverse) r
  | none => False) Z
theorem pd_rev {c : DC} {E : EZ} {X : Cx} {e : Expr} {te : TD} {k : Nat} {p1 p2 p3 pos : Pos} (he : PDE c E X e te) : PDE c E X (.Subscript e (.Slice none none (some (.UnaryOp .USub (.Constant (.int 1) k p1) p2)) p3) pos) (tdRev te) := by
  refine ⟨pe_wk (pe_revL he.pe) fun σ H Q ⟨ρ, τ, B, s, q⟩ => ⟨ρ, τ, B, s, he.mono _ _ _ _ (fun x ρ1 q1 v H1 B1 s1 => ?_) q⟩, fun ρ Q Q' Z k q => he.mono _ _ _ _ (fun x r q1 => ?_) q⟩
  · split at q1
    · rename_i ds et
      obtain ⟨a, vs, rfl, z, h1⟩ := lst_at s1.pop.sub s1.topR et
      exact ⟨a, vs, rfl, SqL.of z, fun p np => q1 _ _ _ (s1.pop.newOwn np (dhL_revH h1))⟩
    · exact q1.elim
  · split at q1
    · exact k _ _ q1
    · exact q1.elim
end DL
set_option Elab.async false
set_option linter.all false
set_option maxRecDepth 100000
set_option maxHeartbeats 4000000
/-! texts compared; defs from which texts are asked; how a def over data is asked from the heap with a well alone -/
namespace DL
open PySem PySem.Spec PyProof.Rows L2 XV SL
theorem FnG.imp {P : Program} {w : World} {K : PySem.W.Frag} {mg : Str → Option Value} {base : Heap} {CX : CXT} {k : Nat} {f : Addr} {fd : FuncData} {ps : List Str} {sp sp' : Sp} (F : FnG P w K mg base CX k f fd ps sp) (h : ∀ vs H Q E, sp' vs H Q E → sp vs H Q E) : FnG P w K mg base CX k f fd ps sp' :=
  ⟨fun vs H Q E z => F.len vs H Q E (h _ _ _ _ z), fun A outer s H args us vs Q E g r e b v z => F.run A outer s H args us vs Q E g r e b v (h _ _ _ _ z)⟩
theorem fn_specG {P : Program} {w : World} {K : PySem.W.Frag} {mg : Str → Option Value} {base : Heap} {CX : CXT} {k n : Nat} {f : Addr} {fd : FuncData} {ps : List Str} {C : Addr} {td td' : List DV → (DV → Prop) → EZ → Prop} (F : FnG P w K mg base CX k f fd ps (spD C n td)) (h : ∀ xs Q Z, td' xs Q Z → td xs Q Z) : FnG P w K mg base CX k f fd ps (spD C n td') :=
  FnG.imp F fun vs H Q E ⟨c, xs, Z, hC, h0, hB, hv, hx, hr, ho, hw, htp, hZ, q⟩ => ⟨c, xs, Z, hC, h0, hB, hv, hx, hr, ho, hw, htp, hZ, h _ _ _ q⟩
/-- asked with a well: answers True, and leaves the rest -/
def spWell : Sp := fun vs H Q _ => ∃ l : Addr, vs = [.ref l] ∧ (∃ i j k : Int, H l = some (.lst [.int i, .int j, .int k])) ∧ ∀ H', (∀ b o, H b = some o → b ≠ l → H' b = some o) → Q (.bl true) H'
def tdWell : List DV → (DV → Prop) → EZ → Prop := fun xs Q _ => xs = [.well] ∧ Q (.d (.bool true))
theorem ad_well {C : Addr} : ∀ vs H Q E, spWell vs H Q E → spD C 1 tdWell vs H Q E := fun vs H Q E ⟨l, ev, ⟨i, j, k, e⟩, q⟩ => by
  subst ev
  refine ⟨⟨C, H, DL.filt fun b => if b = l then none else H b, fun b => b = l, []⟩, [.well], fun _ _ _ => False, ⟨rfl, filt_nt⟩, rfl, fun b o z => ?_, rfl, rfl, fun p hp => ?_, fun x hx => ?_, fun w hw => ?_, fun b ys z => ?_, fun _ _ _ h => h.elim, rfl, fun v H' B' f r => ?_⟩
  · have z : (if b = l then none else H b) = some o := filt_sub (B := fun b => if b = l then none else H b) _ _ z
    split at z
    · cases z
    · exact z
  · have hp : p = (some (.ref l), .well) := List.mem_singleton.mp hp
    subst hp
    exact .inr ⟨_, rfl, l, rfl, rfl, fun ⟨_, h⟩ => (nomatch h)⟩
  · have hx : x = .well := List.mem_singleton.mp hx
    subst hx
    exact ⟨rfl, rfl⟩
  · have hw : w = l := hw
    subst hw
    exact ⟨filt_none (B := fun b => if b = w then none else H b) (if_pos rfl), .inr ⟨fun ⟨_, h⟩ => (nomatch h), i, j, k, e⟩⟩
  · have n : b ≠ l := fun n => by rw [n, e] at z; cases z
    exact filt_of (B := fun b => if b = l then none else H b) (o := .tup ys) ((if_neg n).trans z) fun q e => by cases e
  · have r : v = .bl true := r
    subst r
    exact q H' fun b o z n => f.keep b o z n
def sNeS : S2 := fun x y Q => match x, y with
  | .d (.str a), .d (.str b) => Q (.d (.bool (!decide (a = b))))
  | _, _ => False
theorem os_neS {X : Cx} : OpS X (OpR X (compareOp .NotEq)) sNeS := by
  refine ⟨fun x y Q Q' k h => ?_, _, op_ne, fun c σ ρ τ B H v w x y Q' Qv s hs k => ?_⟩
  · unfold sNeS at h ⊢
    split at h
    · exact k _ h
    · exact h.elim
  · obtain ⟨r1, r2, s2⟩ := s.two
    unfold sNeS at hs
    split at hs
    · rename_i a b
      have r1 : v = .str a := r1
      have r2 : w = .str b := r2
      subst r1 r2
      refine ⟨rfl, k _ _ _ _ hs (s2.flat ?_)⟩
      show V.bl (!decide (V.str a = V.str b)) = V.bl (!decide (a = b))
      by_cases e : a = b
      · subst e
        simp
      · simp [e]
    · exact hs.elim
/-- a list of one's own beside a text that makes lists itself -/
def tdOpV (s : S2) (i : Nat) (tb : TD) : TD := fun ρ Q Z => match ρ[i]? with
  | some (.own _) => tb ρ (fun y ρ2 => match ρ2[i]? with
    | some (.own xs) => s (.bor xs) y fun z => Q z ρ2
    | _ => False) Z
  | _ => False
theorem mono_opV {s : S2} {i : Nat} {tb : TD} (h : MonoS s) (b : MonoE tb) : MonoE (tdOpV s i tb) := fun ρ Q Q' Z k q => by
  unfold tdOpV at q ⊢
  split at q
  · refine b _ _ _ _ (fun y ρ2 q2 => ?_) q
    split at q2
    · exact h _ _ _ _ (fun z => k z ρ2) q2
    · exact q2.elim
  · exact q.elim
theorem opV_run {c : DC} {E : EZ} {s : S2} {r : R2} {i : Nat} {tb : TD} {σ : L2.St} {H : Hp} {Q : VK} (mb : MonoE tb) (hr : ∀ (c : DC) σ ρ τ B H v w x y (Q' : DV → Prop) (Qv : VK), Sd c σ H ρ ((some w, y) :: (some v, x) :: τ) B → s x y Q' → (∀ z u H' B', Q' z → Sd c σ H' ρ ((some u, z) :: τ) B' → Qv u H') → r v w H Qv)
    (q : lift c E (tdOpV s i tb) σ H Q) : tOp r (tVar i) (lift c E tb) σ H Q := by
  obtain ⟨ρ, τ, B, sd, q⟩ := q
  unfold tdOpV at q
  split at q
  · rename_i xs0 e0
    obtain ⟨v, e1, _, _⟩ := sd.slot e0 (by intro h; cases h)
    refine ⟨v, e1, ρ, τ, B, sd, mb _ _ _ _ (fun y ρ2 q2 w H2 B2 s2 => ?_) q⟩
    split at q2
    · rename_i xs e
      obtain ⟨v', e1', rr, _⟩ := s2.slot e (by intro h; cases h)
      rw [e1] at e1'
      cases e1'
      obtain ⟨l, vs, e2, z, nb, n0, rd⟩ := rr
      have s3 := s2.push (v := v) (x := .bor xs) ⟨l, vs, e2, z, fun hw => (s2.wl l hw).2.1 n0, rd⟩ rfl
      exact hr _ _ _ _ _ _ _ _ _ _ _ _ (s3.perm (List.Perm.swap _ _ _)) q2 fun z u H' B' hz s4 => hz u H' B' s4
    · exact q2.elim
  · exact q.elim
theorem pdt_cmpV {c : DC} {E : EZ} {X : Cx} {op : CmpOp} {s : S2} {i : Nat} {a b : Expr} {tb : TD} {pos : Pos} (hs : OpS X (OpR X (compareOp op)) s) (ha : PE X a (tVar i)) (hb : PDE c E X b tb) (hm : behindInMarks op b = false) : PDT c E X (.Compare a [op] [b] pos) (tdT (tdOpV s i tb)) := by
  obtain ⟨m, r, hr, k⟩ := hs
  exact ⟨pt_wk (pt_cmpR hr ha hb.pe hm) fun σ H Q q => opV_run hb.mono k (t_run (mono_opV m hb.mono) q), mono_t (mono_opV m hb.mono)⟩
end DL
set_option Elab.async false
set_option linter.all false
set_option maxRecDepth 100000
set_option maxHeartbeats 4000000
/-! calls with one keyword, and with one default that is None, over data -/
namespace DL
open PySem PySem.Spec PyProof.Rows L2 XV SL
theorem pushT_snoc : ∀ {vs : List V} {xs : List DV} {τ : List (Option V × DV)} (v : V) (x : DV), vs.length = xs.length → pushT (vs ++ [v]) (xs ++ [x]) τ = (some v, x) :: pushT vs xs τ
  | [], [], τ, v, x, _ => rfl
  | a :: vs, b :: xs, τ, v, x, h => by
    show pushT (vs ++ [v]) (xs ++ [x]) ((some a, b) :: τ) = (some v, x) :: pushT vs xs ((some a, b) :: τ)
    exact pushT_snoc v x (by simpa using h)
  | [], _ :: _, _, _, _, h => by simp at h
  | _ :: _, [], _, _, _, h => by simp at h
def tdFnK (td : List DV → (DV → Prop) → EZ → Prop) (ta : TDA) (tb : TD) : TD := fun ρ Q Z => ta ρ (fun xs r => tb r (fun y r2 => match argsOf (xs ++ [y]) with
  | some ys => td ys (fun x => x.isBor = false ∧ Q x r2) (fun C n x => x.isBor = false ∧ Z C n x)
  | none => False) Z) Z
theorem mono_fnK {td : List DV → (DV → Prop) → EZ → Prop} {ta : TDA} {tb : TD} (mf : MonoF td) (ma : MonoA ta) (mb : MonoE tb) : MonoE (tdFnK td ta tb) := fun ρ Q Q' Z m q => ma _ _ _ _ (fun xs r hx => mb _ _ _ _ (fun y r2 hy => by
  split at hy
  · exact mf _ _ _ _ (fun x hx => ⟨hx.1, m _ _ hx.2⟩) hy
  · exact hy.elim) hx) q
section
variable {c : DC} {E : EZ} {X : Cx}
/-- f(e, .., k=v) -/
theorem pd_callK {CX : CXT} {k n : Nat} {f : Addr} {fd : FuncData} {ps : List Str} {td : List DV → (DV → Prop) → EZ → Prop} {EX : XK} {x nm : Str} {p pos kpos : Pos} {e ev : Expr} {es : List Expr} {ta : TDA} {tb : TD} {C : Addr} {g : List Value → List Value → List Value}
    (F : FnOk X.prog X.w X.K X.mg X.base CX k f fd ps (spD C (n + 1) td)) (mf : MonoF td) (hC : c.C = C ∧ Nt c.B0) (hZ : ∀ C n x, E C n x → XW c EX C n x) (hr : Room k X.A) (hg : Gl X x) (hm : X.mg x = some (.ref f)) (hk : PySem.W.keepIn X.K (.ref f) = true)
    (hb : KBn X.K fd ps n [nm] g (fun vs zs => vs ++ zs)) (hx : Passes CX X EX) (ha : PDA c E X (e :: es) ta) (hv : PDE c E X ev tb) (hn : (e :: es).length = n := by rfl)
    (hall : (backToKw pos (keywordEach [⟨some nm, ev, kpos⟩] X.env)).all (·.1.isSome) = true := by rfl) (hks : (backToKw pos (keywordEach [⟨some nm, ev, kpos⟩] X.env)).filterMap (·.1) = [nm] := by rfl)
    (hdb : (x == ("__debug__" : Str)) = false := by decide) (he : starEach (e :: es) X.env = (false, eval e X.env) :: starEach es X.env := by rfl)
    (hpl : ((backTo pos (starEach (e :: es) X.env)).any (·.1) || (backToKw pos (keywordEach [⟨some nm, ev, kpos⟩] X.env)).any (·.1.isNone)) = false := by rfl) :
    PDE c E X (.Call (.Name x p) (e :: es) [⟨some nm, ev, kpos⟩] pos) (tdFnK td ta tb) := by
  obtain ⟨hC, hN⟩ := hC
  subst hC
  refine ⟨pe_wk (pe_callN F hr hg hm hk hb hx ha.pa (pk_cons hv.pe pk_nil) hall hks hdb he hpl) fun σ H Q ⟨ρ, τ, B, s, q⟩ => ⟨ρ, τ, B, s, ha.mono _ _ _ _ (fun xs r hx vs H' B' hl s' => ?_) (ha.len _ _ _ q)⟩, mono_fnK mf ha.mono hv.mono⟩
  refine ⟨r, _, B', s', hv.mono _ _ _ _ (fun y r2 hy v H2 B2 s2 => ?_) hx.2⟩
  show vs.length = n ∧ ([v] : List V).length = 1 ∧ spD c.C (n + 1) td (vs ++ [v]) H2 Q EX
  refine ⟨by have := hx.1; omega, rfl, ?_⟩
  have e2 := pushT_snoc (τ := τ) v y hl
  rw [← e2] at s2
  exact call_sp (Qd := fun x ρ' => ∀ v H' B', Sd c σ H' ρ' ((some v, x) :: τ) B' → Q v H') (xs := xs ++ [y]) mf hN hZ s2 (by rw [List.length_append, List.length_append, hl]; rfl) (by rw [List.length_append, List.length_singleton]; have := hx.1; omega) hy fun x v H2 B2 hq s2 => hq v H2 B2 s2
/-- the last argument is None if it isn't written -/
def tdFnD (td : List DV → (DV → Prop) → EZ → Prop) (ta : TDA) : TD := fun ρ Q Z => ta ρ (fun xs r => match argsOf (xs ++ [.d .none]) with
  | some ys => td ys (fun x => x.isBor = false ∧ Q x r) (fun C n x => x.isBor = false ∧ Z C n x)
  | none => False) Z
theorem mono_fnD1 {td : List DV → (DV → Prop) → EZ → Prop} {ta : TDA} (mf : MonoF td) (ma : MonoA ta) : MonoE (tdFnD td ta) := fun ρ Q Q' Z m q => ma _ _ _ _ (fun xs r hx => by
  split at hx
  · exact mf _ _ _ _ (fun x hx => ⟨hx.1, m _ _ hx.2⟩) hx
  · exact hx.elim) q
theorem pd_callD {CX : CXT} {k n : Nat} {f : Addr} {fd : FuncData} {ps : List Str} {ds : List Value} {td : List DV → (DV → Prop) → EZ → Prop} {EX : XK} {x : Str} {p pos : Pos} {e : Expr} {es : List Expr} {ta : TDA} {C : Addr}
    (F : FnOk X.prog X.w X.K X.mg X.base CX k f fd ps (spD C (n + 1) td)) (mf : MonoF td) (hC : c.C = C ∧ Nt c.B0) (hZ : ∀ C n x, E C n x → XW c EX C n x) (hr : Room k X.A) (hg : Gl X x) (hm : X.mg x = some (.ref f)) (hk : PySem.W.keepIn X.K (.ref f) = true) (hb : Binds X.K fd ps ds) (hd : Vals [.non] ds) (hx : Passes CX X EX)
    (ha : PDA c E X (e :: es) ta) (hn : (e :: es).length = n := by rfl) (hdb : (x == ("__debug__" : Str)) = false := by decide) (he : starEach (e :: es) X.env = (false, eval e X.env) :: starEach es X.env := by rfl) (hpl : (backTo pos (starEach es X.env)).any (·.1) = false := by rfl) :
    PDE c E X (.Call (.Name x p) (e :: es) [] pos) (tdFnD td ta) := by
  obtain ⟨hC, hN⟩ := hC
  subst hC
  refine ⟨pe_wk (pe_call F hr hg hm hk hb hd hx ha.pa hdb he hpl) fun σ H Q ⟨ρ, τ, B, s, q⟩ => ⟨ρ, τ, B, s, ha.mono _ _ _ _ (fun xs r hx vs H' B' hl s' => ?_) (ha.len _ _ _ q)⟩, mono_fnD1 mf ha.mono⟩
  show spD c.C (n + 1) td (vs ++ [.non]) H' Q EX
  have s2 := s'.push (v := .non) (x := .d .none) rfl rfl
  have e2 := pushT_snoc (τ := τ) .non (.d .none) hl
  rw [← e2] at s2
  exact call_sp (Qd := fun x ρ' => ∀ v H' B', Sd c σ H' ρ' ((some v, x) :: τ) B' → Q v H') (xs := xs ++ [.d .none]) mf hN hZ s2 (by rw [List.length_append, List.length_append, hl]; rfl) (by rw [List.length_append, List.length_singleton]; have := hx.1; omega) hx.2 fun x v H2 B2 hq s2 => hq v H2 B2 s2
end
/-- what has a text -/
def RepD (d : PyData) : Prop := (plain d = true ∧ d.showable = true ∧ d.hasDict = false ∧ d.depth ≤ 64 ∧ d.shown.length ≤ sizeLine) ∨ d = .dict []
theorem txt1_dat {K : PySem.W.Frag} {B H : Hp} (s : Same B H) {v : V} {d : PyData} (r : Dh B v d) (h : RepD d) : Txt1 K H v d.shown := by
  rcases h with ⟨p, h1, h2, h3, h4⟩ | rfl
  · have dp : Dp K H v d := Dh.dp _ _ (Dh.keep s _ _ r) p
    cases d with
    | none =>
      cases dp
      have : PyData.shown .none = ("None" : Str) := by simp only [PyData.shown]
      rw [this]
      exact .non
    | bool b =>
      cases dp
      have : PyData.shown (.bool b) = (if b then "True" else "False" : Str) := by cases b <;> simp [PyData.shown]
      rw [this]
      exact .bl
    | int i =>
      cases dp
      have : PyData.shown (.int i) = (toString i : Str) := by simp only [PyData.shown]
      rw [this]
      exact .int (by simpa [PyData.showable] using h1)
    | str z =>
      cases dp
      have : PyData.shown (.str z) = reprText z := by simp only [PyData.shown]
      rw [this] at h4 ⊢
      exact .str h4
    | list ds =>
      cases dp with
      | lst a b => exact .dat (.lst a b) h1 h2 h3 h4
    | tuple ds =>
      cases dp with
      | tup a b => exact .dat (.tup a b) h1 h2 h3 h4
    | dict kvs => simp [plain] at p
  · obtain ⟨_, a, rfl, z⟩ := r
    exact .edic (s _ _ z)
end DL
set_option Elab.async false
set_option linter.all false
set_option maxRecDepth 100000
set_option maxHeartbeats 4000000
/-! lambdas handed to a def, over data -/
namespace DL
open PySem PySem.Spec PyProof.Rows L2 XV SL
theorem rep_lam {c : DC} {B B' H H' : Hp} {v : V} {x : DV} (h : RepV c B H v x) (kb : Same B B') (kh : ∀ b xs, H b = some (.lst xs) → ¬ c.W b → H' b = some (.lst xs)) (nw : ∀ b o, B' b = some o → B b = some o ∨ ∃ xs, H' b = some (.tup xs)) (hw : ∀ w, c.W w → c.H0 w ≠ none) : RepV c B' H' v x := by
  cases x with
  | no => trivial
  | d d => exact Dh.keep kb _ _ h
  | own xs =>
    obtain ⟨l, vs, e, z, nb, n0, r⟩ := h
    have z' := kh l _ z fun w => hw l w n0
    refine ⟨l, vs, e, z', ?_, n0, Dh.keepL kb _ _ r⟩
    cases q : B' l with
    | none => rfl
    | some o =>
      rcases nw l o q with q' | ⟨ys, q'⟩
      · rw [nb] at q'
        cases q'
      · rw [z'] at q'
        cases q'
  | bor xs =>
    obtain ⟨l, vs, e, z, n, r⟩ := h
    exact ⟨l, vs, e, kh l _ z n, n, Dh.keepL kb _ _ r⟩
  | slab ps L =>
    obtain ⟨p, l, xc, e, s, r⟩ := h
    exact ⟨p, l, xc, e, s.keep kb, PairsAt.keep kb r⟩
  | well => exact h
  | any u => exact h
/-- the tables of code objects are known -/
def LamOk (c : DC) (TT : List (Addr × Str)) : Prop := c.TT = TT ∧ (∀ p ∈ c.TT, c.W p.1) ∧ ∀ b q, c.H0 b = some (.tbl q) → c.W b
theorem Sd.tabs {c : DC} {σ : L2.St} {H B : Hp} {ρ : Env} {τ : List (Option V × DV)} (s : Sd c σ H ρ τ B) {TT : List (Addr × Str)} (h : LamOk c TT) : LamX.Tabs TT H := fun p hp => by
  obtain ⟨rfl, hW, _⟩ := h
  rcases (s.wl p.1 (hW p hp)).2.2 with ⟨_, z⟩ | ⟨n, _⟩
  · exact z p.2 hp
  · exact absurd ⟨p.2, hp⟩ n
theorem Sd.lam {c : DC} {σ : L2.St} {H H1 B0 : Hp} {ρ : Env} {τ : List (Option V × DV)} (s0 : Sd c σ H ρ τ B0) (hN : Nt c.B0) {TT : List (Addr × Str)} (h : LamOk c TT) (e : LamX.ExtN H H1) (t : LamX.Tabs TT H1) : ∃ B1, Sd c σ H1 ρ τ B1 := by
  obtain ⟨rfl, hW, hT⟩ := h
  have s := s0.filt hN
  generalize hB : DL.filt B0 = B at s
  have nB : Nt B := by rw [← hB]; exact filt_nt
  have kB : ∀ b o, B b = some o → H1 b = some o := fun b o z => e _ _ (s.sub _ _ z) fun q eq => by subst eq; exact nB b q z
  have well1 : ∀ w, c.W w → IsWell c H1 w := fun w hw => by
    rcases (s.wl w hw).2.2 with ⟨tt, _⟩ | ⟨tt, i, j, k, z⟩
    · exact .inl ⟨tt, fun nm m => t (w, nm) m⟩
    · exact .inr ⟨tt, i, j, k, e _ _ z fun q eq => by cases eq⟩
  have noT : ∀ w, c.W w → ∀ xs, H1 w ≠ some (.tup xs) := fun w hw xs z => by
    rcases well1 w hw with ⟨⟨nm, m⟩, h⟩ | ⟨_, i, j, k, z2⟩
    · obtain ⟨q, z2, _⟩ := h nm m
      rw [z] at z2
      cases z2
    · rw [z] at z2
      cases z2
  have def1 : ∀ b, (∃ xs, H1 b = some (.tup xs) ∧ (match H1 b with | some (.tup xs) => some (HO.tup xs) | _ => B b) = some (.tup xs)) ∨ ((∀ xs, H1 b ≠ some (.tup xs)) ∧ (match H1 b with | some (.tup xs) => some (HO.tup xs) | _ => B b) = B b) := fun b => by
    cases q : H1 b with
    | none => exact .inr ⟨fun xs z => (by cases z), rfl⟩
    | some o =>
      cases o with
      | tup xs => exact .inl ⟨xs, rfl, rfl⟩
      | _ => exact .inr ⟨fun xs z => (by cases z), rfl⟩
  have kb1 : Same B fun b => match H1 b with | some (.tup xs) => some (HO.tup xs) | _ => B b := fun b o z => by
    show (match H1 b with | some (.tup xs) => some (HO.tup xs) | _ => B b) = some o
    rcases def1 b with ⟨xs, z1, d⟩ | ⟨_, d⟩
    · have := kB _ _ z
      rw [z1] at this
      rw [d]
      exact this
    · rw [d]
      exact z
  refine ⟨fun b => match H1 b with | some (.tup xs) => some (.tup xs) | _ => B b, ?_⟩
  exact {
    len := s.len
    sub := fun b o z => by
      have z : (match H1 b with | some (.tup xs) => some (HO.tup xs) | _ => B b) = some o := z
      rcases def1 b with ⟨xs, z1, d⟩ | ⟨_, d⟩
      · rw [d] at z
        rw [z1]
        exact z
      · rw [d] at z
        exact kB _ _ z
    ext := s.ext.trans kb1
    new := fun b o z => by
      have z : (match H1 b with | some (.tup xs) => some (HO.tup xs) | _ => B b) = some o := z
      rcases def1 b with ⟨xs, z1, d⟩ | ⟨_, d⟩
      · rw [d] at z
        cases z
        cases q : c.H0 b with
        | none => exact .inr rfl
        | some o2 =>
          by_cases w : c.W b
          · exact absurd z1 (noT b w xs)
          · have z2 := s.keep b o2 q w
            have z3 := e _ _ z2 fun r eq => by subst eq; exact w (hT b r q)
            rw [z1] at z3
            cases z3
            have z4 := s.tup _ _ z2
            rcases s.new _ _ z4 with q2 | q2
            · exact .inl q2
            · rw [q] at q2
              cases q2
      · rw [d] at z
        exact s.new _ _ z
    keep := fun b o z n => e _ _ (s.keep b o z n) fun q eq => by subst eq; exact n (hT b q z)
    wl := fun w hw => by
      refine ⟨?_, (s.wl w hw).2.1, well1 w hw⟩
      rcases def1 w with ⟨xs, z1, _⟩ | ⟨_, d⟩
      · exact absurd z1 (noT w hw xs)
      · exact d.trans (s.wl w hw).1
    rep := fun p hp => (s.rep p hp).elim .inl fun ⟨v, ev, r⟩ => .inr ⟨v, ev, rep_lam r kb1 (fun b xs z _ => e _ _ z fun q eq => by cases eq) (fun b o z => by
      have z : (match H1 b with | some (.tup xs) => some (HO.tup xs) | _ => B b) = some o := z
      rcases def1 b with ⟨xs, z1, d⟩ | ⟨_, d⟩
      · exact .inr ⟨xs, z1⟩
      · rw [d] at z
        exact .inl z) fun w hw => (s.wl w hw).2.1⟩
    ap := s.ap
    nbor := s.nbor
    tup := fun b xs z => by
      show (match H1 b with | some (.tup xs) => some (HO.tup xs) | _ => B b) = _
      rcases def1 b with ⟨ys, z1, d⟩ | ⟨n, _⟩
      · rw [z1] at z
        cases z
        exact d
      · exact absurd z (n xs) }
/-! ### what a lambda sees: the frame without the lists of one's own -/
def hide (ρ : Env) : Env := ρ.map fun x => if x.isOwn = true then .no else x
theorem hide_zip {σ : L2.St} {ρ : Env} {p : Option V × DV} (h : p ∈ σ.zip (hide ρ)) : ∃ q ∈ σ.zip ρ, p.1 = q.1 ∧ p.2 = (if q.2.isOwn = true then .no else q.2) := by
  unfold hide at h
  rw [List.zip_map_right] at h
  obtain ⟨q, hq, rfl⟩ := List.mem_map.mp h
  exact ⟨q, hq, rfl, rfl⟩
theorem rep_in {c : DC} {B H H1 : Hp} {v : V} {x : DV} (h : RepV c B H v x) (h1 : x.isOwn = false) (h2 : x.isBor = false) : RepV ⟨c.C, H1, B, c.W, c.TT⟩ B H v x := by
  cases x with
  | own _ => cases h1
  | bor _ => cases h2
  | no => exact h
  | d _ => exact h
  | slab _ _ => exact h
  | well => exact h
  | any _ => exact h
theorem hide_own {x : DV} : (if x.isOwn = true then DV.no else x).isOwn = false := by
  by_cases h : x.isOwn = true
  · rw [if_pos h]
    rfl
  · rw [if_neg h]
    exact eq_false_of_ne_true h
theorem Sd.inner {c : DC} {σ : L2.St} {H B : Hp} {ρ : Env} {τ : List (Option V × DV)} (s : Sd c σ H ρ τ B) : Sd ⟨c.C, H, B, c.W, c.TT⟩ σ H (hide ρ) [] B where
  len := by
    unfold hide
    rw [List.length_map]
    exact s.len
  sub := s.sub
  ext := Same.refl _
  new := fun b o z => .inl z
  keep := fun b o z _ => z
  wl := fun w hw => ⟨(s.wl w hw).1, (by
    obtain ⟨o, z⟩ := (s.wl w hw).2.2.here
    show H w ≠ none
    rw [z]
    intro q
    cases q), (s.wl w hw).2.2⟩
  rep := fun p hp => by
    rw [List.append_nil] at hp
    obtain ⟨q, hq, e1, e2⟩ := hide_zip hp
    by_cases ho : q.2.isOwn = true
    · rw [if_pos ho] at e2
      exact .inl e2
    · rw [if_neg ho] at e2
      rcases s.rep q (List.mem_append_left _ hq) with e | ⟨v, ev, r⟩
      · exact .inl (e2.trans e)
      · refine .inr ⟨v, e1.trans ev, ?_⟩
        rw [e2]
        exact rep_in r (eq_false_of_ne_true ho) (s.nbor _ (List.of_mem_zip hq).2)
  ap := by
    rw [List.append_nil]
    refine List.pairwise_iff_forall_sublist.mpr fun {a b} hs => ?_
    have ha : a ∈ σ.zip (hide ρ) := hs.subset List.mem_cons_self
    obtain ⟨q, _, _, e2⟩ := hide_zip ha
    exact ap_no (by rw [e2]; exact hide_own)
  nbor := fun x hx => by
    obtain ⟨y, hy, rfl⟩ := List.mem_map.mp hx
    by_cases h : y.isOwn = true
    · rw [if_pos h]
      rfl
    · rw [if_neg h]
      exact s.nbor y hy
  tup := s.tup
/-- told: what it gave, or the index of what it raised -/
def ToldS (CS : Addr) (Q : VK) : XK := fun cls d H' => ∃ (v : V) (dd : Addr), cls = .ref CS ∧ d = some dd ∧ H' dd = some (.xd [("index", v)]) ∧ ∀ H'', Same H' H'' → Q v H''
def TSaid (CS : Addr) : (XK → Hp → VK → Prop) → Hp → VK → Prop := fun tl H Q => tl (ToldS CS Q) H Q
def tdSaid (CS : Addr) (tb : TD) : TD := fun ρ Q _ => ∃ (P : DV → Env → Prop) (Z0 : EZ), tb (hide ρ) P Z0 ∧ (∀ x r, P x r → x.isBor = false ∧ Q x ρ) ∧ ∀ C n x, Z0 C n x → C = CS ∧ n = "index" ∧ x.isBor = false ∧ Q x ρ
theorem said_intro {CS : Addr} {tb : TD} {ρ : Env} {Q : DV → Env → Prop} {Z : EZ} (h : tb (hide ρ) (fun x _ => x.isBor = false ∧ Q x ρ) (fun C n x => C = CS ∧ n = "index" ∧ x.isBor = false ∧ Q x ρ)) : tdSaid CS tb ρ Q Z := ⟨_, _, h, fun x r h => h, fun C n x h => h⟩
/-- the reading of a lambda's text -/
def tlam (C : Addr) (tb : TD) : XK → TE := fun E σ H Q => ∃ (c1 : DC) (Z : EZ) (ρ : Env) (B : Hp) (P : DV → Env → Prop), (c1.C = C ∧ Nt c1.B0) ∧ (∀ C n x, Z C n x → XW c1 E C n x) ∧ Sd c1 σ H ρ [] B ∧ tb ρ P Z ∧ ∀ x r, P x r → ∀ v H' B', Sd c1 σ H' r [(some v, x)] B' → Q v H'
theorem pe_tlam {C : Addr} {X : Cx} {E : XK} {body : Expr} {tb : TD} (h : ∀ (c1 : DC) (Z : EZ), (c1.C = C ∧ Nt c1.B0) → (∀ C n x, Z C n x → XW c1 E C n x) → PDE c1 Z X body tb) : PE X body (tlam C tb E) := by
  refine ⟨fun pins s σ H Q I ⟨c1, Z, ρ, B, P, hc, hZ, sd, q, k⟩ => ?_⟩
  have D := h c1 Z hc hZ
  exact D.pe.run pins s σ H Q I ⟨ρ, [], B, sd, D.mono _ _ _ _ (fun x r hx v H' B' s' => k x r hx v H' B' s') q⟩
/-- def(lambda: body), the def told by TSaid -/
theorem pd_said {c : DC} {E : EZ} {X : Cx} {TT : List (Addr × Str)} {CS C : Addr} {e' : Expr} {tb : TD} (hC : c.C = C ∧ Nt c.B0) (hL : LamOk c TT) (h : PE X e' (LamX.tLam TT (TSaid CS) (tlam C tb))) : PDE c E X e' (tdSaid CS tb) := by
  obtain ⟨hC, hN⟩ := hC
  subst hC
  refine ⟨pe_wk h fun σ H Q ⟨ρ, τ, B, s, P, Z0, q, hq, hz⟩ => ⟨s.tabs hL, fun H1 e t => ?_⟩, fun ρ Q Q' Z k ⟨P, Z0, q, hq, hz⟩ => ⟨P, Z0, q, fun x r hx => ⟨(hq x r hx).1, k _ _ (hq x r hx).2⟩, fun C n x hx => ⟨(hz C n x hx).1, (hz C n x hx).2.1, (hz C n x hx).2.2.1, k _ _ (hz C n x hx).2.2.2⟩⟩⟩
  obtain ⟨B1, s1⟩ := s.lam hN hL e t
  have s2 := s1.filt hN
  refine ⟨⟨c.C, H1, DL.filt B1, c.W, c.TT⟩, Z0, hide ρ, DL.filt B1, P, ⟨rfl, filt_nt⟩, fun C n x hx => ?_, s2.inner, q, fun x r hx v H' B' s' => ?_⟩
  · obtain ⟨rfl, rfl, hb, hQ⟩ := hz C n x hx
    intro v H' B' d f r z nd
    refine ⟨v, d, rfl, rfl, z, fun H'' sm => ?_⟩
    obtain ⟨B3, _, _, _, s3⟩ := (s2.call f r hb).more sm
    exact hQ v H'' B3 s3
  · obtain ⟨hb, hQ⟩ := hq x r hx
    exact hQ v H' B' (s2.call s'.pop.fin s'.topR hb)
end DL
set_option Elab.async false
set_option linter.all false
set_option maxRecDepth 100000
set_option maxHeartbeats 4000000
/-! slabs over data: their methods, is_between, two slabs compared -/
namespace DL
open PySem PySem.Spec PyProof.Rows L2 XV SL
theorem own_repD {c : DC} {H H' B' : Hp} {D : Addr} {ts : List V} {ds : List PyData} (h0 : c.H0 = H) (hB : Same c.B0 H) (nw : ∀ b o, B' b = some o → c.B0 b = some o ∨ (H b = none ∧ ∃ xs, o = .tup xs)) (sub : Same B' H') (nD : H D = none) (eD : H' D = some (.lst ts)) (r : DhL B' ts ds) : RepV c B' H' (.ref D) (.own ds) := by
  refine ⟨D, ts, rfl, eD, ?_, by rw [h0]; exact nD, r⟩
  cases q : B' D with
  | none => rfl
  | some o =>
    rcases nw D o q with q1 | ⟨_, ys, rfl⟩
    · rw [hB _ _ q1] at nD
      cases nD
    · have := sub _ _ q
      rw [eD] at this
      cases this
theorem same_moreD {c : DC} {H H' : Hp} (hw : ∀ w, c.W w → c.B0 w = none ∧ IsWell c H w) (s : Same H H') : (∀ b o, H b = some o → ¬ c.W b → H' b = some o) ∧ ∀ w, c.W w → IsWell c H' w :=
  ⟨fun b o z _ => s _ _ z, fun w h => (hw w h).2.keep fun _ _ z _ => s _ _ z⟩
def tdLimit : List DV → (DV → Prop) → EZ → Prop := fun xs Q _ => ∃ (ps : List (Int × Int)) (L : Int), xs = [.slab ps L] ∧ Q (.d (.int L))
def tdClasses : List DV → (DV → Prop) → EZ → Prop := fun xs Q _ => ∃ (ps : List (Int × Int)) (L : Int), xs = [.slab ps L] ∧ Q (.own (ps.map dPair))
def tdBetween : List DV → (DV → Prop) → EZ → Prop := fun xs Q _ => ∃ (d : PyData) (lo hi : Int), xs = [.d d, .d (.int lo), .d (.int hi)] ∧ Q (.d (.bool (inD d lo hi)))
theorem mf_limit : MonoF tdLimit := fun xs Q Q' Z k ⟨ps, L, a, h⟩ => ⟨ps, L, a, k _ h⟩
theorem mf_classes : MonoF tdClasses := fun xs Q Q' Z k ⟨ps, L, a, h⟩ => ⟨ps, L, a, k _ h⟩
theorem mf_between : MonoF tdBetween := fun xs Q Q' Z k ⟨d, lo, hi, a, h⟩ => ⟨d, lo, hi, a, k _ h⟩
theorem ad_limit {C : Addr} : ∀ vs H Q E, spD C 1 tdLimit vs H Q E → spLimit C vs H Q E := fun vs H Q E h => by
  obtain ⟨c, xs, Z, hC, h0, hv, hx, hr, hB, mo, hw, hZ, ps, L, rfl, k⟩ := spD_old h
  obtain ⟨hC, _⟩ := hC
  subst hC
  obtain ⟨v1, rfl⟩ := len1 (x := .well) (by rw [hv]; rfl)
  obtain ⟨p, l, xc, rfl, sl, pr⟩ := hr (v1, .slab ps L) (by simp)
  obtain ⟨a, b⟩ := same_moreD hw (Same.refl H)
  obtain ⟨B', f, _, _, _⟩ := mo H a b
  exact ⟨p, l, xc, L, rfl, sl.keep hB, k _ H B' f rfl⟩
theorem ad_classes {C : Addr} : ∀ vs H Q E, spD C 1 tdClasses vs H Q E → spClasses C vs H Q E := fun vs H Q E h => by
  obtain ⟨c, xs, Z, hC, h0, hv, hx, hr, hB, mo, hw, hZ, ps, L, rfl, k⟩ := spD_old h
  obtain ⟨hC, _⟩ := hC
  subst hC
  obtain ⟨v1, rfl⟩ := len1 (x := .well) (by rw [hv]; rfl)
  obtain ⟨p, l, xc, rfl, sl, pr⟩ := hr (v1, .slab ps L) (by simp)
  refine ⟨p, l, xc, L, rfl, sl.keep hB, fun D H' nD s eD => ?_⟩
  obtain ⟨a, b⟩ := same_moreD hw s
  obtain ⟨B', f, sB, nw, tp⟩ := mo H' a b
  exact k _ H' B' f (own_repD h0 hB nw f.sub nD eD (sorts_dhL tp (PairsAt.keep (hB.trans s) pr)))
theorem ad_between {C : Addr} : ∀ vs H Q E, spD C 3 tdBetween vs H Q E → spBetween vs H Q E := fun vs H Q E h => by
  obtain ⟨c, xs, Z, hC, h0, hv, hx, hr, hB, mo, hw, hZ, d, lo, hi, rfl, k⟩ := spD_old h
  have l3 : ∃ u v w, vs = [u, v, w] := by
    match vs, hv with
    | [u, v, w], _ => exact ⟨u, v, w, rfl⟩
  obtain ⟨v1, v2, v3, rfl⟩ := l3
  have h1 : Dh c.B0 v1 d := hr (v1, .d d) (by simp)
  have h2 : v2 = .int lo := hr (v2, .d (.int lo)) (by simp)
  have h3 : v3 = .int hi := hr (v3, .d (.int hi)) (by simp)
  subst h2 h3
  obtain ⟨a, b⟩ := same_moreD hw (Same.refl H)
  obtain ⟨B', f, _, _, _⟩ := mo H a b
  refine ⟨v1, lo, hi, rfl, dh_ty hB h1, k _ H B' f ?_⟩
  show V.bl (inB v1 lo hi) = V.bl (inD d lo hi)
  rw [inB_dat h1]
/-- two slabs, or two numbers -/
def sSl (neg : Bool) : S2 := fun x y Q => match x, y with
  | .slab ps L, .slab ps' L' => ps.length ≤ 1000 ∧ ps'.length ≤ 1000 ∧ Q (.d (.bool ((decide (ps = ps') && decide (L = L')) ^^ neg)))
  | .d (.int i), .d (.int j) => Q (.d (.bool (decide (i = j) ^^ neg)))
  | _, _ => False
theorem os_neSl {X : Cx} {C : Addr} {mg : Str → Option Value} {k : Nat} {f : Addr} {fd : FuncData} {ps : List Str} (T : SlabC X.K mg C) (F : FnOk X.prog X.w X.K X.mg X.base CX0 k f fd ps (spEqS C)) (hs : PySem.W.findIn X.K (.ref C) "__eq__" = some (some (.ref f))) (hf : PySem.W.isFn X.K (.ref f) = true) (hb : Binds X.K fd ps []) (hr : Room (k + 1) X.A)
    (hne : PySem.W.findIn X.K (.ref C) "__ne__" = some (some (.builtin "object.__ne__"))) (hm : PySem.W.mroIn X.K C (.type "object") = some true) :
    MonoS (sSl true) ∧ ∃ r : R2, OpR X (compareOp .NotEq) r ∧ ∀ (c : DC) σ ρ τ B H v w x y (Q' : DV → Prop) (Qv : VK), c.C = C → Sd c σ H ρ ((some w, y) :: (some v, x) :: τ) B → sSl true x y Q' → (∀ z u H' B', Q' z → Sd c σ H' ρ ((some u, z) :: τ) B' → Qv u H') → r v w H Qv := by
  refine ⟨fun x y Q Q' k h => ?_, _, opr_or (op_neI F hs hf hb hr hne hm) op_ne, fun c σ ρ τ B H v w x y Q' Qv hC s hq k => ?_⟩
  · unfold sSl at h ⊢
    split at h
    · exact ⟨h.1, h.2.1, k _ h.2.2⟩
    · exact k _ h
    · exact h.elim
  · subst hC
    obtain ⟨r1, r2, s2⟩ := s.two
    unfold sSl at hq
    split at hq
    · rename_i ps1 L1 ps2 L2
      obtain ⟨n1, n2, hq⟩ := hq
      obtain ⟨p, l, xc, rfl, sl, pr⟩ := r1
      obtain ⟨p', l', xc', rfl, sl', pr'⟩ := r2
      obtain ⟨dx, ob⟩ := (sl.keep s2.sub).ob
      obtain ⟨dx', ob'⟩ := (sl'.keep s2.sub).ob
      exact .inl ⟨p, dx, _, .ref c.C, rfl, ob, T.ty ob', T.fC, p, l, xc, ps1, L1, .ref p', rfl, sl.keep s2.sub, PairsAt.keep s2.sub pr, n1, .inr ⟨p', l', xc', ps2, L2, rfl, sl'.keep s2.sub, PairsAt.keep s2.sub pr', n2, _, rfl, k _ _ _ _ hq (s2.flat rfl)⟩⟩
    · rename_i i j
      have r1 : v = .int i := r1
      have r2 : w = .int j := r2
      subst r1 r2
      refine .inr ⟨rfl, k _ _ _ _ hq (s2.flat ?_)⟩
      show V.bl (!decide (V.int i = V.int j)) = V.bl (decide (i = j) ^^ true)
      by_cases e : i = j
      · subst e
        simp
      · simp [e]
    · exact hq.elim
theorem os_eqSl {X : Cx} {C : Addr} {mg : Str → Option Value} {k : Nat} {f : Addr} {fd : FuncData} {ps : List Str} (T : SlabC X.K mg C) (F : FnOk X.prog X.w X.K X.mg X.base CX0 k f fd ps (spEqS C)) (hs : PySem.W.findIn X.K (.ref C) "__eq__" = some (some (.ref f))) (hf : PySem.W.isFn X.K (.ref f) = true) (hb : Binds X.K fd ps []) (hr : Room k X.A) :
    MonoS (sSl false) ∧ ∃ r : R2, OpR X (compareOp .Eq) r ∧ ∀ (c : DC) σ ρ τ B H v w x y (Q' : DV → Prop) (Qv : VK), c.C = C → Sd c σ H ρ ((some w, y) :: (some v, x) :: τ) B → sSl false x y Q' → (∀ z u H' B', Q' z → Sd c σ H' ρ ((some u, z) :: τ) B' → Qv u H') → r v w H Qv := by
  refine ⟨fun x y Q Q' k h => ?_, _, opr_or (op_eqI F hs hf hb hr) op_eq, fun c σ ρ τ B H v w x y Q' Qv hC s hq k => ?_⟩
  · unfold sSl at h ⊢
    split at h
    · exact ⟨h.1, h.2.1, k _ h.2.2⟩
    · exact k _ h
    · exact h.elim
  · subst hC
    obtain ⟨r1, r2, s2⟩ := s.two
    unfold sSl at hq
    split at hq
    · rename_i ps1 L1 ps2 L2
      obtain ⟨n1, n2, hq⟩ := hq
      obtain ⟨p, l, xc, rfl, sl, pr⟩ := r1
      obtain ⟨p', l', xc', rfl, sl', pr'⟩ := r2
      obtain ⟨dx, ob⟩ := (sl.keep s2.sub).ob
      obtain ⟨dx', ob'⟩ := (sl'.keep s2.sub).ob
      exact .inl ⟨p, dx, _, .ref c.C, rfl, ob, T.ty ob', T.fC, p, l, xc, ps1, L1, .ref p', rfl, sl.keep s2.sub, PairsAt.keep s2.sub pr, n1, .inr ⟨p', l', xc', ps2, L2, rfl, sl'.keep s2.sub, PairsAt.keep s2.sub pr', n2, _, rfl, k _ _ _ _ hq (s2.flat rfl)⟩⟩
    · rename_i i j
      have r1 : v = .int i := r1
      have r2 : w = .int j := r2
      subst r1 r2
      refine .inr ⟨rfl, k _ _ _ _ hq (s2.flat ?_)⟩
      show V.bl (decide (V.int i = V.int j)) = V.bl (decide (i = j) ^^ false)
      by_cases e : i = j
      · subst e
        simp
      · simp [e]
    · exact hq.elim

/-- a comparison that knows the class of slabs -/
def OpC (C : Addr) (R : R2 → Prop) (s : S2) : Prop := MonoS s ∧ ∃ r : R2, R r ∧ ∀ (c : DC) σ ρ τ B H v w x y (Q' : DV → Prop) (Qv : VK), c.C = C → Sd c σ H ρ ((some w, y) :: (some v, x) :: τ) B → s x y Q' → (∀ z u H' B', Q' z → Sd c σ H' ρ ((some u, z) :: τ) B' → Qv u H') → r v w H Qv
theorem op_runC {c : DC} {E : EZ} {s : S2} {r : R2} {ta tb : TD} {σ : L2.St} {H : Hp} {Q : VK} (ma : MonoE ta) (mb : MonoE tb) (hr : ∀ σ ρ τ B H v w x y (Q' : DV → Prop) (Qv : VK), Sd c σ H ρ ((some w, y) :: (some v, x) :: τ) B → s x y Q' → (∀ z u H' B', Q' z → Sd c σ H' ρ ((some u, z) :: τ) B' → Qv u H') → r v w H Qv)
    (q : lift c E (tdOp s ta tb) σ H Q) : tOp r (lift c E ta) (lift c E tb) σ H Q := by
  obtain ⟨ρ, τ, B, sd, q⟩ := q
  refine ⟨ρ, τ, B, sd, ma _ _ _ _ (fun x ρ1 q1 v H1 B1 s1 => ?_) q⟩
  refine ⟨ρ1, _, B1, s1, mb _ _ _ _ (fun y ρ2 q2 w H2 B2 s2 => ?_) q1⟩
  exact hr σ ρ2 τ B2 H2 v w x y _ Q s2 q2 fun z u H' B' hz s3 => hz u H' B' s3
section
variable {c : DC} {E : EZ} {X : Cx} {C : Addr} {op : CmpOp} {s : S2} {a b : Expr} {ta tb : TD} {pos : Pos}
theorem pdt_cmpC (hC : c.C = C ∧ Nt c.B0) (hs : OpC C (OpR X (compareOp op)) s) (ha : PDE c E X a ta) (hb : PDE c E X b tb) (hm : behindInMarks op b = false) : PDT c E X (.Compare a [op] [b] pos) (tdT (tdOp s ta tb)) := by
  obtain ⟨m, r, hr, k⟩ := hs
  exact ⟨pt_wk (pt_cmpR hr ha.pe hb.pe hm) fun σ H Q q => op_runC ha.mono hb.mono (fun σ ρ τ B H v w x y Q' Qv => k c σ ρ τ B H v w x y Q' Qv hC.1) (t_run (mono_op m ha.mono hb.mono) q), mono_t (mono_op m ha.mono hb.mono)⟩
theorem pd_cmpC (hC : c.C = C ∧ Nt c.B0) (hs : OpC C (OpR X (compareOp op)) s) (ha : PDE c E X a ta) (hb : PDE c E X b tb) (hm : behindInMarks op b = false) : PDE c E X (.Compare a [op] [b] pos) (tdOp s ta tb) := by
  obtain ⟨m, r, hr, k⟩ := hs
  exact ⟨pe_wk (pe_cmpR hr ha.pe hb.pe hm) fun σ H Q q => op_runC ha.mono hb.mono (fun σ ρ τ B H v w x y Q' Qv => k c σ ρ τ B H v w x y Q' Qv hC.1) q, mono_op m ha.mono hb.mono⟩
end
/-! ### a <= b <= c, of numbers -/
def tdChI (f f' : Int → Int → Bool) (ta tb tc : TD) : TD := fun ρ Q Z => ta ρ (fun x r1 => tb r1 (fun y r2 => isInt (fun i => isInt (fun j => if f i j = true then tc r2 (fun z r3 => isInt (fun l => Q (.d (.bool (f' j l))) r3) z) Z else Q (.d (.bool false)) r2) y) x) Z) Z
section
variable {c : DC} {E : EZ} {X : Cx} {op op' : CmpOp} {f f' : Int → Int → Bool} {a b e : Expr} {ta tb tc : TD} {pos : Pos}
theorem mono_chI (ma : MonoE ta) (mb : MonoE tb) (mc : MonoE tc) : MonoE (tdChI f f' ta tb tc) := fun ρ Q Q' Z k q => ma _ _ _ _ (fun x r1 q1 => mb _ _ _ _ (fun y r2 q2 => isInt_mono (fun i qi => isInt_mono (fun j qj => by
  split
  · rename_i h
    rw [if_pos h] at qj
    exact mc _ _ _ _ (fun z r3 q3 => isInt_mono (fun l ql => k _ _ ql) q3) qj
  · rename_i h
    rw [if_neg h] at qj
    exact k _ _ qj) qi) q2) q1) q
theorem chI_run {σ : L2.St} {H : Hp} {Q : VK} (ma : MonoE ta) (mb : MonoE tb) (mc : MonoE tc) (q : lift c E (tdChI f f' ta tb tc) σ H Q) : tChain (rI0 fun i j => .bl (f i j)) (rI0 fun i j => .bl (f' i j)) (lift c E ta) (lift c E tb) (lift c E tc) σ H Q := by
  obtain ⟨ρ, τ, B, sd, q⟩ := q
  refine ⟨ρ, τ, B, sd, ma _ _ _ _ (fun x r1 q1 v H1 B1 s1 => ?_) q⟩
  refine ⟨r1, _, B1, s1, mb _ _ _ _ (fun y r2 q2 u H2 B2 s2 => ?_) q1⟩
  obtain ⟨i, ei, q3⟩ := isInt_at q2
  have q3 : isInt (fun j => if f i j = true then tc r2 (fun z r3 => isInt (fun l => ∀ (v : V) (H' B' : Hp), Sd c σ H' r3 ((some v, .d (.bool (f' j l))) :: τ) B' → Q v H') z) E else ∀ (v : V) (H' B' : Hp), Sd c σ H' r2 ((some v, .d (.bool false)) :: τ) B' → Q v H') y := q3
  obtain ⟨j, ej, q5⟩ := isInt_at q3
  clear q2 q3
  subst ei ej
  obtain ⟨e1, e2, s3⟩ := s2.two
  have e1 : v = .int i := e1
  have e2 : u = .int j := e2
  subst e1 e2
  refine ⟨i, j, rfl, rfl, f i j, rfl, ?_⟩
  split at q5
  · rename_i h
    rw [if_pos h]
    refine ⟨r2, τ, B2, s3, mc _ _ _ _ (fun z r3 q3 w H4 B4 s4 => ?_) q5⟩
    obtain ⟨l, rfl, q3⟩ := isInt_at q3
    have e3 : w = .int l := s4.topR
    subst e3
    exact ⟨j, l, rfl, rfl, q3 _ H4 B4 (s4.pop.flat rfl)⟩
  · rename_i h
    rw [if_neg h]
    exact q5 _ H2 B2 (s3.flat rfl)
theorem pd_chain (ho : OpR X (compareOp op) (rI0 fun i j => .bl (f i j))) (ho' : OpR X (compareOp op') (rI0 fun i j => .bl (f' i j))) (ha : PDE c E X a ta) (hb : PDE c E X b tb) (hc : PDE c E X e tc) (hm : lastMarks [op, op'] [b, e] = false := by with_unfolding_all rfl) : PDE c E X (.Compare a [op, op'] [b, e] pos) (tdChI f f' ta tb tc) :=
  ⟨pe_wk (pe_chain ho ho' ha.pe hb.pe hc.pe hm) fun σ H Q q => chI_run ha.mono hb.mono hc.mono q, mono_chI ha.mono hb.mono hc.mono⟩
theorem pdt_chain (ho : OpR X (compareOp op) (rI0 fun i j => .bl (f i j))) (ho' : OpR X (compareOp op') (rI0 fun i j => .bl (f' i j))) (ha : PDE c E X a ta) (hb : PDE c E X b tb) (hc : PDE c E X e tc) (hm : lastMarks [op, op'] [b, e] = false := by with_unfolding_all rfl) : PDT c E X (.Compare a [op, op'] [b, e] pos) (tdT (tdChI f f' ta tb tc)) :=
  ⟨pt_wk (pt_chain ho ho' ha.pe hb.pe hc.pe hm) fun σ H Q q => chI_run ha.mono hb.mono hc.mono (t_run (mono_chI ha.mono hb.mono hc.mono) q), mono_t (mono_chI ha.mono hb.mono hc.mono)⟩
end
theorem slabQ_good {CS : Addr} {Z : EZ} {ps : List (Int × Int)} {L : Int} {Q : List (Int × Int) → Int → Prop} (sz : SzOk ps) (h0 : 0 ≤ L) (h1 : L ≤ 1000000) (q : Q ps L) : slabQ CS Z (.list (ps.map dPair)) (.int L) Q := by
  have e : badD (.list (ps.map dPair)) (.int L) = none := by
    unfold badD
    simp only [List.length_map]
    have n1 := sz.n1
    have n6 := sz.n6
    rw [if_pos (by simp [n1, n6]), if_pos (by simp [inD, h0, h1])]
    rw [Option.map_eq_none_iff, List.findIdx?_eq_none_iff]
    intro x hx
    obtain ⟨p, hp, rfl⟩ := List.mem_map.mp hx
    have r := sz.rg p hp
    show (!(inD (.int p.1) 1 1000 && inD (.int p.2) 1 60)) = false
    simp [inD, r.1.1, r.1.2, r.2.1, r.2.2]
  unfold slabQ
  rw [e]
  have e2 : (ps.map dPair).map DL.pairD = ps := by
    rw [List.map_map]
    conv => rhs; rw [← List.map_id ps]
    exact List.map_congr_left fun p _ => rfl
  show Q ((ps.map dPair).map DL.pairD) L
  rw [e2]
  exact q
end DL
set_option Elab.async false
set_option linter.all false
set_option maxRecDepth 100000
set_option maxHeartbeats 4000000
/-! defs over data that make lambdas -/
namespace DL
open PySem PySem.Spec PyProof.Rows L2 XV SL
theorem fn_startT {c : DC} {N : List Str} {vs : List V} {xs : List DV} {n k : Nat} {H : Hp} (h0 : Same c.H0 H) (hW0 : ∀ w, c.W w → c.H0 w ≠ none) (hB : Same c.B0 H) (hv : vs.length = n) (hx : xs.length = n) (hr : ∀ p ∈ (vs.map some).zip xs, RepO c c.B0 H p) (ho : ∀ x ∈ xs, x.isOwn = false ∧ x.isBor = false) (hw : ∀ w, c.W w → c.B0 w = none ∧ IsWell c H w) (htp : ∀ b ys, H b = some (.tup ys) → c.B0 b = some (.tup ys)) (hN : N.length = n + k) :
    Sd c (L2.start N vs) H (xs ++ List.replicate k .no) [] c.B0 := by
  have el : L2.start N vs = vs.map some ++ List.replicate k none := by
    unfold L2.start
    rw [show N.length - vs.length = k by omega]
  have ez : (L2.start N vs).zip (xs ++ List.replicate k DV.no) = (vs.map some).zip xs ++ (List.replicate k (none : Option V)).zip (List.replicate k DV.no) := by
    rw [el, List.zip_append (by rw [List.length_map, hv, hx])]
  have all : ∀ p ∈ (L2.start N vs).zip (xs ++ List.replicate k DV.no) ++ [], RepO c c.B0 H p ∧ p.2.isOwn = false := fun p hp => by
    rw [List.append_nil, ez] at hp
    obtain ⟨p1, p2⟩ := p
    rcases List.mem_append.mp hp with hp | hp
    · exact ⟨hr _ hp, (ho p2 (List.of_mem_zip hp).2).1⟩
    · have : p2 = .no := List.eq_of_mem_replicate (List.of_mem_zip hp).2
      subst this
      exact ⟨.inl rfl, rfl⟩
  exact {
    len := by rw [el]; simp [hv, hx]
    sub := hB
    ext := Same.refl _
    new := fun b o z => .inl z
    keep := fun b o z _ => h0 _ _ z
    wl := fun w z => ⟨(hw w z).1, hW0 w z, (hw w z).2⟩
    rep := fun p hp => (all p hp).1
    ap := List.pairwise_of_forall_mem_list fun a ha b hb => ap_no (all a ha).2
    nbor := fun x hx => by
      rcases List.mem_append.mp hx with hx | hx
      · exact (ho x hx).2
      · rw [List.eq_of_mem_replicate hx]
        rfl
    tup := htp }
def spDT (C : Addr) (TT : List (Addr × Str)) (n : Nat) (td : List DV → (DV → Prop) → EZ → Prop) : Sp := fun vs H Q E => ∃ (c : DC) (xs : List DV) (Z : EZ), (c.C = C ∧ Nt c.B0) ∧ LamOk c TT ∧ Same c.H0 H ∧ (∀ w, c.W w → c.H0 w ≠ none) ∧ Same c.B0 H ∧ vs.length = n ∧ xs.length = n ∧ (∀ p ∈ (vs.map some).zip xs, RepO c c.B0 H p) ∧ (∀ x ∈ xs, x.isOwn = false ∧ x.isBor = false) ∧ (∀ w, c.W w → c.B0 w = none ∧ IsWell c H w) ∧ (∀ b ys, H b = some (.tup ys) → c.B0 b = some (.tup ys)) ∧ (∀ C n x, Z C n x → XW c E C n x) ∧
  td xs (fun x => ∀ v H' B', Fin c H' B' → RepV c B' H' v x → Q v H') Z
theorem spDT_len {C : Addr} {TT : List (Addr × Str)} {n : Nat} {td : List DV → (DV → Prop) → EZ → Prop} : ∀ vs H Q E, spDT C TT n td vs H Q E → vs.length = n := fun vs H Q E ⟨c, xs, Z, _, _, _, _, _, h, _⟩ => h
theorem fn_goT {C : Addr} {TT : List (Addr × Str)} {N : List Str} {body : List Stmt} {t : TDS} {n k : Nat} {vs : List V} {H : Hp} {Q : VK} {E : XK} {X : Cx} (h : spDT C TT n (fnD k t) vs H Q E) (hN : N.length = n + k)
    (T : ∀ (c : DC) (Z : EZ), (c.C = C ∧ Nt c.B0) → LamOk c TT → (∀ C n x, Z C n x → XW c E C n x) → PDSs c Z X body t) : ∃ tt, PSs X body tt ∧ tt { nx := fun _ H' => Q .non H', rt := Q } (L2.start N vs) H := by
  obtain ⟨c, xs, Z, hC, hL, h0, hW0, hB, hv, hx, hr, ho, hw, htp, hZ, q⟩ := h
  have T1 := T c Z hC hL hZ
  refine ⟨_, T1.ps, _, [], c.B0, fn_startT h0 hW0 hB hv hx hr ho hw htp hN, fun p hp => (nomatch hp), ?_⟩
  exact T1.mono ⟨fun _ => ∀ v H' B', Fin c H' B' → RepV c B' H' v (.d .none) → Q v H', fun x => ∀ v H' B', Fin c H' B' → RepV c B' H' v x → Q v H', fun _ => False, fun _ => False⟩ _ _ Z (fun r hr σ' H' B' s' => hr _ H' B' s'.fin rfl) (fun x hx => hx) (fun r hr => hr.elim) (fun r hr => hr.elim) q
theorem fn_specT {P : Program} {w : World} {K : PySem.W.Frag} {mg : Str → Option Value} {base : Heap} {CX : CXT} {k n : Nat} {f : Addr} {fd : FuncData} {ps : List Str} {C : Addr} {TT : List (Addr × Str)} {td td' : List DV → (DV → Prop) → EZ → Prop} (F : FnOk P w K mg base CX k f fd ps (spDT C TT n td)) (h : ∀ xs Q Z, td' xs Q Z → td xs Q Z) : FnOk P w K mg base CX k f fd ps (spDT C TT n td') :=
  F.imp fun vs H Q E ⟨c, xs, Z, hC, hL, h0, hW0, hB, hv, hx, hr, ho, hw, htp, hZ, q⟩ => ⟨c, xs, Z, hC, hL, h0, hW0, hB, hv, hx, hr, ho, hw, htp, hZ, h _ _ _ q⟩
/-- asked with a well and a number -/
def spWellT (TT : List (Addr × Str)) : Sp := fun vs H Q _ => ∃ (l : Addr) (k : Int), vs = [.ref l, .int k] ∧ (∃ i j m : Int, H l = some (.lst [.int i, .int j, .int m])) ∧ LamX.Tabs TT H ∧ ∀ H', (∀ b o, H b = some o → b ≠ l → (∀ q, o ≠ .tbl q) → H' b = some o) → LamX.Tabs TT H' → Q (.bl true) H'
def tdWellT : List DV → (DV → Prop) → EZ → Prop := fun xs Q _ => ∃ k : Int, xs = [.well, .d (.int k)] ∧ Q (.d (.bool true))
open Classical in
theorem ad_wellT {C : Addr} {TT : List (Addr × Str)} : ∀ vs H Q E, spWellT TT vs H Q E → spDT C TT 2 tdWellT vs H Q E := fun vs H Q E ⟨l, k, ev, ⟨i, j, m, e⟩, hT, q⟩ => by
  subst ev
  have tb : ∀ b nm, (b, nm) ∈ TT → ∃ q, H b = some (.tbl q) := fun b nm h => by
    obtain ⟨q, z, _⟩ := hT (b, nm) h
    exact ⟨q, z⟩
  have nl : ∀ nm, (l, nm) ∉ TT := fun nm h => by
    obtain ⟨q, z⟩ := tb l nm h
    rw [e] at z
    cases z
  refine ⟨⟨C, fun b => if b = l ∨ ∃ nm, (b, nm) ∈ TT then H b else DL.filt H b, fun b => if b = l then none else DL.filt H b, fun b => b = l ∨ ∃ nm, (b, nm) ∈ TT, TT⟩, [.well, .d (.int k)], fun _ _ _ => False, ⟨rfl, fun b q z => ?_⟩, ⟨rfl, fun p hp => .inr ⟨p.2, hp⟩, fun b q z => ?_⟩, fun b o z => ?_, fun w hw => ?_, fun b o z => ?_, rfl, rfl, fun p hp => ?_, fun x hx => ?_, fun w hw => ⟨?_, ?_⟩, fun b ys z => ?_, fun _ _ _ h => h.elim, k, rfl, fun v H' B' f r => ?_⟩
  · have z : (if b = l then none else DL.filt H b) = some (.tbl q) := z
    split at z
    · cases z
    · exact filt_nt b q z
  · have z : (if b = l ∨ ∃ nm, (b, nm) ∈ TT then H b else DL.filt H b) = some (.tbl q) := z
    split at z
    · assumption
    · exact absurd z (filt_nt b q)
  · have z : (if b = l ∨ ∃ nm, (b, nm) ∈ TT then H b else DL.filt H b) = some o := z
    split at z
    · exact z
    · exact filt_sub _ _ z
  · show (if w = l ∨ ∃ nm, (w, nm) ∈ TT then H w else DL.filt H w) ≠ none
    rw [if_pos hw]
    rcases hw with rfl | ⟨nm, h⟩
    · rw [e]
      intro z
      cases z
    · obtain ⟨q, z⟩ := tb w nm h
      rw [z]
      intro z
      cases z
  · have z : (if b = l then none else DL.filt H b) = some o := z
    split at z
    · cases z
    · exact filt_sub _ _ z
  · have hp : p = (some (.ref l), .well) ∨ p = (some (.int k), .d (.int k)) := by simpa using hp
    rcases hp with rfl | rfl
    · exact .inr ⟨_, rfl, l, rfl, .inl rfl, fun ⟨nm, h⟩ => nl nm h⟩
    · exact .inr ⟨_, rfl, rfl⟩
  · have hx : x = .well ∨ x = .d (.int k) := by simpa using hx
    rcases hx with rfl | rfl <;> exact ⟨rfl, rfl⟩
  · show (if w = l then none else DL.filt H w) = none
    rcases hw with rfl | ⟨nm, h⟩
    · exact if_pos rfl
    · split
      · rfl
      · obtain ⟨q, z⟩ := tb w nm h
        unfold DL.filt
        rw [z]
  · rcases hw with rfl | ⟨nm, h⟩
    · exact .inr ⟨fun ⟨nm, h⟩ => nl nm h, i, j, m, e⟩
    · exact .inl ⟨⟨nm, h⟩, fun nm' h' => hT (w, nm') h'⟩
  · have n : b ≠ l := fun n => by rw [n, e] at z; cases z
    show (if b = l then none else DL.filt H b) = _
    rw [if_neg n]
    exact filt_of z fun q e => by cases e
  · have r : v = .bl true := r
    subst r
    refine q H' (fun b o z n nt => f.keep b o ?_ ?_) fun p hp => ?_
    · show (if b = l ∨ ∃ nm, (b, nm) ∈ TT then H b else DL.filt H b) = some o
      split
      · exact z
      · exact filt_of z nt
    · rintro (h | ⟨nm, h⟩)
      · exact n h
      · obtain ⟨q2, z2⟩ := tb b nm h
        rw [z] at z2
        cases z2
        exact nt q2 rfl
    · rcases f.wl p.1 (.inr ⟨p.2, hp⟩) with ⟨_, h⟩ | ⟨h, _⟩
      · exact h p.2 hp
      · exact absurd ⟨p.2, hp⟩ h
end DL
set_option Elab.async false
set_option linter.all false
set_option maxRecDepth 100000
set_option maxHeartbeats 4000000
/-! sorted(xs, key=lambda n: ..), xs a list of ints, the key an int that own defs may make -/
namespace XK
open PySem PySem.Spec PyProof.Rows L2 LamX
section
variable {X : Cx} {pins : List (Addr × Obj)} {σ : L2.St} {H : Hp} {s : Shared}
theorem fp_pin {a b : Addr} {oa ob : Obj} {H1 : Hp} {s1 : Shared} (h : FpOk X pins H a) (n : H1 a = none) : FpOk X pins H1 a := ⟨n, h.2⟩
/-- an untracked list of ours is tracked from now on -/
theorem inv_adopt {a : Addr} {xs : List V} (I : Inv X pins σ H s) (f : FpOk X pins H a) (ok : ObjOk X.prog X.w (upd H a (.lst xs)) s.heap a (.lst xs)) : Inv X pins σ (upd H a (.lst xs)) s := by
  have nit : ∀ b u, H b = some u → b ≠ a := fun b u e z => by
    rw [z, f.1] at e
    cases e
  refine I.step (h' := s.heap) (t' := s.toks) (g' := s.gens) (d' := s.drawn) (ch := [a]) (fun b hb => ?_) (fun b o _ _ _ e _ => e) (fun b o _ _ _ e _ => ⟨o.slots, e⟩) (fun b o hc e n => ?_) (fun b o _ e => ⟨o, e⟩) (fun b ys e => ?_) (fun b o u e => ?_) (fun b ps e => ⟨#[], ?_⟩) (fun m hm => hm) (fun b u e => ?_) I.bare
  · have e : b = a := by simpa using hb
    subst e
    exact ⟨f.2.2.2.1, f.2.1, f.2.2.2.2.1, f.2.2.2.2.2⟩
  · rw [upd_ne (fun z => hc (by simp [z]))]
    exact n
  · rw [upd_ne (nit _ _ e)]
    exact e
  · rw [upd_ne (nit _ _ e)]
    exact e
  · rw [upd_ne (nit _ _ e), e]
    simp
  · by_cases hb : b = a
    · subst hb
      rw [upd_same] at e
      cases e
      exact ok
    · rw [upd_ne hb] at e
      exact (I.hok b u e).stay (fun c v _ q => q) (fun c q => by rw [upd_ne (nit _ _ q)]; exact q) fun c ys q => by rw [upd_ne (nit _ _ q)]; exact q
/-- values that are the numbers -/
def IsI (v : Value) (n : Int) : Prop := ∃ t, v = .int n t
theorem isI_vals : ∀ {ns : List Int} {us : List Value}, Vals (ns.map V.int) us → PySem.W.EachIs IsI us ns
  | [], [], .nil => .nil
  | n :: ns, u :: us, .cons r h => .cons r (isI_vals h)
theorem vals_isI : ∀ {ns : List Int} {us : List Value}, PySem.W.EachIs IsI us ns → Vals (ns.map V.int) us
  | [], [], .nil => .nil
  | n :: ns, u :: us, .cons r h => .cons r (vals_isI h)
theorem keyL_rest {A : Around} {a kS : Addr} {f : Value} {b : Bool} {vs : List Value} {e1 : Nat} {kz : List Int} {P : PySem.Fin → Shared → Prop} {E : Value → Shared → Prop} {J : Nat → Hp → Prop}
    (I : Inv X pins σ H s) (fa : FpOk X pins H a) (fk : FpOk X pins H kS) (hka : kS ≠ a) (nk : s.heap.get? kS = some (seqObj "list" #[] 0)) (na : s.heap.get? a = some (seqObj "list" #[] e1))
    (hlen : kz.length = vs.length) (hZ : vs.length ≤ sizeLine) (hu : A.units + 1 < cLine) (J0 : J 0 H)
    (turn : ∀ (i : Nat) (v : Value) (k : Int), vs[i]? = some v → kz[i]? = some k → ∀ (pins' : List (Addr × Obj)) (H' : Hp) (s' : Shared), (∀ p ∈ pins, p ∈ pins') → Inv X pins' σ H' s' → J i H' →
      wpAny (model X.prog X.w) A (call f [v]) (fun u s'' => ∃ t H'', u = .int k t ∧ Inv X pins' σ H'' s'' ∧ J (i + 1) H'') (fun _ _ => False) s')
    (h : ∀ H' s' out c, Inv X pins σ H' s' → FpOk X pins H' a → J vs.length H' → s'.heap.get? a = some (seqObj "list" (List.toArray out) c) → PySem.W.KeyedOut b (kz.map PyData.int) vs out → P (.done (.ret .none)) s') :
    wpAny (model X.prog X.w) A (ksk_rest a f b vs.toArray e1 (.ref kS)) P E s := by
  unfold ksk_rest
  refine wpAny_bind (wpAny_rule ?_)
  first
    | rw [List.forIn_toArray]
    | (rw [← Array.forIn_toList]; simp only [List.toList_toArray])
    | rw [← Array.forIn_toList]
  refine wpAny_bind (ksk_fold (fun i s' => ∃ H' kA e, Inv X pins σ H' s' ∧ H' a = none ∧ H' kS = none ∧ J i H' ∧ s'.heap.get? kS = some (seqObj "list" kA e) ∧ s'.heap.get? a = some (seqObj "list" #[] e1) ∧ PySem.W.EachIs IsI kA.toList (kz.take i)) vs 0 s
    ⟨H, #[], 0, I, fa.1, fk.1, J0, nk, na, by rw [List.take_zero]; exact .nil⟩ ?step ?done)
  case step =>
    rintro j x s' hx ⟨H', kA, e, I', na0, nk0, J', nk', na', hk⟩
    simp only [Nat.zero_add] at hk J' ⊢
    have hj : j < vs.length := (List.getElem?_eq_some_iff.mp hx).1
    obtain ⟨k, hkj⟩ : ∃ k, kz[j]? = some k := ⟨_, List.getElem?_eq_getElem (by omega)⟩
    have hz : kA.size ≤ vs.length := by
      have h1 := hk.length
      rw [Array.length_toList, List.length_take] at h1
      omega
    have hf : ∀ b ∈ [a, kS], FpOk X pins H' b := fun b hb => by
      rcases List.mem_cons.mp hb with rfl | hb
      · exact ⟨na0, fa.2⟩
      · rcases List.mem_singleton.mp hb with rfl
        exact ⟨nk0, fk.2⟩
    have Ip := I'.pinned (fp := [a, kS]) hf fun b hb => by
      rcases List.mem_cons.mp hb with rfl | hb
      · exact ⟨_, na', fun v z => by cases z⟩
      · rcases List.mem_singleton.mp hb with rfl
        exact ⟨_, nk', fun v z => by cases z⟩
    refine wpAny_bind (wpAny_attempt (wpAny_mono (turn j x k hx hkj _ H' s' (fun p hp => List.mem_append_left _ hp) Ip J') (fun v s'' he => ?_) fun _ _ hF => hF.elim))
    obtain ⟨t, H2, rfl, I2, J2⟩ := he
    try dsimp only
    have epin : pinsAt [a, kS] s'.heap = [(a, seqObj "list" #[] e1), (kS, seqObj "list" kA e)] := by
      unfold pinsAt
      simp [na', nk']
    obtain ⟨na2, na3, _⟩ := I2.pin (a, seqObj "list" #[] e1) (by rw [epin]; simp)
    obtain ⟨nk2, nk3, _⟩ := I2.pin (kS, seqObj "list" kA e) (by rw [epin]; simp)
    have I3 := I2.unpinned
    have s1 := Heap.SameBut.update s''.heap kS (Obj.mapSeq (·.push (Value.int k t)))
    obtain ⟨c2, hc2⟩ : ∃ c2, (s''.heap.update kS (Obj.mapSeq (·.push (Value.int k t)))).get? kS = some (seqObj "list" (kA.push (.int k t)) c2) := ⟨_, get?_update_seq nk2 (·.push (Value.int k t))⟩
    have ek : kz.take (j + 1) = kz.take j ++ [k] := by rw [List.take_add_one, hkj]; simp
    have ea : (kA.push (Value.int k t)).toList = kA.toList ++ [.int k t] := by simp
    refine wpAny_bind (listUpdate_at nk2 rfl ?_ (Nat.le_trans hz hZ) (Nat.le_trans (Nat.le_of_eq (Array.size_push ..)) (Nat.succ_le_succ (Nat.le_trans hz hZ))))
    refine wpAny_pure ⟨rfl, H2, kA.push (.int k t), c2, I3.turned (t' := s''.toks) (fun b o hb e => (s1.2 b hb).trans e) nk3 fk.2.1 fk.2.2.2.1 fk.2.2.2.2.1 fk.2.2.2.2.2, na3, nk3, J2, hc2, (s1.2 a hka.symm).trans na2, ?_⟩
    rw [ea, ek]
    exact PySem.W.each_snoc (R := IsI) ⟨t, rfl⟩ hk
  case done =>
    rintro s' ⟨H', kA, e, I', na0, nk0, J', nk', na', hk⟩
    simp only [Nat.zero_add] at hk J'
    have hk' : PySem.W.EachIs (fun v k => ∃ as, Reads s'.heap v k as) kA.toList (kz.map PyData.int) := by
      have e3 : kz.take vs.length = kz := List.take_of_length_le (by omega)
      rw [e3] at hk
      exact PySem.W.each_map (R := fun v k => ∃ as, Reads s'.heap v k as) PyData.int (hk.mono fun v k ⟨t, e⟩ => ⟨[], by subst e; exact .int k t⟩)
    have hsz : kA.size = vs.length := by
      have h1 := hk'.length
      rw [Array.length_toList, List.length_map] at h1
      omega
    have hal : PySem.W.AllAlike (kz.map PyData.int) := fun d hd d' hd' => by
      obtain ⟨i, _, rfl⟩ := List.mem_map.mp hd
      obtain ⟨i', _, rfl⟩ := List.mem_map.mp hd'
      rfl
    have hsk : PySem.W.Sortable (kz.map PyData.int) := .inr fun d hd => by
      obtain ⟨i, _, rfl⟩ := List.mem_map.mp hd
      exact ⟨(by intro h; cases h), fun xs h => (by cases h)⟩
    try dsimp only
    refine wpAny_bind (listItems_at nk' rfl ?_)
    have hin : kS ∈ [kS] := List.mem_singleton.mpr rfl
    refine PySem.W.keyH_end (κ := PySem.W.dataKind s'.heap (kz.map PyData.int)) (h₁ := PySem.W.hideAll s'.heap [kS]) (fun b o _ e => PySem.W.of_hideAll _ e) (PySem.W.hideAll_none _ hin) nk' na' hka
      (PySem.W.SortsAt.data (s := s') hk' hal hsk fun d hd => ?_) hsz hZ fun h3 tk3 c k3 n3 => ?_
    · obtain ⟨i, _, rfl⟩ := List.mem_map.mp hd
      have e : (PyData.int i).depth ≤ 1 := by simp [PyData.depth]
      omega
    · refine h H' _ _ c (I'.turnedL (t' := tk3) (ch := [a, kS]) (fun b o hb e => ?_) fun b hb => ?_) ⟨na0, fa.2⟩ J' n3 ⟨s'.heap, kA.toList, hal, rfl, hk'⟩
      · simp only [List.mem_cons, List.not_mem_nil, or_false, not_or] at hb
        exact k3 b o hb.1 (PySem.W.hideAll_get _ e fun hm => hb.2 (List.mem_singleton.mp hm))
      · rcases List.mem_cons.mp hb with rfl | hb
        · exact ⟨na0, fa.2⟩
        · rcases List.mem_singleton.mp hb with rfl
          exact ⟨nk0, fk.2⟩
end
/-! ### a lambda with one parameter -/
structure LamS1 (sc scope : Scope) (x : Str) : Prop where
  kind : scope.kind = .function
  co : scope.isCoroutine = false
  gen : scope.isGenerator = false
  par : scope.names.lookup x = some .local
  own : ∀ y ∈ scope.names, (y.2 = .local → y.1 = x) ∧ y.2 ≠ .cell
  free : ∀ y ∈ scope.names, y.2 = .free → sc.names.lookup y.1 = some .cell ∨ sc.names.lookup y.1 = some .free
def lamSB1 (sc scope : Scope) (x : Str) : Bool :=
  decide (scope.kind = .function) && !scope.isCoroutine && !scope.isGenerator && decide (scope.names.lookup x = some .local) && scope.names.all fun y => (!decide (y.2 = .local) || decide (y.1 = x)) && !decide (y.2 = .cell) && (!decide (y.2 = .free) || decide (sc.names.lookup y.1 = some .cell) || decide (sc.names.lookup y.1 = some .free))
theorem lamS1_by {sc scope : Scope} {x : Str} (h : lamSB1 sc scope x = true) : LamS1 sc scope x := by
  unfold lamSB1 at h
  simp only [Bool.and_eq_true, Bool.or_eq_true, Bool.not_eq_true', decide_eq_true_eq, decide_eq_false_iff_not, List.all_eq_true] at h
  obtain ⟨⟨⟨⟨h1, h2⟩, h3⟩, h5⟩, h4⟩ := h
  refine ⟨h1, h2, h3, h5, fun y hy => ⟨fun e => ?_, (h4 y hy).1.2⟩, fun y hy e => ?_⟩
  · rcases (h4 y hy).1.1 with z | z
    · exact absurd e z
    · exact z
  · rcases (h4 y hy).2 with (z | z) | z
    · exact absurd e z
    · exact .inl z
    · exact .inr z
theorem LamS1.has {X : Cx} {scope : Scope} {x : Str} (L : LamS1 X.env.scope scope x) (ok : X.Ok) : ∀ y ∈ scope.names, y.2 = .free → ∃ c, X.env.cells.lookup y.1 = some c := fun y hy e => by
  rcases L.free y hy e with k | k
  · exact ok.has _ (.inl k)
  · exact ok.has _ (.inr k)
section
variable {X : Cx} {pins : List (Addr × Obj)} {σ : L2.St} {H HZ : Hp} {s s1 : Shared}
theorem lam_start1 {A : Around} {outer : List Env} {E : XK} {scope : Scope} {f c' : Addr} {h₁ : Heap} {tk j : Nat} {x : Str} {v : V} {u : Value} (I : Inv X pins σ H s) (L : LamS1 X.env.scope scope x) (e0 : Env0 X.prog X.w X.K X.mg X.base A outer s1 HZ) (hd : A.handled = none)
    (hN : X.N.Nodup) (hj : X.N[j]? = some x) (rv : RelV v u)
    (un : Un (frs X.stack) [] H HZ s.heap s1.heap) (hns : h₁.Ns s1.heap.objs.size fun y => ([(x, u)] : List (Str × Value)).reverse.lookup y) (kp : ∀ b o, s1.heap.get? b = some o → h₁.get? b = some o) :
    Inv (lamCx X A outer s1 HZ E scope f c') [] (σ.set j (some v)) HZ { s1 with heap := h₁, toks := tk } := by
  have hfree := L.has I.ok
  have cm : ∀ {y c}, (cloFrom X.env.cells scope.names []).lookup y = some c → X.env.cells.lookup y = some c := fun {y c} e => by
    rcases cloFrom_mem (PySem.mem_of_lookup e) with hm | ⟨h1, h2⟩
    · cases hm
    · obtain ⟨c1, hc⟩ := hfree _ h1 rfl
      have hc : X.env.cells.lookup y = some c1 := hc
      have e2 : c = c1 := by
        rw [h2, hc] <;> rfl
      rw [e2]
      exact hc
  have look : ∀ {y}, scope.names.lookup y = some .free → ∃ c, (cloFrom X.env.cells scope.names []).lookup y = some c := fun {y} hl => by
    have hy : (y, NameKind.free) ∈ scope.names := PySem.mem_of_lookup hl
    exact mem_lookup (cloFrom_has (cells := X.env.cells) (acc := []) hy)
  have cellK : ∀ {c : Addr} {v : Option Value}, H c = none → s.heap.IsCell c v → h₁.IsCell c v := fun {c v} n ⟨o, ho, hd⟩ => by
    obtain ⟨sl, q⟩ := un.any ho n (by simp)
    exact ⟨_, kp _ _ q, hd⟩
  have noA : ∀ b : Addr, b ∉ (lamCx X A outer s1 HZ E scope f c').ex := fun b z => absurd (show b ∈ ([] : List Addr) from z) (by simp)
  refine ⟨⟨e0.mod, L.kind, rfl, rfl, Nat.le_refl _, fun y z c e1 e2 => I.ok.inj y z c (cm e1) (cm e2), fun y hy => ?_, fun y c z _ => ?_, fun _ => hd, Around.frames_deeper e0.frames, .inr ⟨rfl, rfl⟩, fun b z => absurd z (noA b), e0.bs, e0.bsz, fun b _ _ => noA b,
      fun b z => absurd z (noA b), e0.funs, e0.frf⟩,
    rfl, e0.bare, Un.kept kp, ⟨_, hns, fun i y w e1 e2 e3 => ?_⟩, fun y c e => ?_, e0.hok.fresh (Nat.le_refl _), fun y c e => ?_, fun q hq => absurd (show q ∈ ([] : List (Addr × Obj)) ++ [] from hq) (by simp), e0.hok.kept kp, by rw [List.length_set]; exact I.len⟩
  · have hy : scope.names.lookup y = some .cell ∨ scope.names.lookup y = some .free := hy
    rcases hy with hy | hy
    · exact absurd rfl (L.own _ (PySem.mem_of_lookup hy)).2
    · exact look hy
  · have z : false = true := z
    cases z
  · have e1 : X.N[i]? = some y := e1
    have e3 : Vis scope y := e3
    by_cases hij : i = j
    · subst hij
      rw [hj] at e1
      cases e1
      have lt : i < σ.length := by
        rw [I.len]
        exact (List.getElem?_eq_some_iff.mp hj).1
      rw [List.getElem?_set_self lt] at e2
      cases e2
      exact ⟨u, rv, .inl ⟨L.par, by simp⟩⟩
    · rw [List.getElem?_set_ne (Ne.symm hij)] at e2
      have nyx : y ≠ x := fun e => hij (nodup_ix hN e1 (by rw [e]; exact hj))
      rcases e3 with k | k | k
      · exact absurd ((L.own _ (PySem.mem_of_lookup k)).1 rfl) nyx
      · exact absurd rfl (L.own _ (PySem.mem_of_lookup k)).2
      · obtain ⟨m, hn, hl⟩ := I.loc
        have hvis : Vis X.env.scope y := (L.free _ (PySem.mem_of_lookup k) rfl).elim (fun k => .inr (.inl k)) (fun k => .inr (.inr k))
        obtain ⟨w', r, q⟩ := hl i y w e1 e2 hvis
        obtain ⟨c2, h2⟩ := look k
        refine ⟨w', r, .inr ⟨.inr k, c2, h2, ?_⟩⟩
        have c1 := cm h2
        rcases q with ⟨k', _⟩ | ⟨_, c3, e', z⟩
        · have k' : X.env.scope.names.lookup y = some .local := k'
          rcases L.free _ (PySem.mem_of_lookup k) rfl with k2 | k2 <;> rw [show X.env.scope.names.lookup y = _ from k2] at k' <;> cases k'
        · rw [c1] at e'
          cases e'
          exact cellK (I.freeC y _ c1) z
  · obtain ⟨w', z⟩ := I.cell y c (cm e)
    exact ⟨w', cellK (I.freeC y c (cm e)) z⟩
  · obtain ⟨v, o, ho, hd⟩ := I.cell y c (cm e)
    exact un.free c o ho (I.freeC y c (cm e)) (by simp)
/-- the lambda is called with one value -/
theorem lam_call1 {A : Around} {f c' : Addr} {pm ctv : Value} {params : Arguments} {body : Expr} {scope : Scope} {k j : Nat} {x : Str} {v : V} {u : Value} {E : XK} {tb : TE} {Q : VK}
    (I : Inv X pins σ H s) (of1 : s.heap.get? f = some (PySem.W.kla_obj "<lambda>" (X.env.qual ++ "<lambda>") params body scope (cloFrom X.env.cells scope.names []) pm c' ctv)) (L : LamS1 X.env.scope scope x)
    (hbind : bindArgs (PySem.W.kla_fn "<lambda>" (X.env.qual ++ "<lambda>") params body scope (cloFrom X.env.cells scope.names []) pm (.ref c') ctv) ⟨[u], []⟩ = pure [(x, u)]) (rv : RelV v u)
    (e0 : Env0 X.prog X.w X.K X.mg X.base A X.stack s H) (hr : Room (k + 1) A) (hN : X.N.Nodup) (hj : X.N[j]? = some x)
    (hbody : ∀ (A : Around) (outer : List Env) (s : Shared) (H : Hp), Room k (A.deeper (lamEnv X scope s.heap.objs.size f c')) → PE (lamCx X A outer s H E scope f c') body tb)
    (hc : H c' = some (CodeO c' (X.env.qual ++ "<lambda>"))) (ht : tb (σ.set j (some v)) H Q) :
    codeAny (model X.prog X.w) A (.call (.ref f) ⟨[u], []⟩) (CR (L2.CX X.prog X.w) X.stack X.prog X.w H s Q E) s := by
  obtain ⟨⟨oc, vs, t, hoc, hdc, hvc⟩, _, _⟩ := I.hok c' _ hc
  refine PySem.W.kla_callFunE hr.depth of1 rfl L.co L.gen rfl ⟨c', oc, vs, t, rfl, hoc, hdc, hvc⟩ ?_
  rw [hbind]
  refine wpAny_pure (wpAny_newFunctionEnv (fun y hy => (L.own y hy).2) (fun y hy => ?_) (fun h₁ hns hsb => ⟨I.nolimit.fresh _ hsb, ?_⟩) L.kind)
  · rcases List.mem_singleton.mp hy with rfl
    exact L.par
  show codeAny _ _ (.expr body (lamEnv X scope s.heap.objs.size f c')) _ _
  have kp : ∀ b o, s.heap.get? b = some o → h₁.get? b = some o := fun b o e => hsb.extBut b o (Nat.ne_of_lt (Heap.lt_size e)) (Heap.get?_push_of_some _ e)
  have J : Inv (lamCx X A X.stack s H E scope f c') [] (σ.set j (some v)) H { s with heap := h₁, toks := s.toks + ([(x, u)] : List (Str × Value)).length } :=
    lam_start1 I L e0 hr.hd hN hj rv Un.refl hns kp
  refine PySem.W.kla_codeExpr (wpAny_mono ((hbody A X.stack s H (hr.deeper _)).run [] _ _ H Q J ht) (fun v s' hq => ?_) fun e s' hq => hq)
  obtain ⟨w', H', J', rv, q⟩ := hq
  exact ⟨w', H', J'.os, J'.bare, J'.base, J'.hok, rv, q⟩
/-- sorted(xs, key=lambda n: ..): xs ints, each key an int -/
def tSortK (K : PySem.W.Frag) (T : List (Addr × Str)) (q : Str) (j : Nat) (te t : TE) : TE := fun σ H Q => te σ H fun v H1 => ∃ (a : Addr) (ns : List Int), v = .ref a ∧ SqL K H1 a (ns.map V.int) ∧ Tabs T H1 ∧ ∀ H2 c', ExtN H1 H2 → Tabs T H2 → H2 c' = some (CodeO c' q) →
  ∃ (key : Int → Int) (J : Nat → Hp → Prop), J 0 H2 ∧ (∀ i H3, J i H3 → H3 c' = some (CodeO c' q)) ∧ (∀ i n H3, ns[i]? = some n → J i H3 → t (σ.set j (some (.int n))) H3 fun v H4 => v = .int (key n) ∧ J (i + 1) H4) ∧
    ∀ H5 p, J ns.length H5 → H5 p = none → Q (.ref p) (upd H5 p (.lst ((ns.mergeSort fun a b => decide (key a ≤ key b)).map V.int)))
theorem pe_sortedK {T : List (Addr × Str)} {c P : Addr} {k j : Nat} {params : Arguments} {body e : Expr} {scope : Scope} {x : Str} {t te : TE} {p lpos kpos pos : Pos} (hg : Gl X "sorted") (hm : X.mg "sorted" = none) (he0 : PE X e te)
    (TB : TabB X.base X.mg c P) (hcode : X.env.code = .ref c) (hmT : (P, X.env.qual ++ "<lambda>") ∈ T) (hu : ∀ p ∈ T, p.1 = P → p.2 = X.env.qual ++ "<lambda>") (hr : Room (k + 3) X.A) (L : LamS1 X.env.scope scope x) (hN : X.N.Nodup) (hj : X.N[j]? = some x) (hdef : defaultsOf params X.env = ([], []))
    (hbind : ∀ (q : Str) (cl : List (Str × Addr)) (pm cv ctv u : Value), bindArgs (PySem.W.kla_fn "<lambda>" q params body scope cl pm cv ctv) ⟨[u], []⟩ = pure [(x, u)])
    (hbody : ∀ (A : Around) (outer : List Env) (s : Shared) (H : Hp) (f c' : Addr), Room k (A.deeper (lamEnv X scope s.heap.objs.size f c')) → PE (lamCx X A outer s H (fun _ _ _ => False) scope f c') body t)
    (hs : starEach [e] X.env = (false, eval e X.env) :: starEach [] X.env := by rfl) (hsp : backTo pos (starEach [e] X.env) = (false, eval e X.env) :: backTo pos (starEach [] X.env) := by rfl) (hpl : (backTo pos (starEach [e] X.env)).any (·.1) = false := by rfl) :
    PE X (.Call (.Name "sorted" p) [e] [⟨some "key", .Lambda params body scope lpos, kpos⟩] pos) (tSortK X.K T (X.env.qual ++ "<lambda>") j te t) := by
  refine ⟨fun pins s σ H Q I h => ?_⟩
  refine wpAny_Call_Name_kw (ld_blt I hg hm (u := .builtin "sorted") rfl ?_)
  refine PyProof.Rows.callWith_kw ?_ hsp hpl (by rfl) (by rfl)
  rw [hsp]
  refine Calls.spliced_cons (thn (he0.run pins s σ H _ I h) fun u1 s1 ⟨v1, H1, I1, ru1, q1⟩ => ?_)
  refine Calls.spliced_nil ?_
  obtain ⟨a, ns, ea, hS, hT, h⟩ := q1
  subst ea
  obtain rfl : u1 = Value.ref a := ru1
  refine wpAny_evalAll_cons (wpAny_bind (lam_make2 I1 TB hcode hmT hu hT hdef (L.has I1.ok) fun f c' pm' ctv H2 s2 I2 eN T2 hf hfn hfr hco => wpAny_bind (wpAny_standAt (wpAny_pure ?_))))
  refine wpAny_evalAll_nil ?_
  show wpAny _ _ (call (.builtin "sorted") [.ref a] [(Str.ofString "key", .ref f)]) _ _ s2
  obtain ⟨key, J, J0, Jc, turn, fin⟩ := h H2 c' eN T2 hco
  have hS2 : SqL X.K H2 a (ns.map V.int) := by
    rcases hS with (hS | ⟨o, hS⟩) | hS
    · exact .inl (.inl (eN _ _ hS fun q e => by cases e))
    · exact .inl (.inr ⟨o, eN _ _ hS fun q e => by cases e⟩)
    · exact .inr hS
  have nloc : f ≠ X.env.locals := fun e => by
    obtain ⟨m, ⟨o, es, ep, ho, hd, _⟩, _⟩ := I2.loc
    rw [← e, hf] at ho
    cases ho
    cases hd
  have nfs : f ∉ X.fs := fun hb => by
    rcases I2.ok.stk with e | ⟨e, _⟩
    · exact hfr (by rw [e]; exact hb)
    · refine hfr ?_
      rw [e]
      show f ∈ frs (X.env :: X.outer)
      unfold frs
      rw [List.filterMap_cons]
      split
      · exact hb
      · exact List.mem_cons_of_mem _ hb
  obtain ⟨ofn, eof⟩ : ∃ o, o = PySem.W.kla_obj "<lambda>" (X.env.qual ++ "<lambda>") params body scope (cloFrom X.env.cells scope.names []) pm' c' ctv := ⟨_, rfl⟩
  rw [← eof] at hf
  have I2 : Inv X (pins ++ [(f, ofn)]) σ H2 s2 := I2.pins_of fun p hp => by
    rcases List.mem_append.mp hp with hp | hp
    · exact I2.pin p (List.mem_append_right _ hp)
    · rcases List.mem_singleton.mp hp with rfl
      exact ⟨hf, hfn, nloc, nfs, fun v z => by rw [eof] at z; cases z⟩
  obtain ⟨its, rv, pl, hz⟩ := I2.list hS2
  rw [rv.length] at hz
  have hlen : its.length = ns.length := by
    have := rv.length
    rw [List.length_map] at this
    exact this.symm
  have e1 := isI_vals rv
  have I3 : Inv X (pins ++ [(f, ofn)]) σ H2 { s2 with heap := PySem.W.copyHeap s2.heap its } := I2.kept (t' := s2.toks) fun b o e => PySem.W.copyHeap_old e
  refine PySem.W.sorted_of_sort pl.isList hz (ksk_s1 _ _) (fun x => ksk_l1 _ _) fun E' => ?_
  rw [ksk_t1]
  generalize ha' : s2.heap.objs.size + 1 = a'
  have hcp := PySem.W.copyHeap_at s2.heap its
  rw [ha'] at hcp
  have fa3 : FpOk X (pins ++ [(f, ofn)]) H2 a' := I2.fpOk (by omega) (I2.hok.fresh (by omega))
  generalize PySem.W.copyHeap s2.heap its = h3 at I3 hcp
  have ha3 : a' < h3.objs.size := Heap.lt_size hcp
  unfold ksk_tree
  obtain ⟨e1', ho1⟩ : ∃ e1, (h3.update a' (Obj.mapSeq fun _ => (#[] : Array Value))).get? a' = some (seqObj "list" #[] e1) := ⟨_, get?_update_seq hcp fun _ => #[]⟩
  have hkS : ((h3.update a' (Obj.mapSeq fun _ => (#[] : Array Value))).push (seqObj "tuple" its.toArray 0)).objs.size = h3.objs.size + 1 := by rw [size_push', Heap.size_update]
  refine wpAny_bind (listItems_at hcp rfl ?_)
  refine wpAny_bind (listUpdate_at hcp rfl ?_ (by rw [List.size_toArray]; exact hz) (Nat.zero_le _))
  refine wpAny_bind (seqEpoch_at ho1 rfl ?_)
  refine wpAny_bind (wpAny_newTuple ?_ (by show its.length ≤ _; exact hz))
  refine wpAny_bind (wpAny_newList ?_ (Nat.zero_le _))
  refine wpAny_holding ?_
  have old : ∀ b o, b ≠ a' → h3.get? b = some o → (PySem.W.sortingHeap h3 a' its).get? b = some o := fun b o hb q => PySem.W.sortingHeap_old hb q
  have I4 : Inv X (pins ++ [(f, ofn)]) σ H2 { s2 with heap := PySem.W.sortingHeap h3 a' its } := I3.turned (t' := s2.toks) old fa3.1 fa3.2.1 fa3.2.2.2.1 fa3.2.2.2.2.1 fa3.2.2.2.2.2
  have fk4 : FpOk X (pins ++ [(f, ofn)]) H2 (h3.objs.size + 1) := I3.fpOk (by show h3.objs.size ≤ _; omega) (I3.hok.fresh (by show h3.objs.size ≤ _; omega))
  have kz : (ns.map key).length = its.length := by rw [List.length_map, hlen]
  have hka : h3.objs.size + 1 ≠ a' := by omega
  rw [← hkS] at fk4 hka
  refine keyL_rest (s := { s2 with heap := ((h3.update a' (Obj.mapSeq fun _ => (#[] : Array Value))).push (seqObj "tuple" its.toArray 0)).push (seqObj "list" #[] 0) }) (kS := ((h3.update a' (Obj.mapSeq fun _ => (#[] : Array Value))).push (seqObj "tuple" its.toArray 0)).objs.size) (J := J) (kz := ns.map key) I4 fa3 fk4 hka (by exact Heap.get?_push_size _ rfl) (Heap.get?_push_of_some _ (Heap.get?_push_of_some _ ho1)) kz hz (by have := hr.un; show X.A.units + 1 + 1 + 1 < cLine; omega) J0 (fun i v n hv hn pins' H' s' hp' I' J' => ?_) (fun H' s' out c5 I5 f5 J5 g5 ko => ?_)
  · obtain ⟨m, hm, rfl⟩ : ∃ m, ns[i]? = some m ∧ key m = n := by
      rw [List.getElem?_map] at hn
      cases q : ns[i]? with
      | none => rw [q] at hn; cases hn
      | some m => rw [q] at hn; exact ⟨m, rfl, Option.some.inj hn⟩
    obtain ⟨u, hu', ru⟩ := rv.get (show (ns.map V.int)[i]? = some (.int m) by rw [List.getElem?_map, hm]; rfl)
    rw [hv] at hu'
    cases hu'
    have of1 := (I'.pin (f, ofn) (List.mem_append_right _ (hp' _ (List.mem_append_right _ (List.mem_singleton.mpr rfl))))).1
    rw [eof] at of1
    have rc := lam_call1 (k := k) (j := j) (E := fun _ _ _ => False) (Q := fun v H4 => v = .int (key m) ∧ J (i + 1) H4) I' of1 L (hbind _ _ _ _ _ _) ru I'.env0.in1.in1 hr.in1.in1 hN hj (fun A outer s H hr2 => hbody A outer s H f c' hr2) (Jc i H' J') (turn i m H' hm J')
    refine wpAny_call (codeAny_mono rc fun r s3 hq => ?_)
    cases r with
    | error e =>
      obtain ⟨_, _, _, _, _, _, _, _, _, _, _, _, z⟩ := hq
      exact z.elim
    | ok fl =>
      cases fl with
      | ret u =>
        obtain ⟨w, H6, I6, r6, ew, j6⟩ := I'.after hq
        subst ew
        obtain ⟨t6, rfl⟩ := r6
        exact ⟨t6, H6, rfl, I6, j6⟩
      | next => exact False.elim hq
      | brk => exact False.elim hq
      | cont => exact False.elim hq
  · rw [List.map_map] at ko
    have e5 := PySem.W.keyedOut_each (fun n : Int => PyData.int (key n)) ko e1
    rw [PySem.W.dataLe_int] at e5
    have v5 := vals_isI e5
    refine ⟨rfl, .ref a', upd H' a' (.lst ((ns.mergeSort fun a b => decide (key a ≤ key b)).map V.int)), (inv_adopt I5 f5 ⟨?_, out, c5, v5, g5⟩).unpinned, rfl, fin H' a' (by rw [← hlen]; exact J5) f5.1⟩
    rw [List.length_map, List.length_mergeSort, ← hlen]
    exact hz
end
end XK
set_option Elab.async false
set_option linter.all false
set_option maxRecDepth 100000
set_option maxHeartbeats 4000000
/-! calls of defs that make lambdas, from defs that know their tables -/
namespace DL
open PySem PySem.Spec PyProof.Rows L2 XV SL LamX
open Classical in
noncomputable def tf (c : DC) (H : Hp) : Hp := fun b => if c.W b then H b else filt H b
section
variable {c : DC} {σ : L2.St} {H H' B B' : Hp} {ρ : Env} {τ : Tmp} {b : Addr} {o : HO} {v : V} {x : DV} {TT : List (Addr × Str)}
theorem tf_of (e : H b = some o) (n : ∀ q, o ≠ .tbl q) : tf c H b = some o := by
  unfold tf
  split
  · exact e
  · exact filt_of e n
theorem tf_w (w : c.W b) : tf c H b = H b := by
  unfold tf
  rw [if_pos w]
theorem tf_sub : Same (tf c H) H := fun b o z => by
  unfold tf at z
  split at z
  · exact z
  · exact filt_sub _ _ z
theorem tf_tbl {q : Array Value} (z : tf c H b = some (.tbl q)) : c.W b := by
  unfold tf at z
  split at z
  · assumption
  · exact absurd z (filt_nt b q)
theorem tf_none (e : tf c H b = none) : H b = none ∨ (¬ c.W b ∧ ∃ q, H b = some (.tbl q)) := by
  unfold tf at e
  split at e
  · exact .inl e
  · rename_i nw
    unfold DL.filt at e
    split at e
    · rename_i q hq
      exact .inr ⟨nw, q, hq⟩
    · exact .inl e
theorem Sd.freshT (s : Sd c σ H ρ τ B) (hT : ∀ b q, c.H0 b = some (.tbl q) → c.W b) {p : Addr} (h : tf c H p = none) : c.H0 p = none := by
  rcases tf_none h with h | ⟨nw, q, e⟩
  · exact s.fresh h
  · cases e0 : c.H0 p with
    | none => rfl
    | some o =>
      have z := s.keep p o e0 nw
      rw [e] at z
      cases z
      exact absurd (hT _ _ e0) nw
theorem RepV.growT (h : RepV c B H v x) (f : Fin ⟨c.C, tf c H, B, c.W, c.TT⟩ H' B') (hw : ∀ w, c.W w → c.H0 w ≠ none) : RepV c B' H' v x := by
  cases x with
  | no => trivial
  | d x => exact Dh.keep f.ext _ _ h
  | own xs =>
    obtain ⟨l, vs, e, z, nb, n0, r⟩ := h
    have hl : tf c H l = some (.lst vs) := tf_of z (fun q e => by cases e)
    refine ⟨l, vs, e, f.keep l _ hl fun w => hw l w n0, ?_, n0, Dh.keepL f.ext _ _ r⟩
    cases q : B' l with
    | none => rfl
    | some o =>
      rcases f.new l o q with q' | q'
      · have q' : B l = some o := q'
        rw [nb] at q'
        cases q'
      · have q' : tf c H l = none := q'
        rw [hl] at q'
        cases q'
  | bor xs =>
    obtain ⟨l, vs, e, z, n, r⟩ := h
    exact ⟨l, vs, e, f.keep l _ (tf_of z fun q e => by cases e) n, n, Dh.keepL f.ext _ _ r⟩
  | slab ps L =>
    obtain ⟨p, l, xc, e, s, r⟩ := h
    exact ⟨p, l, xc, e, s.keep f.ext, PairsAt.keep f.ext r⟩
  | well => exact h
  | any u => exact h
theorem Sd.growT (s : Sd c σ H ρ τ B) (hT : ∀ b q, c.H0 b = some (.tbl q) → c.W b) (f : Fin ⟨c.C, tf c H, B, c.W, c.TT⟩ H' B') : Sd c σ H' ρ τ B' where
  len := s.len
  sub := f.sub
  ext := s.ext.trans f.ext
  new := fun b o z => (f.new b o z).elim (fun q => s.new b o q) fun q => .inr (s.freshT hT q)
  keep := fun b o z n => f.keep b o (tf_of (s.keep b o z n) fun q e => by subst e; exact n (hT b q z)) n
  wl := fun w hw => by
    obtain ⟨a, b, hww⟩ := s.wl w hw
    obtain ⟨o', z⟩ := hww.here
    refine ⟨?_, b, f.wl w hw⟩
    cases q : B' w with
    | none => rfl
    | some o =>
      rcases f.new w o q with q' | q'
      · have q' : B w = some o := q'
        rw [a] at q'
        cases q'
      · have q' : tf c H w = none := q'
        rw [tf_w hw, z] at q'
        cases q'
  rep := fun p hp => (s.rep p hp).elim .inl fun ⟨v, e, r⟩ => .inr ⟨v, e, r.growT f fun w hw => (s.wl w hw).2.1⟩
  ap := s.ap
  nbor := s.nbor
  tup := f.tup
theorem Sd.callT (s : Sd c σ H ρ τ B) (hT : ∀ b q, c.H0 b = some (.tbl q) → c.W b) (f : Fin ⟨c.C, tf c H, B, c.W, c.TT⟩ H' B') (r : RepV ⟨c.C, tf c H, B, c.W, c.TT⟩ B' H' v x) (hb : x.isBor = false) : Sd c σ H' ρ ((some v, x) :: τ) B' := by
  have s1 : Sd c σ H' ρ τ B' := s.growT hT f
  have r' : RepV c B' H' v x := by
    cases x with
    | own xs =>
      obtain ⟨l, vs, e, z, nb, n0, rr⟩ := r
      exact ⟨l, vs, e, z, nb, s.freshT hT n0, rr⟩
    | bor _ => cases hb
    | no => exact r
    | d _ => exact r
    | slab _ _ => exact r
    | well => exact r
    | any _ => exact r
  by_cases ho : x.isOwn = true
  · cases x with
    | own xs =>
      obtain ⟨l, vs, rfl, z, nb, n0, rr⟩ := r
      have far : ∀ q ∈ σ.zip ρ ++ τ, Ap (some (V.ref l), DV.own xs) q := fun q hq _ ho e => by
        rcases s.rep q hq with e2 | ⟨u, e2, r2⟩
        · rw [e2] at ho
          cases ho
        · rw [e2] at e
          cases e
          obtain ⟨a, y⟩ := q
          cases y with
          | own ys =>
            obtain ⟨l', ws, e3, z3, _⟩ := r2
            cases e3
            have n0 : tf c H l = none := n0
            rw [tf_of z3 (fun q e => by cases e)] at n0
            cases n0
          | _ => cases ho
      refine { s1 with rep := fun q hq => ?_, ap := ?_ }
      · rcases List.mem_append.mp hq with hq | hq
        · exact s1.rep q (List.mem_append_left _ hq)
        · rcases List.mem_cons.mp hq with e | hq
          · subst e
            exact .inr ⟨_, rfl, r'⟩
          · exact s1.rep q (List.mem_append_right _ hq)
      · have z := List.pairwise_append.mp s1.ap
        refine List.pairwise_append.mpr ⟨z.1, List.pairwise_cons.mpr ⟨fun q hq => far q (List.mem_append_right _ hq), z.2.1⟩, fun a ha b hb => ?_⟩
        rcases List.mem_cons.mp hb with e | hb
        · subst e
          exact (far a (List.mem_append_left _ ha)).symm
        · exact z.2.2 a ha b hb
    | _ => cases ho
  · exact s1.push r' (by simpa using ho)
theorem xw_callT {E : XK} {C : Addr} {n : Str} (s : Sd c σ H ρ τ B) (hT : ∀ b q, c.H0 b = some (.tbl q) → c.W b) (hb : x.isBor = false) (h : XW c E C n x) : XW ⟨c.C, tf c H, B, c.W, c.TT⟩ E C n x := fun v H' B' d f r z nd =>
  h v H' B' d (s.growT hT f).fin (s.callT hT f r hb).topR z (s.freshT hT nd)
end
section
variable {c : DC} {E : EZ} {X : Cx} {TT : List (Addr × Str)}
theorem call_spT {td : List DV → (DV → Prop) → EZ → Prop} {σ : L2.St} {H B : Hp} {ρ : Env} {τ : Tmp} {vs : List V} {xs : List DV} {n : Nat} {Q : VK} {Qd : DV → Env → Prop} {EX : XK} (mf : MonoF td) (hN : Nt c.B0) (hL : LamOk c TT) (hZ : ∀ C n x, E C n x → XW c EX C n x) (s : Sd c σ H ρ (pushT vs xs τ) B) (hl : vs.length = xs.length) (hn : vs.length = n)
    (h : match argsOf xs with | some ys => td ys (fun x => x.isBor = false ∧ Qd x ρ) (fun C n x => x.isBor = false ∧ E C n x) | none => False)
    (k : ∀ x v H' B', Qd x ρ → Sd c σ H' ρ ((some v, x) :: τ) B' → Q v H') : spDT c.C TT n td vs H Q EX := by
  obtain ⟨hL1, hL2, hL3⟩ := hL
  split at h
  · rename_i ys e
    obtain ⟨B0, sB, s0, r0, l1, n1⟩ := s.argsV hl e
    have s1 := s0.filt hN
    have r1 := fun p hp => rep_filt (r0 p hp)
    refine ⟨⟨c.C, tf c H, DL.filt B0, c.W, c.TT⟩, ys, _, ⟨rfl, filt_nt⟩, ⟨hL1, hL2, fun b q z => tf_tbl z⟩, tf_sub, fun w hw => ?_, s1.sub, hn, by omega, fun p hp => ?_, n1, fun w hw => ⟨(s1.wl w hw).1, (s1.wl w hw).2.2⟩, s1.tup, fun C n x hx => xw_callT s1 hL3 hx.1 (hZ C n x hx.2), mf _ _ _ _ (fun x hx v H' B' f r => ?_) h⟩
    · show tf c H w ≠ none
      rw [tf_w (c := c) (show c.W w from hw)]
      obtain ⟨o, z⟩ := (s1.wl w hw).2.2.here
      rw [z]
      intro e
      cases e
    · have : ∃ v, p.1 = some v ∧ (v, p.2) ∈ vs.zip ys := by
        rw [List.zip_map_left] at hp
        obtain ⟨q, hq, rfl⟩ := List.mem_map.mp hp
        exact ⟨q.1, rfl, hq⟩
      obtain ⟨v, ev, hv⟩ := this
      have z := r1 _ hv
      refine .inr ⟨v, ev, ?_⟩
      have no := (n1 p.2 (List.of_mem_zip hv).2)
      obtain ⟨p1, p2⟩ := p
      cases p2 with
      | own _ => exact absurd no.1 (by intro h; cases h)
      | bor _ => exact absurd no.2 (by intro h; cases h)
      | no => exact z
      | d _ => exact z
      | slab _ _ => exact z
      | well => exact z
      | any _ => exact z
    · exact k x v H' B' hx.2 (s1.callT hL3 f r hx.1)
  · exact h.elim
theorem pd_callT {CX : CXT} {k n : Nat} {f : Addr} {fd : FuncData} {ps : List Str} {td : List DV → (DV → Prop) → EZ → Prop} {EX : XK} {x : Str} {p pos : Pos} {e : Expr} {es : List Expr} {ta : TDA} {C : Addr}
    (F : FnOk X.prog X.w X.K X.mg X.base CX k f fd ps (spDT C TT n td)) (mf : MonoF td) (hC : c.C = C ∧ Nt c.B0) (hL : LamOk c TT) (hZ : ∀ C n x, E C n x → XW c EX C n x) (hr : Room k X.A) (hg : Gl X x) (hm : X.mg x = some (.ref f)) (hk : PySem.W.keepIn X.K (.ref f) = true) (hb : Binds X.K fd ps []) (hx : Passes CX X EX)
    (ha : PDA c E X (e :: es) ta) (hn : (e :: es).length = n := by rfl) (hdb : (x == ("__debug__" : Str)) = false := by decide) (he : starEach (e :: es) X.env = (false, eval e X.env) :: starEach es X.env := by rfl) (hpl : (backTo pos (starEach es X.env)).any (·.1) = false := by rfl) :
    PDE c E X (.Call (.Name x p) (e :: es) [] pos) (tdFn td ta) := by
  obtain ⟨hC, hN⟩ := hC
  subst hC
  refine ⟨pe_wk (pe_call F hr hg hm hk hb .nil hx ha.pa hdb he hpl) fun σ H Q ⟨ρ, τ, B, s, q⟩ => ⟨ρ, τ, B, s, ha.mono _ _ _ _ (fun xs r hx vs H' B' hl s' => ?_) (ha.len _ _ _ q)⟩, mono_fn mf ha.mono⟩
  show spDT c.C TT n td (vs ++ []) H' Q EX
  rw [List.append_nil]
  exact call_spT (Qd := fun x ρ' => ∀ v H' B', Sd c σ H' ρ' ((some v, x) :: τ) B' → Q v H') mf hN hL hZ s' hl (by omega) hx.2 fun x v H2 B2 hq s2 => hq v H2 B2 s2
theorem call_spTN {td : List DV → (DV → Prop) → EZ → Prop} {σ : L2.St} {H B : Hp} {ρ : Env} {τ : Tmp} {vs : List V} {xs : List DV} {n : Nat} {Q : VK} {Qd : DV → Env → Prop} {EX : XK} (mf : MonoF td) (hN : Nt c.B0) (hL : LamOk c TT) (s : Sd c σ H ρ (pushT vs xs τ) B) (hl : vs.length = xs.length) (hn : vs.length = n)
    (h : match argsOf xs with | some ys => td ys (fun x => x.isBor = false ∧ Qd x ρ) (fun _ _ _ => False) | none => False)
    (k : ∀ x v H' B', Qd x ρ → Sd c σ H' ρ ((some v, x) :: τ) B' → Q v H') : spDT c.C TT n td vs H Q EX := by
  have e : (fun (C : Addr) (n : Str) (x : DV) => x.isBor = false ∧ (fun _ _ _ => False : EZ) C n x) = (fun _ _ _ => False) := by
    funext C n x
    simp
  refine call_spT (E := fun _ _ _ => False) (Qd := Qd) mf hN hL (fun C n x h => h.elim) s hl hn ?_ k
  rw [e]
  exact h
theorem pd_callTN {CX : CXT} {k n : Nat} {f : Addr} {fd : FuncData} {ps : List Str} {td : List DV → (DV → Prop) → EZ → Prop} {EX : XK} {x : Str} {p pos : Pos} {e : Expr} {es : List Expr} {ta : TDA} {C : Addr}
    (F : FnOk X.prog X.w X.K X.mg X.base CX k f fd ps (spDT C TT n td)) (mf : MonoF td) (hC : c.C = C ∧ Nt c.B0) (hL : LamOk c TT) (hr : Room k X.A) (hg : Gl X x) (hm : X.mg x = some (.ref f)) (hk : PySem.W.keepIn X.K (.ref f) = true) (hb : Binds X.K fd ps []) (hx : Passes CX X EX)
    (ha : PDA c E X (e :: es) ta) (hn : (e :: es).length = n := by rfl) (hdb : (x == ("__debug__" : Str)) = false := by decide) (he : starEach (e :: es) X.env = (false, eval e X.env) :: starEach es X.env := by rfl) (hpl : (backTo pos (starEach es X.env)).any (·.1) = false := by rfl) :
    PDE c E X (.Call (.Name x p) (e :: es) [] pos) (tdFnN td ta) := by
  obtain ⟨hC, hN⟩ := hC
  subst hC
  refine ⟨pe_wk (pe_call F hr hg hm hk hb .nil hx ha.pa hdb he hpl) fun σ H Q ⟨ρ, τ, B, s, q⟩ => ⟨ρ, τ, B, s, ha.mono _ _ _ _ (fun xs r hx vs H' B' hl s' => ?_) (ha.len _ _ _ q)⟩, mono_fnN mf ha.mono⟩
  show spDT c.C TT n td (vs ++ []) H' Q EX
  rw [List.append_nil]
  exact call_spTN (Qd := fun x ρ' => ∀ v H' B', Sd c σ H' ρ' ((some v, x) :: τ) B' → Q v H') mf hN hL s' hl (by omega) hx.2 fun x v H2 B2 hq s2 => hq v H2 B2 s2
/-- f(e, .., k=v), f's own raising told -/
theorem pd_callKT {CX : CXT} {k n : Nat} {f : Addr} {fd : FuncData} {ps : List Str} {td : List DV → (DV → Prop) → EZ → Prop} {EX : XK} {x nm : Str} {p pos kpos : Pos} {e ev : Expr} {es : List Expr} {ta : TDA} {tb : TD} {C : Addr} {g : List Value → List Value → List Value}
    (F : FnOk X.prog X.w X.K X.mg X.base CX k f fd ps (spDT C TT (n + 1) td)) (mf : MonoF td) (hC : c.C = C ∧ Nt c.B0) (hL : LamOk c TT) (hZ : ∀ C n x, E C n x → XW c EX C n x) (hr : Room k X.A) (hg : Gl X x) (hm : X.mg x = some (.ref f)) (hk : PySem.W.keepIn X.K (.ref f) = true)
    (hb : KBn X.K fd ps n [nm] g (fun vs zs => vs ++ zs)) (hx : Passes CX X EX) (ha : PDA c E X (e :: es) ta) (hv : PDE c E X ev tb) (hn : (e :: es).length = n := by rfl)
    (hall : (backToKw pos (keywordEach [⟨some nm, ev, kpos⟩] X.env)).all (·.1.isSome) = true := by rfl) (hks : (backToKw pos (keywordEach [⟨some nm, ev, kpos⟩] X.env)).filterMap (·.1) = [nm] := by rfl)
    (hdb : (x == ("__debug__" : Str)) = false := by decide) (he : starEach (e :: es) X.env = (false, eval e X.env) :: starEach es X.env := by rfl)
    (hpl : ((backTo pos (starEach (e :: es) X.env)).any (·.1) || (backToKw pos (keywordEach [⟨some nm, ev, kpos⟩] X.env)).any (·.1.isNone)) = false := by rfl) :
    PDE c E X (.Call (.Name x p) (e :: es) [⟨some nm, ev, kpos⟩] pos) (tdFnK td ta tb) := by
  obtain ⟨hC, hN⟩ := hC
  subst hC
  refine ⟨pe_wk (pe_callN F hr hg hm hk hb hx ha.pa (pk_cons hv.pe pk_nil) hall hks hdb he hpl) fun σ H Q ⟨ρ, τ, B, s, q⟩ => ⟨ρ, τ, B, s, ha.mono _ _ _ _ (fun xs r hx vs H' B' hl s' => ?_) (ha.len _ _ _ q)⟩, mono_fnK mf ha.mono hv.mono⟩
  refine ⟨r, _, B', s', hv.mono _ _ _ _ (fun y r2 hy v H2 B2 s2 => ?_) hx.2⟩
  show vs.length = n ∧ ([v] : List V).length = 1 ∧ spDT c.C TT (n + 1) td (vs ++ [v]) H2 Q EX
  refine ⟨by have := hx.1; omega, rfl, ?_⟩
  have e2 := pushT_snoc (τ := τ) v y hl
  rw [← e2] at s2
  exact call_spT (Qd := fun x ρ' => ∀ v H' B', Sd c σ H' ρ' ((some v, x) :: τ) B' → Q v H') (xs := xs ++ [y]) mf hN hL hZ s2 (by rw [List.length_append, List.length_append, hl]; rfl) (by rw [List.length_append, List.length_singleton]; have := hx.1; omega) hy fun x v H2 B2 hq s2 => hq v H2 B2 s2
theorem pd_callDT {CX : CXT} {k n : Nat} {f : Addr} {fd : FuncData} {ps : List Str} {ds : List Value} {td : List DV → (DV → Prop) → EZ → Prop} {EX : XK} {x : Str} {p pos : Pos} {e : Expr} {es : List Expr} {ta : TDA} {C : Addr}
    (F : FnOk X.prog X.w X.K X.mg X.base CX k f fd ps (spDT C TT (n + 1) td)) (mf : MonoF td) (hC : c.C = C ∧ Nt c.B0) (hL : LamOk c TT) (hZ : ∀ C n x, E C n x → XW c EX C n x) (hr : Room k X.A) (hg : Gl X x) (hm : X.mg x = some (.ref f)) (hk : PySem.W.keepIn X.K (.ref f) = true) (hb : Binds X.K fd ps ds) (hd : Vals [.non] ds) (hx : Passes CX X EX)
    (ha : PDA c E X (e :: es) ta) (hn : (e :: es).length = n := by rfl) (hdb : (x == ("__debug__" : Str)) = false := by decide) (he : starEach (e :: es) X.env = (false, eval e X.env) :: starEach es X.env := by rfl) (hpl : (backTo pos (starEach es X.env)).any (·.1) = false := by rfl) :
    PDE c E X (.Call (.Name x p) (e :: es) [] pos) (tdFnD td ta) := by
  obtain ⟨hC, hN⟩ := hC
  subst hC
  refine ⟨pe_wk (pe_call F hr hg hm hk hb hd hx ha.pa hdb he hpl) fun σ H Q ⟨ρ, τ, B, s, q⟩ => ⟨ρ, τ, B, s, ha.mono _ _ _ _ (fun xs r hx vs H' B' hl s' => ?_) (ha.len _ _ _ q)⟩, mono_fnD1 mf ha.mono⟩
  show spDT c.C TT (n + 1) td (vs ++ [.non]) H' Q EX
  have s2 := s'.push (v := .non) (x := .d .none) rfl rfl
  have e2 := pushT_snoc (τ := τ) .non (.d .none) hl
  rw [← e2] at s2
  exact call_spT (Qd := fun x ρ' => ∀ v H' B', Sd c σ H' ρ' ((some v, x) :: τ) B' → Q v H') (xs := xs ++ [.d .none]) mf hN hL hZ s2 (by rw [List.length_append, List.length_append, hl]; rfl) (by rw [List.length_append, List.length_singleton]; have := hx.1; omega) hx.2 fun x v H2 B2 hq s2 => hq v H2 B2 s2
end
/-! ### sorted(xs, key=lambda n: ..) -/
def lstK : DV → Option (List PyData)
  | .d (.list xs) => some xs
  | .own xs => some xs
  | _ => none
def tdSortK (j : Nat) (te tb : TD) : TD := fun ρ Q Z => te ρ (fun x ρ1 => ∃ (ns : List Int) (key : Int → Int), lstK x = some (ns.map PyData.int) ∧ (∀ n ∈ ns, tb ((hide ρ1).set j (.d (.int n))) (fun y _ => y = .d (.int (key n))) (fun _ _ _ => False)) ∧
  Q (.own ((ns.mergeSort fun a b => decide (key a ≤ key b)).map PyData.int)) ρ1) Z
theorem mono_sortK {j : Nat} {te tb : TD} (me : MonoE te) : MonoE (tdSortK j te tb) := fun ρ Q Q' Z k q => me _ _ _ _ (fun x r ⟨ns, key, a, b, h⟩ => ⟨ns, key, a, b, k _ _ h⟩) q
theorem ints_backD {B : Hp} : ∀ {vs : List V} {ns : List Int}, DhL B vs (ns.map PyData.int) → vs = ns.map V.int
  | [], [], _ => rfl
  | [], _ :: _, h => by obtain ⟨_, _, e, _⟩ := h; cases e
  | v :: vs, [], h => by cases h
  | v :: vs, n :: ns, h => by
    obtain ⟨y, ys, e, a, b⟩ := h
    cases e
    have a : v = .int n := a
    rw [a, ints_backD b]
    rfl
theorem ints_dhLK {B : Hp} : ∀ ns : List Int, DhL B (ns.map V.int) (ns.map PyData.int)
  | [] => rfl
  | n :: ns => dhL_cons rfl (ints_dhLK ns)
section
variable {c : DC} {E : EZ} {X : Cx} {TT : List (Addr × Str)}
theorem pd_sortedK {C cc P : Addr} {k j : Nat} {params : Arguments} {body e : Expr} {scope : Scope} {x : Str} {tb te : TD} {p lpos kpos pos : Pos} (hC : c.C = C ∧ Nt c.B0) (hL : LamOk c TT) (hg : Gl X "sorted") (hm : X.mg "sorted" = none) (he0 : PDE c E X e te)
    (TB : TabB X.base X.mg cc P) (hcode : X.env.code = .ref cc) (hmT : (P, X.env.qual ++ "<lambda>") ∈ TT) (hu : ∀ p ∈ TT, p.1 = P → p.2 = X.env.qual ++ "<lambda>") (hr : Room (k + 3) X.A) (L : XK.LamS1 X.env.scope scope x) (hN : X.N.Nodup) (hj : X.N[j]? = some x) (hdef : defaultsOf params X.env = ([], []))
    (hbind : ∀ (q : Str) (cl : List (Str × Addr)) (pm cv ctv u : Value), bindArgs (PySem.W.kla_fn "<lambda>" q params body scope cl pm cv ctv) ⟨[u], []⟩ = pure [(x, u)])
    (hbody : ∀ (A : Around) (outer : List PySem.Env) (s : Shared) (H : Hp) (f c' : Addr), Room k (A.deeper (lamEnv X scope s.heap.objs.size f c')) → PE (lamCx X A outer s H (fun _ _ _ => False) scope f c') body (tlam C tb (fun _ _ _ => False)))
    (hs : starEach [e] X.env = (false, eval e X.env) :: starEach [] X.env := by rfl) (hsp : backTo pos (starEach [e] X.env) = (false, eval e X.env) :: backTo pos (starEach [] X.env) := by rfl) (hpl : (backTo pos (starEach [e] X.env)).any (·.1) = false := by rfl) :
    PDE c E X (.Call (.Name "sorted" p) [e] [⟨some "key", .Lambda params body scope lpos, kpos⟩] pos) (tdSortK j te tb) := by
  obtain ⟨hC, hN0⟩ := hC
  subst hC
  refine ⟨pe_wk (XK.pe_sortedK hg hm he0.pe TB hcode hmT hu hr L hN hj hdef hbind hbody hs hsp hpl) fun σ H Q ⟨ρ, τ, B, s, q⟩ => ⟨ρ, τ, B, s, he0.mono _ _ _ _ (fun x ρ1 hx v H1 B1 s1 => ?_) q⟩, mono_sortK he0.mono⟩
  obtain ⟨ns, key, ei, hk, hq⟩ := hx
  obtain ⟨a, vs, rfl, z, r⟩ := lst_at s1.sub s1.topR (show lstOf x = some (ns.map PyData.int) by
    unfold lstK at ei
    split at ei
    · exact ei
    · exact ei
    · cases ei)
  have ev := ints_backD r
  subst ev
  refine ⟨a, ns, rfl, SqL.of z, s1.tabs hL, fun H2 c' eN T2 hco => ?_⟩
  obtain ⟨B2, s2⟩ := s1.lam hN0 hL eN T2
  have nW : ¬ c.W c' := fun w => by
    rcases (s2.wl c' w).2.2 with ⟨⟨nm, m⟩, h⟩ | ⟨_, i, j, k, h⟩
    · obtain ⟨q, z, _⟩ := h nm m
      rw [hco] at z
      exact codeO_ne q (Option.some.inj z)
    · rw [hco] at h
      unfold CodeO at h
      cases h
  refine ⟨key, fun _ H3 => (∃ B3, Sd c σ H3 ρ1 τ B3) ∧ H3 c' = some (CodeO c' (X.env.qual ++ "<lambda>")), ⟨⟨B2, s2.pop⟩, hco⟩, fun i H3 h => h.2, fun i n H3 hn ⟨⟨B3, s3⟩, h3⟩ => ?_, fun H5 p ⟨⟨B5, s5⟩, _⟩ np => hq _ _ _ (s5.newOwn np (ints_dhLK _))⟩
  have s4 := s3.filt hN0
  have si := ((s4.inner.push (v := .int n) (x := .d (.int n)) rfl rfl).set j rfl)
  refine ⟨⟨c.C, H3, DL.filt B3, c.W, c.TT⟩, fun _ _ _ => False, _, DL.filt B3, _, ⟨rfl, filt_nt⟩, fun _ _ _ h => h.elim, si, hk n (List.mem_of_getElem? hn), fun y r hy v H' B' s' => ?_⟩
  subst hy
  have ev : v = .int (key n) := s'.topR
  have f := s'.pop.fin
  exact ⟨ev, ⟨B', s4.grow f.ext f.sub f.keep f.new f.wl f.tup⟩, f.keep _ _ h3 nW⟩
end
end DL
set_option Elab.async false
set_option linter.all false
set_option maxRecDepth 100000
set_option maxHeartbeats 4000000
/-! a tuple with one item times a number up to 3000 -/
namespace DL
open PySem PySem.Spec PyProof.Rows L2 XV SL
def rRep1 (K : PySem.W.Frag) : R2 := fun x y H Q => ∃ l k z, x = .ref l ∧ y = .int k ∧ SqT K H l [z] ∧ 1 ≤ k ∧ k ≤ 3000 ∧ (k = 1 → Q (.ref l) H) ∧ (k ≠ 1 → ∀ p, H p = none → Q (.ref p) (upd H p (.tup (List.replicate k.toNat z))))
theorem rep_flat1 {α : Type} (n : Nat) (a : α) : (List.replicate n [a]).flatten = List.replicate n a := by
  induction n with
  | zero => rfl
  | succ n ih => rw [List.replicate_succ, List.flatten_cons, ih]; rfl
theorem op_rep1 {X : Cx} : OpR X (binaryOp .Mult) (rRep1 X.K) := by
  intro pins s σ H x y v u Q I rx ry h
  obtain ⟨l, k, z, rfl, rfl, hT, h1, h2, q1, q2⟩ := h
  by_cases small : k ≤ 1000
  · exact op_repA pins s σ H _ _ v u Q I rx ry ⟨l, k, [z], rfl, rfl, hT, (by intro e; cases e), by omega, small, (by show 1 ≤ 1000; omega), q1, fun e p np => by rw [rep_flat1]; exact q2 e p np⟩
  cases rx
  obtain ⟨t, rfl⟩ := ry
  obtain ⟨its, r, ⟨⟨cls, dd, data, sl⟩, ho, hc, n, hd⟩, hs⟩ := I.tuple hT
  dsimp only at hc hd
  subst hc hd
  obtain ⟨it, rfl⟩ : ∃ it, its = [it] := by
    cases r with
    | cons a b =>
      cases b
      exact ⟨_, rfl⟩
  have hsz0 : [it].toArray.size = 1 := rfl
  have flen : (List.replicate k.toNat [it]).flatten.length ≤ sizeLine := by
    rw [rep_flat1, List.length_replicate, sizeLine_eq]
    omega
  have c0 : (decide (k < -(2 ^ 63)) || decide (k ≥ 2 ^ 63)) = false := by
    rw [decide_eq_false (by omega), decide_eq_false (by omega)] <;> rfl
  have c1 : ([it].toArray.isEmpty || k == 1) = false := by
    show (false || k == 1) = false
    rw [Bool.false_or]
    exact beq_eq_false_iff_ne.mpr (by omega)
  have c2 : (decide (k ≤ 0) || [it].toArray.isEmpty) = false := by
    show (decide (k ≤ 0) || false) = false
    rw [Bool.or_false]
    exact decide_eq_false (by omega)
  have c4 : Builtin.Tuple.tupleTooMany ((([it].toArray.size : Nat) : Int) * k) = false := by
    unfold Builtin.Tuple.tupleTooMany
    rw [sizeLine_eq, hsz0]
    exact decide_eq_false (by omega)
  refine wpAny_binaryOp_repeat_ref (T := "tuple") (U := "int") (by decide) ⟨_, ho, rfl⟩ (fun s' => typeIs_int s' k t) noFill_tuple_mul F.fills_int_mul F.slot_int_rmul repeat_tuple F.slot_int_index.lookup
    (call_meets F.slot_int_rmul (typeIs_int s k t) F.entry_int_rmul (F.args_int_rmul_2 _ _) (int_rmul_tuple k t l [it].toArray n dd sl)
      ⟨ho, rfl, ⟨_, ho, rfl⟩, call_meets F.slot_tuple_mul ⟨_, ho, rfl⟩ F.entry_tuple_mul (F.args_tuple_mul_2 _ _) (tuple_mulW l [it].toArray n dd sl k t c0 c1 c2 (by rw [hsz0]; omega) c4 (by rw [size_rep, List.size_toArray]; exact flen)) ⟨ho, ?_⟩⟩)
  rw [size_rep]
  have q3 := q2 (by omega)
  rw [← rep_flat1] at q3
  refine ⟨.ref s.heap.objs.size, _, I.laid (t' := s.toks) (o := .tup (List.replicate k.toNat [z]).flatten) (fun b ob q => Heap.get?_push_of_some _ q) (Nat.le_refl _) ?_, rfl, q3 _ (I.hok.fresh (Nat.le_refl _))⟩
  exact ⟨by rw [rep_flat1, List.length_replicate, sizeLine_eq]; omega, _, r.rep k.toNat, IsTup.new _ _⟩
def sMul1 : S2 := fun x y Q => match x, y with
  | .d (.tuple [a]), .d (.int k) => 1 ≤ k ∧ k ≤ 3000 ∧ Q (.d (.tuple (List.replicate k.toNat a)))
  | _, _ => False
theorem os_mul1 {X : Cx} : OpS X (OpR X (binaryOp .Mult)) sMul1 := by
  refine ⟨fun x y Q Q' k h => ?_, _, op_rep1, fun c σ ρ τ B H v w x y Q' Qv s hs k => ?_⟩
  · unfold sMul1 at h ⊢
    split at h
    · exact ⟨h.1, h.2.1, k _ h.2.2⟩
    · exact h.elim
  · obtain ⟨r1, r2, s2⟩ := s.two
    unfold sMul1 at hs
    split at hs
    · rename_i a n
      obtain ⟨l1, vs, rfl, z1, h1⟩ := r1
      have r2 : w = .int n := r2
      subst r2
      obtain ⟨y, ys, rfl, d1, d2⟩ := h1
      have d2 : ys = [] := d2
      subst d2
      obtain ⟨q1, q2, q3⟩ := hs
      have hd : ∀ (B : Hp) m, Dh B y a → DhL B (List.replicate m y) (List.replicate m a) := fun B m hy => by
        induction m with
        | zero => exact rfl
        | succ m ih => exact ⟨_, _, rfl, hy, ih⟩
      refine ⟨l1, n, y, rfl, rfl, SqT.of (s2.sub _ _ z1), q1, q2, fun e => ?_, fun _ p np => k _ _ _ _ q3 (s2.newT np (hd _ _ d1))⟩
      subst e
      exact k _ _ _ _ q3 (s2.flat ⟨l1, [y], rfl, z1, ⟨_, _, rfl, d1, rfl⟩⟩)
    · exact hs.elim
end DL
set_option Elab.async false
set_option linter.all false
set_option maxRecDepth 100000
set_option maxHeartbeats 4000000
/-! texts of data: their lengths, and that they are texts -/
namespace DL
open PySem PySem.Spec PyProof.Rows L2 XV SL
theorem sk_of (s : String) : PyData.strOk (Str.ofString s) = true := by
  rw [Str.ofString_eq_toList]
  unfold PyData.strOk
  rw [Array.all_eq_true']
  intro x hx
  have hx : x ∈ s.toList.map Char.toNat := by simpa using hx
  obtain ⟨c, _, rfl⟩ := List.mem_map.mp hx
  have h := c.valid
  have e : c.toNat = c.val.toNat := rfl
  rw [decide_eq_true_eq, e]
  rcases h with h | h
  · have h : c.val.toNat < 55296 := h
    omega
  · exact h.2
theorem sk_app {a b : Str} (h1 : PyData.strOk a = true) (h2 : PyData.strOk b = true) : PyData.strOk (a ++ b) = true := by
  show (a.cps ++ b.cps).all _ = true
  rw [Array.all_append]
  unfold PyData.strOk at h1 h2
  rw [h1, h2]
  rfl
theorem sk_join {z : Str} (hz : PyData.strOk z = true) : ∀ {ts : List Str}, (∀ t ∈ ts, PyData.strOk t = true) → PyData.strOk (Str.join z ts) = true
  | [], _ => by simp [Str.join, Str.empty, PyData.strOk]
  | [x], h => h x List.mem_cons_self
  | x :: y :: r, h => sk_app (sk_app (h x List.mem_cons_self) hz) (sk_join hz fun t ht => h t (List.mem_cons_of_mem _ ht))
theorem sk_from : ∀ {ts : List Str} {k : Nat} {acc : Str}, PyData.strOk acc = true → (∀ t ∈ ts, PyData.strOk t = true) → PyData.strOk (textFrom k acc ts) = true
  | [], k, acc, h, _ => h
  | t :: r, k, acc, h, ht => by
    unfold textFrom
    refine sk_from (sk_app (sk_app h (sk_of _)) (ht t List.mem_cons_self)) fun x hx => ht x (List.mem_cons_of_mem _ hx)
theorem sk_listText {ts : List Str} (h : ∀ t ∈ ts, PyData.strOk t = true) : PyData.strOk (listText ts) = true := sk_app (sk_from (sk_of _) h) (sk_of _)
theorem sk_tupleText {ts : List Str} (h : ∀ t ∈ ts, PyData.strOk t = true) : PyData.strOk (tupleText ts) = true := sk_app (sk_app (sk_of _) (sk_join (sk_of _) h)) (sk_of _)
/-- texts of data, small -/
structure RepOk (n m : Nat) (d : PyData) : Prop where
  pl : plain d = true
  sh : d.showable = true
  nd : d.hasDict = false
  dp : d.depth ≤ n
  ln : d.shown.length ≤ m
  tx : PyData.strOk d.shown = true
theorem rep_all {n m : Nat} : ∀ {ds : List PyData}, (∀ d ∈ ds, RepOk n m d) → plainL ds = true ∧ PyData.showableAll ds = true ∧ PyData.hasDictAll ds = false ∧ PyData.depthAll ds ≤ n ∧ (∀ t ∈ PyData.shownAll ds, t.length ≤ m) ∧ (PyData.shownAll ds).length = ds.length ∧ ∀ t ∈ PyData.shownAll ds, PyData.strOk t = true
  | [], _ => ⟨rfl, by simp [PyData.showableAll], by simp [PyData.hasDictAll], by simp [PyData.depthAll], fun t ht => (by simp [PyData.shownAll] at ht), by simp [PyData.shownAll], fun t ht => (by simp [PyData.shownAll] at ht)⟩
  | d :: ds, h => by
    obtain ⟨a1, a2, a3, a4, a5, a6, a7⟩ := rep_all (ds := ds) fun y hy => h y (List.mem_cons_of_mem _ hy)
    obtain ⟨b1, b2, b3, b4, b5, b6⟩ := h d List.mem_cons_self
    refine ⟨by simp [plainL, a1, b1], by simp [PyData.showableAll, a2, b2], by simp [PyData.hasDictAll, a3, b3], by simp only [PyData.depthAll]; omega, fun t ht => ?_, by simp [PyData.shownAll, a6], fun t ht => ?_⟩
    · simp only [PyData.shownAll] at ht
      rcases List.mem_cons.mp ht with e | ht
      · rw [e]
        exact b5
      · exact a5 t ht
    · simp only [PyData.shownAll] at ht
      rcases List.mem_cons.mp ht with e | ht
      · rw [e]
        exact b6
      · exact a7 t ht
theorem rep_list {n m k : Nat} {ds : List PyData} (h : ∀ d ∈ ds, RepOk n m d) (hk : ds.length ≤ k) : RepOk (n + 1) (k * (m + 2) + 2) (.list ds) := by
  obtain ⟨a1, a2, a3, a4, a5, a6, a7⟩ := rep_all h
  have hp := piled_le a5
  have hm : (PyData.shownAll ds).length * (m + 2) ≤ k * (m + 2) := Nat.mul_le_mul_right _ (by omega)
  refine ⟨a1, by simpa [PyData.showable] using a2, by simpa [PyData.hasDict] using a3, by simp only [PyData.depth]; omega, ?_, by simp only [PyData.shown]; exact sk_listText a7⟩
  simp only [PyData.shown]
  have := listText_le (PyData.shownAll ds)
  omega
theorem rep_tuple {n m k : Nat} {ds : List PyData} (h : ∀ d ∈ ds, RepOk n m d) (hk : ds.length ≤ k) : RepOk (n + 1) (k * (m + 2) + 3) (.tuple ds) := by
  obtain ⟨a1, a2, a3, a4, a5, a6, a7⟩ := rep_all h
  have hp := piled_le a5
  have hm : (PyData.shownAll ds).length * (m + 2) ≤ k * (m + 2) := Nat.mul_le_mul_right _ (by omega)
  refine ⟨a1, by simpa [PyData.showable] using a2, by simpa [PyData.hasDict] using a3, by simp only [PyData.depth]; omega, ?_, by simp only [PyData.shown]; exact sk_tupleText a7⟩
  simp only [PyData.shown]
  have := tupleText_le (PyData.shownAll ds)
  omega
theorem rep_int {i : Int} (h1 : -1000000000 ≤ i) (h2 : i ≤ 1000000000) {n : Nat} : RepOk n 1999 (.int i) := by
  have hi := small_log h1 h2
  refine ⟨rfl, by simpa [PyData.showable] using hi, by simp [PyData.hasDict], by simp [PyData.depth], ?_, by simp only [PyData.shown]; exact sk_of _⟩
  simp only [PyData.shown]
  show (Str.ofString (toString i)).length ≤ 1999
  rw [PySem.ofString_length]
  have := int_text_length_le (k := 1920) (by decide) hi
  omega
theorem rep_bool {b : Bool} {n : Nat} : RepOk n 1999 (.bool b) := by
  refine ⟨rfl, by simp [PyData.showable], by simp [PyData.hasDict], by simp [PyData.depth], ?_, by simp only [PyData.shown]; cases b <;> exact sk_of _⟩
  simp only [PyData.shown]
  cases b <;> decide
theorem rep_none {n : Nat} : RepOk n 1999 .none := ⟨rfl, by simp [PyData.showable], by simp [PyData.hasDict], by simp [PyData.depth], by simp only [PyData.shown]; decide, by simp only [PyData.shown]; exact sk_of _⟩
theorem rep_str {z : Str} {n : Nat} (h : (reprText z).length ≤ 1999) (h2 : PyData.strOk (reprText z) = true) : RepOk n 1999 (.str z) := ⟨rfl, by simp [PyData.showable], by simp [PyData.hasDict], by simp [PyData.depth], by simp only [PyData.shown]; exact h, by simp only [PyData.shown]; exact h2⟩
theorem RepOk.mono {n m n' m' : Nat} {d : PyData} (h : RepOk n m d) (a : n ≤ n') (b : m ≤ m') : RepOk n' m' d := ⟨h.pl, h.sh, h.nd, Nat.le_trans h.dp a, Nat.le_trans h.ln b, h.tx⟩
theorem rep_sm {i : Int} (h1 : -1000000 ≤ i) (h2 : i ≤ 1000000) {n : Nat} : RepOk n 9 (.int i) := by
  have hi := small_log (i := i) (by omega) (by omega)
  refine ⟨rfl, by simpa [PyData.showable] using hi, by simp [PyData.hasDict], by simp [PyData.depth], ?_, by simp only [PyData.shown]; exact sk_of _⟩
  simp only [PyData.shown]
  show (Str.ofString (toString i)).length ≤ 9
  rw [PySem.ofString_length]
  have := int_text_length_le10 (a := i) (k := 7) (by decide) (by omega)
  omega
theorem rep_big {n : Nat} : RepOk n 1999 (.int ((10 : Int) ^ (20 : Int).toNat)) := by
  have hi : ((10 : Int) ^ (20 : Int).toNat).natAbs.log2 < 1920 := by decide +kernel
  refine ⟨rfl, by simpa [PyData.showable] using hi, by simp [PyData.hasDict], by simp [PyData.depth], ?_, by simp only [PyData.shown]; exact sk_of _⟩
  simp only [PyData.shown]
  show (Str.ofString (toString _)).length ≤ 1999
  rw [PySem.ofString_length]
  have := int_text_length_le (k := 1920) (by decide) hi
  omega
theorem ifB {b : Bool} {p q : Prop} (e : b = false) (h : q) : if b = true then p else q := by
  subst e
  exact h
theorem ifA {b : Bool} {p q : Prop} (e : b = true) (h : p) : if b = true then p else q := by
  subst e
  exact h
/-- what has a text that can be compared -/
def RepT (d : PyData) : Prop := RepD d ∧ PyData.strOk d.shown = true
theorem rep_d {n m : Nat} {d : PyData} (h : RepOk n m d) (hn : n ≤ 64) (hm : m ≤ 16777216) : RepT d := ⟨.inl ⟨h.pl, h.sh, h.nd, by have := h.dp; omega, by have := h.ln; rw [sizeLine_eq]; omega⟩, h.tx⟩
theorem rep_edic : RepT (.dict []) := ⟨.inr rfl, by simp only [PyData.shown, PyData.shownKv]; exact sk_app (sk_app (sk_of _) (sk_join (sk_of _) fun t h => nomatch h)) (sk_of _)⟩
end DL
set_option Elab.async false
set_option linter.all false
set_option maxRecDepth 100000
set_option maxHeartbeats 4000000
/-! walks over a list or a tuple, over reversed(list) -/
namespace DL
open PySem PySem.Spec PyProof.Rows L2 XV SL LamX
def iSeq (K : PySem.W.Frag) (tl : TE) : TI := fun σ H R => tl σ H fun x H1 => ∃ a, x = .ref a ∧ (((∃ xs, SqL K H1 a xs) ∧ R (Itl K a) H1) ∨ ((∃ xs, SqT K H1 a xs) ∧ R (Itt K a) H1))
theorem pi_seq {X : Cx} {tg l : Expr} {tl : TE} (hl : PE X l tl) : PI X tg l (iSeq X.K tl) := by
  refine ⟨fun pins s σ H R I h => ?_⟩
  refine thn (hl.run pins s σ H _ I h) fun v s1 ⟨x, H1, I1, r1, q1⟩ => ?_
  obtain ⟨a, e, q⟩ := q1
  subst e
  cases r1
  rcases q with ⟨⟨xs, hq⟩, q⟩ | ⟨⟨xs, hq⟩, q⟩
  · obtain ⟨its, rv, p, hz⟩ := I1.list hq
    refine wpAny_pyIter_list p.isList ?_
    refine ⟨s1.heap.objs.size, [s1.heap.objs.size], _, _, H1, rfl, I1.kept (t' := s1.toks) fun b o e => Heap.get?_push_of_some _ e, turn_list a _, ⟨_, Heap.get?_push_size _ rfl, rfl, rfl⟩, fun b hb => ?_, q⟩
    have e : b = s1.heap.objs.size := by simpa using hb
    subst e
    exact I1.fpOk (Nat.le_refl _) (I1.hok.fresh (Nat.le_refl _))
  · obtain ⟨its, rv, p, hz⟩ := I1.tuple hq
    refine wpAny_pyIter_tuple (show s1.heap.IsTuple a its.toArray from p) ?_
    refine ⟨s1.heap.objs.size, [s1.heap.objs.size], _, _, H1, rfl, I1.kept (t' := s1.toks) fun b o e => Heap.get?_push_of_some _ e, turn_tuple a _, ⟨_, Heap.get?_push_size _ rfl, rfl, rfl⟩, fun b hb => ?_, q⟩
    have e : b = s1.heap.objs.size := by simpa using hb
    subst e
    exact I1.fpOk (Nat.le_refl _) (I1.hok.fresh (Nat.le_refl _))
section
variable {c : DC} {E : EZ} {X : Cx} {tg e : Expr} {te : TD} {ta : TDA}
def seqQ (x : DV) (Q : List PyData → Prop) : Prop := match x with
  | .d (.list ds) => Q ds
  | .own ds => Q ds
  | .d (.tuple ds) => Q ds
  | _ => False
theorem seqQ_mono {x : DV} {Q Q' : List PyData → Prop} (k : ∀ ds, Q ds → Q' ds) (h : seqQ x Q) : seqQ x Q' := by
  unfold seqQ at h ⊢
  split at h
  · exact k _ h
  · exact k _ h
  · exact k _ h
  · exact h.elim
theorem seqQ_two {x : DV} {Q : List PyData → Prop} (h : seqQ x Q) : lstQ x Q ∨ tupQ x Q := by
  unfold seqQ at h
  split at h
  · exact .inl h
  · exact .inl h
  · exact .inr h
  · exact h.elim
def tdiS (te : TD) : TDI := fun ρ Q Z => te ρ (fun x ρ1 => seqQ x fun ds => Q ds ρ1) Z
theorem pdi_seq (h : PDE c E X e te) : PDI c E X tg e (tdiS te) := by
  refine ⟨pi_wk (pi_seq h.pe) fun σ H R ⟨ρ, τ, B, s, q⟩ => ⟨ρ, τ, B, s, h.mono _ _ _ _ (fun x ρ1 hx v H' B' s' => ?_) q⟩, fun ρ Q Q' Z k q => h.mono _ _ _ _ (fun x r => seqQ_mono fun ds => k ds r) q⟩
  rcases seqQ_two hx with hx | hx
  · obtain ⟨a, ds, B2, vs, rfl, hq, z, s2, r⟩ := lstQ_at s' hx
    exact ⟨a, rfl, .inl ⟨⟨vs, SqL.of z⟩, hq _ _ B2 _ wk_list s2⟩⟩
  · obtain ⟨a, ds, vs, rfl, hq, rfl, z, r⟩ := tupQ_at s' hx
    exact ⟨a, rfl, .inr ⟨⟨vs, SqT.of z⟩, hq _ _ B' _ wk_tup s'⟩⟩
def tdiRev (te : TD) : TDI := fun ρ Q Z => te ρ (fun x ρ1 => lstQ x fun ds => Q ds.reverse ρ1) Z
theorem pdi_rev {p pos : Pos} (hg : Gl X "reversed") (hm : X.mg "reversed" = none) (h : PDE c E X e te) (hs : starEach [e] X.env = (false, eval e X.env) :: starEach [] X.env := by rfl) : PDI c E X tg (.Call (.Name "reversed" p) [e] [] pos) (tdiRev te) := by
  refine ⟨pi_wk (RT.pi_revA hg hm h.pe hs) fun σ H R ⟨ρ, τ, B, s, q⟩ => ⟨ρ, τ, B, s, h.mono _ _ _ _ (fun x ρ1 hx v H' B' s' => ?_) q⟩, fun ρ Q Q' Z k q => h.mono _ _ _ _ (fun x r => lstQ_mono fun ds => k _ r) q⟩
  obtain ⟨a, ds, B2, vs, rfl, hq, z, s2, r⟩ := lstQ_at s' hx
  exact ⟨a, vs, rfl, .inl ⟨SqL.of z, hq _ _ B2 _ (wk_rev (dhL_len r)) s2⟩⟩
end
/-! ### the readings' small steps -/
theorem seq_env {t : TDS} {D : DEnds} {ρ ρ' : DL.Env} {Z : EZ} (e : ρ = ρ') (q : t D ρ' Z) : t D ρ Z := e ▸ q
theorem mat_at {xs : List PyData} {d : PyData} {i : Int} {F : PyData → Prop} (h : atI xs i = some d) (q : F d) : (match atI xs i with
    | some d => F d
    | none => False) := by
  rw [h]
  exact q
/-- an item of a list of data that stand for xs -/
theorem at_map {α : Type} {f : α → PyData} {xs : List α} {i : Nat} {x : α} (h : xs[i]? = some x) : atI (xs.map f) (i : Int) = some (f x) := by
  have lt := (List.getElem?_eq_some_iff.mp h).1
  unfold atI ixN
  rw [List.length_map, if_pos (by omega), if_pos (by omega)]
  show (xs.map f)[((i : Int)).toNat]? = some (f x)
  rw [Int.toNat_natCast, List.getElem?_map, h]
  rfl
theorem mat_map {α : Type} {f : α → PyData} {xs : List α} {i : Nat} {x : α} {F : PyData → Prop} (h : xs[i]? = some x) (q : F (f x)) : (match atI (xs.map f) (i : Int) with
    | some d => F d
    | none => False) := mat_at (at_map h) q
theorem eqv_self {d : PyData} (h : SeqAt.shaped d = true) : PyData.eqv d d = true := SeqAt.eqv_refl _ (SeqAt.canLay_of_shaped h)
end DL
set_option Elab.async false
set_option linter.all false
set_option maxRecDepth 100000
set_option maxHeartbeats 4000000
/-! what the program's defs compute: pins, orders, limits -/
namespace MR
open PySem DL SL
abbrev PS := List (Int × Int)
abbrev Rows := List (List Int)
abbrev Cost := Int × Int × Int
def dC (c : Cost) : PyData := .tuple [.int c.1, .int c.2.1, .int c.2.2]
/-- the numbers of further pages -/
def fur (rows pins : Rows) : List Int := (rows.zip pins).map fun p => (p.1.length : Int) - p.2.length
def cost1 (held : Int) (q : Int × Int) (p : List Int) : Cost := (q.1, q.1 * q.2, held - q.1 * p.sum + q.1 * ((p.length : Int) * q.2 + 1))
def cst (ps : PS) (pins : Rows) : List Cost := (ps.zip pins).map fun z => cost1 (lv ps pins) z.1 z.2
def peak (c : Cost) (k : Int) : Int := c.2.2 + c.2.1 * (k - 1)
def cAt (cs : List Cost) (n : Nat) : Cost := cs.getD n (0, 0, 0)
def fAt (fs : List Int) (n : Nat) : Int := fs.getD n 0
def hold (cs : List Cost) (fs : List Int) (n : Nat) : Int := (cAt cs n).1 * fAt fs n
def fb (cs : List Cost) (fs : List Int) (ns : List Nat) : Int := (ns.map (hold cs fs)).sum
def grow (fs : List Int) : List Nat := (List.range fs.length).filter fun n => decide (0 < fAt fs n)
def gb (cs : List Cost) (fs : List Int) (n : Nat) : Int := peak (cAt cs n) (fAt fs n) - hold cs fs n
def srt (cs : List Cost) (fs : List Int) : List Nat := (grow fs).mergeSort fun a b => decide (-gb cs fs a ≤ -gb cs fs b)
def lastB (cs : List Cost) (fs : List Int) (ns : List Nat) : Int := fb cs fs ns + minI (ns.map (gb cs fs))
/-- the first that needs more than the limit -/
def firstA (lim : Int) (cs : List Cost) (fs : List Int) : Int → List Nat → Option Nat
  | _, [] => none
  | held, n :: ns => if lim < held + peak (cAt cs n) (fAt fs n) then some 0 else (firstA lim cs fs (held + hold cs fs n) ns).map (· + 1)
def leastStep (cs : List Cost) (fs : List Int) (ns : List Nat) (a : Int × List Nat) (i : Nat) : Int × List Nat :=
  if a.1 < lastB cs fs (ns.take (i + 1)) then (lastB cs fs (ns.take (i + 1)), ns.take (i + 1)) else a
/-- the least limit, and what shows it, in the order of need -/
def leastS (cs : List Cost) (fs : List Int) (held : Int) : Int × List Nat := (List.range (srt cs fs).length).foldl (leastStep cs fs (srt cs fs)) (held, [])
def dNs (ns : List Nat) : List PyData := ns.map fun (n : Nat) => .int (n : Int)
def toI (ns : List Nat) : List Int := ns.map fun (n : Nat) => (n : Int)
def dLim (a : Int × List Nat) : PyData := .tuple [.int a.1, .tuple ((srtI (toI a.2)).map .int)]
def fitP (spare full first : Int) : Int := max 0 ((spare - first) / full + 1)
def mostGo (cs : List Cost) (fs : List Int) (c : Cost) : List Nat → Int → Int → Int → Option Int
  | [], _, _, most => some most
  | o :: os, spare, room, most =>
    let spare' := spare + hold cs fs o
    let left := spare' - peak (cAt cs o) (fAt fs o)
    if left < 0 then none else
      let room' := min room (left / c.1)
      mostGo cs fs c os spare' room' (max most (min room' (fitP spare' c.2.1 c.2.2)))
/-- the greatest number of further pages of a class beside those of the others -/
def mostF (lim : Int) (cs : List Cost) (fs : List Int) (n : Nat) (room : Int) : Option Int :=
  let fs' := fs.set n 0
  let ns := srt cs fs'
  let spare := lim - fb cs fs ns
  mostGo cs fs (cAt cs n) ns.reverse spare room (min room (fitP spare (cAt cs n).2.1 (cAt cs n).2.2))
def dOpt : Option Int → PyData
  | none => .none
  | some k => .int k
end MR
set_option Elab.async false
set_option linter.all false
set_option maxRecDepth 100000
set_option maxHeartbeats 4000000
/-! the promises of pins, orders, limits, over data -/
namespace MR
open PySem PySem.Spec PyProof.Rows L2 XV SL DL
abbrev Sig := List DV → (DV → Prop) → EZ → Prop
/-- costs whose numbers are not large -/
def CB (cs : List Cost) : Prop := ∀ c ∈ cs, (1 ≤ c.1 ∧ c.1 ≤ 1000) ∧ 1 ≤ c.2.1 ∧ c.2.1 ≤ 60000
def dI (ns : List Int) : List PyData := ns.map .int
abbrev dCs (cs : List Cost) : PyData := .list (cs.map dC)
abbrev dFs (fs : List Int) : PyData := .list (dI fs)
/-- a list or a tuple of numbers -/
def IsNs (x : DV) (ns : List Nat) : Prop := x = .d (.list (dNs ns)) ∨ x = .d (.tuple (dNs ns))
theorem IsNs.seq {x : DV} {ns : List Nat} {Q : List PyData → Prop} (h : IsNs x ns) (q : Q (dNs ns)) : seqQ x Q := by
  rcases h with rfl | rfl <;> exact q
def tdFur : Sig := fun xs Q _ => ∃ rows pins : Rows, xs = [.d (dRows rows), .d (dRows pins)] ∧ rows.length = pins.length ∧ rows.length ≤ 1000 ∧ Q (.own (dI (fur rows pins)))
def tdCC : Sig := fun xs Q _ => ∃ (ps : PS) (L : Int) (pins : Rows), xs = [.slab ps L, .d (dRows pins)] ∧ SzOk ps ∧ pins.length = ps.length ∧ Q (.own ((cst ps pins).map dC))
def tdPeak : Sig := fun xs Q _ => ∃ (c : Cost) (k : Int), xs = [.d (dC c), .d (.int k)] ∧ (1 ≤ c.2.1 ∧ c.2.1 ≤ 60000) ∧ Q (.d (.int (peak c k)))
def tdFB : Sig := fun xs Q _ => ∃ (cs : List Cost) (fs : List Int) (x : DV) (ns : List Nat), xs = [.d (dCs cs), .d (dFs fs), x] ∧ IsNs x ns ∧ ns.length ≤ 1000 ∧ CB cs ∧ (∀ n ∈ ns, n < cs.length ∧ n < fs.length) ∧ Q (.d (.int (fb cs fs ns)))
def tdGrow : Sig := fun xs Q _ => ∃ fs : List Int, xs = [.d (dFs fs)] ∧ fs.length ≤ 1000 ∧ Q (.own (dNs (grow fs)))
def tdGB : Sig := fun xs Q _ => ∃ (cs : List Cost) (fs : List Int) (n : Nat), xs = [.d (dCs cs), .d (dFs fs), .d (.int (n : Int))] ∧ CB cs ∧ n < cs.length ∧ n < fs.length ∧ Q (.d (.int (gb cs fs n)))
def tdSrt : Sig := fun xs Q _ => ∃ (cs : List Cost) (fs : List Int), xs = [.d (dCs cs), .d (dFs fs)] ∧ CB cs ∧ cs.length = fs.length ∧ fs.length ≤ 1000 ∧ Q (.own (dNs (srt cs fs)))
def tdLast : Sig := fun xs Q _ => ∃ (cs : List Cost) (fs : List Int) (x : DV) (ns : List Nat), xs = [.d (dCs cs), .d (dFs fs), x] ∧ IsNs x ns ∧ ns ≠ [] ∧ ns.length ≤ 1000 ∧ CB cs ∧ (∀ n ∈ ns, n < cs.length ∧ n < fs.length) ∧ Q (.d (.int (lastB cs fs ns)))
def tdFit : Sig := fun xs Q _ => ∃ a b c : Int, xs = [.d (.int a), .d (.int b), .d (.int c)] ∧ (1 ≤ b ∧ b ≤ 60000) ∧ Q (.d (.int (fitP a b c)))
def tdLS : Sig := fun xs Q _ => ∃ (cs : List Cost) (fs : List Int) (h : Int), xs = [.d (dCs cs), .d (dFs fs), .d (.int h)] ∧ CB cs ∧ cs.length = fs.length ∧ fs.length ≤ 1000 ∧ Q (.d (dLim (leastS cs fs h)))
def tdMF : Sig := fun xs Q _ => ∃ (L : Int) (cs : List Cost) (fs : List Int) (n : Nat) (room : Int), xs = [.d (.int L), .d (dCs cs), .d (dFs fs), .d (.int (n : Int)), .d (.int room)] ∧ CB cs ∧ cs.length = fs.length ∧ fs.length ≤ 1000 ∧ n < fs.length ∧ Q (.d (dOpt (mostF L cs fs n room)))
theorem mf_fur : MonoF tdFur := fun xs Q Q' Z k ⟨a, b, e, h1, h2, q⟩ => ⟨a, b, e, h1, h2, k _ q⟩
theorem mf_cc : MonoF tdCC := fun xs Q Q' Z k ⟨a, b, c, e, h1, h2, q⟩ => ⟨a, b, c, e, h1, h2, k _ q⟩
theorem mf_peak : MonoF tdPeak := fun xs Q Q' Z k ⟨a, b, e, h1, q⟩ => ⟨a, b, e, h1, k _ q⟩
theorem mf_fb : MonoF tdFB := fun xs Q Q' Z k ⟨a, b, c, d, e, h1, h2, h3, h4, q⟩ => ⟨a, b, c, d, e, h1, h2, h3, h4, k _ q⟩
theorem mf_grow : MonoF tdGrow := fun xs Q Q' Z k ⟨a, e, h1, q⟩ => ⟨a, e, h1, k _ q⟩
theorem mf_gb : MonoF tdGB := fun xs Q Q' Z k ⟨a, b, c, e, h1, h2, h3, q⟩ => ⟨a, b, c, e, h1, h2, h3, k _ q⟩
theorem mf_srt : MonoF tdSrt := fun xs Q Q' Z k ⟨a, b, e, h1, h2, h3, q⟩ => ⟨a, b, e, h1, h2, h3, k _ q⟩
theorem mf_last : MonoF tdLast := fun xs Q Q' Z k ⟨a, b, c, d, e, h1, h2, h3, h4, h5, q⟩ => ⟨a, b, c, d, e, h1, h2, h3, h4, h5, k _ q⟩
theorem mf_fit : MonoF tdFit := fun xs Q Q' Z k ⟨a, b, c, e, h1, q⟩ => ⟨a, b, c, e, h1, k _ q⟩
theorem mf_ls : MonoF tdLS := fun xs Q Q' Z k ⟨a, b, c, e, h1, h2, h3, q⟩ => ⟨a, b, c, e, h1, h2, h3, k _ q⟩
theorem mf_mf : MonoF tdMF := fun xs Q Q' Z k ⟨a, b, c, d, f, e, h1, h2, h3, h4, q⟩ => ⟨a, b, c, d, f, e, h1, h2, h3, h4, k _ q⟩
/-! ### lemmas for the readings -/
theorem dNs_len (ns : List Nat) : (dNs ns).length = ns.length := List.length_map _
theorem dNs_get {ns : List Nat} {i : Nat} {d : PyData} (h : (dNs ns)[i]? = some d) : ∃ n, ns[i]? = some n ∧ d = .int (n : Int) := by
  unfold dNs at h
  rw [List.getElem?_map] at h
  cases e : ns[i]? with
  | none => rw [e] at h; cases h
  | some n => rw [e] at h; exact ⟨n, rfl, (Option.some.inj h).symm⟩
theorem dI_get {ns : List Int} {i : Nat} {d : PyData} (h : (dI ns)[i]? = some d) : ∃ n, ns[i]? = some n ∧ d = .int n := by
  unfold dI at h
  rw [List.getElem?_map] at h
  cases e : ns[i]? with
  | none => rw [e] at h; cases h
  | some n => rw [e] at h; exact ⟨n, rfl, (Option.some.inj h).symm⟩
theorem dI_len (ns : List Int) : (dI ns).length = ns.length := List.length_map _
theorem c_at {cs : List Cost} {n : Nat} (h : n < cs.length) : cs[n]? = some (cAt cs n) := by
  unfold cAt
  rw [List.getD_eq_getElem?_getD, List.getElem?_eq_getElem h]
  rfl
theorem f_at {fs : List Int} {n : Nat} (h : n < fs.length) : fs[n]? = some (fAt fs n) := by
  unfold fAt
  rw [List.getD_eq_getElem?_getD, List.getElem?_eq_getElem h]
  rfl
theorem cb_at {cs : List Cost} {n : Nat} (b : CB cs) (h : n < cs.length) : (1 ≤ (cAt cs n).1 ∧ (cAt cs n).1 ≤ 1000) ∧ 1 ≤ (cAt cs n).2.1 ∧ (cAt cs n).2.1 ≤ 60000 := b _ (List.mem_of_getElem? (c_at h))
theorem matC {cs : List Cost} {n : Nat} {F : PyData → Prop} (h : n < cs.length) (q : F (dC (cAt cs n))) : (match atI (cs.map dC) (n : Int) with
    | some d => F d
    | none => False) := mat_map (c_at h) q
theorem matF {fs : List Int} {n : Nat} {F : PyData → Prop} (h : n < fs.length) (q : F (.int (fAt fs n))) : (match atI (dI fs) (n : Int) with
    | some d => F d
    | none => False) := mat_map (f := PyData.int) (f_at h) q
theorem cst_len {ps : PS} {pins : Rows} (h : pins.length = ps.length) : (cst ps pins).length = ps.length := by
  unfold cst
  rw [List.length_map, List.length_zip, h, Nat.min_self]
theorem fur_len {rows pins : Rows} (h : rows.length = pins.length) : (fur rows pins).length = pins.length := by
  unfold fur
  rw [List.length_map, List.length_zip, h, Nat.min_self]
theorem cst_cb {ps : PS} {pins : Rows} (sz : SzOk ps) : CB (cst ps pins) := fun c hc => by
  unfold cst at hc
  obtain ⟨z, hz, rfl⟩ := List.mem_map.mp hc
  have r := sz.rg z.1 (List.of_mem_zip hz).1
  have h1 : 1 * 1 ≤ z.1.1 * z.1.2 := Int.mul_le_mul r.1.1 r.2.1 (by decide) (by omega)
  have h2 : z.1.1 * z.1.2 ≤ 1000 * 60 := Int.mul_le_mul r.1.2 r.2.2 (by omega) (by decide)
  exact ⟨⟨r.1.1, r.1.2⟩, by show 1 ≤ z.1.1 * z.1.2; omega, by show z.1.1 * z.1.2 ≤ 60000; omega⟩
theorem grow_mem {fs : List Int} {n : Nat} (h : n ∈ grow fs) : n < fs.length ∧ 0 < fAt fs n := by
  obtain ⟨h1, h2⟩ := List.mem_filter.mp h
  exact ⟨List.mem_range.mp h1, of_decide_eq_true h2⟩
theorem srt_perm (cs : List Cost) (fs : List Int) : (srt cs fs).Perm (grow fs) := List.mergeSort_perm _ _
theorem srt_mem {cs : List Cost} {fs : List Int} {n : Nat} (h : n ∈ srt cs fs) : n < fs.length ∧ 0 < fAt fs n := grow_mem ((srt_perm cs fs).mem_iff.mp h)
theorem grow_len (fs : List Int) : (grow fs).length ≤ fs.length := by
  unfold grow
  have := List.length_filter_le (fun n => decide (0 < fAt fs n)) (List.range fs.length)
  rw [List.length_range] at this
  exact this
theorem srt_len (cs : List Cost) (fs : List Int) : (srt cs fs).length ≤ fs.length := by
  rw [(srt_perm cs fs).length_eq]
  exact grow_len fs
theorem take_next {α : Type} {xs : List α} {i : Nat} {x : α} (h : xs[i]? = some x) : xs.take i ++ [x] = xs.take (i + 1) := by
  rw [List.take_add_one, h]
  rfl
theorem take_lt {α : Type} {xs : List α} {n : Nat} (h : xs.length ≤ n) (i : Nat) : (xs.take i).length ≤ n := by
  rw [List.length_take]
  omega
theorem zip_back {α β : Type} {f : α → PyData} {g : β → PyData} {xs : List α} {ys : List β} {i : Nat} {d : PyData} (h : (zipD (xs.map f) (ys.map g))[i]? = some d) : ∃ x y, xs[i]? = some x ∧ ys[i]? = some y ∧ (xs.zip ys)[i]? = some (x, y) ∧ d = .tuple [f x, g y] := by
  unfold zipD at h
  rw [List.getElem?_map] at h
  cases e : ((xs.map f).zip (ys.map g))[i]? with
  | none => rw [e] at h; cases h
  | some p =>
    rw [e] at h
    obtain ⟨h1, h2⟩ := List.getElem?_zip_eq_some.mp e
    rw [List.getElem?_map] at h1 h2
    cases e1 : xs[i]? with
    | none => rw [e1] at h1; cases h1
    | some x =>
      cases e2 : ys[i]? with
      | none => rw [e2] at h2; cases h2
      | some y =>
        rw [e1] at h1
        rw [e2] at h2
        refine ⟨x, y, rfl, rfl, List.getElem?_zip_eq_some.mpr ⟨e1, e2⟩, ?_⟩
        rw [← Option.some.inj h]
        show PyData.tuple [p.1, p.2] = _
        rw [← Option.some.inj h1, ← Option.some.inj h2]
theorem enum_back {α : Type} {f : α → PyData} {xs : List α} {i : Nat} {d : PyData} (h : (enumD (xs.map f))[i]? = some d) : ∃ x, xs[i]? = some x ∧ d = .tuple [.int (i : Int), f x] := by
  have lt := (List.getElem?_eq_some_iff.mp h).1
  rw [enumD_len, List.length_map] at lt
  have e : (xs.map f)[i]? = some (f xs[i]) := by
    rw [List.getElem?_map, List.getElem?_eq_getElem lt]
    rfl
  rw [enumD_get e] at h
  exact ⟨xs[i], List.getElem?_eq_getElem lt, (Option.some.inj h).symm⟩
theorem rng_back {lo : Int} {n i : Nat} {d : PyData} (h : (rngD lo n 1)[i]? = some d) : i < n ∧ d = .int (lo + (i : Int)) := by
  have lt := (List.getElem?_eq_some_iff.mp h).1
  rw [rngD_len] at lt
  rw [rngD_get lt] at h
  refine ⟨lt, ?_⟩
  rw [← Option.some.inj h, Int.mul_one]
theorem zipD_len {ds es : List PyData} (h : ds.length = es.length) : (zipD ds es).length = ds.length := by
  unfold zipD
  rw [List.length_map, List.length_zip, h, Nat.min_self]
theorem ints_on {ns : List Int} {Q : List Int → Prop} (q : Q ns) : onInts (.own (dI ns)) Q := by
  unfold onInts
  show (match intsOf (dI ns) with
    | some ns => Q ns
    | none => False)
  unfold dI
  rw [intsOf_map]
  exact q
theorem ints_onS {x : DV} {ns : List Int} {Q : List Int → Prop} (e : seqOf x = some (dI ns)) (q : Q ns) : onInts x Q := by
  unfold onInts
  rw [e]
  show (match intsOf (dI ns) with
    | some ns => Q ns
    | none => False)
  unfold dI
  rw [intsOf_map]
  exact q
theorem grow_next (fs : List Int) (i : Nat) (h : i < fs.length) : (List.range (i + 1)).filter (fun n => decide (0 < fAt fs n)) = (List.range i).filter (fun n => decide (0 < fAt fs n)) ++ (if 0 < fAt fs i then [i] else []) := by
  rw [List.range_succ, List.filter_append]
  congr 1
  by_cases p : 0 < fAt fs i
  · simp [p]
  · simp [p]
theorem cutD_to {xs : List PyData} {b : Int} (h0 : 0 ≤ b) (h : b ≤ xs.length) : DL.cutD xs none (some b) = xs.take b.toNat := by
  unfold DL.cutD
  have e1 : HT.sIx xs.length 0 none = 0 := rfl
  have e2 : HT.sIx xs.length xs.length (some b) = b.toNat := by
    show (if b < 0 then (b + (xs.length : Int)).toNat else min b.toNat xs.length) = b.toNat
    rw [if_neg (by omega)]
    omega
  rw [e1, e2]
  rfl
theorem cutD_from {xs : List PyData} {b : Int} (h0 : 0 ≤ b) (h : b ≤ xs.length) : DL.cutD xs (some b) none = xs.drop b.toNat := by
  unfold DL.cutD
  have e1 : HT.sIx xs.length 0 (some b) = b.toNat := by
    show (if b < 0 then (b + (xs.length : Int)).toNat else min b.toNat xs.length) = b.toNat
    rw [if_neg (by omega)]
    omega
  have e2 : HT.sIx xs.length xs.length none = xs.length := rfl
  rw [e1, e2, List.take_of_length_le (by rw [List.length_drop]; omega)]
theorem dNs_toI (ns : List Nat) : dNs ns = dI (toI ns) := by
  unfold dNs dI toI
  rw [List.map_map]
  rfl
theorem dNs_take (ns : List Nat) (k : Nat) : (dNs ns).take k = dNs (ns.take k) := by
  unfold dNs
  rw [List.map_take]
theorem min_if (i j : Int) : (if j < i then j else i) = min i j := by
  rw [Int.min_def]
  split <;> split <;> omega
theorem max_if (i j : Int) : (if j > i then j else i) = max i j := by
  rw [Int.max_def]
  split <;> split <;> omega
theorem set_cut {fs : List Int} {n : Nat} (h : n < fs.length) : DL.cutD (dI fs) none (some (n : Int)) ++ [.int 0] ++ DL.cutD (dI fs) (some ((n : Int) + 1)) none = dI (fs.set n 0) := by
  rw [cutD_to (by omega) (by rw [dI_len]; omega), cutD_from (by omega) (by rw [dI_len]; omega), List.set_eq_take_append_cons_drop, if_pos h]
  have e1 : ((n : Int)).toNat = n := Int.toNat_natCast n
  have e2 : ((n : Int) + 1).toNat = n + 1 := by omega
  rw [e1, e2]
  unfold dI
  rw [List.map_append, List.map_cons, List.map_take, List.map_drop, List.append_assoc]
  rfl
theorem drop_at {α : Type} {xs : List α} {i : Nat} {x : α} (h : xs[i]? = some x) : xs.drop i = x :: xs.drop (i + 1) := by
  obtain ⟨lt, e⟩ := List.getElem?_eq_some_iff.mp h
  rw [List.drop_eq_getElem_cons lt, e]
theorem dNs_rev (ns : List Nat) : (dNs ns).reverse = dNs ns.reverse := by
  unfold dNs
  rw [List.map_reverse]
theorem plain_dNs (ns : List Nat) : plainL (dNs ns) = true := by
  induction ns with
  | nil => rfl
  | cons n ns ih => exact ih
theorem lay_dNs (ns : List Nat) : PyData.canLayAll0 (dNs ns) = true ∧ PyData.depthAll (dNs ns) ≤ 1 := by
  induction ns with
  | nil => exact ⟨by simp [dNs, PyData.canLayAll0], by simp [dNs, PyData.depthAll]⟩
  | cons n ns ih =>
    unfold dNs at ih ⊢
    rw [List.map_cons]
    simp only [PyData.canLayAll0, PyData.depthAll, PyData.depth, PyData.canLay0, ih.1]
    exact ⟨rfl, by have := ih.2; omega⟩
theorem shaped_dNs (ns : List Nat) : SeqAt.shaped (.list (dNs ns)) = true := by
  obtain ⟨h1, h2⟩ := lay_dNs ns
  have e : PyData.depth (.list (dNs ns)) ≤ 64 := by simp only [PyData.depth]; omega
  have e1 : PyData.canLay0 (.list (dNs ns)) = true := by simp only [PyData.canLay0]; exact h1
  show (PyData.canLay0 _ && decide (PyData.depth _ ≤ 64)) = true
  rw [e1, decide_eq_true e]
  rfl
theorem flat_dNs (ns : List Nat) : (dNs ns).all flatD = true := by
  induction ns with
  | nil => rfl
  | cons n ns ih => exact ih
theorem any_dNs (k : Int) (h : 0 ≤ k) : ∀ ns : List Nat, ((dNs ns).any fun z => PyData.eqv z (.int k)) = decide (k.toNat ∈ ns)
  | [] => rfl
  | n :: ns => by
    have ih := any_dNs k h ns
    unfold dNs at ih ⊢
    rw [List.map_cons, List.any_cons, ih]
    by_cases e : (n : Int) = k
    · subst e
      simp [PyData.eqv]
    · have e2 : k.toNat ≠ n := fun z => e (by omega)
      simp [PyData.eqv, e, e2]
/-! ### valid tables and pins; what check_limit tells -/
def hcB (ns ms : List Int) : Bool := decide (ms.length ≤ ns.length) && (((ns.drop (ns.length - ms.length)).zip ms).map fun p => decide (p.2 ≤ p.1)).all id
def hpB (r1 r2 : Rows) : Bool := ((r1.zip r2).map fun p => hcB p.1 p.2).all id
/-- the pins that a call is given, as rows -/
def PinD (ps : PS) (L : Int) (pn : PyData) (pr : Rows) : Prop := TabOk ps L pr ∧ ((pn = .none ∧ pr = List.replicate ps.length []) ∨ pn = dRows pr)
structure Ask (ps : PS) (L : Int) (rows : Rows) (pn : PyData) (pr : Rows) : Prop where
  sz : SzOk ps
  l0 : 0 ≤ L
  tab : TabOk ps L rows
  pin : PinD ps L pn pr
  has : hpB rows pr = true
def tdPinsOf : Sig := fun xs Q _ => ∃ (ps : PS) (L : Int) (rows pr : Rows) (pn : PyData), xs = [.slab ps L, .d (dRows rows), .d pn] ∧ Ask ps L rows pn pr ∧ Q (.d (dRows pr))
def tdBT : Sig := fun xs Q _ => ∃ (ps : PS) (L : Int) (rows : Rows), xs = [.slab ps L, .d (dRows rows)] ∧ SzOk ps ∧ rows.length = ps.length ∧ Q (.d (.int (lv ps rows)))
def tdPT : Sig := fun xs Q _ => ∃ rows : Rows, xs = [.d (dRows rows)] ∧ rows.length ≤ 1000 ∧ Q (.d (.int (pgs rows : Int)))
theorem mf_po : MonoF tdPinsOf := fun xs Q Q' Z k ⟨a, b, c, d, e, h, h1, q⟩ => ⟨a, b, c, d, e, h, h1, k _ q⟩
theorem mf_bt : MonoF tdBT := fun xs Q Q' Z k ⟨a, b, c, h, h1, h2, q⟩ => ⟨a, b, c, h, h1, h2, k _ q⟩
theorem mf_pt : MonoF tdPT := fun xs Q Q' Z k ⟨a, h, h1, q⟩ => ⟨a, h, h1, k _ q⟩
/-- the first of the answer's items that is no class with further pages, or stands before -/
def badN (fs : List Int) (seen : List Nat) : List PyData → Option Nat
  | [] => none
  | .int i :: r => if 0 ≤ i ∧ i.toNat ∈ grow fs ∧ i.toNat ∉ seen then (badN fs (seen ++ [i.toNat]) r).map (· + 1) else some 0
  | _ :: _ => some 0
def natsOf (ds : List PyData) : List Nat := ds.map fun d => match d with
  | .int i => i.toNat
  | _ => 0
def tdCN (CN : Addr) : Sig := fun xs Q Z => ∃ (fs : List Int) (ds : List PyData), xs = [.d (dFs fs), .d (.tuple ds)] ∧ fs.length ≤ 1000 ∧ ds.length ≤ 1000 ∧ (∀ i, badN fs [] ds = some i → Z CN "index" (.d (.int (i : Int)))) ∧ (badN fs [] ds = none → Q (.d .none))
def isLA : PyData → Bool
  | .tuple [.int _, .tuple _] => true
  | _ => false
def tdILA : Sig := fun xs Q _ => ∃ d : PyData, xs = [.d d] ∧ (∀ ds, d = .tuple ds → ds.length ≤ 100000) ∧ Q (.d (.bool (isLA d)))
/-- the index that check_limit raises, or none -/
def clD (cs : List Cost) (fs : List Int) (held : Int) (d : PyData) : Option Int := match d with
  | .tuple [.int lim, .tuple ds] => match badN fs [] ds with
    | some i => some (i : Int)
    | none => if lim < (leastS cs fs held).1 then some (ds.length : Int) else
        if (if ds = [] then held else lastB cs fs (natsOf ds)) < lim then some ((ds.length : Int) + 1) else none
  | _ => some (-1)
abbrev ML : Int := 1000000
def tdLL : Sig := fun xs Q _ => ∃ (ps : PS) (rows pr : Rows) (pn : PyData), xs = [.d (.list (ps.map dPair)), .d (dRows rows), .d pn] ∧ Ask ps ML rows pn pr ∧ Q (.d (dLim (leastS (cst ps pr) (fur rows pr) (lv ps rows))))
def tdCL (CN : Addr) : Sig := fun xs Q Z => ∃ (ps : PS) (rows pr : Rows) (pn d : PyData), xs = [.d (.list (ps.map dPair)), .d (dRows rows), .d d, .d pn] ∧ Ask ps ML rows pn pr ∧ (∀ ds, d = .tuple ds → ds.length ≤ 1000 ∧ ∀ es, .tuple es ∈ ds → es.length ≤ 1000) ∧
  (∀ i, clD (cst ps pr) (fur rows pr) (lv ps rows) d = some i → Z CN "index" (.d (.int i))) ∧ (clD (cst ps pr) (fur rows pr) (lv ps rows) d = none → Q (.d .none))
def mbOne (ps : PS) (L : Int) (rows pr : Rows) (i : Nat) : PyData := match mostF L (cst ps pr) (fur rows pr) i (60 - (pgs rows : Int) + fAt (fur rows pr) i) with
  | none => .none
  | some k => .int (((pr.getD i []).length : Int) + k)
def mbRow (ps : PS) (L : Int) (rows pr : Rows) : List PyData := (List.range pr.length).map (mbOne ps L rows pr)
def tdMB : Sig := fun xs Q _ => ∃ (ps : PS) (L : Int) (rows pr : Rows) (pn : PyData), xs = [.slab ps L, .d (dRows rows), .d pn] ∧ Ask ps L rows pn pr ∧ Q (.own (mbRow ps L rows pr))
theorem mf_cn {CN : Addr} : MonoF (tdCN CN) := fun xs Q Q' Z k ⟨a, b, h, h1, h2, h3, q⟩ => ⟨a, b, h, h1, h2, h3, fun e => k _ (q e)⟩
theorem mf_ila : MonoF tdILA := fun xs Q Q' Z k ⟨a, h, h1, q⟩ => ⟨a, h, h1, k _ q⟩
theorem mf_ll : MonoF tdLL := fun xs Q Q' Z k ⟨a, b, c, d, h, h1, q⟩ => ⟨a, b, c, d, h, h1, k _ q⟩
theorem mf_cl {CN : Addr} : MonoF (tdCL CN) := fun xs Q Q' Z k ⟨a, b, c, d, e, h, h1, h2, h3, q⟩ => ⟨a, b, c, d, e, h, h1, h2, h3, fun z => k _ (q z)⟩
theorem mf_mb : MonoF tdMB := fun xs Q Q' Z k ⟨a, b, c, d, e, h, h1, q⟩ => ⟨a, b, c, d, e, h, h1, k _ q⟩
theorem Ask.len {ps : PS} {L : Int} {rows pr : Rows} {pn : PyData} (a : Ask ps L rows pn pr) : rows.length = pr.length ∧ pr.length = ps.length := ⟨by rw [a.tab.len, a.pin.1.len], a.pin.1.len⟩
theorem isLA_form {d : PyData} (h : isLA d = true) : ∃ lim ds, d = .tuple [.int lim, .tuple ds] := by
  unfold isLA at h
  split at h
  · exact ⟨_, _, rfl⟩
  · cases h
theorem clD_bad {cs : List Cost} {fs : List Int} {held : Int} {d : PyData} (h : isLA d = false) : clD cs fs held d = some (-1) := by
  unfold clD
  split
  · cases h
  · rfl
theorem badN_none {fs : List Int} : ∀ {ds : List PyData} {seen : List Nat}, badN fs seen ds = none → ds = dNs (natsOf ds) ∧ (∀ n ∈ natsOf ds, n ∈ grow fs ∧ n ∉ seen) ∧ (natsOf ds).Nodup
  | [], _, _ => ⟨rfl, (fun _ h => nomatch h), List.nodup_nil⟩
  | d :: r, seen, h => by
    cases d with
    | int i =>
      have h : (if 0 ≤ i ∧ i.toNat ∈ grow fs ∧ i.toNat ∉ seen then (badN fs (seen ++ [i.toNat]) r).map (· + 1) else some 0) = none := h
      split at h
      · rename_i c
        cases e : badN fs (seen ++ [i.toNat]) r with
        | some k => rw [e] at h; cases h
        | none =>
          obtain ⟨h1, h2, h3⟩ := badN_none e
          refine ⟨?_, ?_, ?_⟩
          · show _ = PyData.int (i.toNat : Int) :: dNs (natsOf r)
            rw [← h1, Int.toNat_of_nonneg c.1]
          · intro n hn
            rcases List.mem_cons.mp hn with rfl | hn
            · exact ⟨c.2.1, c.2.2⟩
            · exact ⟨(h2 n hn).1, fun z => (h2 n hn).2 (List.mem_append_left _ z)⟩
          · exact List.nodup_cons.mpr ⟨fun z => (h2 _ z).2 (List.mem_append_right _ (List.mem_singleton.mpr rfl)), h3⟩
      · cases h
    | _ => cases h
end MR
set_option Elab.async false
set_option linter.all false
set_option maxRecDepth 100000
set_option maxHeartbeats 4000000
namespace K20
open PySem PySem.Spec PyProof.Rows L2 XV SL DL MR LamX
local macro_rules | `(tactic| walk_at "pl") => `(tactic| repeat first | refine ⟨Nat.le_of_ble_eq_true rfl, ?_⟩ | refine ⟨rfl, ?_⟩)
/-- the built-in names of the limits -/
structure BL (mg : Str → Option Value) : Prop where
  b_range : mg "range" = none
  b_zip : mg "zip" = none
  b_min : mg "min" = none
  b_max : mg "max" = none
  b_reversed : mg "reversed" = none
  b_sorted : mg "sorted" = none
section
variable {P : Program} {w : World} {K : PySem.W.Frag} {mg : Str → Option Value} {base : Heap} {C : Addr} {TT : List (Addr × Str)}
abbrev s_further_pages : Stmt := topS 26
theorem sc_further_pages : FnScope ["table", "pinned", "counts", "least"] ["table", "pinned"] (defScope s_further_pages) := ⟨rfl, rfl, rfl, by decide +kernel, rfl, by decide +kernel, by decide +kernel⟩
theorem ok_further_pages {f : Addr} {fd : FuncData} (F : Fun K "further_pages" "further_pages" s_further_pages f fd) (B : Bt mg) (BL : BL mg) :
    FnOk P w K mg base CX0 1 f fd ["table", "pinned"] (spD C 2 tdFur) := by
  refine fn_spec (F.ok sc_further_pages (fun vs H Q E h => spD_len vs H Q E h) (fun cdv A outer s H vs Q E hr h => fn_go (k := 2) h rfl (fun c Z hC hZ => (pds_one (pds_ret (pd_lc (own := [("counts", 2), ("least", 3)]) (p := (.tup [(.nm 2), (.nm 3)])) (by rfl) sc_further_pages.nd (pdi_zipTT (by rfl) BL.b_zip (pda_cons (pdv (pv 0)) (pda_cons (pdv (pv 1)) pda_nil))) (blkOk_by (own := [("counts", 2), ("least", 3)]) (N := ["table", "pinned", "counts", "least"]) (sc := defScope s_further_pages) (by decide +kernel)) (by rfl) (fun _ _ _ _ _ => (pg_tup rfl (pgs_cons (pg_name (i := 2) sc_further_pages.nd rfl (Or.inl rfl)) (pgs_cons (pg_name (i := 3) sc_further_pages.nd rfl (Or.inl rfl)) pgs_nil)))) (fun _ _ _ _ _ => pdts_nil) (fun _ _ _ _ _ => (pd_op os_sub (pd_callB cs_len (by rfl) B.b_len (by decide +kernel) (pda_cons (pdb (pv 2)) pda_nil)) (pd_callB cs_len (by rfl) B.b_len (by decide +kernel) (pda_cons (pdb (pv 3)) pda_nil)))))))))) ?_
  rintro xs Q Z ⟨rows, pins, rfl, hl, h1, q⟩
  refine ⟨by rw [List.length_map, List.length_map]; exact hl, fun i acc r => acc = (dI (fur rows pins)).take i ∧ r = _, ⟨rfl, rfl⟩, ?_, ?_⟩
  · rintro i d acc r hi ⟨rfl, rfl⟩
    obtain ⟨x, y, _, _, hz, rfl⟩ := zip_back hi
    have ho : (dI (fur rows pins))[i]? = some (.int ((x.length : Int) - y.length)) := by
      unfold dI fur
      rw [List.getElem?_map, List.getElem?_map, hz]
      rfl
    refine ⟨_, rfl, ?_⟩
    have b := take_lt (xs := dI (fur rows pins)) (n := 1000) (by rw [dI_len, fur_len hl]; omega) i
    refine ⟨by omega, ?_, rfl⟩
    rw [← take_next ho]
    simp [dInts]
  · rintro acc r ⟨rfl, rfl⟩
    rw [List.take_of_length_le (by rw [zipD_len (by rw [List.length_map, List.length_map]; exact hl), List.length_map, dI_len, fur_len hl]; omega)]
    exact ⟨rfl, q⟩
abbrev s_peak_bytes : Stmt := topS 28
theorem sc_peak_bytes : FnScope ["cost", "further", "first"] ["cost", "further"] (defScope s_peak_bytes) := ⟨rfl, rfl, rfl, by decide +kernel, rfl, by decide +kernel, by decide +kernel⟩
theorem ok_peak_bytes {f : Addr} {fd : FuncData} (F : Fun K "peak_bytes" "peak_bytes" s_peak_bytes f fd) (B : Bt mg) (BL : BL mg) :
    FnOk P w K mg base CX0 1 f fd ["cost", "further"] (spD C 2 tdPeak) := by
  refine fn_spec (F.ok sc_peak_bytes (fun vs H Q E h => spD_len vs H Q E h) (fun cdv A outer s H vs Q E hr h => fn_go (k := 1) h rfl (fun c Z hC hZ => (pds_cons (pds_set (i := 2) sc_peak_bytes.nd rfl (Or.inl rfl) (pd_ix os_ix (pdb (pv 0)) pd_int (fun _ _ => rfl)))
      (pds_one (pds_ret (pd_op os_add (pdb (pv 2)) (pd_op os_mul (pd_ix os_ix (pdb (pv 0)) pd_int (fun _ _ => rfl)) (pd_op os_sub (pdb (pv 1)) pd_int))))))))) ?_
  rintro xs Q Z ⟨c, k, rfl, hb, q⟩
  refine ⟨rfl, .inl ⟨by omega, by omega⟩, ?_⟩
  exact ⟨rfl, q⟩
abbrev s_further_bytes : Stmt := topS 29
theorem sc_further_bytes : FnScope ["costs", "further", "numbers", "number"] ["costs", "further", "numbers"] (defScope s_further_bytes) := ⟨rfl, rfl, rfl, by decide +kernel, rfl, by decide +kernel, by decide +kernel⟩
theorem ok_further_bytes {f : Addr} {fd : FuncData} (F : Fun K "further_bytes" "further_bytes" s_further_bytes f fd) (B : Bt mg) (BL : BL mg) :
    FnOk P w K mg base CX0 1 f fd ["costs", "further", "numbers"] (spD C 3 tdFB) := by
  refine fn_spec (F.ok sc_further_bytes (fun vs H Q E h => spD_len vs H Q E h) (fun cdv A outer s H vs Q E hr h => fn_go (k := 1) h rfl (fun c Z hC hZ => (pds_one (pds_ret (pd_callB (cs_sum rfl) (by rfl) B.b_sum (by decide +kernel) (pda_cons (pd_lc (own := [("number", 3)]) (p := (.nm 3)) (by rfl) sc_further_bytes.nd (pdi_seq (pdv (pv 2))) (blkOk_by (own := [("number", 3)]) (N := ["costs", "further", "numbers", "number"]) (sc := defScope s_further_bytes) (by decide +kernel)) (by rfl) (fun _ _ _ _ _ => (pg_name (i := 3) sc_further_bytes.nd rfl (Or.inl rfl))) (fun _ _ _ _ _ => pdts_nil) (fun _ _ _ _ _ => (pd_op os_mul (pd_ix os_ix (pd_ix os_ix (pdb (pv 0)) (pdv (pv 3)) (fun _ _ => rfl)) pd_int (fun _ _ => rfl)) (pd_ix os_ix (pdb (pv 1)) (pdv (pv 3)) (fun _ _ => rfl))))) pda_nil))))))) ?_
  rintro xs Q Z ⟨cs, fs, x, ns, rfl, hx, hl, cb, hn, q⟩
  rcases hx with rfl | rfl
  all_goals
    refine ⟨fun i acc r => acc = (dI (ns.map (hold cs fs))).take i ∧ r = _, ⟨rfl, rfl⟩, ?_, ?_⟩
    · rintro i d acc r hi ⟨rfl, rfl⟩
      obtain ⟨n, en, rfl⟩ := dNs_get hi
      have hb := hn n (List.mem_of_getElem? en)
      have ho : (dI (ns.map (hold cs fs)))[i]? = some (.int (hold cs fs n)) := by
        unfold dI
        rw [List.getElem?_map, List.getElem?_map, en]
        rfl
      have b := take_lt (xs := dI (ns.map (hold cs fs))) (n := 1000) (by rw [dI_len, List.length_map]; omega) i
      have r1 := cb_at cb hb.1
      refine ⟨_, rfl, matC hb.1 (matF hb.2 ⟨.inl ⟨by omega, by omega⟩, by omega, ?_, rfl⟩)⟩
      rw [← take_next ho]
      rfl
    · rintro acc r ⟨rfl, rfl⟩
      rw [List.take_of_length_le (by rw [dI_len, List.length_map, dNs_len]; omega)]
      exact ints_on ⟨rfl, q⟩
abbrev s_growing : Stmt := topS 31
theorem sc_growing : FnScope ["further", "number", "many"] ["further"] (defScope s_growing) := ⟨rfl, rfl, rfl, by decide +kernel, rfl, by decide +kernel, by decide +kernel⟩
theorem ok_growing {f : Addr} {fd : FuncData} (F : Fun K "growing" "growing" s_growing f fd) (B : Bt mg) (BL : BL mg) :
    FnOk P w K mg base CX0 1 f fd ["further"] (spD C 1 tdGrow) := by
  refine fn_spec (F.ok sc_growing (fun vs H Q E h => spD_len vs H Q E h) (fun cdv A outer s H vs Q E hr h => fn_go (k := 2) h rfl (fun c Z hC hZ => (pds_one (pds_ret (pd_lc (own := [("number", 1), ("many", 2)]) (p := (.tup [(.nm 1), (.nm 2)])) (by rfl) sc_growing.nd (pdi_enum (by rfl) B.b_enumerate (pda_cons (pdv (pv 0)) pda_nil)) (blkOk_by (own := [("number", 1), ("many", 2)]) (N := ["further", "number", "many"]) (sc := defScope s_growing) (by decide +kernel)) (by rfl) (fun _ _ _ _ _ => (pg_tup rfl (pgs_cons (pg_name (i := 1) sc_growing.nd rfl (Or.inl rfl)) (pgs_cons (pg_name (i := 2) sc_growing.nd rfl (Or.inl rfl)) pgs_nil)))) (fun _ _ _ _ _ => (pdts_one (pdt_cmp os_gt (pdb (pv 2)) pd_int (nomark _)))) (fun _ _ _ _ _ => (pdv (pv 1))))))))) ?_
  rintro xs Q Z ⟨fs, rfl, hl, q⟩
  refine ⟨fun i acc r => acc = dNs ((List.range i).filter fun n => decide (0 < fAt fs n)) ∧ r = _, ⟨rfl, rfl⟩, ?_, ?_⟩
  · rintro i d acc r hi ⟨rfl, rfl⟩
    obtain ⟨k, ek, rfl⟩ := enum_back (f := PyData.int) hi
    have lt := (List.getElem?_eq_some_iff.mp ek).1
    have ef : fAt fs i = k := by
      have := f_at lt
      rw [ek] at this
      exact (Option.some.inj this).symm
    refine ⟨_, rfl, ?_⟩
    have gn := grow_next fs i lt
    rw [ef] at gn
    by_cases hk : 0 < k
    · rw [if_pos hk] at gn
      refine ifA (b := decide (0 < k)) (decide_eq_true hk) ⟨?_, ?_, rfl⟩
      · rw [dNs_len]
        have := List.length_filter_le (fun n => decide (0 < fAt fs n)) (List.range i)
        rw [List.length_range] at this
        omega
      · show _ ++ [PyData.int (i : Int)] = _
        rw [gn]
        unfold dNs
        rw [List.map_append]
        rfl
    · rw [if_neg hk, List.append_nil] at gn
      refine ifB (b := decide (0 < k)) (decide_eq_false hk) ⟨?_, rfl⟩
      rw [gn]
  · rintro acc r ⟨rfl, rfl⟩
    rw [enumD_len, dI_len]
    exact ⟨rfl, q⟩
abbrev s_given_back : Stmt := topS 33
theorem sc_given_back : FnScope ["costs", "further", "number"] ["costs", "further", "number"] (defScope s_given_back) := ⟨rfl, rfl, rfl, by decide +kernel, rfl, by decide +kernel, by decide +kernel⟩
theorem ok_given_back {f : Addr} {fd : FuncData} (F : Fun K "given_back" "given_back" s_given_back f fd) (B : Bt mg) (BL : BL mg)
    {f_peak_bytes : Addr} {d_peak_bytes : FuncData} (G_peak_bytes : FnOk P w K mg base CX0 1 f_peak_bytes d_peak_bytes ["cost", "further"] (spD C 2 tdPeak)) (m_peak_bytes : mg "peak_bytes" = some (.ref f_peak_bytes)) (k_peak_bytes : PySem.W.keepIn K (.ref f_peak_bytes) = true) (b_peak_bytes : Binds K d_peak_bytes ["cost", "further"] [])
    {f_further_bytes : Addr} {d_further_bytes : FuncData} (G_further_bytes : FnOk P w K mg base CX0 1 f_further_bytes d_further_bytes ["costs", "further", "numbers"] (spD C 3 tdFB)) (m_further_bytes : mg "further_bytes" = some (.ref f_further_bytes)) (k_further_bytes : PySem.W.keepIn K (.ref f_further_bytes) = true) (b_further_bytes : Binds K d_further_bytes ["costs", "further", "numbers"] []) :
    FnOk P w K mg base CX0 2 f fd ["costs", "further", "number"] (spD C 3 tdGB) := by
  refine fn_spec (F.ok sc_given_back (fun vs H Q E h => spD_len vs H Q E h) (fun cdv A outer s H vs Q E hr h => fn_go (k := 0) h rfl (fun c Z hC hZ => (pds_one (pds_ret (pd_op os_sub (pd_callN G_peak_bytes mf_peak hC (hr.mono (by decide)) rfl m_peak_bytes k_peak_bytes b_peak_bytes pass0 (pda_cons (pd_ix os_ix (pdb (pv 0)) (pdv (pv 2)) (fun _ _ => rfl)) (pda_cons (pd_ix os_ix (pdb (pv 1)) (pdv (pv 2)) (fun _ _ => rfl)) pda_nil))) (pd_callN G_further_bytes mf_fb hC (hr.mono (by decide)) rfl m_further_bytes k_further_bytes b_further_bytes pass0 (pda_cons (pdv (pv 0)) (pda_cons (pdv (pv 1)) (pda_cons (pd_lst (pda_cons (pdv (pv 2)) pda_nil)) pda_nil)))))))))) ?_
  rintro xs Q Z ⟨cs, fs, n, rfl, cb, h1, h2, q⟩
  have r1 := cb_at cb h1
  refine matC h1 (matF h2 ⟨cAt cs n, fAt fs n, rfl, ⟨by omega, by omega⟩, rfl, ?_⟩)
  refine ⟨Nat.le_of_ble_eq_true rfl, cs, fs, _, [n], rfl, .inl rfl, Nat.le_of_ble_eq_true rfl, cb, fun m hm => ?_, rfl, ?_⟩
  · rw [List.mem_singleton.mp hm]
    exact ⟨h1, h2⟩
  · have e : fb cs fs [n] = hold cs fs n := by simp [fb]
    rw [e]
    exact ⟨rfl, q⟩
abbrev s_sorted_numbers : Stmt := topS 32
theorem sc_sorted_numbers : FnScope ["costs", "further", "number"] ["costs", "further"] (defScope s_sorted_numbers) := ⟨rfl, rfl, rfl, by decide +kernel, rfl, by decide +kernel, by decide +kernel⟩
theorem ok_sorted_numbers {f cc PT : Addr} {oc : Value} {od an : Option Addr} {kV doc pm ct : Value} {osl : Array (Option Value)} (lk : K.lookup f = some ⟨oc, od, .func (PySem.W.fnOf "sorted_numbers" "sorted_numbers" (defArgs s_sorted_numbers) (defBody s_sorted_numbers) (defScope s_sorted_numbers) .none kV doc pm an (.ref cc) ct), osl⟩)
    (hcd : PySem.W.codeIn K (.ref cc) "sorted_numbers" = true) (TB : LamX.TabB base mg cc PT) (hmT : (PT, (("sorted_numbers" : Str) ++ (".<locals>." : Str)) ++ ("<lambda>" : Str)) ∈ TT) (huT : ∀ p ∈ TT, p.1 = PT → p.2 = (("sorted_numbers" : Str) ++ (".<locals>." : Str)) ++ ("<lambda>" : Str)) (BL : BL mg)
    {f_growing : Addr} {d_growing : FuncData} (G_growing : FnOk P w K mg base CX0 1 f_growing d_growing ["further"] (spD C 1 tdGrow)) (m_growing : mg "growing" = some (.ref f_growing)) (k_growing : PySem.W.keepIn K (.ref f_growing) = true) (b_growing : Binds K d_growing ["further"] [])
    {f_given_back : Addr} {d_given_back : FuncData} (G_given_back : FnOk P w K mg base CX0 2 f_given_back d_given_back ["costs", "further", "number"] (spD C 3 tdGB)) (m_given_back : mg "given_back" = some (.ref f_given_back)) (k_given_back : PySem.W.keepIn K (.ref f_given_back) = true) (b_given_back : Binds K d_given_back ["costs", "further", "number"] []) :
    FnOk P w K mg base CX0 6 f (PySem.W.fnOf "sorted_numbers" "sorted_numbers" (defArgs s_sorted_numbers) (defBody s_sorted_numbers) (defScope s_sorted_numbers) .none kV doc pm an (.ref cc) ct) ["costs", "further"] (spDT C TT 2 tdSrt) := by
  refine fn_specT (fn_of lk hcd sc_sorted_numbers (fun vs H Q E h => spDT_len vs H Q E h) (fun A outer s H vs Q E hr h => fn_goT (k := 1) h rfl (fun c Z hC hL hZ => (pds_one (pds_ret (pd_sortedK (k := 2) (j := 2) (x := "number") hC hL rfl BL.b_sorted (pd_callN G_growing mf_grow hC (hr.mono (by decide)) rfl m_growing k_growing b_growing pass0 (pda_cons (pdv (pv 1)) pda_nil)) TB rfl hmT huT (hr.mono (by decide)) (XK.lamS1_by (sc := defScope s_sorted_numbers) (by decide +kernel)) sc_sorted_numbers.nd rfl rfl (fun _ _ _ _ _ _ => rfl) (fun A2 outer2 s2 H2 f2 c2 hr2 => pe_tlam fun c1 Z1 hC2 hZ2 => (pd_neg (pd_callN G_given_back mf_gb hC2 (hr2.mono (by decide)) rfl m_given_back k_given_back b_given_back pass0 (pda_cons (pdv (pv 0)) (pda_cons (pdv (pv 1)) (pda_cons (pdv (pv 2)) pda_nil)))))))))))) ?_
  rintro xs Q Z ⟨cs, fs, rfl, cb, hl, h1, q⟩
  refine ⟨fs, rfl, h1, rfl, ?_⟩
  refine ⟨(grow fs).map fun (n : Nat) => (n : Int), fun i => -gb cs fs i.toNat, ?_, fun i hi => ?_, ?_⟩
  · show some (dNs (grow fs)) = _
    unfold dNs
    rw [List.map_map]
    rfl
  · obtain ⟨n, hn, rfl⟩ := List.mem_map.mp hi
    have hg := grow_mem hn
    exact ⟨cs, fs, n, rfl, cb, by omega, hg.1, rfl, by simp [DL.isInt]⟩
  · have e : ((grow fs).map fun (n : Nat) => (n : Int)).mergeSort (fun a b => decide (-gb cs fs a.toNat ≤ -gb cs fs b.toNat)) = (srt cs fs).map fun (n : Nat) => (n : Int) := by
      unfold srt
      exact (List.map_mergeSort fun a _ b _ => by simp).symm
    rw [e, List.map_map]
    exact ⟨rfl, q⟩
abbrev s_last_bytes : Stmt := topS 34
theorem sc_last_bytes : FnScope ["costs", "further", "numbers", "held", "number"] ["costs", "further", "numbers"] (defScope s_last_bytes) := ⟨rfl, rfl, rfl, by decide +kernel, rfl, by decide +kernel, by decide +kernel⟩
theorem ok_last_bytes {f : Addr} {fd : FuncData} (F : Fun K "last_bytes" "last_bytes" s_last_bytes f fd) (B : Bt mg) (BL : BL mg)
    {f_further_bytes : Addr} {d_further_bytes : FuncData} (G_further_bytes : FnOk P w K mg base CX0 1 f_further_bytes d_further_bytes ["costs", "further", "numbers"] (spD C 3 tdFB)) (m_further_bytes : mg "further_bytes" = some (.ref f_further_bytes)) (k_further_bytes : PySem.W.keepIn K (.ref f_further_bytes) = true) (b_further_bytes : Binds K d_further_bytes ["costs", "further", "numbers"] [])
    {f_given_back : Addr} {d_given_back : FuncData} (G_given_back : FnOk P w K mg base CX0 2 f_given_back d_given_back ["costs", "further", "number"] (spD C 3 tdGB)) (m_given_back : mg "given_back" = some (.ref f_given_back)) (k_given_back : PySem.W.keepIn K (.ref f_given_back) = true) (b_given_back : Binds K d_given_back ["costs", "further", "number"] []) :
    FnOk P w K mg base CX0 3 f fd ["costs", "further", "numbers"] (spD C 3 tdLast) := by
  refine fn_spec (F.ok sc_last_bytes (fun vs H Q E h => spD_len vs H Q E h) (fun cdv A outer s H vs Q E hr h => fn_go (k := 2) h rfl (fun c Z hC hZ => (pds_cons (pds_set (i := 3) sc_last_bytes.nd rfl (Or.inl rfl) (pd_callN G_further_bytes mf_fb hC (hr.mono (by decide)) rfl m_further_bytes k_further_bytes b_further_bytes pass0 (pda_cons (pdv (pv 0)) (pda_cons (pdv (pv 1)) (pda_cons (pdv (pv 2)) pda_nil)))))
      (pds_one (pds_ret (pd_op os_add (pdv (pv 3)) (pd_callB (cs_minL rfl) (by rfl) BL.b_min (by decide +kernel) (pda_cons (pd_lc (own := [("number", 4)]) (p := (.nm 4)) (by rfl) sc_last_bytes.nd (pdi_seq (pdv (pv 2))) (blkOk_by (own := [("number", 4)]) (N := ["costs", "further", "numbers", "held", "number"]) (sc := defScope s_last_bytes) (by decide +kernel)) (by rfl) (fun _ _ _ _ _ => (pg_name (i := 4) sc_last_bytes.nd rfl (Or.inl rfl))) (fun _ _ _ _ _ => pdts_nil) (fun _ _ _ _ _ => (pd_callN G_given_back mf_gb hC (hr.mono (by decide)) rfl m_given_back k_given_back b_given_back pass0 (pda_cons (pdv (pv 0)) (pda_cons (pdv (pv 1)) (pda_cons (pdv (pv 4)) pda_nil)))))) pda_nil))))))))) ?_
  rintro xs Q Z ⟨cs, fs, x, ns, rfl, hx, ne, hl, cb, hn, q⟩
  rcases hx with rfl | rfl
  all_goals
    refine ⟨cs, fs, _, ns, rfl, by first | exact .inl rfl | exact .inr rfl, hl, cb, hn, rfl, rfl, ?_⟩
    refine ⟨fun i acc r => acc = (dI (ns.map (gb cs fs))).take i ∧ r = _, ⟨rfl, rfl⟩, ?_, ?_⟩
    · rintro i d acc r hi ⟨rfl, rfl⟩
      obtain ⟨n, en, rfl⟩ := dNs_get hi
      have hb := hn n (List.mem_of_getElem? en)
      have ho : (dI (ns.map (gb cs fs)))[i]? = some (.int (gb cs fs n)) := by
        unfold dI
        rw [List.getElem?_map, List.getElem?_map, en]
        rfl
      have b := take_lt (xs := dI (ns.map (gb cs fs))) (n := 1000) (by rw [dI_len, List.length_map]; omega) i
      refine ⟨_, rfl, cs, fs, n, rfl, cb, hb.1, hb.2, rfl, by omega, ?_, rfl⟩
      rw [← take_next ho]
    · rintro acc r ⟨rfl, rfl⟩
      rw [List.take_of_length_le (by rw [dI_len, List.length_map, dNs_len]; omega)]
      refine ⟨ns.map (gb cs fs), rfl, fun e => ne (List.map_eq_nil_iff.mp e), ?_⟩
      exact ⟨rfl, q⟩
abbrev s_least_shown : Stmt := topS 37
theorem sc_least_shown : FnScope ["costs", "further", "held", "limit", "shown", "numbers", "many", "needed"] ["costs", "further", "held"] (defScope s_least_shown) := ⟨rfl, rfl, rfl, by decide +kernel, rfl, by decide +kernel, by decide +kernel⟩
theorem ok_least_shown {f : Addr} {fd : FuncData} (F : Fun K "least_shown" "least_shown" s_least_shown f fd) (B : Bt mg) (BL : BL mg)
    {f_sorted_numbers : Addr} {d_sorted_numbers : FuncData} (G_sorted_numbers : FnOk P w K mg base CX0 6 f_sorted_numbers d_sorted_numbers ["costs", "further"] (spDT C TT 2 tdSrt)) (m_sorted_numbers : mg "sorted_numbers" = some (.ref f_sorted_numbers)) (k_sorted_numbers : PySem.W.keepIn K (.ref f_sorted_numbers) = true) (b_sorted_numbers : Binds K d_sorted_numbers ["costs", "further"] [])
    {f_last_bytes : Addr} {d_last_bytes : FuncData} (G_last_bytes : FnOk P w K mg base CX0 3 f_last_bytes d_last_bytes ["costs", "further", "numbers"] (spD C 3 tdLast)) (m_last_bytes : mg "last_bytes" = some (.ref f_last_bytes)) (k_last_bytes : PySem.W.keepIn K (.ref f_last_bytes) = true) (b_last_bytes : Binds K d_last_bytes ["costs", "further", "numbers"] []) :
    FnOk P w K mg base CX0 7 f fd ["costs", "further", "held"] (spDT C TT 3 tdLS) := by
  refine fn_specT (F.ok sc_least_shown (fun vs H Q E h => spDT_len vs H Q E h) (fun cdv A outer s H vs Q E hr h => fn_goT (k := 5) h rfl (fun c Z hC hL hZ => (pds_cons (pds_par (i := 3) (j := 4) (fun _ h => ps_par rfl sc_least_shown.nd rfl rfl (by decide) rfl rfl h (by rfl)) (by decide) (pda_cons (pdv (pv 2)) (pda_cons (pd_lst pda_nil) pda_nil)))
      (pds_cons (pds_set (i := 5) sc_least_shown.nd rfl (Or.inl rfl) (pd_callTN G_sorted_numbers mf_srt hC hL (hr.mono (by decide)) rfl m_sorted_numbers k_sorted_numbers b_sorted_numbers pass0 (pda_cons (pdv (pv 0)) (pda_cons (pdv (pv 1)) pda_nil))))
      (pds_cons (pds_for (p := (.nm 6)) PassesOwn.never rfl (pdi_range2 (by rfl) BL.b_range (pda_cons pd_int (pda_cons (pd_op os_add (pd_callB cs_len (by rfl) B.b_len (by decide +kernel) (pda_cons (pdb (pv 5)) pda_nil)) pd_int) pda_nil))) (pg_name (i := 6) sc_least_shown.nd rfl (Or.inl rfl))
      (pds_cons (pds_set (i := 7) sc_least_shown.nd rfl (Or.inl rfl) (pd_callN G_last_bytes mf_last hC (hr.mono (by decide)) rfl m_last_bytes k_last_bytes b_last_bytes pass0 (pda_cons (pdv (pv 0)) (pda_cons (pdv (pv 1)) (pda_cons (pd_cut (pdb (pv 5)) pdo_none (pdo_some (pdv (pv 6)))) pda_nil)))))
      (pds_one (pds_if (pdt_cmp os_gt (pdb (pv 7)) (pdb (pv 3)) (nomark _)) (pds_one (pds_par (i := 3) (j := 4) (fun _ h => ps_par rfl sc_least_shown.nd rfl rfl (by decide) rfl rfl h (by rfl)) (by decide) (pda_cons (pdv (pv 7)) (pda_cons (pd_cut (pdb (pv 5)) pdo_none (pdo_some (pdv (pv 6)))) pda_nil)))) pds_nil))))
      (pds_one (pds_ret (pd_tup (pda_cons (pdv (pv 3)) (pda_cons (pd_callTy cs_tuple (by rfl) B.b_tuple (by decide +kernel) (pda_cons (pd_callB cs_sorted (by rfl) B.b_sorted (by decide +kernel) (pda_cons (pdb (pv 4)) pda_nil)) pda_nil)) pda_nil))))))))))) ?_
  rintro xs Q Z ⟨cs, fs, h, rfl, cb, hl, h1, q⟩
  refine ⟨Nat.le_of_ble_eq_true rfl, rfl, rfl, cs, fs, rfl, cb, hl, h1, rfl, rfl, ?_⟩
  have ln := srt_len cs fs
  have lm : ∀ n ∈ srt cs fs, n < cs.length ∧ n < fs.length := fun n hn => by
    have := (srt_mem hn).1
    omega
  have dl := dNs_len (srt cs fs)
  refine ⟨⟨by decide, by decide, by omega, by omega⟩, ?_⟩
  refine ⟨fun i r => ∃ (a : Int × List Nat) (x6 x7 : DV), a = (List.range i).foldl (leastStep cs fs (srt cs fs)) (h, []) ∧ a.2.length ≤ 1000 ∧ r = [.d (dCs cs), .d (dFs fs), .d (.int h), .d (.int a.1), .own (dNs a.2), .own (dNs (srt cs fs)), x6, x7], ⟨(h, []), _, _, rfl, Nat.zero_le _, rfl⟩, ?_, ?_⟩
  · rintro i d r hi ⟨a, x6, x7, ea, la, rfl⟩
    obtain ⟨h3, rfl⟩ := rng_back hi
    have h3 : i < (srt cs fs).length := by
      have e : (((dNs (srt cs fs)).length : Int) + 1 - 1).toNat = (srt cs fs).length := by omega
      rw [← e]
      exact h3
    have ec : cutD (dNs (srt cs fs)) none (some (1 + (i : Int))) = dNs ((srt cs fs).take (i + 1)) := by
      rw [cutD_to (by omega) (by omega), dNs_take]
      congr 2
      omega
    have lt : ((srt cs fs).take (i + 1)).length = i + 1 := by
      rw [List.length_take]
      omega
    have next : leastStep cs fs (srt cs fs) a i = (List.range (i + 1)).foldl (leastStep cs fs (srt cs fs)) (h, []) := by
      rw [List.range_succ, List.foldl_append, ← ea]
      rfl
    refine ⟨_, rfl, ?_⟩
    refine ⟨cs, fs, _, (srt cs fs).take (i + 1), rfl, .inl (by rw [← ec]), (fun e => by rw [e] at lt; cases lt), by omega, cb, fun n hn => lm n (List.mem_of_mem_take hn), rfl, rfl, ?_⟩
    by_cases hc : a.1 < lastB cs fs ((srt cs fs).take (i + 1))
    · refine ifA (b := decide (a.1 < lastB cs fs ((srt cs fs).take (i + 1)))) (decide_eq_true hc) ⟨rfl, rfl, leastStep cs fs (srt cs fs) a i, .d (.int (1 + (i : Int))), .d (.int (lastB cs fs ((srt cs fs).take (i + 1)))), next, ?_, ?_⟩
      · unfold leastStep
        rw [if_pos hc]
        show ((srt cs fs).take (i + 1)).length ≤ 1000
        omega
      · unfold leastStep
        rw [if_pos hc]
        show _ = [_, _, _, _, DV.own (dNs ((srt cs fs).take (i + 1))), _, _, _]
        rw [← ec]
        rfl
    · refine ifB (b := decide (a.1 < lastB cs fs ((srt cs fs).take (i + 1)))) (decide_eq_false hc) ⟨leastStep cs fs (srt cs fs) a i, .d (.int (1 + (i : Int))), .d (.int (lastB cs fs ((srt cs fs).take (i + 1)))), next, ?_, ?_⟩
      · unfold leastStep
        rw [if_neg hc]
        exact la
      · unfold leastStep
        rw [if_neg hc]
        rfl
  · rintro r ⟨a, x6, x7, ea, la, rfl⟩
    have e : a = leastS cs fs h := by
      rw [ea, rngD_len]
      unfold leastS
      congr 2
      omega
    refine ints_onS (x := .bor (dNs a.2)) (ns := toI a.2) (by rw [← dNs_toI]; rfl) ?_
    refine ⟨Nat.le_of_ble_eq_true rfl, rfl, ?_⟩
    rw [e]
    exact q
end
end K20
set_option Elab.async false
set_option linter.all false
set_option maxRecDepth 100000
set_option maxHeartbeats 4000000
namespace K20
open PySem PySem.Spec PyProof.Rows L2 XV SL DL MR LamX
local macro_rules | `(tactic| walk_at "pl") => `(tactic| repeat first | refine ⟨Nat.le_of_ble_eq_true rfl, ?_⟩ | refine ⟨rfl, ?_⟩)
theorem _root_.L2.Room.in128 {k : Nat} {A : Around} (r : Room k A) : A.units + 65 < cLine := by
  have := r.un
  omega
theorem passA {X : Cx} {E : XK} : Passes CX0 X E := fun _ _ _ _ _ _ _ h => h.elim
theorem hcB_eq (ns ms : List Int) : hcB ns ms = MR.hcB ns ms := rfl
theorem hpB_eq (r1 r2 : Rows) : hpB r1 r2 = MR.hpB r1 r2 := rfl
theorem same_moreL {c : DC} {H H' : Hp} (hw : ∀ w, c.W w → c.B0 w = none ∧ IsWell c H w) (s : Same H H') : (∀ b o, H b = some o → ¬ c.W b → H' b = some o) ∧ ∀ w, c.W w → IsWell c H' w :=
  ⟨fun b o z _ => s _ _ z, fun w h => (hw w h).2.keep fun _ _ z _ => s _ _ z⟩
theorem len1L {vs : List V} (h : vs.length = 1) : ∃ u, vs = [u] := by
  match vs, h with
  | [u], _ => exact ⟨u, rfl⟩
theorem len2L {vs : List V} (h : vs.length = 2) : ∃ u v, vs = [u, v] := by
  match vs, h with
  | [u, v], _ => exact ⟨u, v, rfl⟩
theorem len3L {vs : List V} (h : vs.length = 3) : ∃ u v w, vs = [u, v, w] := by
  match vs, h with
  | [u, v, w], _ => exact ⟨u, v, w, rfl⟩
theorem ad_bt {C : Addr} : ∀ vs H Q E, spD C 2 tdBT vs H Q E → spBT C vs H Q E := fun vs H Q E h => by
  obtain ⟨c, xs, Z, hC, h0, hv, hx, hr, hB, mo, hw, hZ, ps, L, rows, rfl, sz, hl, q⟩ := spD_old h
  obtain ⟨hC, _⟩ := hC
  subst hC
  obtain ⟨v1, v2, rfl⟩ := len2L (by rw [hv])
  obtain ⟨p, l, xc, rfl, sl, pr⟩ := hr (v1, .slab ps L) (by simp)
  have ht : Dh c.B0 v2 (dRows rows) := hr (v2, .d (dRows rows)) (by simp)
  obtain ⟨a, ys, rfl, e, rw_⟩ := dh_tab hB ht
  have n6 := sz.n6
  refine ⟨p, l, xc, ps, L, a, ys, rows, rfl, sl.keep hB, PairsAt.keep hB pr, fun q hq => (by have := sz.rg q hq; omega), e, rw_, hl, by omega, fun H' s => ?_⟩
  obtain ⟨a1, b1⟩ := same_moreL hw s
  obtain ⟨B', f, _, _, _⟩ := mo H' a1 b1
  exact q _ H' B' f rfl
theorem rows_lens {H : Hp} : ∀ {xs : List V} {rows : Rows}, RowsAt H xs rows → Paired (LenAt H) xs (rows.map List.length)
  | _, _, .nil => .nil
  | _, _, .cons ⟨c, e, z⟩ r => .cons ⟨c, _, e, z, List.length_map _⟩ (rows_lens r)
theorem ad_pt {C : Addr} : ∀ vs H Q E, spD C 1 tdPT vs H Q E → spPT vs H Q E := fun vs H Q E h => by
  obtain ⟨c, xs, Z, hC, h0, hv, hx, hr, hB, mo, hw, hZ, rows, rfl, hl, q⟩ := spD_old h
  obtain ⟨hC, _⟩ := hC
  subst hC
  obtain ⟨v1, rfl⟩ := len1L (by rw [hv])
  have ht : Dh c.B0 v1 (dRows rows) := hr (v1, .d (dRows rows)) (by simp)
  obtain ⟨a, ys, rfl, e, rw_⟩ := dh_tab hB ht
  refine ⟨a, ys, rows.map List.length, rfl, .inr e, rows_lens rw_, by rw [Paired.length rw_]; exact hl, fun H' s => ?_⟩
  obtain ⟨a1, b1⟩ := same_moreL hw s
  obtain ⟨B', f, _, _, _⟩ := mo H' a1 b1
  exact q _ H' B' f rfl
theorem tab_ty {B H : Hp} (s : Same B H) {v : V} {ps : PS} {L : Int} {rows : Rows} (h : Dh B v (dRows rows)) (ok : TabOk ps L rows) (sz : SzOk ps) : TyT H v := dh_tyT s h fun ds e => by
  have e : rows.map dTup = ds := PyData.tuple.inj e
  rw [← e, List.length_map, ok.len]
  have := sz.n6
  omega
theorem ad_po {C CT CP : Addr} : ∀ vs H Q E, spD C 3 tdPinsOf vs H Q E → spPinsOf C CT CP vs H Q E := fun vs H Q E h => by
  obtain ⟨c, xs, Z, hC, h0, hv, hx, hr, hB, mo, hw, hZ, ps, L, rows, pr, pn, rfl, a, q⟩ := spD_old h
  obtain ⟨hC, _⟩ := hC
  subst hC
  obtain ⟨v1, v2, v3, rfl⟩ := len3L (by rw [hv])
  obtain ⟨p, l, xc, rfl, sl, prs⟩ := hr (v1, .slab ps L) (by simp)
  have ht : Dh c.B0 v2 (dRows rows) := hr (v2, .d (dRows rows)) (by simp)
  have hp : Dh c.B0 v3 pn := hr (v3, .d pn) (by simp)
  have tat : TabAt H v2 rows := dh_tab hB ht
  have tyN : TyT H v3 := by
    rcases a.pin.2 with ⟨rfl, _⟩ | rfl
    · exact dh_tyT hB hp fun ds e => by cases e
    · exact tab_ty hB hp a.pin.1 a.sz
  refine ⟨p, l, xc, ps, L, v2, v3, rfl, sl.keep hB, PairsAt.keep hB prs, a.sz, a.l0, tab_ty hB ht a.tab a.sz, tyN, fun i hi => ?_, fun rows' ta' ok' => ⟨fun nn i hi => ?_, fun prows t' H' s' pa => ?_⟩⟩
  · rw [badT_ok tat a.tab] at hi
    cases hi
  · rcases a.pin.2 with ⟨rfl, _⟩ | rfl
    · have e : v3 = .non := hp
      exact absurd e nn
    · rw [badT_ok (dh_tab hB hp) a.pin.1] at hi
      cases hi
  · have er : rows' = rows := tab_len ta' tat
    subst er
    have ep : prows = pr := by
      obtain ⟨t1, ok1, h1⟩ := pa
      rcases a.pin.2 with ⟨rfl, e⟩ | rfl
      · have ev : v3 = .non := hp
        rcases h1 with ⟨_, e2⟩ | ⟨nn, _⟩
        · rw [e2, e]
        · exact absurd ev nn
      · have tp := dh_tab hB hp
        rcases h1 with ⟨ev, _⟩ | ⟨_, _, t2⟩
        · obtain ⟨_, _, e3, _⟩ := tp
          rw [ev] at e3
          cases e3
        · exact tab_len t2 tp
    subst ep
    have hh : hpB rows' prows = true := a.has
    refine ⟨fun z => ?_, fun _ H3 s3 => ?_⟩
    · rw [hh] at z
      cases z
    · obtain ⟨a1, b1⟩ := same_moreL hw (s'.trans s3)
      obtain ⟨B', f, _, _, tp⟩ := mo H3 a1 b1
      exact q _ H3 B' f (tab_dh tp (pa.1.keep s3))
section
variable {P : Program} {w : World} {K : PySem.W.Frag} {mg : Str → Option Value} {base : Heap} {C CT CP CN CS : Addr} {TT : List (Addr × Str)}
abbrev s_class_costs : Stmt := topS 27
theorem sc_class_costs : FnScope ["slab", "pinned", "held", "costs", "size", "slots", "counts", "others"] ["slab", "pinned"] (defScope s_class_costs) := ⟨rfl, rfl, rfl, by decide +kernel, rfl, by decide +kernel, by decide +kernel⟩
theorem ok_class_costs {f : Addr} {fd : FuncData} (F : Fun K "class_costs" "class_costs" s_class_costs f fd) (B : Bt mg) (BL : BL mg)
    {f_byte_total : Addr} {d_byte_total : FuncData} (G_byte_total : FnOk P w K mg base CX0 5 f_byte_total d_byte_total ["slab", "rows"] (spBT C)) (m_byte_total : mg "byte_total" = some (.ref f_byte_total)) (k_byte_total : PySem.W.keepIn K (.ref f_byte_total) = true) (b_byte_total : Binds K d_byte_total ["slab", "rows"] [])
    (SC : SlabC K mg C) {fc : Addr} {dc : FuncData} (Gc : FnOk P w K mg base CX0 1 fc dc ["self"] (spClasses C)) (bc : Binds K dc ["self"] []) (mc : Meth K C "classes" fc) :
    FnOk P w K mg base CX0 6 f fd ["slab", "pinned"] (spD C 2 tdCC) := by
  refine fn_spec (F.ok sc_class_costs (fun vs H Q E h => spD_len vs H Q E h) (fun cdv A outer s H vs Q E hr h => fn_go (k := 6) h rfl (fun c Z hC hZ => (pds_cons (pds_set (i := 2) sc_class_costs.nd rfl (Or.inl rfl) (pd_callN (G_byte_total.imp (ad_bt (C := C))) mf_bt hC (hr.mono (by decide)) rfl m_byte_total k_byte_total b_byte_total pass0 (pda_cons (pdv (pv 0)) (pda_cons (pdv (pv 1)) pda_nil))))
      (pds_cons (pds_set (i := 3) sc_class_costs.nd rfl (Or.inl rfl) (pd_lst pda_nil))
      (pds_cons (pds_for (p := (.tup [(.tup [(.nm 4), (.nm 5)]), (.nm 6)])) PassesOwn.never rfl (pdi_zipLT (by rfl) BL.b_zip (pda_cons (pd_meth0 (fun _ h => pe_meth0 h SC.cl mc (Gc.imp (ad_classes (C := C))) (hr.mono (by decide)) bc .nil passA) (by decide) (by decide) mf_classes hC hZ (pdb (pv 0))) (pda_cons (pdv (pv 1)) pda_nil))) (pg_tup rfl (pgs_cons (pg_tup rfl (pgs_cons (pg_name (i := 4) sc_class_costs.nd rfl (Or.inl rfl)) (pgs_cons (pg_name (i := 5) sc_class_costs.nd rfl (Or.inl rfl)) pgs_nil))) (pgs_cons (pg_name (i := 6) sc_class_costs.nd rfl (Or.inl rfl)) pgs_nil)))
      (pds_cons (pds_set (i := 7) sc_class_costs.nd rfl (Or.inl rfl) (pd_op os_sub (pdv (pv 2)) (pd_op os_mul (pdv (pv 4)) (pd_callB (cs_sum rfl) (by rfl) B.b_sum (by decide +kernel) (pda_cons (pdb (pv 6)) pda_nil)))))
      (pds_one (pds_app (i := 3) (fun _ h => pe_bm PySem.F.plainAttrs_list PySem.F.slot_list_append PySem.F.type_list_append mt_append (pv 3) (pa_cons h pa_nil)) (pd_tup (pda_cons (pdv (pv 4)) (pda_cons (pd_op os_mul (pdb (pv 4)) (pdb (pv 5))) (pda_cons (pd_op os_add (pdv (pv 7)) (pd_op os_mul (pdv (pv 4)) (pd_op os_add (pd_op os_mul (pd_callB cs_len (by rfl) B.b_len (by decide +kernel) (pda_cons (pdb (pv 6)) pda_nil)) (pdb (pv 5))) pd_int))) pda_nil))))))))
      (pds_one (pds_ret (pdo (pv 3)))))))))) ?_
  rintro xs Q Z ⟨ps, L, pins, rfl, sz, hl, q⟩
  refine ⟨ps, L, pins, rfl, sz, hl, rfl, rfl, Nat.le_of_ble_eq_true rfl, rfl, ?_⟩
  have n6 := sz.n6
  refine ⟨rfl, ps, L, rfl, rfl, by rw [List.length_map, List.length_map]; exact hl.symm, ?_⟩
  refine ⟨fun i r => ∃ (x4 x5 x6 x7 : DV), r = [.slab ps L, .d (dRows pins), .d (.int (lv ps pins)), .own (((cst ps pins).take i).map dC), x4, x5, x6, x7], ⟨_, _, _, _, rfl⟩, ?_, ?_⟩
  · rintro i d r hi ⟨x4, x5, x6, x7, rfl⟩
    obtain ⟨x, y, e1, _, hz, rfl⟩ := zip_back hi
    have rg := sz.rg x (List.mem_of_getElem? e1)
    have ho : (cst ps pins)[i]? = some (cost1 (lv ps pins) x y) := by
      unfold cst
      rw [List.getElem?_map, hz]
      rfl
    refine ⟨_, rfl, ?_⟩
    refine ints_onS (x := .bor (dI y)) (ns := y) rfl ⟨.inl ⟨by omega, by omega⟩, rfl, ?_⟩
    refine ⟨.inl ⟨by omega, by omega⟩, .inr ⟨by omega, by omega⟩, .inl ⟨by omega, by omega⟩, Nat.le_of_ble_eq_true rfl, ?_, .d (.int x.1), .d (.int x.2), .d (dTup y), .d (.int (lv ps pins - x.1 * y.sum)), ?_⟩
    · rw [List.length_map]
      have := take_lt (xs := cst ps pins) (n := 1000) (by rw [cst_len hl]; omega) i
      omega
    · rw [← take_next ho, List.map_append]
      have e : (dInts y).length = y.length := List.length_map _
      show [_, _, _, DV.own (_ ++ [PyData.tuple [.int x.1, .int (x.1 * x.2), .int (lv ps pins - x.1 * y.sum + x.1 * (((dInts y).length : Int) * x.2 + 1))]]), _, _, _, _] = _
      rw [e]
      rfl
  · rintro r ⟨x4, x5, x6, x7, rfl⟩
    rw [zipD_len (by rw [List.length_map, List.length_map]; exact hl.symm), List.length_map, List.take_of_length_le (by rw [cst_len hl]; exact Nat.le_refl _)]
    exact ⟨rfl, q⟩
abbrev s_least_limit : Stmt := topS 36
theorem sc_least_limit : FnScope ["classes", "table", "pins", "slab", "pinned", "costs"] ["classes", "table", "pins"] (defScope s_least_limit) := ⟨rfl, rfl, rfl, by decide +kernel, rfl, by decide +kernel, by decide +kernel⟩
theorem ok_least_limit {f : Addr} {fd : FuncData} (F : Fun K "least_limit" "least_limit" s_least_limit f fd) (B : Bt mg) (BL : BL mg)
    {f_class_costs : Addr} {d_class_costs : FuncData} (G_class_costs : FnOk P w K mg base CX0 6 f_class_costs d_class_costs ["slab", "pinned"] (spD C 2 tdCC)) (m_class_costs : mg "class_costs" = some (.ref f_class_costs)) (k_class_costs : PySem.W.keepIn K (.ref f_class_costs) = true) (b_class_costs : Binds K d_class_costs ["slab", "pinned"] [])
    {f_further_pages : Addr} {d_further_pages : FuncData} (G_further_pages : FnOk P w K mg base CX0 1 f_further_pages d_further_pages ["table", "pinned"] (spD C 2 tdFur)) (m_further_pages : mg "further_pages" = some (.ref f_further_pages)) (k_further_pages : PySem.W.keepIn K (.ref f_further_pages) = true) (b_further_pages : Binds K d_further_pages ["table", "pinned"] [])
    {f_least_shown : Addr} {d_least_shown : FuncData} (G_least_shown : FnOk P w K mg base CX0 7 f_least_shown d_least_shown ["costs", "further", "held"] (spDT C TT 3 tdLS)) (m_least_shown : mg "least_shown" = some (.ref f_least_shown)) (k_least_shown : PySem.W.keepIn K (.ref f_least_shown) = true) (b_least_shown : Binds K d_least_shown ["costs", "further", "held"] [])
    {f_pins_of : Addr} {d_pins_of : FuncData} (G_pins_of : FnOk P w K mg base (L2.CX P w) 8 f_pins_of d_pins_of ["slab", "table", "pins"] (spPinsOf C CT CP)) (m_pins_of : mg "pins_of" = some (.ref f_pins_of)) (k_pins_of : PySem.W.keepIn K (.ref f_pins_of) = true) (b_pins_of : Binds K d_pins_of ["slab", "table", "pins"] [])
    {f_byte_total : Addr} {d_byte_total : FuncData} (G_byte_total : FnOk P w K mg base CX0 5 f_byte_total d_byte_total ["slab", "rows"] (spBT C)) (m_byte_total : mg "byte_total" = some (.ref f_byte_total)) (k_byte_total : PySem.W.keepIn K (.ref f_byte_total) = true) (b_byte_total : Binds K d_byte_total ["slab", "rows"] [])
    (SC : SlabC K mg C) {fI : Addr} {dI : FuncData} (MK : Mk K C fI) (GI : FnOk P w K mg base (L2.CX P w) 4 fI dI ["self", "classes", "limit"] (spInit C CS)) (bI : Binds K dI ["self", "classes", "limit"] []) (c_MOST_LIMIT : ∃ t, mg "MOST_LIMIT" = some (.int 1000000 t)) :
    FnOk P w K mg base (L2.CX P w) 9 f fd ["classes", "table", "pins"] (spDT C TT 3 tdLL) := by
  refine fn_specT (F.okX sc_least_limit (fun vs H Q E h => spDT_len vs H Q E h) (fun cdv A outer s H vs Q E hr h => fn_goT (k := 3) h rfl (fun c Z hC hL hZ => (pds_cons (pds_set (i := 3) sc_least_limit.nd rfl (Or.inl rfl) (pd_slab (f := id) hC hZ (fun _ h => pe_make MK GI (hr.mono (by decide)) rfl SC.gC bI .nil (passes_call (takes_of rfl rfl rfl rfl) (fun _ _ _ _ h => h)) h) (pda_cons (pdv (pv 0)) (pda_cons (pd_c (x := .int 1000000) (v := .int 1000000) (pe_glob (v := V.int 1000000) rfl c_MOST_LIMIT.choose_spec ⟨_, rfl⟩) (fun _ => rfl)) pda_nil))))
      (pds_cons (pds_set (i := 4) sc_least_limit.nd rfl (Or.inl rfl) (pd_call (G_pins_of.imp (ad_po (C := C) (CT := CT) (CP := CP))) mf_po hC hZ (hr.mono (by decide)) rfl m_pins_of k_pins_of b_pins_of (passes_call (takes_of rfl rfl rfl rfl) (fun _ _ _ _ h => h)) (pda_cons (pdv (pv 3)) (pda_cons (pdv (pv 1)) (pda_cons (pdv (pv 2)) pda_nil)))))
      (pds_cons (pds_set (i := 5) sc_least_limit.nd rfl (Or.inl rfl) (pd_callN G_class_costs mf_cc hC (hr.mono (by decide)) rfl m_class_costs k_class_costs b_class_costs pass0 (pda_cons (pdv (pv 3)) (pda_cons (pdv (pv 4)) pda_nil))))
      (pds_one (pds_ret (pd_callTN G_least_shown mf_ls hC hL (hr.mono (by decide)) rfl m_least_shown k_least_shown b_least_shown pass0 (pda_cons (pdv (pv 5)) (pda_cons (pd_callN G_further_pages mf_fur hC (hr.mono (by decide)) rfl m_further_pages k_further_pages b_further_pages pass0 (pda_cons (pdv (pv 1)) (pda_cons (pdv (pv 4)) pda_nil))) (pda_cons (pd_callN (G_byte_total.imp (ad_bt (C := C))) mf_bt hC (hr.mono (by decide)) rfl m_byte_total k_byte_total b_byte_total pass0 (pda_cons (pdv (pv 3)) (pda_cons (pdv (pv 1)) pda_nil))) pda_nil)))))))))))) ?_
  rintro xs Q Z ⟨ps, rows, pr, pn, rfl, a, q⟩
  have n6 := a.sz.n6
  obtain ⟨l1, l2⟩ := a.len
  refine ⟨by show (ps.map dPair).length ≤ 1000; rw [List.length_map]; omega, slabQ_good a.sz (by decide) (by decide) ⟨rfl, ?_⟩⟩
  refine ⟨ps, ML, rows, pr, pn, rfl, a, rfl, rfl, ?_⟩
  refine ⟨ps, ML, pr, rfl, a.sz, l2, rfl, rfl, ?_⟩
  refine ⟨rows, pr, rfl, l1, by omega, rfl, ?_⟩
  refine ⟨ps, ML, rows, rfl, a.sz, by omega, rfl, ?_⟩
  exact ⟨_, _, _, rfl, cst_cb a.sz, by rw [cst_len l2, fur_len l1, l2], by rw [fur_len l1]; omega, rfl, rfl, q⟩
end
end K20
set_option Elab.async false
set_option linter.all false
set_option maxRecDepth 100000
set_option maxHeartbeats 4000000
/-! what the laws of limits and changes draw: classes, tables, pins -/
namespace MR
open PySem PySem.Spec PyProof.Rows L2 XV SL DL
def PsOk (ps : PS) (n w : Int) : Prop := 1 ≤ ps.length ∧ (ps.length : Int) ≤ n ∧ ∀ q ∈ ps, (1 ≤ q.1 ∧ q.1 ≤ w) ∧ 1 ≤ q.2 ∧ q.2 ≤ w
theorem PsOk.sz {ps : PS} {n w : Int} (h : PsOk ps n w) (hn : n ≤ 6) (hw : w ≤ 60) : SzOk ps := by
  obtain ⟨h1, h2, h3⟩ := h
  exact ⟨fun q hq => by have := h3 q hq; omega, h1, by omega⟩
def tdDrC : Sig := fun xs Q _ => ∃ (n w : Int), xs = [.well, .d (.int n), .d (.int w)] ∧ 1 ≤ n ∧ n ≤ 6 ∧ 1 ≤ w ∧ w ≤ 60 ∧ ∀ ps : PS, PsOk ps n w → Q (.own (ps.map dPair))
theorem mf_drc : MonoF tdDrC := fun xs Q Q' Z k ⟨n, m, a, b, c, d, e, h⟩ => ⟨n, m, a, b, c, d, e, fun ps x => k _ (h ps x)⟩
/-- rows that ascend, with m items at most -/
def RwOk (ps : PS) (m : Int) (rows : Rows) : Prop := rows.length = ps.length ∧ ∀ (i : Nat) (q : Int × Int) (ns : List Int), ps[i]? = some q → rows[i]? = some ns → Asc q.2 ns ∧ (ns.length : Int) ≤ m
theorem get_snoc {α : Type} {xs : List α} {x y : α} {i : Nat} (h : (xs ++ [x])[i]? = some y) : xs[i]? = some y ∨ (i = xs.length ∧ y = x) := by
  by_cases lt : i < xs.length
  · rw [List.getElem?_append_left lt] at h
    exact .inl h
  · rw [List.getElem?_append_right (by omega)] at h
    have e : i - xs.length = 0 := by
      cases e : i - xs.length with
      | zero => rfl
      | succ n => rw [e] at h; cases h
    rw [e] at h
    exact .inr ⟨by omega, (Option.some.inj h).symm⟩
theorem RwOk.snoc {ps : PS} {m : Int} {rows : Rows} {i : Nat} {q : Int × Int} {ns : List Int} (h : RwOk (ps.take i) m rows) (hq : ps[i]? = some q) (a : Asc q.2 ns) (l : (ns.length : Int) ≤ m) : RwOk (ps.take (i + 1)) m (rows ++ [ns]) := by
  obtain ⟨h1, h2⟩ := h
  have lt := (List.getElem?_eq_some_iff.mp hq).1
  rw [← take_next hq]
  refine ⟨by rw [List.length_append, List.length_append, h1]; rfl, fun j p ms e1 e2 => ?_⟩
  rcases get_snoc e1 with z1 | ⟨z1, rfl⟩ <;> rcases get_snoc e2 with z2 | ⟨z2, rfl⟩
  · exact h2 j p ms z1 z2
  · have := (List.getElem?_eq_some_iff.mp z1).1
    omega
  · have := (List.getElem?_eq_some_iff.mp z2).1
    omega
  · exact ⟨a, l⟩
theorem Paired.snoc {α β : Type} {R : α → β → Prop} : ∀ {xs : List α} {ys : List β} {x : α} {y : β}, Paired R xs ys → R x y → Paired R (xs ++ [x]) (ys ++ [y])
  | _, _, _, _, .nil, a => .cons a .nil
  | _, _, _, _, .cons b r, a => .cons b (Paired.snoc r a)
theorem asc_srt {hi : Int} {vs : List Int} (h : ∀ v ∈ vs, 1 ≤ v ∧ v ≤ hi) : Asc hi (srtI vs) := ⟨(srtI_ok vs).2, fun n hn => h n ((srtI_ok vs).1.mem_iff.mp hn)⟩
theorem srt_length (vs : List Int) : (srtI vs).length = vs.length := (srtI_ok vs).1.length_eq
def tdDrT : Sig := fun xs Q _ => ∃ (ps : PS) (m : Int), xs = [.well, .d (.list (ps.map dPair)), .d (.int m)] ∧ SzOk ps ∧ 1 ≤ m ∧ m ≤ 60 ∧ ∀ rows : Rows, RwOk ps m rows → Q (.d (dRows rows))
theorem mf_drt : MonoF tdDrT := fun xs Q Q' Z k ⟨ps, m, a, b, c, d, h⟩ => ⟨ps, m, a, b, c, d, fun r x => k _ (h r x)⟩
/-- one class's pins -/
def PnOk (ns ms : List Int) : Prop := ms.Pairwise (· ≤ ·) ∧ (∀ m ∈ ms, 1 ≤ m ∧ ∃ n ∈ ns, m ≤ n) ∧ hcB ns ms = true
def PnsOk (rows pr : Rows) : Prop := Paired PnOk rows pr
def tdDrP : Sig := fun xs Q _ => ∃ rows : Rows, xs = [.well, .d (dRows rows)] ∧ rows.length ≤ 1000 ∧ (∀ ns ∈ rows, ns.Pairwise (· ≤ ·) ∧ ns.length ≤ 60 ∧ ∀ n ∈ ns, 1 ≤ n ∧ n ≤ 1000) ∧ ∀ pr : Rows, PnsOk rows pr → Q (.d (dRows pr))
theorem mf_drp : MonoF tdDrP := fun xs Q Q' Z k ⟨r, a, b, c, h⟩ => ⟨r, a, b, c, fun r x => k _ (h r x)⟩
def tdDrL : Sig := fun xs Q _ => ∃ (ps : PS) (rows : Rows), xs = [.d (.list (ps.map dPair)), .d (dRows rows)] ∧ SzOk ps ∧ rows.length = ps.length ∧ Q (.d (.int (lv ps rows)))
theorem mf_drl : MonoF tdDrL := fun xs Q Q' Z k ⟨r, a, b, c, d, h⟩ => ⟨r, a, b, c, d, k _ h⟩
/-! ### sorted values stay under an ascending row -/
theorem Paired.get' {α β : Type} {R : α → β → Prop} : ∀ {xs : List α} {ys : List β} {i : Nat} {x : α} {y : β}, Paired R xs ys → xs[i]? = some x → ys[i]? = some y → R x y
  | _, _, 0, _, _, .cons a _, h1, h2 => by
    cases h1
    cases h2
    exact a
  | _, _, i + 1, _, _, .cons _ r, h1, h2 => Paired.get' (i := i) r (by simpa using h1) (by simpa using h2)
theorem Paired.of_get {α β : Type} {R : α → β → Prop} : ∀ {xs : List α} {ys : List β}, xs.length = ys.length → (∀ (i : Nat) (x : α) (y : β), xs[i]? = some x → ys[i]? = some y → R x y) → Paired R xs ys
  | [], [], _, _ => .nil
  | x :: xs, y :: ys, h, k => .cons (k 0 x y rfl rfl) (Paired.of_get (by simpa using h) fun i a b h1 h2 => k (i + 1) a b (by simpa using h1) (by simpa using h2))
  | [], _ :: _, h, _ => by simp at h
  | _ :: _, [], h, _ => by simp at h
/-- an item may be taken out, the first put in its place -/
theorem take_out {m a : Int} : ∀ {vs cs : List Int}, Paired (fun v c => v ≤ c) vs cs → m ∈ vs → (∀ c ∈ cs, a ≤ c) → ∃ us, us.Perm (a :: vs.erase m) ∧ Paired (fun v c => v ≤ c) us cs
  | v :: vs, c :: cs, .cons h r, hm, ha => by
    by_cases e : v = m
    · subst e
      exact ⟨a :: vs, by rw [List.erase_cons_head], .cons (ha c List.mem_cons_self) r⟩
    · have hm : m ∈ vs := by
        rcases List.mem_cons.mp hm with z | z
        · exact absurd z.symm e
        · exact z
      obtain ⟨us, p, k⟩ := take_out r hm fun c hc => ha c (List.mem_cons_of_mem _ hc)
      refine ⟨v :: us, ?_, .cons h k⟩
      rw [List.erase_cons_tail (by simpa using e)]
      exact (p.cons v).trans (List.Perm.swap _ _ _)
theorem srt_under : ∀ {ms vs cs : List Int}, ms.Perm vs → ms.Pairwise (· ≤ ·) → cs.Pairwise (· ≤ ·) → Paired (fun v c => v ≤ c) vs cs → Paired (fun v c => v ≤ c) ms cs
  | [], vs, cs, p, _, _, h => by
    cases p.nil_eq
    exact h
  | m :: ms, [], _, p, _, _, _ => by cases p.symm.nil_eq
  | m :: ms, v :: vs, c :: cs, p, hs, hc, .cons h r => by
    have hv : m ≤ v := by
      have hm : v ∈ m :: ms := p.mem_iff.mpr List.mem_cons_self
      rcases List.mem_cons.mp hm with z | z
      · omega
      · exact (List.pairwise_cons.mp hs).1 v z
    refine .cons (by omega) ?_
    by_cases e : m = v
    · subst e
      exact srt_under (List.Perm.cons_inv p) (List.pairwise_cons.mp hs).2 (List.pairwise_cons.mp hc).2 r
    · have hm : m ∈ vs := by
        have z : m ∈ v :: vs := p.mem_iff.mp List.mem_cons_self
        rcases List.mem_cons.mp z with z | z
        · exact absurd z e
        · exact z
      obtain ⟨us, pu, k⟩ := take_out (a := v) r hm fun d hd => by
        have := (List.pairwise_cons.mp hc).1 d hd
        omega
      refine srt_under ?_ (List.pairwise_cons.mp hs).2 (List.pairwise_cons.mp hc).2 k
      have p2 : (m :: ms).Perm (m :: (v :: vs.erase m)) := by
        refine p.trans ?_
        exact ((List.perm_cons_erase hm).cons v).trans (List.Perm.swap _ _ _)
      exact (List.Perm.cons_inv p2).trans pu.symm
theorem Paired.all2 {ms cs : List Int} (h : Paired (fun v c => v ≤ c) ms cs) : ((cs.zip ms).map fun p => decide (p.2 ≤ p.1)).all id = true := by
  induction h with
  | nil => rfl
  | cons a r ih =>
    rw [List.zip_cons_cons, List.map_cons, List.all_cons, ih]
    simp [a]
theorem hcB_drop {ns ms : List Int} {d : Nat} (hd : d ≤ ns.length) (h : Paired (fun v c => v ≤ c) ms (ns.drop d)) : hcB ns ms = true := by
  have l : ms.length = ns.length - d := by rw [Paired.length h, List.length_drop]
  unfold hcB
  rw [decide_eq_true (by omega), Bool.true_and, show ns.length - ms.length = d by omega]
  exact Paired.all2 h
/-! ### valid tables and pins -/
theorem hcB_le {ns ms : List Int} (h : hcB ns ms = true) : ms.length ≤ ns.length := by
  unfold hcB at h
  rw [Bool.and_eq_true] at h
  exact of_decide_eq_true h.1
theorem hcB_sum {ns ms : List Int} (h0 : ∀ n ∈ ns, 0 ≤ n) (h : hcB ns ms = true) : ms.sum ≤ ns.sum := by
  have l := hcB_le h
  unfold hcB at h
  rw [Bool.and_eq_true] at h
  have key : ∀ (cs ms : List Int), cs.length = ms.length → ((cs.zip ms).map fun p => decide (p.2 ≤ p.1)).all id = true → ms.sum ≤ cs.sum := by
    intro cs
    induction cs with
    | nil =>
      intro ms e _
      cases ms with
      | nil => exact Int.le_refl _
      | cons => cases e
    | cons c cs ih =>
      intro ms e h
      cases ms with
      | nil => cases e
      | cons m ms =>
        rw [List.zip_cons_cons, List.map_cons, List.all_cons, Bool.and_eq_true] at h
        have h1 : m ≤ c := of_decide_eq_true h.1
        have := ih ms (by simpa using e) h.2
        rw [List.sum_cons, List.sum_cons]
        omega
  have z := key _ _ (by rw [List.length_drop]; omega) h.2
  have e : ns.sum = (ns.take (ns.length - ms.length)).sum + (ns.drop (ns.length - ms.length)).sum := by
    rw [← List.sum_append, List.take_append_drop]
  have p : 0 ≤ (ns.take (ns.length - ms.length)).sum := by
    have : ∀ xs : List Int, (∀ x ∈ xs, 0 ≤ x) → 0 ≤ xs.sum := by
      intro xs
      induction xs with
      | nil => intro _; exact Int.le_refl _
      | cons x xs ih =>
        intro h
        rw [List.sum_cons]
        have := h x List.mem_cons_self
        have := ih fun y hy => h y (List.mem_cons_of_mem _ hy)
        omega
    exact this _ fun x hx => h0 x (List.mem_of_mem_take hx)
  omega
theorem pgs_pins : ∀ {rows pr : Rows}, PnsOk rows pr → pgs pr ≤ pgs rows
  | _, _, .nil => Nat.le_refl _
  | ns :: rows, ms :: pr, .cons a r => by
    have := pgs_pins r
    have := hcB_le a.2.2
    unfold pgs at *
    rw [List.map_cons, List.map_cons, List.sum_cons, List.sum_cons]
    omega
theorem lv_pins : ∀ {ps : PS} {rows pr : Rows}, (∀ q ∈ ps, 1 ≤ q.1) → (∀ ns ∈ rows, ∀ n ∈ ns, 0 ≤ n) → PnsOk rows pr → lv ps pr ≤ lv ps rows
  | [], _, _, _, _, _ => Int.le_refl _
  | q :: ps, _, _, _, _, .nil => Int.le_refl _
  | q :: ps, ns :: rows, ms :: pr, h1, h2, .cons a r => by
    have i := lv_pins (ps := ps) (fun q hq => h1 q (List.mem_cons_of_mem _ hq)) (fun z hz => h2 z (List.mem_cons_of_mem _ hz)) r
    have s := hcB_sum (h2 ns List.mem_cons_self) a.2.2
    have k : q.1 * ms.sum ≤ q.1 * ns.sum := Int.mul_le_mul_of_nonneg_left s (by have := h1 q List.mem_cons_self; omega)
    unfold lv at *
    rw [List.zip_cons_cons, List.zip_cons_cons, List.map_cons, List.map_cons, List.sum_cons, List.sum_cons]
    show q.1 * ms.sum + _ ≤ q.1 * ns.sum + _
    omega
theorem hpB_of : ∀ {rows pr : Rows}, PnsOk rows pr → hpB rows pr = true
  | _, _, .nil => rfl
  | ns :: rows, ms :: pr, .cons a r => by
    have := hpB_of r
    unfold hpB at this ⊢
    rw [List.zip_cons_cons, List.map_cons, List.all_cons, this]
    simp only [id]
    rw [a.2.2]
    rfl
theorem PnsOk.tab {ps : PS} {L : Int} {rows pr : Rows} (hs : ∀ q ∈ ps, 1 ≤ q.1) (t : TabOk ps L rows) (p : PnsOk rows pr) : TabOk ps L pr := by
  have l : rows.length = pr.length := Paired.length p
  have nn : ∀ ns ∈ rows, ∀ n ∈ ns, 0 ≤ n := fun ns h n hn => by
    obtain ⟨i, hi⟩ := List.mem_iff_getElem?.mp h
    have lt := (List.getElem?_eq_some_iff.mp hi).1
    have lt2 : i < ps.length := by rw [← t.len]; exact lt
    have := (t.cnt i ps[i] ns (List.getElem?_eq_getElem lt2) hi).2 n hn
    omega
  refine ⟨by rw [← l, t.len], fun i q ms h1 h2 => ?_, ?_, ?_⟩
  · have lt := (List.getElem?_eq_some_iff.mp h2).1
    have e : rows[i]? = some rows[i] := List.getElem?_eq_getElem (by omega)
    have a := Paired.get' p e h2
    refine ⟨a.1, fun m hm => ?_⟩
    obtain ⟨m1, n, hn, le⟩ := a.2.1 m hm
    have := (t.cnt i q _ h1 e).2 n hn
    omega
  · have := pgs_pins p
    have := t.few
    omega
  · have := lv_pins hs nn p
    have := t.fit
    omega
theorem PnsOk.none : ∀ rows : Rows, PnsOk rows (List.replicate rows.length [])
  | [] => .nil
  | ns :: rows => .cons ⟨.nil, (fun _ h => nomatch h), by unfold hcB; simp⟩ (PnsOk.none rows)
/-- the calls' arguments are valid -/
theorem ask_of {ps : PS} {L : Int} {rows pr : Rows} (sz : SzOk ps) (l0 : 0 ≤ L) (t : TabOk ps L rows) (p : PnsOk rows pr) : Ask ps L rows (dRows pr) pr :=
  ⟨sz, l0, t, ⟨p.tab (fun q hq => (sz.rg q hq).1.1) t, .inr rfl⟩, hpB_of p⟩
theorem ask_non {ps : PS} {L : Int} {rows : Rows} (sz : SzOk ps) (l0 : 0 ≤ L) (t : TabOk ps L rows) : Ask ps L rows .none (List.replicate ps.length []) := by
  have p := PnsOk.none rows
  rw [t.len] at p
  exact ⟨sz, l0, t, ⟨p.tab (fun q hq => (sz.rg q hq).1.1) t, .inl ⟨rfl, rfl⟩⟩, hpB_of p⟩
theorem RwOk.pgs {ps : PS} {m : Int} {rows : Rows} (h : RwOk ps m rows) (m0 : 0 ≤ m) : (pgs rows : Int) ≤ m * ps.length := by
  obtain ⟨l, k⟩ := h
  have : ∀ rows : Rows, (∀ ns ∈ rows, (ns.length : Int) ≤ m) → (SL.pgs rows : Int) ≤ m * rows.length := by
    intro rows
    induction rows with
    | nil =>
      intro _
      show (0 : Int) ≤ m * 0
      omega
    | cons ns rows ih =>
      intro h
      have a := h ns List.mem_cons_self
      have b := ih fun z hz => h z (List.mem_cons_of_mem _ hz)
      unfold SL.pgs at b ⊢
      rw [List.map_cons, List.sum_cons, List.length_cons]
      have e : m * ((rows.length + 1 : Nat) : Int) = m * rows.length + m := by
        rw [Int.natCast_add, Int.mul_add, Int.natCast_one, Int.mul_one]
      rw [e]
      omega
  rw [← l]
  refine this rows fun ns hn => ?_
  obtain ⟨i, hi⟩ := List.mem_iff_getElem?.mp hn
  have lt := (List.getElem?_eq_some_iff.mp hi).1
  have lt2 : i < ps.length := by rw [← l]; exact lt
  exact (k i ps[i] ns (List.getElem?_eq_getElem lt2) hi).2
end MR
set_option Elab.async false
set_option linter.all false
set_option maxRecDepth 100000
set_option maxHeartbeats 4000000
namespace K20
open PySem PySem.Spec PyProof.Rows L2 XV SL DL MR LamX
local macro_rules | `(tactic| walk_at "rd") => `(tactic| repeat (first | refine And.intro rfl ?_ | refine And.intro (by assumption) ?_ | refine And.intro (SqL.of upd_same) ?_ | refine And.intro upd_same ?_ | refine And.intro (by first | decide | (dsimp only; decide) | (dsimp only; omega)) ?_ | refine And.intro ⟨by decide, by decide⟩ ?_ | refine And.intro (Or.inl ⟨by omega, by omega⟩) ?_ | refine And.intro (Or.inr ⟨by decide, by decide⟩) ?_ | refine And.intro (Or.inl ⟨by decide, by decide⟩) ?_ | refine Or.inl (Exists.intro _ (And.intro rfl ?_)) | refine Or.inr (Exists.intro _ (And.intro rfl ?_)) | apply Exists.intro))
abbrev s__law_draw : Stmt := topS 39
theorem sc__law_draw : FnScope ["_law_well", "_law_limit", "_law_found", "_law_number"] ["_law_well", "_law_limit"] (defScope s__law_draw) := ⟨rfl, rfl, rfl, by decide +kernel, rfl, by decide +kernel, by decide +kernel⟩
/-- all but l stays -/
def But (l : Addr) (H H' : Hp) : Prop := ∀ b o, H b = some o → b ≠ l → H' b = some o
theorem eqL {H H1 : Hp} {l : Addr} {o : HO} (e : upd H l o = H1) : But l H H1 ∧ H1 l = some o := by
  subst e
  exact ⟨fun b u z n => by rw [upd_ne n]; exact z, upd_same⟩
/-- the list of three numbers that the draws are taken from -/
def Well (H : Hp) (l : Addr) : Prop := ∃ a b c : Int, H l = some (.lst [.int a, .int b, .int c])
/-- the well has turned, all else stays -/
structure St1 (l : Addr) (H H' : Hp) : Prop where
  but : But l H H'
  well : Well H' l
theorem St1.refl {l : Addr} {H : Hp} (h : Well H l) : St1 l H H := ⟨fun _ _ z _ => z, h⟩
theorem St1.trans {l : Addr} {H H1 H2 : Hp} (a : St1 l H H1) (b : St1 l H1 H2) : St1 l H H2 := ⟨fun c o z n => b.but c o (a.but c o z n) n, b.well⟩
theorem St1.same {l : Addr} {H H1 H2 : Hp} (a : St1 l H H1) (s : Same H1 H2) : St1 l H H2 := ⟨fun c o z n => s _ _ (a.but c o z n), let ⟨x, y, z, e⟩ := a.well; ⟨x, y, z, s _ _ e⟩⟩
theorem St1.free {l p : Addr} {H H1 : Hp} (a : St1 l H H1) (hl : Well H l) (h : H1 p = none) : H p = none := by
  cases q : H p with
  | none => rfl
  | some o =>
    by_cases e : p = l
    · obtain ⟨x, y, z, w⟩ := a.well
      rw [e, w] at h
      cases h
    · rw [a.but p o q e] at h
      cases h
theorem well_ne {l b : Addr} {H : Hp} {xs : List V} (hl : Well H l) (h : H b = some (.tup xs)) : b ≠ l := fun e => by
  obtain ⟨x, y, z, w⟩ := hl
  rw [e, w] at h
  cases h
theorem pairs_upd {H : Hp} {s : Addr} {xs ys : List V} (hs : H s = some (.lst xs)) : ∀ {zs : List V} {ps : List (Int × Int)}, PairsAt H zs ps → PairsAt (upd H s (.lst ys)) zs ps
  | _, _, .nil => .nil
  | _, _, .cons ⟨t, e, z⟩ r => .cons ⟨t, e, by rw [upd_ne (fun q => by rw [q, hs] at z; cases z)]; exact z⟩ (pairs_upd hs r)
theorem PairsAt.keepB {l : Addr} {H H' : Hp} (hl : Well H l) (k : But l H H') : ∀ {xs : List V} {ps : List (Int × Int)}, PairsAt H xs ps → PairsAt H' xs ps
  | _, _, .nil => .nil
  | _, _, .cons ⟨t, e, z⟩ r => .cons ⟨t, e, k _ _ z (well_ne hl z)⟩ (PairsAt.keepB hl k r)
def spDraw : Sp := fun vs H Q _ => ∃ (l : Addr) (m : Int), vs = [.ref l, .int m] ∧ Well H l ∧ 0 < m ∧ m < 1073741824 ∧ ∀ n H', 0 ≤ n → n < m → St1 l H H' → Q (.int n) H'
section
variable {P : Program} {w : World} {K : PySem.W.Frag} {mg : Str → Option Value} {base : Heap}
theorem ok_draw {f : Addr} {fd : FuncData} (F : Fun K "_law_draw" "_law_draw" s__law_draw f fd) (B : Bi mg) : FnOk P w K mg base CX0 1 f fd ["_law_well", "_law_limit"] spDraw := by
  refine F.ok sc__law_draw (fun vs H Q E h => ?_) (fun cdv A outer s H vs Q E hr h => ?_)
  · obtain ⟨l, m, rfl, _⟩ := h
    rfl
  · obtain ⟨l, m, rfl, ⟨a, b, c, hl⟩, hm, hm2, k0⟩ := h
    have k : ∀ n a' c', 0 ≤ n → n < m → Q (.int n) (upd H l (.lst [.int a', .int b, .int c'])) := fun n a' c' h0 h1 => k0 n _ h0 h1 ⟨(eqL rfl).1, a', b, c', upd_same⟩
    refine ⟨_, (pss_cons (ps_if (pt_cmpR op_gt (pe_ix ix_list (pv 0) pe_int (fun _ _ => rfl)) pe_int (nomark _)) (pss_cons (ps_set (i := 2) sc__law_draw.nd rfl (Or.inl rfl) (pe_op op_mod (pe_callTy call_int1 (by rfl) B.b_int (by decide +kernel) (pa_cons (pe_ix ix_list (pv 0) pe_int (fun _ _ => rfl)) pa_nil)) (pv 1)))
      (pss_cons (ps_asg (pe_op op_fdiv (pe_ix ix_list (pv 0) pe_int (fun _ _ => rfl)) (pv 1)) (pg_sub (pv 0) pe_int set_list))
      (pss_one (ps_ret (pv 2))))) pss_nil)
      (pss_cons (ps_asg (pe_op op_add (pe_ix ix_list (pv 0) pe_int (fun _ _ => rfl)) pe_int) (pg_sub (pv 0) pe_int set_list))
      (pss_cons (ps_set (i := 3) sc__law_draw.nd rfl (Or.inl rfl) (pe_op op_mod (pe_callTy call_int1 (by rfl) B.b_int (by decide +kernel) (pa_cons (pe_op op_mul (pe_op op_add (pe_op op_add (pe_ix ix_list (pv 0) pe_int (fun _ _ => rfl)) (pe_op op_mul pe_int (pe_ix ix_list (pv 0) pe_int (fun _ _ => rfl)))) pe_int) pe_int) pa_nil)) pe_int))
      (pss_cons (ps_set (i := 3) sc__law_draw.nd rfl (Or.inl rfl) (pe_op op_mod (pe_callTy call_int1 (by rfl) B.b_int (by decide +kernel) (pa_cons (pe_op op_mul (pv 3) (pe_op op_add (pe_op op_fdiv (pv 3) pe_int) pe_int)) pa_nil)) pe_int))
      (pss_one (ps_ret (pe_op op_mod (pe_callTy call_int1 (by rfl) B.b_int (by decide +kernel) (pa_cons (pe_op op_mod (pe_callTy call_int1 (by rfl) B.b_int (by decide +kernel) (pa_cons (pe_op op_mul (pv 3) (pe_op op_add (pe_op op_fdiv (pv 3) pe_int) pe_int)) pa_nil)) pe_int) pa_nil)) (pv 1)))))))), ?_⟩
    have hL : SqL K H l [.int a, .int b, .int c] := SqL.of hl
    refine ⟨.ref l, rfl, l, _, 0, .int a, rfl, rfl, hL, rfl, a, 0, rfl, rfl, _, rfl, ite2 (fun e => ?_) (fun e => ?_)⟩
    · refine ⟨.ref l, rfl, l, _, 0, .int a, rfl, rfl, hL, rfl, .inl ⟨a, rfl, .int m, rfl, a, m, rfl, rfl, hm, ?_⟩⟩
      refine ⟨.ref l, rfl, l, _, 0, .int a, rfl, rfl, hL, rfl, .int m, rfl, a, m, rfl, rfl, ⟨hm, hm2⟩, .ref l, rfl, l, _, 0, 0, rfl, rfl, hl, rfl, ?_⟩
      exact ⟨.int (a % m), rfl, k _ _ _ (Int.emod_nonneg _ (by omega)) (Int.emod_lt_of_pos _ hm)⟩
    · walk_at "rd"
      exact k _ _ _ (Int.emod_nonneg _ (by omega)) (Int.emod_lt_of_pos _ hm)

end
theorem well_at {c : DC} {H : Hp} {v : V} (hw : ∀ w, c.W w → c.B0 w = none ∧ IsWell c H w) (r : RepV c c.B0 H v .well) : ∃ l, v = .ref l ∧ c.W l ∧ ¬ c.T l ∧ Well H l := by
  obtain ⟨w, e, h1, h2⟩ := r
  refine ⟨w, e, h1, h2, ?_⟩
  rcases (hw w h1).2 with ⟨t, _⟩ | ⟨_, i, j, k, z⟩
  · exact absurd t h2
  · exact ⟨i, j, k, z⟩
/-- the well has turned -/
theorem st1_more {c : DC} {H H' : Hp} {l : Addr} (hw : ∀ w, c.W w → c.B0 w = none ∧ IsWell c H w) (hl : c.W l) (ht : ¬ c.T l) (st : St1 l H H') : (∀ b o, H b = some o → ¬ c.W b → H' b = some o) ∧ ∀ w, c.W w → IsWell c H' w := by
  refine ⟨fun b o z n => st.but b o z fun e => n (by rw [e]; exact hl), fun w h => ?_⟩
  by_cases e : w = l
  · subst e
    obtain ⟨i, j, k, z⟩ := st.well
    exact .inr ⟨ht, i, j, k, z⟩
  · refine (hw w h).2.keep fun b o z q => st.but b o z fun e2 => ?_
    rcases q with q | q
    · exact e (q.symm.trans e2)
    · obtain ⟨i, j, k, zl⟩ : ∃ i j k : Int, H l = some (.lst [.int i, .int j, .int k]) := by
        rcases (hw l hl).2 with ⟨t, _⟩ | ⟨_, z⟩
        · exact absurd t ht
        · exact z
      rw [e2, zl] at z
      cases z
      exact q _ rfl
theorem same_more {c : DC} {H H' : Hp} (hw : ∀ w, c.W w → c.B0 w = none ∧ IsWell c H w) (s : Same H H') : (∀ b o, H b = some o → ¬ c.W b → H' b = some o) ∧ ∀ w, c.W w → IsWell c H' w :=
  ⟨fun b o z _ => s _ _ z, fun w h => (hw w h).2.keep fun _ _ z _ => s _ _ z⟩
theorem ad_draw {C : Addr} : ∀ vs H Q E, spD C 2 tdDraw vs H Q E → spDraw vs H Q E := fun vs H Q E h => by
  obtain ⟨c, xs, Z, hC, h0, hv, hx, hr, hB, mo, hw, hZ, m, rfl, m0, m1, k⟩ := spD_old h
  obtain ⟨v1, v2, rfl⟩ := len2 (x := .well) (y := .well) (by rw [hv]; rfl)
  obtain ⟨l, rfl, wl, tl, hwl⟩ := well_at hw (hr (v1, .well) (by simp))
  have e2 : v2 = .int m := hr (v2, .d (.int m)) (by simp)
  subst e2
  refine ⟨l, m, rfl, hwl, m0, m1, fun n H' n0 n1 st => ?_⟩
  obtain ⟨a, b⟩ := st1_more hw wl tl st
  obtain ⟨B', f, _, _, _⟩ := mo H' a b
  exact k n n0 n1 _ H' B' f rfl

section
variable {P : Program} {w : World} {K : PySem.W.Frag} {mg : Str → Option Value} {base : Heap} {C f fD : Addr} {fd dD : FuncData}
abbrev s__law_classes : Stmt := topS 40
theorem sc__law_classes : FnScope ["_law_well", "_law_most", "_law_wide", "_law_one"] ["_law_well", "_law_most", "_law_wide"] (defScope s__law_classes) := ⟨rfl, rfl, rfl, by decide +kernel, rfl, by decide +kernel, by decide +kernel⟩
theorem ok_law_classes (F : Fun K "_law_classes" "_law_classes" s__law_classes f fd) (B : Bt mg) (BL : BL mg)
    (G : FnOk P w K mg base CX0 1 fD dD ["_law_well", "_law_limit"] spDraw) (m : mg "_law_draw" = some (.ref fD)) (k : PySem.W.keepIn K (.ref fD) = true) (b : Binds K dD ["_law_well", "_law_limit"] []) :
    FnOk P w K mg base CX0 2 f fd ["_law_well", "_law_most", "_law_wide"] (spD C 3 tdDrC) := by
  refine fn_spec (F.ok sc__law_classes (fun vs H Q E h => spD_len vs H Q E h) (fun cdv A outer s H vs Q E hr h => fn_go (k := 1) h rfl (fun c Z hC hZ => (pds_one (pds_ret (pd_lc (own := [("_law_one", 3)]) (p := (.nm 3)) (by rfl) sc__law_classes.nd (pdi_range1 (by rfl) BL.b_range (pda_cons (pd_op os_add pd_int (pd_callN (G.imp (ad_draw (C := C))) mf_draw hC (hr.mono (by decide)) rfl m k b pass0 (pda_cons (pdv (pv 0)) (pda_cons (pdv (pv 1)) pda_nil)))) pda_nil)) (blkOk_by (own := [("_law_one", 3)]) (N := ["_law_well", "_law_most", "_law_wide", "_law_one"]) (sc := defScope s__law_classes) (by decide +kernel)) (by rfl) (fun _ _ _ _ _ => (pg_name (i := 3) sc__law_classes.nd rfl (Or.inl rfl))) (fun _ _ _ _ _ => pdts_nil) (fun _ _ _ _ _ => (pd_tup (pda_cons (pd_op os_add pd_int (pd_callN (G.imp (ad_draw (C := C))) mf_draw hC (hr.mono (by decide)) rfl m k b pass0 (pda_cons (pdv (pv 0)) (pda_cons (pdv (pv 2)) pda_nil)))) (pda_cons (pd_op os_add pd_int (pd_callN (G.imp (ad_draw (C := C))) mf_draw hC (hr.mono (by decide)) rfl m k b pass0 (pda_cons (pdv (pv 0)) (pda_cons (pdv (pv 2)) pda_nil)))) pda_nil)))))))))) ?_
  rintro xs Q Z ⟨n, mm, rfl, n1, n6, m1, m60, k⟩
  refine ⟨n, rfl, by omega, by omega, fun j j0 j1 => ⟨rfl, ?_⟩⟩
  refine ⟨⟨by omega, by omega⟩, ?_⟩
  refine ⟨fun i acc r => ∃ qs : List (Int × Int), acc = qs.map dPair ∧ qs.length = i ∧ (∀ q ∈ qs, (1 ≤ q.1 ∧ q.1 ≤ mm) ∧ 1 ≤ q.2 ∧ q.2 ≤ mm) ∧ r = _, ⟨[], rfl, rfl, (fun q hq => by cases hq), rfl⟩, ?_, ?_⟩
  · rintro i d acc r hi ⟨qs, rfl, hl, hg, rfl⟩
    have hi6 : i < 6 := by
      have := (List.getElem?_eq_some_iff.mp hi).1
      unfold rngD at this
      rw [List.length_map, List.length_range] at this
      omega
    refine ⟨_, rfl, ?_⟩
    refine ⟨mm, rfl, by omega, by omega, fun a a0 a1 => ⟨rfl, ?_⟩⟩
    refine ⟨mm, rfl, by omega, by omega, fun b b0 b1 => ⟨rfl, ?_⟩⟩
    refine ⟨Nat.le_of_ble_eq_true rfl, ?_, qs ++ [(1 + a, 1 + b)], ?_, ?_, ?_, rfl⟩
    · rw [List.length_map]
      omega
    · rw [List.map_append]
      rfl
    · rw [List.length_append, List.length_singleton, hl]
    · intro q hq
      rcases List.mem_append.mp hq with hq | hq
      · exact hg q hq
      · rw [List.mem_singleton.mp hq]
        show (1 ≤ 1 + a ∧ 1 + a ≤ mm) ∧ 1 ≤ 1 + b ∧ 1 + b ≤ mm
        omega
  · rintro acc r ⟨qs, rfl, hl, hg, rfl⟩
    unfold rngD at hl
    rw [List.length_map, List.length_range] at hl
    exact ⟨rfl, k qs ⟨by omega, by omega, hg⟩⟩
abbrev s__law_table : Stmt := topS 41
theorem sc__law_table : FnScope ["_law_well", "_law_classes_here", "_law_most", "_law_found", "_law_size", "_law_slots", "_law_many", "_law_low", "_law_page"] ["_law_well", "_law_classes_here", "_law_most"] (defScope s__law_table) := ⟨rfl, rfl, rfl, by decide +kernel, rfl, by decide +kernel, by decide +kernel⟩
theorem ok_law_table (F : Fun K "_law_table" "_law_table" s__law_table f fd) (B : Bt mg) (BL : BL mg)
    (G : FnOk P w K mg base CX0 1 fD dD ["_law_well", "_law_limit"] spDraw) (m : mg "_law_draw" = some (.ref fD)) (k : PySem.W.keepIn K (.ref fD) = true) (b : Binds K dD ["_law_well", "_law_limit"] []) :
    FnOk P w K mg base CX0 2 f fd ["_law_well", "_law_classes_here", "_law_most"] (spD C 3 tdDrT) := by
  refine fn_spec (F.ok sc__law_table (fun vs H Q E h => spD_len vs H Q E h) (fun cdv A outer s H vs Q E hr h => fn_go (k := 6) h rfl (fun c Z hC hZ => (pds_cons (pds_set (i := 3) sc__law_table.nd rfl (Or.inl rfl) (pd_lst pda_nil))
      (pds_cons (pds_for (p := (.tup [(.nm 4), (.nm 5)])) PassesOwn.never rfl (pdi_list (pdv (pv 1))) (pg_tup rfl (pgs_cons (pg_name (i := 4) sc__law_table.nd rfl (Or.inl rfl)) (pgs_cons (pg_name (i := 5) sc__law_table.nd rfl (Or.inr rfl)) pgs_nil)))
      (pds_cons (pds_set (i := 6) sc__law_table.nd rfl (Or.inl rfl) (pd_ix os_ix (pd_lst (pda_cons (pd_callN (G.imp (ad_draw (C := C))) mf_draw hC (hr.mono (by decide)) rfl m k b pass0 (pda_cons (pdv (pv 0)) (pda_cons (pd_op os_add (pdb (pv 2)) pd_int) pda_nil))) (pda_cons pd_int (pda_cons pd_int pda_nil)))) (pd_ix os_ix (pd_lst (pda_cons pd_int (pda_cons pd_int (pda_cons pd_int (pda_cons pd_int pda_nil))))) (pd_callN (G.imp (ad_draw (C := C))) mf_draw hC (hr.mono (by decide)) rfl m k b pass0 (pda_cons (pdv (pv 0)) (pda_cons pd_int pda_nil))) (fun _ _ => rfl)) (fun _ _ => rfl)))
      (pds_cons (pds_set (i := 7) sc__law_table.nd rfl (Or.inr rfl) (pd_ix os_ix (pd_lst (pda_cons pd_int (pda_cons (pdv (pv 5)) pda_nil))) (pd_callN (G.imp (ad_draw (C := C))) mf_draw hC (hr.mono (by decide)) rfl m k b pass0 (pda_cons (pdv (pv 0)) (pda_cons pd_int pda_nil))) (fun _ _ => rfl)))
      (pds_one (pds_app (i := 3) (fun _ h => pe_bm PySem.F.plainAttrs_list PySem.F.slot_list_append PySem.F.type_list_append mt_append (pv 3) (pa_cons h pa_nil)) (pd_callTy cs_tuple (by rfl) B.b_tuple (by decide +kernel) (pda_cons (pd_callB cs_sorted (by rfl) B.b_sorted (by decide +kernel) (pda_cons (pd_lc (own := [("_law_page", 8)]) (p := (.nm 8)) (by rfl) sc__law_table.nd (pdi_range1 (by rfl) BL.b_range (pda_cons (pdv (pv 6)) pda_nil)) (blkOk_by (own := [("_law_page", 8)]) (N := ["_law_well", "_law_classes_here", "_law_most", "_law_found", "_law_size", "_law_slots", "_law_many", "_law_low", "_law_page"]) (sc := defScope s__law_table) (by decide +kernel)) (by rfl) (fun _ _ _ _ _ => (pg_name (i := 8) sc__law_table.nd rfl (Or.inl rfl))) (fun _ _ _ _ _ => pdts_nil) (fun _ _ _ _ _ => (pd_ix os_ix (pd_lst (pda_cons (pdv (pv 7)) (pda_cons (pd_op os_add pd_int (pd_callN (G.imp (ad_draw (C := C))) mf_draw hC (hr.mono (by decide)) rfl m k b pass0 (pda_cons (pdv (pv 0)) (pda_cons (pdv (pv 5)) pda_nil)))) pda_nil))) (pd_callN (G.imp (ad_draw (C := C))) mf_draw hC (hr.mono (by decide)) rfl m k b pass0 (pda_cons (pdv (pv 0)) (pda_cons pd_int pda_nil))) (fun _ _ => rfl)))) pda_nil)) pda_nil)))))))
      (pds_one (pds_ret (pd_callTy cs_tuple (by rfl) B.b_tuple (by decide +kernel) (pda_cons (pdb (pv 3)) pda_nil))))))))) ?_
  rintro xs Q Z ⟨ps, mm, rfl, sz, m1, m60, k⟩
  have n6 := sz.n6
  refine ⟨Nat.le_of_ble_eq_true rfl, rfl, fun i r => ∃ (rows : Rows) (x4 x5 x6 x7 : DV), RwOk (ps.take i) mm rows ∧ r = [.well, .d (.list (ps.map dPair)), .d (.int mm), .own (rows.map dTup), x4, x5, x6, x7, .no], ⟨[], _, _, _, _, ⟨rfl, fun i q ns h1 h2 => by cases h2⟩, rfl⟩, ?_, ?_⟩
  · rintro i d r hi ⟨rows, x4, x5, x6, x7, rw_, rfl⟩
    obtain ⟨q, eq, rfl⟩ : ∃ q, ps[i]? = some q ∧ d = dPair q := by
      rw [List.getElem?_map] at hi
      cases e : ps[i]? with
      | none => rw [e] at hi; cases hi
      | some q => rw [e] at hi; exact ⟨q, rfl, (Option.some.inj hi).symm⟩
    have rg := sz.rg q (List.mem_of_getElem? eq)
    refine ⟨_, rfl, ?_⟩
    refine ⟨mm + 1, rfl, by omega, by omega, fun a a0 a1 => ⟨rfl, ?_⟩⟩
    refine ⟨Nat.le_of_ble_eq_true rfl, Nat.le_of_ble_eq_true rfl, 4, rfl, by decide, by decide, fun b b0 b1 => ⟨rfl, ?_⟩⟩
    obtain ⟨e, he, e3⟩ : ∃ e : Int, atI [PyData.int 0, .int 0, .int 1, .int 2] b = some (.int e) ∧ (e = 0 ∨ e = 1 ∨ e = 2) := by
      have : b = 0 ∨ b = 1 ∨ b = 2 ∨ b = 3 := by omega
      rcases this with rfl | rfl | rfl | rfl
      · exact ⟨0, rfl, .inl rfl⟩
      · exact ⟨0, rfl, .inl rfl⟩
      · exact ⟨1, rfl, .inr (.inl rfl)⟩
      · exact ⟨2, rfl, .inr (.inr rfl)⟩
    obtain ⟨many, hm, n0, n1⟩ : ∃ many : Int, atI [PyData.int a, .int 0, .int 1] e = some (.int many) ∧ 0 ≤ many ∧ many ≤ mm := by
      rcases e3 with rfl | rfl | rfl
      · exact ⟨a, rfl, by omega, by omega⟩
      · exact ⟨0, rfl, by omega, by omega⟩
      · exact ⟨1, rfl, by omega, by omega⟩
    refine mat_at he (mat_at hm ⟨rfl, ?_⟩)
    refine ⟨Nat.le_of_ble_eq_true rfl, 2, rfl, by decide, by decide, fun b2 c0 c1 => ⟨rfl, ?_⟩⟩
    obtain ⟨low, hlow, w0, w1⟩ : ∃ low : Int, atI [PyData.int 1, .int q.2] b2 = some (.int low) ∧ 1 ≤ low ∧ low ≤ q.2 := by
      have : b2 = 0 ∨ b2 = 1 := by omega
      rcases this with rfl | rfl
      · exact ⟨1, rfl, by omega, by omega⟩
      · exact ⟨q.2, rfl, by omega, by omega⟩
    refine mat_at hlow ⟨rfl, ?_⟩
    refine ⟨⟨by omega, by omega⟩, fun i2 acc r2 => ∃ vs : List Int, acc = vs.map PyData.int ∧ vs.length = i2 ∧ (∀ v ∈ vs, 1 ≤ v ∧ v ≤ q.2) ∧ r2 = _, ⟨[], rfl, rfl, (fun _ h => nomatch h), rfl⟩, ?_, ?_⟩
    · rintro i2 d acc r2 hi2 ⟨vs, rfl, hl, hg, rfl⟩
      have lt := (List.getElem?_eq_some_iff.mp hi2).1
      rw [rngD_len] at lt
      refine ⟨_, rfl, ?_⟩
      refine ⟨q.2, rfl, by omega, by omega, fun x x0 x1 => ⟨rfl, ?_⟩⟩
      refine ⟨Nat.le_of_ble_eq_true rfl, 2, rfl, by decide, by decide, fun b3 d0 d1 => ⟨rfl, ?_⟩⟩
      obtain ⟨v, hv, v0, v1⟩ : ∃ v : Int, atI [PyData.int low, .int (1 + x)] b3 = some (.int v) ∧ 1 ≤ v ∧ v ≤ q.2 := by
        have : b3 = 0 ∨ b3 = 1 := by omega
        rcases this with rfl | rfl
        · exact ⟨low, rfl, by omega, by omega⟩
        · exact ⟨1 + x, rfl, by omega, by omega⟩
      refine mat_at hv ?_
      refine ⟨by rw [List.length_map]; omega, vs ++ [v], by rw [List.map_append]; rfl, by rw [List.length_append, List.length_singleton, hl], fun z hz => ?_, rfl⟩
      rcases List.mem_append.mp hz with hz | hz
      · exact hg z hz
      · rw [List.mem_singleton.mp hz]
        exact ⟨v0, v1⟩
    · rintro acc r2 ⟨vs, rfl, hl, hg, rfl⟩
      rw [rngD_len] at hl
      refine ints_on ?_
      refine ⟨by rw [List.length_map]; have := rw_.1; rw [List.length_take] at this; omega, rows ++ [srtI vs], .d (.int q.1), .d (.int q.2), .d (.int many), .d (.int low), rw_.snoc eq (asc_srt hg) (by rw [srt_length]; omega), ?_⟩
      rw [List.map_append]
      rfl
  · rintro r ⟨rows, x4, x5, x6, x7, rw_, rfl⟩
    have e : (ps.map dPair).length = ps.length := List.length_map _
    rw [e, List.take_of_length_le (Nat.le_refl _)] at rw_
    exact ⟨rfl, k rows rw_⟩
abbrev s__law_pins : Stmt := topS 42
theorem sc__law_pins : FnScope ["_law_well", "_law_table_here", "_law_found", "_law_counts", "_law_some", "_law_count"] ["_law_well", "_law_table_here"] (defScope s__law_pins) := ⟨rfl, rfl, rfl, by decide +kernel, rfl, by decide +kernel, by decide +kernel⟩
theorem ok_law_pins (F : Fun K "_law_pins" "_law_pins" s__law_pins f fd) (B : Bt mg) (BL : BL mg)
    (G : FnOk P w K mg base CX0 1 fD dD ["_law_well", "_law_limit"] spDraw) (m : mg "_law_draw" = some (.ref fD)) (k : PySem.W.keepIn K (.ref fD) = true) (b : Binds K dD ["_law_well", "_law_limit"] []) :
    FnOk P w K mg base CX0 2 f fd ["_law_well", "_law_table_here"] (spD C 2 tdDrP) := by
  refine fn_spec (F.ok sc__law_pins (fun vs H Q E h => spD_len vs H Q E h) (fun cdv A outer s H vs Q E hr h => fn_go (k := 4) h rfl (fun c Z hC hZ => (pds_cons (pds_if (pdt_cmp (os_eq hr.units) (pd_callN (G.imp (ad_draw (C := C))) mf_draw hC (hr.mono (by decide)) rfl m k b pass0 (pda_cons (pdv (pv 0)) (pda_cons pd_int pda_nil))) pd_int (nomark _)) (pds_one (pds_ret (pd_callTy cs_tuple (by rfl) B.b_tuple (by decide +kernel) (pda_cons (pd_lc (own := [("_law_counts", 3)]) (p := (.nm 3)) (by rfl) sc__law_pins.nd (pdi_tup (pdv (pv 1))) (blkOk_by (own := [("_law_counts", 3)]) (N := ["_law_well", "_law_table_here", "_law_found", "_law_counts", "_law_some", "_law_count"]) (sc := defScope s__law_pins) (by decide +kernel)) (by rfl) (fun _ _ _ _ _ => (pg_name (i := 3) sc__law_pins.nd rfl (Or.inl rfl))) (fun _ _ _ _ _ => pdts_nil) (fun _ _ _ _ _ => (pd_tup pda_nil))) pda_nil)))) pds_nil)
      (pds_cons (pds_set (i := 2) sc__law_pins.nd rfl (Or.inl rfl) (pd_lst pda_nil))
      (pds_cons (pds_for (p := (.nm 3)) PassesOwn.never rfl (pdi_tup (pdv (pv 1))) (pg_name (i := 3) sc__law_pins.nd rfl (Or.inl rfl))
      (pds_cons (pds_set (i := 4) sc__law_pins.nd rfl (Or.inl rfl) (pd_cut (pdb (pv 3)) (pdo_some (pd_callN (G.imp (ad_draw (C := C))) mf_draw hC (hr.mono (by decide)) rfl m k b pass0 (pda_cons (pdv (pv 0)) (pda_cons (pd_op os_add (pd_callB cs_len (by rfl) B.b_len (by decide +kernel) (pda_cons (pdb (pv 3)) pda_nil)) pd_int) pda_nil)))) pdo_none))
      (pds_one (pds_app (i := 2) (fun _ h => pe_bm PySem.F.plainAttrs_list PySem.F.slot_list_append PySem.F.type_list_append mt_append (pv 2) (pa_cons h pa_nil)) (pd_callTy cs_tuple (by rfl) B.b_tuple (by decide +kernel) (pda_cons (pd_callB cs_sorted (by rfl) B.b_sorted (by decide +kernel) (pda_cons (pd_lc (own := [("_law_count", 5)]) (p := (.nm 5)) (by rfl) sc__law_pins.nd (pdi_tup (pdv (pv 4))) (blkOk_by (own := [("_law_count", 5)]) (N := ["_law_well", "_law_table_here", "_law_found", "_law_counts", "_law_some", "_law_count"]) (sc := defScope s__law_pins) (by decide +kernel)) (by rfl) (fun _ _ _ _ _ => (pg_name (i := 5) sc__law_pins.nd rfl (Or.inl rfl))) (fun _ _ _ _ _ => pdts_nil) (fun _ _ _ _ _ => (pd_op os_add pd_int (pd_callN (G.imp (ad_draw (C := C))) mf_draw hC (hr.mono (by decide)) rfl m k b pass0 (pda_cons (pdv (pv 0)) (pda_cons (pdv (pv 5)) pda_nil)))))) pda_nil)) pda_nil))))))
      (pds_one (pds_ret (pd_callTy cs_tuple (by rfl) B.b_tuple (by decide +kernel) (pda_cons (pdb (pv 2)) pda_nil)))))))))) ?_
  rintro xs Q Z ⟨rows, rfl, hl, hr, k⟩
  refine ⟨2, rfl, by decide, by decide, fun j j0 j1 => ⟨rfl, ?_⟩⟩
  have get : ∀ {i : Nat} {d : PyData}, (rows.map dTup)[i]? = some d → ∃ ns, rows[i]? = some ns ∧ d = dTup ns := fun {i d} hi => by
    rw [List.getElem?_map] at hi
    cases e : rows[i]? with
    | none => rw [e] at hi; cases hi
    | some q => rw [e] at hi; exact ⟨q, rfl, (Option.some.inj hi).symm⟩
  cases h2 : decide (j = 0) with
  | true =>
    refine ifA (b := false ^^ decide (j = 0)) (by rw [h2]; rfl) ?_
    refine ⟨fun i acc r => acc = ((List.replicate rows.length ([] : List Int)).take i).map dTup ∧ r = [.well, .d (dRows rows), .no, .no, .no, .no], ⟨rfl, rfl⟩, ?_, ?_⟩
    · rintro i d acc r hi ⟨rfl, rfl⟩
      have lt := (List.getElem?_eq_some_iff.mp hi).1
      rw [List.length_map] at lt
      have ho : (List.replicate rows.length ([] : List Int))[i]? = some [] := by
        rw [List.getElem?_replicate, if_pos lt]
      have tl := take_lt (xs := List.replicate rows.length ([] : List Int)) (n := 1000) (by rw [List.length_replicate]; exact hl) i
      refine ⟨_, rfl, Nat.le_of_ble_eq_true rfl, by rw [List.length_map]; omega, ?_, rfl⟩
      rw [← take_next ho, List.map_append]
      rfl
    · rintro acc r ⟨rfl, rfl⟩
      rw [List.length_map, List.take_of_length_le (by rw [List.length_replicate]; exact Nat.le_refl _)]
      exact ⟨rfl, k _ (PnsOk.none rows)⟩
  | false =>
    refine ifB (b := false ^^ decide (j = 0)) (by rw [h2]; rfl) ?_
    refine ⟨Nat.le_of_ble_eq_true rfl, rfl, fun i r => ∃ (pr : Rows) (x3 x4 : DV), PnsOk (rows.take i) pr ∧ r = [.well, .d (dRows rows), .own (pr.map dTup), x3, x4, .no], ⟨[], _, _, .nil, rfl⟩, ?_, ?_⟩
    · rintro i d r hi ⟨pr, x3, x4, pk, rfl⟩
      obtain ⟨ns, en, rfl⟩ := get hi
      obtain ⟨sn, ln, rn⟩ := hr ns (List.mem_of_getElem? en)
      have lt := (List.getElem?_eq_some_iff.mp en).1
      have le : (dInts ns).length = ns.length := List.length_map _
      refine ⟨_, rfl, ?_⟩
      refine ⟨((dInts ns).length : Int) + 1, rfl, by omega, by omega, fun a a0 a1 => ⟨rfl, ?_⟩⟩
      have ec : DL.cutD (dInts ns) (some a) none = (ns.drop a.toNat).map PyData.int := by
        rw [cutD_from a0 (by omega), dInts, List.map_drop]
      refine ⟨rfl, ?_⟩
      dsimp only
      refine seq_env (ρ' := [.well, .d (dRows rows), .own (pr.map dTup), .d (dTup ns), .d (.tuple ((ns.drop a.toNat).map PyData.int)), .no]) (by rw [← ec]; rfl) ?_
      refine ⟨fun i2 acc r2 => ∃ vs : List Int, acc = vs.map PyData.int ∧ Paired (fun v c => v ≤ c) vs ((ns.drop a.toNat).take i2) ∧ (∀ v ∈ vs, 1 ≤ v) ∧ r2 = _, ⟨[], rfl, .nil, (fun _ h => nomatch h), rfl⟩, ?_, ?_⟩
      · rintro i2 d acc r2 hi2 ⟨vs, rfl, pv, hg, rfl⟩
        obtain ⟨c, ec2, rfl⟩ := dI_get (ns := ns.drop a.toNat) hi2
        have hc := rn c (List.mem_of_mem_drop (List.mem_of_getElem? ec2))
        have lv : vs.length ≤ ns.length := by
          rw [Paired.length pv, List.length_take, List.length_drop]
          omega
        refine ⟨_, rfl, ?_⟩
        refine ⟨c, rfl, by omega, by omega, fun x x0 x1 => ⟨rfl, ?_⟩⟩
        refine ⟨by rw [List.length_map]; omega, vs ++ [1 + x], by rw [List.map_append]; rfl, ?_, fun z hz => ?_, rfl⟩
        · rw [← take_next ec2]
          exact MR.Paired.snoc pv (by omega)
        · rcases List.mem_append.mp hz with hz | hz
          · exact hg z hz
          · rw [List.mem_singleton.mp hz]
            omega
      · rintro acc r2 ⟨vs, rfl, pv, hg, rfl⟩
        rw [List.length_map, List.take_of_length_le (Nat.le_refl _)] at pv
        refine ints_on ?_
        have sd := srtI_ok vs
        have und := srt_under sd.1 sd.2 (sn.drop (i := a.toNat)) pv
        have lp : pr.length = i := by
          have := Paired.length pk
          rw [List.length_take] at this
          omega
        refine ⟨by rw [List.length_map]; omega, pr ++ [srtI vs], .d (dTup ns), .d (.tuple ((ns.drop a.toNat).map PyData.int)), ?_, ?_⟩
        · rw [← take_next en]
          refine MR.Paired.snoc pk ⟨sd.2, fun z hz => ⟨hg z (sd.1.mem_iff.mp hz), ?_⟩, hcB_drop (d := a.toNat) (by omega) und⟩
          obtain ⟨i3, h3⟩ := List.mem_iff_getElem?.mp (sd.1.mem_iff.mp hz)
          have lt3 := (List.getElem?_eq_some_iff.mp h3).1
          rw [Paired.length pv] at lt3
          have e4 := List.getElem?_eq_getElem lt3
          exact ⟨_, List.mem_of_mem_drop (List.mem_of_getElem? e4), MR.Paired.get' pv h3 e4⟩
        · rw [List.map_append]
          rfl
    · rintro r ⟨pr, x3, x4, pk, rfl⟩
      rw [List.length_map, List.take_of_length_le (Nat.le_refl _)] at pk
      exact ⟨rfl, k pr pk⟩
abbrev s__law_live : Stmt := topS 43
theorem sc__law_live : FnScope ["_law_classes_here", "_law_table_here", "_law_size", "_law_slots", "_law_counts"] ["_law_classes_here", "_law_table_here"] (defScope s__law_live) := ⟨rfl, rfl, rfl, by decide +kernel, rfl, by decide +kernel, by decide +kernel⟩
theorem ok_law_live (F : Fun K "_law_live" "_law_live" s__law_live f fd) (B : Bt mg) (BL : BL mg) :
    FnOk P w K mg base CX0 2 f fd ["_law_classes_here", "_law_table_here"] (spD C 2 tdDrL) := by
  refine fn_spec (F.ok sc__law_live (fun vs H Q E h => spD_len vs H Q E h) (fun cdv A outer s H vs Q E hr h => fn_go (k := 3) h rfl (fun c Z hC hZ => (pds_one (pds_ret (pd_callB (cs_sum rfl) (by rfl) B.b_sum (by decide +kernel) (pda_cons (pd_lc (own := [("_law_counts", 4), ("_law_size", 2), ("_law_slots", 3)]) (p := (.tup [(.tup [(.nm 2), (.nm 3)]), (.nm 4)])) (by rfl) sc__law_live.nd (pdi_zipLT (by rfl) BL.b_zip (pda_cons (pdv (pv 0)) (pda_cons (pdv (pv 1)) pda_nil))) (blkOk_by (own := [("_law_counts", 4), ("_law_size", 2), ("_law_slots", 3)]) (N := ["_law_classes_here", "_law_table_here", "_law_size", "_law_slots", "_law_counts"]) (sc := defScope s__law_live) (by decide +kernel)) (by rfl) (fun _ _ _ _ _ => (pg_tup rfl (pgs_cons (pg_tup rfl (pgs_cons (pg_name (i := 2) sc__law_live.nd rfl (Or.inl rfl)) (pgs_cons (pg_name (i := 3) sc__law_live.nd rfl (Or.inl rfl)) pgs_nil))) (pgs_cons (pg_name (i := 4) sc__law_live.nd rfl (Or.inl rfl)) pgs_nil)))) (fun _ _ _ _ _ => pdts_nil) (fun _ _ _ _ _ => (pd_op os_mul (pdv (pv 2)) (pd_callB (cs_sum rfl) (by rfl) B.b_sum (by decide +kernel) (pda_cons (pdb (pv 4)) pda_nil))))) pda_nil))))))) ?_
  rintro xs Q Z ⟨ps, rows, rfl, sz, hl, k⟩
  refine ⟨by rw [List.length_map, List.length_map]; exact hl.symm, fun i acc r => acc = (((ps.zip rows).map fun p => p.1.1 * p.2.sum).take i).map PyData.int ∧ r = _, ⟨rfl, rfl⟩, ?_, ?_⟩
  · rintro i d acc r hi ⟨rfl, rfl⟩
    obtain ⟨x, y, e1, e2, e3, rfl⟩ := zip_back hi
    have rg := sz.rg x (List.mem_of_getElem? e1)
    have n6 := sz.n6
    have ho : ((ps.zip rows).map fun p => p.1.1 * p.2.sum)[i]? = some (x.1 * y.sum) := by
      rw [List.getElem?_map, e3]
      rfl
    have tl := take_lt (xs := (ps.zip rows).map fun p => p.1.1 * p.2.sum) (n := 1000) (by rw [List.length_map, List.length_zip]; omega) i
    refine ⟨_, rfl, ?_⟩
    refine ints_onS (x := .bor (dI y)) (ns := y) rfl ⟨.inl ⟨by omega, by omega⟩, ?_⟩
    refine ⟨by rw [List.length_map]; omega, ?_, rfl⟩
    rw [← take_next ho, List.map_append]
    rfl
  · rintro acc r ⟨rfl, rfl⟩
    refine ints_on ?_
    rw [zipD_len (by rw [List.length_map, List.length_map]; exact hl.symm), List.length_map, List.take_of_length_le (by rw [List.length_map, List.length_zip]; omega)]
    exact ⟨rfl, k⟩
end
end K20
set_option Elab.async false
set_option linter.all false
set_option maxRecDepth 100000
set_option maxHeartbeats 4000000
/-! what least_limit tells is what check_limit takes -/
namespace MR
open PySem PySem.Spec PyProof.Rows L2 XV SL DL
theorem perm_sum {xs ys : List Int} (p : xs.Perm ys) : xs.sum = ys.sum := by
  induction p with
  | nil => rfl
  | cons x _ ih => rw [List.sum_cons, List.sum_cons, ih]
  | swap x y l =>
    rw [List.sum_cons, List.sum_cons, List.sum_cons, List.sum_cons]
    omega
  | trans _ _ a b => exact a.trans b
theorem perm_minI {xs ys : List Int} (p : xs.Perm ys) : minI xs = minI ys := by
  by_cases h : xs = []
  · subst h
    rw [p.nil_eq]
  · have h2 : ys ≠ [] := fun e => h (by rw [e] at p; exact p.eq_nil)
    obtain ⟨a1, a2⟩ := minI_ok h
    obtain ⟨b1, b2⟩ := minI_ok h2
    have := a2 _ (p.mem_iff.mpr b1)
    have := b2 _ (p.mem_iff.mp a1)
    omega
theorem perm_lastB {cs : List Cost} {fs : List Int} {ns ms : List Nat} (p : ns.Perm ms) : lastB cs fs ns = lastB cs fs ms := by
  unfold lastB fb
  rw [perm_sum (p.map (hold cs fs)), perm_minI (p.map (gb cs fs))]
theorem grow_nodup (fs : List Int) : (grow fs).Nodup := List.Nodup.sublist List.filter_sublist List.nodup_range
theorem srt_nodup (cs : List Cost) (fs : List Int) : (srt cs fs).Nodup := (srt_perm cs fs).nodup_iff.mpr (grow_nodup fs)
theorem least_form (cs : List Cost) (fs : List Int) (held : Int) : (leastS cs fs held = (held, [])) ∨ ∃ i, i < (srt cs fs).length ∧ leastS cs fs held = (lastB cs fs ((srt cs fs).take (i + 1)), (srt cs fs).take (i + 1)) := by
  unfold leastS
  have key : ∀ (is : List Nat) (a : Int × List Nat), (∀ i ∈ is, i < (srt cs fs).length) → (a = (held, []) ∨ ∃ i, i < (srt cs fs).length ∧ a = (lastB cs fs ((srt cs fs).take (i + 1)), (srt cs fs).take (i + 1))) →
      (is.foldl (leastStep cs fs (srt cs fs)) a = (held, []) ∨ ∃ i, i < (srt cs fs).length ∧ is.foldl (leastStep cs fs (srt cs fs)) a = (lastB cs fs ((srt cs fs).take (i + 1)), (srt cs fs).take (i + 1))) := by
    intro is
    induction is with
    | nil => intro a _ h; exact h
    | cons i is ih =>
      intro a hi h
      rw [List.foldl_cons]
      refine ih _ (fun j hj => hi j (List.mem_cons_of_mem _ hj)) ?_
      unfold leastStep
      split
      · exact .inr ⟨i, hi i List.mem_cons_self, rfl⟩
      · exact h
  exact key _ _ (fun i hi => List.mem_range.mp hi) (.inl rfl)
theorem toI_nat (ns : List Nat) : (toI ns).map Int.toNat = ns := by
  unfold toI
  rw [List.map_map]
  exact List.map_id'' (fun n => Int.toNat_natCast n) ns
theorem nats_int (ms : List Int) : natsOf (ms.map .int) = ms.map Int.toNat := by
  unfold natsOf
  rw [List.map_map]
  rfl
theorem srtI_nats (ns : List Nat) : ((srtI (toI ns)).map Int.toNat).Perm ns := by
  have := ((srtI_ok (toI ns)).1).map Int.toNat
  rw [toI_nat] at this
  exact this
theorem badN_ok {fs : List Int} : ∀ {ms : List Int} {seen : List Nat}, (∀ i ∈ ms, 0 ≤ i ∧ i.toNat ∈ grow fs ∧ i.toNat ∉ seen) → (ms.map Int.toNat).Nodup → badN fs seen (ms.map .int) = none
  | [], _, _, _ => rfl
  | i :: ms, seen, h, nd => by
    rw [List.map_cons, List.nodup_cons] at nd
    have a := h i List.mem_cons_self
    show (if 0 ≤ i ∧ i.toNat ∈ grow fs ∧ i.toNat ∉ seen then (badN fs (seen ++ [i.toNat]) (ms.map .int)).map (· + 1) else some 0) = none
    rw [if_pos a, badN_ok (seen := seen ++ [i.toNat]) (fun j hj => ?_) nd.2]
    · rfl
    · have b := h j (List.mem_cons_of_mem _ hj)
      refine ⟨b.1, b.2.1, fun z => ?_⟩
      rcases List.mem_append.mp z with z | z
      · exact b.2.2 z
      · rw [List.mem_singleton] at z
        exact nd.1 (by rw [← z]; exact List.mem_map_of_mem hj)
theorem clD_told {cs : List Cost} {fs : List Int} {held l : Int} {ns : List Nat} (hl : l = (leastS cs fs held).1) (hg : ∀ n ∈ ns, n ∈ grow fs) (nd : ns.Nodup) (he : ns = [] → l = held) (hn : ns ≠ [] → l = lastB cs fs ns) : clD cs fs held (dLim (l, ns)) = none := by
  have pn := srtI_nats ns
  have hb : badN fs [] ((srtI (toI ns)).map .int) = none := by
    refine badN_ok (fun i hi => ?_) (pn.nodup_iff.mpr nd)
    have z := (srtI_ok (toI ns)).1.mem_iff.mp hi
    unfold toI at z
    obtain ⟨n, hn, rfl⟩ := List.mem_map.mp z
    exact ⟨by omega, by rw [Int.toNat_natCast]; exact hg n hn, by simp⟩
  show (match badN fs [] ((srtI (toI ns)).map .int) with
    | some i => some (i : Int)
    | none => _) = none
  rw [hb]
  show (if l < (leastS cs fs held).1 then _ else _) = none
  rw [if_neg (by omega)]
  by_cases e : ns = []
  · have e2 : ((srtI (toI ns)).map PyData.int) = [] := by
      subst e
      have : srtI (toI []) = [] := List.length_eq_zero_iff.mp (srt_length _)
      rw [this]
      rfl
    rw [if_pos e2, if_neg (by rw [he e]; omega)]
  · have e2 : ((srtI (toI ns)).map PyData.int) ≠ [] := fun z => by
      have z := List.map_eq_nil_iff.mp z
      rw [z] at pn
      exact e pn.symm.eq_nil
    rw [if_neg e2, nats_int, perm_lastB pn, if_neg (by rw [hn e]; omega)]
theorem clD_least (cs : List Cost) (fs : List Int) (held : Int) : clD cs fs held (dLim (leastS cs fs held)) = none := by
  rcases least_form cs fs held with h | ⟨i, hi, h⟩
  · rw [h]
    exact clD_told (by rw [h]) (fun n hn => nomatch hn) .nil (fun _ => rfl) (fun z => absurd rfl z)
  · rw [h]
    have ne : (srt cs fs).take (i + 1) ≠ [] := fun z => by
      have := congrArg List.length z
      rw [List.length_take] at this
      simp only [List.length_nil] at this
      omega
    exact clD_told (by rw [h]) (fun n hn => (srt_perm cs fs).mem_iff.mp (List.mem_of_mem_take hn)) (List.Nodup.sublist (List.take_sublist _ _) (srt_nodup cs fs)) (fun z => absurd z ne) (fun _ => rfl)
/-! ### live bytes of what is drawn -/
theorem sum_le {hi : Int} : ∀ {ns : List Int}, (∀ n ∈ ns, 0 ≤ n ∧ n ≤ hi) → 0 ≤ ns.sum ∧ ns.sum ≤ hi * ns.length
  | [], _ => by
    rw [List.sum_nil, List.length_nil]
    omega
  | n :: ns, h => by
    have i := sum_le fun m hm => h m (List.mem_cons_of_mem _ hm)
    have a := h n List.mem_cons_self
    rw [List.sum_cons, List.length_cons]
    have e : hi * ((ns.length + 1 : Nat) : Int) = hi * ns.length + hi := by
      rw [Int.natCast_add, Int.mul_add, Int.natCast_one, Int.mul_one]
    rw [e]
    omega
theorem lv_bound {a b m : Int} (a0 : 0 ≤ a) (b0 : 0 ≤ b) (m0 : 0 ≤ m) : ∀ {ps : PS} {rows : Rows}, (∀ q ∈ ps, (0 ≤ q.1 ∧ q.1 ≤ a) ∧ q.2 ≤ b) → RwOk ps m rows → 0 ≤ lv ps rows ∧ lv ps rows ≤ a * (b * m) * ps.length
  | [], rows, _, _ => by
    show (0 : Int) ≤ 0 ∧ (0 : Int) ≤ a * (b * m) * 0
    omega
  | q :: ps, [], _, h => by cases h.1
  | q :: ps, ns :: rows, hq, h => by
    have hr : RwOk ps m rows := ⟨by simpa using h.1, fun i p ms h1 h2 => h.2 (i + 1) p ms (by simpa using h1) (by simpa using h2)⟩
    have i := lv_bound a0 b0 m0 (fun p hp => hq p (List.mem_cons_of_mem _ hp)) hr
    obtain ⟨as, ln⟩ := h.2 0 q ns rfl rfl
    have hq := hq q List.mem_cons_self
    have s := sum_le (hi := b) fun n hn => by have := as.2 n hn; omega
    have s2 : b * (ns.length : Int) ≤ b * m := Int.mul_le_mul_of_nonneg_left ln b0
    have s3 : q.1 * ns.sum ≤ a * (b * m) := Int.mul_le_mul hq.1.2 (by omega) s.1 a0
    have s4 : 0 ≤ q.1 * ns.sum := Int.mul_nonneg hq.1.1 s.1
    unfold lv at i ⊢
    rw [List.zip_cons_cons, List.map_cons, List.sum_cons, List.length_cons]
    have e : a * (b * m) * ((ps.length + 1 : Nat) : Int) = a * (b * m) * ps.length + a * (b * m) := by
      rw [Int.natCast_add, Int.mul_add, Int.natCast_one, Int.mul_one]
    rw [e]
    show 0 ≤ q.1 * ns.sum + _ ∧ q.1 * ns.sum + _ ≤ _
    omega
theorem RwOk.tab {ps : PS} {m L : Int} {rows : Rows} (h : RwOk ps m rows) (hp : SL.pgs rows ≤ 60) (hl : lv ps rows ≤ L) : TabOk ps L rows := ⟨h.1, fun i q ns h1 h2 => (h.2 i q ns h1 h2).1, hp, hl⟩
theorem RwOk.items {ps : PS} {m : Int} {rows : Rows} (h : RwOk ps m rows) {w : Int} (hw : ∀ q ∈ ps, q.2 ≤ w) : ∀ ns ∈ rows, ns.Pairwise (· ≤ ·) ∧ (ns.length : Int) ≤ m ∧ ∀ n ∈ ns, 1 ≤ n ∧ n ≤ w := fun ns hn => by
  obtain ⟨i, hi⟩ := List.mem_iff_getElem?.mp hn
  have lt := (List.getElem?_eq_some_iff.mp hi).1
  have lt2 : i < ps.length := by rw [← h.1]; exact lt
  obtain ⟨a, b⟩ := h.2 i ps[i] ns (List.getElem?_eq_getElem lt2) hi
  refine ⟨a.1, b, fun n hn => ?_⟩
  have := a.2 n hn
  have := hw _ (List.getElem_mem lt2)
  omega
/-! ### data that can be laid -/
theorem lay_flat {ds : List PyData} (h : ∀ d ∈ ds, d = .none ∨ ∃ i, d = .int i) : PyData.canLayAll0 ds = true ∧ PyData.depthAll ds ≤ 1 ∧ plainL ds = true := by
  induction ds with
  | nil => exact ⟨by simp [PyData.canLayAll0], by simp [PyData.depthAll], rfl⟩
  | cons d ds ih =>
    obtain ⟨h1, h2, h3⟩ := ih fun e he => h e (List.mem_cons_of_mem _ he)
    rcases h d List.mem_cons_self with rfl | ⟨i, rfl⟩
    · simp only [PyData.canLayAll0, PyData.depthAll, PyData.depth, PyData.canLay0, h1]
      exact ⟨rfl, by omega, h3⟩
    · simp only [PyData.canLayAll0, PyData.depthAll, PyData.depth, PyData.canLay0, h1]
      exact ⟨rfl, by omega, h3⟩
theorem lay_lim (a : Int × List Nat) : PyData.canLay0 (dLim a) = true ∧ PyData.depth (dLim a) ≤ 4 ∧ plain (dLim a) = true := by
  obtain ⟨h1, h2, h3⟩ := lay_flat (ds := (srtI (toI a.2)).map .int) fun d hd => by
    obtain ⟨i, _, rfl⟩ := List.mem_map.mp hd
    exact .inr ⟨i, rfl⟩
  unfold dLim
  simp only [PyData.canLayAll0, PyData.depthAll, PyData.depth, PyData.canLay0, h1]
  refine ⟨rfl, by omega, ?_⟩
  show (true && ((plainL ((srtI (toI a.2)).map .int)) && true)) = true
  rw [h3]
  rfl
theorem lay_mb (ps : PS) (L : Int) (rows pr : Rows) : PyData.canLayAll0 (mbRow ps L rows pr) = true ∧ PyData.depthAll (mbRow ps L rows pr) ≤ 1 ∧ plainL (mbRow ps L rows pr) = true :=
  lay_flat fun d hd => by
    unfold mbRow at hd
    obtain ⟨i, _, rfl⟩ := List.mem_map.mp hd
    unfold mbOne
    split
    · exact .inl rfl
    · exact .inr ⟨_, rfl⟩
end MR
set_option Elab.async false
set_option linter.all false
set_option maxRecDepth 100000
set_option maxHeartbeats 4000000
/-! the laws' own search for the least limit: over all orders; the order by what is given back is as good as any -/
namespace MR
open PySem PySem.Spec PyProof.Rows L2 XV SL DL
/-- a class with further pages: its number, the bytes it holds then, the bytes it needs first -/
abbrev Job := Int × Int × Int
def dJ (j : Job) : PyData := .tuple [.int j.1, .int j.2.1, .int j.2.2]
def job1 (n : Nat) (q : Int × Int) (ns ms : List Int) : Job := ((n : Int), ((ns.length : Int) - ms.length) * q.1, (((ns.length : Int) - 1) * q.2 + 1) * q.1 - q.1 * ms.sum)
def jobAt (ps : PS) (rows pr : Rows) (n : Nat) : Job := job1 n (ps.getD n (0, 0)) (rows.getD n []) (pr.getD n [])
def jobs (ps : PS) (rows pr : Rows) : List Job := (grow (fur rows pr)).map (jobAt ps rows pr)
/-! ### all orders -/
def insAll {α : Type} (x : α) (l : List α) : List (List α) := (List.range (l.length + 1)).map fun i => l.take i ++ [x] ++ l.drop i
def orders {α : Type} (xs : List α) : List (List α) := xs.foldl (fun acc x => acc.flatMap (insAll x)) [[]]
theorem orders_snoc {α : Type} (xs : List α) (x : α) : orders (xs ++ [x]) = (orders xs).flatMap (insAll x) := by
  unfold orders
  rw [List.foldl_append]
  rfl
theorem insAll_perm {α : Type} {x : α} {l o : List α} (h : o ∈ insAll x l) : o.Perm (l ++ [x]) := by
  unfold insAll at h
  obtain ⟨i, _, rfl⟩ := List.mem_map.mp h
  have e : (l.take i ++ [x] ++ l.drop i).Perm (x :: (l.take i ++ l.drop i)) := by
    rw [List.append_assoc]
    exact List.perm_middle
  rw [List.take_append_drop] at e
  exact e.trans (List.perm_append_singleton x l).symm
theorem insAll_mem {α : Type} {x : α} {a b : List α} : a ++ x :: b ∈ insAll x (a ++ b) := by
  unfold insAll
  refine List.mem_map.mpr ⟨a.length, List.mem_range.mpr (by rw [List.length_append]; omega), ?_⟩
  rw [List.take_left', List.drop_left'] <;> simp
theorem orders_iff {α : Type} : ∀ (n : Nat) (xs : List α), xs.length = n → ∀ o, o ∈ orders xs ↔ o.Perm xs
  | 0, xs, h, o => by
    have e : xs = [] := List.length_eq_zero_iff.mp h
    subst e
    show o ∈ [[]] ↔ _
    rw [List.mem_singleton]
    exact ⟨fun z => by rw [z], fun z => z.eq_nil⟩
  | n + 1, xs, h, o => by
    obtain ⟨ys, x, rfl⟩ : ∃ ys x, xs = ys ++ [x] := by
      have ne : xs ≠ [] := fun z => by rw [z] at h; cases h
      exact ⟨xs.dropLast, xs.getLast ne, (List.dropLast_concat_getLast ne).symm⟩
    have hl : ys.length = n := by
      rw [List.length_append, List.length_singleton] at h
      omega
    rw [orders_snoc]
    constructor
    · intro z
      obtain ⟨l, hl2, ho⟩ := List.mem_flatMap.mp z
      exact (insAll_perm ho).trans (((orders_iff n ys hl l).mp hl2).append_right _)
    · intro z
      have hx : x ∈ o := z.mem_iff.mpr (List.mem_append_right _ (List.mem_singleton.mpr rfl))
      obtain ⟨a, b, rfl⟩ := List.append_of_mem hx
      refine List.mem_flatMap.mpr ⟨a ++ b, (orders_iff n ys hl _).mpr ?_, insAll_mem⟩
      have z2 : (x :: (a ++ b)).Perm (x :: ys) := (List.perm_middle.symm.trans z).trans (List.perm_append_singleton x ys)
      exact List.Perm.cons_inv z2
/-! ### what an order needs -/
/-- the most of the bytes needed, from total t on -/
def need : List Job → Int → Int → Int
  | [], _, m => m
  | j :: js, t, m => need js (t + j.2.1) (max m (t + j.2.2))
theorem need_ge : ∀ (js : List Job) (t m : Int), m ≤ need js t m
  | [], _, _ => Int.le_refl _
  | j :: js, t, m => by
    have := need_ge js (t + j.2.1) (max m (t + j.2.2))
    show m ≤ need js (t + j.2.1) (max m (t + j.2.2))
    omega
theorem need_at : ∀ {a : List Job} {j : Job} {b : List Job} {t m : Int}, t + (a.map fun i => i.2.1).sum + j.2.2 ≤ need (a ++ j :: b) t m
  | [], j, b, t, m => by
    have := need_ge b (t + j.2.1) (max m (t + j.2.2))
    show t + 0 + j.2.2 ≤ need b (t + j.2.1) (max m (t + j.2.2))
    omega
  | i :: a, j, b, t, m => by
    have := need_at (a := a) (j := j) (b := b) (t := t + i.2.1) (m := max m (t + i.2.2))
    show t + (i.2.1 + (a.map fun i => i.2.1).sum) + j.2.2 ≤ need (a ++ j :: b) (t + i.2.1) (max m (t + i.2.2))
    omega
theorem need_le {M : Int} : ∀ {js : List Job} {t m : Int}, m ≤ M → (∀ a j b, js = a ++ j :: b → t + (a.map fun i => i.2.1).sum + j.2.2 ≤ M) → need js t m ≤ M
  | [], _, _, h, _ => h
  | j :: js, t, m, h, k => by
    show need js (t + j.2.1) (max m (t + j.2.2)) ≤ M
    have k0 := k [] j js rfl
    have k0 : t + 0 + j.2.2 ≤ M := k0
    refine need_le (by omega) fun a i b e => ?_
    have := k (j :: a) i b (by rw [e]; rfl)
    have this : t + (j.2.1 + (a.map fun i => i.2.1).sum) + i.2.2 ≤ M := this
    omega
/-- an order of the whole needs what any set of its items needs at the last of them -/
theorem need_set {s : List Job} {o : List Job} {t m v : Int} (hs : s ≠ []) (hsub : ∀ j ∈ s, j ∈ o) (nd : s.Nodup) (ndo : o.Nodup) (hold : ∀ j ∈ o, 0 ≤ j.2.1) (hv : ∀ j ∈ s, v ≤ j.2.2 - j.2.1) : t + (s.map fun i => i.2.1).sum + v ≤ need o t m := by
  -- the last of s in o
  have split : ∀ (o : List Job), (∃ j ∈ s, j ∈ o) → ∃ a j b, o = a ++ j :: b ∧ j ∈ s ∧ ∀ i ∈ b, i ∉ s := by
    intro o
    induction o with
    | nil => rintro ⟨j, _, h⟩; cases h
    | cons i o ih =>
      rintro ⟨j, hj, h⟩
      by_cases e : ∃ j ∈ s, j ∈ o
      · obtain ⟨a, k, b, rfl, h1, h2⟩ := ih e
        exact ⟨i :: a, k, b, rfl, h1, h2⟩
      · rcases List.mem_cons.mp h with rfl | h
        · exact ⟨[], j, o, rfl, hj, fun k hk hs => e ⟨k, hs, hk⟩⟩
        · exact absurd ⟨j, hj, h⟩ e
  obtain ⟨j0, hj0⟩ := List.exists_mem_of_ne_nil s hs
  obtain ⟨a, j, b, rfl, hj, hb⟩ := split o ⟨j0, hj0, hsub j0 hj0⟩
  have h1 := need_at (a := a) (j := j) (b := b) (t := t) (m := m)
  -- s without j lies in a
  have p := List.perm_cons_erase hj
  have e1 : (s.map fun i => i.2.1).sum = j.2.1 + ((s.erase j).map fun i => i.2.1).sum := by
    rw [perm_sum (p.map _), List.map_cons, List.sum_cons]
  have sub : ∀ i ∈ s.erase j, i ∈ a := fun i hi => by
    have ne : i ≠ j := fun z => by
      subst z
      exact (List.Nodup.not_mem_erase nd) hi
    have hm := hsub i (List.mem_of_mem_erase hi)
    rcases List.mem_append.mp hm with z | z
    · exact z
    · rcases List.mem_cons.mp z with z | z
      · exact absurd z ne
      · exact absurd (List.mem_of_mem_erase hi) (hb i z)
  have le : ∀ (u a : List Job), u.Nodup → (∀ i ∈ u, i ∈ a) → (∀ i ∈ a, 0 ≤ i.2.1) → (u.map fun i => i.2.1).sum ≤ (a.map fun i => i.2.1).sum := by
    intro u
    induction u with
    | nil =>
      intro a _ _ h
      have : ∀ a : List Job, (∀ i ∈ a, 0 ≤ i.2.1) → 0 ≤ (a.map fun i => i.2.1).sum := by
        intro a
        induction a with
        | nil => intro _; exact Int.le_refl _
        | cons i a ih =>
          intro h
          rw [List.map_cons, List.sum_cons]
          have := h i List.mem_cons_self
          have := ih fun k hk => h k (List.mem_cons_of_mem _ hk)
          omega
      exact this a h
    | cons i u ih =>
      intro a nd h h0
      have hi := h i List.mem_cons_self
      have p := List.perm_cons_erase hi
      have e : (a.map fun i => i.2.1).sum = i.2.1 + ((a.erase i).map fun i => i.2.1).sum := by
        rw [perm_sum (p.map _), List.map_cons, List.sum_cons]
      rw [List.nodup_cons] at nd
      have z := ih (a.erase i) nd.2 (fun k hk => by
        have ne : k ≠ i := fun e => nd.1 (e ▸ hk)
        exact (List.mem_erase_of_ne ne).mpr (h k (List.mem_cons_of_mem _ hk))) fun k hk => h0 k (List.mem_of_mem_erase hk)
      rw [e, List.map_cons, List.sum_cons]
      omega
  have h2 := le (s.erase j) a (nd.erase j) sub fun i hi => hold i (List.mem_append_left _ hi)
  have h3 := hv j hj
  omega
/-! ### the order by what is given back -/
theorem least_ge (cs : List Cost) (fs : List Int) (held : Int) : held ≤ (leastS cs fs held).1 ∧ ∀ i, i < (srt cs fs).length → lastB cs fs ((srt cs fs).take (i + 1)) ≤ (leastS cs fs held).1 := by
  unfold leastS
  have key : ∀ (is : List Nat) (a : Int × List Nat), a.1 ≤ (is.foldl (leastStep cs fs (srt cs fs)) a).1 ∧ ∀ i ∈ is, lastB cs fs ((srt cs fs).take (i + 1)) ≤ (is.foldl (leastStep cs fs (srt cs fs)) a).1 := by
    intro is
    induction is with
    | nil => exact fun a => ⟨Int.le_refl _, fun i h => nomatch h⟩
    | cons i is ih =>
      intro a
      rw [List.foldl_cons]
      obtain ⟨h1, h2⟩ := ih (leastStep cs fs (srt cs fs) a i)
      have h3 : a.1 ≤ (leastStep cs fs (srt cs fs) a i).1 ∧ lastB cs fs ((srt cs fs).take (i + 1)) ≤ (leastStep cs fs (srt cs fs) a i).1 := by
        unfold leastStep
        split
        · rename_i h
          exact ⟨by show a.1 ≤ lastB cs fs ((srt cs fs).take (i + 1)); omega, Int.le_refl _⟩
        · rename_i h
          exact ⟨Int.le_refl _, by omega⟩
      refine ⟨by omega, fun j hj => ?_⟩
      rcases List.mem_cons.mp hj with rfl | hj
      · omega
      · exact h2 j hj
  obtain ⟨h1, h2⟩ := key (List.range (srt cs fs).length) (held, [])
  exact ⟨h1, fun i hi => h2 i (List.mem_range.mpr hi)⟩
theorem srt_sorted (cs : List Cost) (fs : List Int) : (srt cs fs).Pairwise fun a b => gb cs fs b ≤ gb cs fs a := by
  have z := List.pairwise_mergeSort (le := fun a b => decide (-gb cs fs a ≤ -gb cs fs b)) (fun a b c h1 h2 => by simp only [decide_eq_true_eq] at *; omega) (fun a b => by simp only [Bool.or_eq_true, decide_eq_true_eq]; omega) (grow fs)
  refine z.imp fun h => ?_
  have := of_decide_eq_true h
  omega
/-- the search's answer -/
def lawBest (F T : Int) (js : List Job) : Int := max (minI ((orders js).map fun o => need o F F)) T
structure JobsOf (cs : List Cost) (fs : List Int) (F : Int) (J : Nat → Job) : Prop where
  num : ∀ n, (J n).1 = (n : Int)
  hold : ∀ n ∈ grow fs, (J n).2.1 = MR.hold cs fs n ∧ 0 ≤ MR.hold cs fs n
  peak : ∀ n ∈ grow fs, F + (J n).2.2 = MR.peak (cAt cs n) (fAt fs n)
theorem JobsOf.gb {cs : List Cost} {fs : List Int} {F : Int} {J : Nat → Job} (h : JobsOf cs fs F J) {n : Nat} (hn : n ∈ grow fs) : MR.gb cs fs n = F + (J n).2.2 - (J n).2.1 := by
  unfold MR.gb
  rw [← h.peak n hn, (h.hold n hn).1]
theorem JobsOf.sum {cs : List Cost} {fs : List Int} {F : Int} {J : Nat → Job} (h : JobsOf cs fs F J) : ∀ {ns : List Nat}, (∀ n ∈ ns, n ∈ grow fs) → ((ns.map J).map fun i => i.2.1).sum = fb cs fs ns
  | [], _ => rfl
  | n :: ns, k => by
    have i := JobsOf.sum h (ns := ns) fun m hm => k m (List.mem_cons_of_mem _ hm)
    unfold fb at i ⊢
    rw [List.map_cons, List.map_cons, List.sum_cons, List.map_cons, List.sum_cons, i, (h.hold n (k n List.mem_cons_self)).1]
theorem JobsOf.inj {cs : List Cost} {fs : List Int} {F : Int} {J : Nat → Job} (h : JobsOf cs fs F J) {ns : List Nat} (nd : ns.Nodup) : (ns.map J).Nodup := by
  induction ns with
  | nil => exact .nil
  | cons n ns ih =>
    rw [List.nodup_cons] at nd
    rw [List.map_cons, List.nodup_cons]
    refine ⟨fun z => ?_, ih nd.2⟩
    obtain ⟨m, hm, e⟩ := List.mem_map.mp z
    have e2 := congrArg Prod.fst e
    rw [h.num, h.num] at e2
    have e3 : m = n := by omega
    exact nd.1 (e3 ▸ hm)
theorem lawBest_eq {cs : List Cost} {fs : List Int} {F T : Int} {J : Nat → Job} (h : JobsOf cs fs F J) (hF : F ≤ T) : lawBest F T ((grow fs).map J) = (leastS cs fs T).1 := by
  have ge := least_ge cs fs T
  have pm := srt_perm cs fs
  have mem : ∀ n ∈ srt cs fs, n ∈ grow fs := fun n hn => pm.mem_iff.mp hn
  have oin : (srt cs fs).map J ∈ orders ((grow fs).map J) := (orders_iff _ _ rfl _).mpr (pm.map J)
  have ne : (orders ((grow fs).map J)).map (fun o => need o F F) ≠ [] := fun z => by
    have z := List.map_eq_nil_iff.mp z
    rw [z] at oin
    cases oin
  obtain ⟨m1, m2⟩ := minI_ok ne
  -- the sorted order
  have up : need ((srt cs fs).map J) F F ≤ (leastS cs fs T).1 := by
    refine need_le (by omega) fun a j b e => ?_
    obtain ⟨as, bs, e1, e2, e3⟩ := List.map_eq_append_iff.mp e
    obtain ⟨n, bs', e4, e5, e6⟩ := List.map_eq_cons_iff.mp e3
    subst e2 e5 e4 e6
    have lt : as.length < (srt cs fs).length := by rw [e1, List.length_append, List.length_cons]; omega
    have tk : (srt cs fs).take (as.length + 1) = as ++ [n] := by
      rw [e1, show as ++ n :: bs' = (as ++ [n]) ++ bs' by simp, List.take_left' (by simp)]
    have z := ge.2 as.length lt
    rw [tk] at z
    have memt : ∀ m ∈ as ++ [n], m ∈ grow fs := fun m hm => mem m (by rw [← tk] at hm; exact List.mem_of_mem_take hm)
    have mn : minI ((as ++ [n]).map (gb cs fs)) = gb cs fs n := by
      obtain ⟨b1, b2⟩ := minI_ok (ns := (as ++ [n]).map (gb cs fs)) (by simp)
      have b3 := b2 (gb cs fs n) (List.mem_map_of_mem (List.mem_append_right _ (List.mem_singleton.mpr rfl)))
      obtain ⟨k, hk, ek⟩ := List.mem_map.mp b1
      have srt' := srt_sorted cs fs
      rw [e1] at srt'
      have pw := (List.pairwise_append.mp srt').2.2
      rcases List.mem_append.mp hk with hk | hk
      · have := pw k hk n List.mem_cons_self
        omega
      · rw [List.mem_singleton.mp hk] at ek
        omega
    have hn := memt n (List.mem_append_right _ (List.mem_singleton.mpr rfl))
    have e7 := h.gb hn
    have e8 := h.sum (ns := as) fun m hm => memt m (List.mem_append_left _ hm)
    have e9 := (h.hold n hn).1
    have e10 : lastB cs fs (as ++ [n]) = fb cs fs as + MR.hold cs fs n + gb cs fs n := by
      unfold lastB
      rw [mn]
      unfold fb
      rw [List.map_append, List.sum_append, List.map_cons, List.map_nil, List.sum_cons, List.sum_nil]
      omega
    rw [e8]
    omega
  have lo : ∀ o ∈ orders ((grow fs).map J), (leastS cs fs T).1 ≤ T ∨ (leastS cs fs T).1 ≤ need o F F := by
    intro o ho
    have po := (orders_iff _ _ rfl _).mp ho
    rcases least_form cs fs T with e | ⟨i, hi, e⟩
    · rw [e]
      exact .inl (Int.le_refl _)
    · rw [e]
      refine .inr ?_
      have memt : ∀ m ∈ (srt cs fs).take (i + 1), m ∈ grow fs := fun m hm => mem m (List.mem_of_mem_take hm)
      have ndt : ((srt cs fs).take (i + 1)).Nodup := List.Nodup.sublist (List.take_sublist _ _) (srt_nodup cs fs)
      have net : (srt cs fs).take (i + 1) ≠ [] := fun z => by
        have := congrArg List.length z
        rw [List.length_take] at this
        simp only [List.length_nil] at this
        omega
      obtain ⟨b1, b2⟩ := minI_ok (ns := ((srt cs fs).take (i + 1)).map (gb cs fs)) (by simpa using net)
      have z := need_set (s := ((srt cs fs).take (i + 1)).map J) (o := o) (t := F) (m := F) (v := minI (((srt cs fs).take (i + 1)).map (gb cs fs)) - F) (by simpa using net) (fun j hj => by
          obtain ⟨n, hn, rfl⟩ := List.mem_map.mp hj
          exact po.mem_iff.mpr (List.mem_map_of_mem (memt n hn))) (h.inj ndt) (po.nodup_iff.mpr (h.inj (grow_nodup fs))) (fun j hj => by
          obtain ⟨n, hn, rfl⟩ := List.mem_map.mp (po.mem_iff.mp hj)
          have := h.hold n hn
          omega) (fun j hj => by
          obtain ⟨n, hn, rfl⟩ := List.mem_map.mp hj
          have := b2 _ (List.mem_map_of_mem (f := gb cs fs) hn)
          have := h.gb (memt n hn)
          omega)
      rw [h.sum memt] at z
      unfold lastB
      show fb cs fs _ + _ ≤ _
      omega
  unfold lawBest
  have a := m2 _ (List.mem_map_of_mem (f := fun o => need o F F) oin)
  obtain ⟨o, ho, eo⟩ := List.mem_map.mp m1
  have := lo o ho
  have g1 := ge.1
  have eo : need o F F = minI ((orders ((grow fs).map J)).map fun o => need o F F) := eo
  have a : minI ((orders ((grow fs).map J)).map fun o => need o F F) ≤ need ((srt cs fs).map J) F F := a
  omega
end MR
set_option Elab.async false
set_option linter.all false
set_option maxRecDepth 100000
set_option maxHeartbeats 4000000
/-! the laws' own search, over data -/
namespace MR
open PySem PySem.Spec PyProof.Rows L2 XV SL DL
def tdJobs : Sig := fun xs Q _ => ∃ (ps : PS) (rows pr : Rows), xs = [.d (.list (ps.map dPair)), .d (dRows rows), .d (dRows pr)] ∧ SzOk ps ∧ rows.length = ps.length ∧ pr.length = ps.length ∧ (∀ ns ∈ rows, ns.length ≤ 100) ∧ Q (.own ((jobs ps rows pr).map dJ))
def dO (o : List Job) : PyData := .list (o.map dJ)
def tdOrders : Sig := fun xs Q _ => ∃ js : List Job, xs = [.d (.list (js.map dJ))] ∧ js.length ≤ 6 ∧ ∀ x : DV, (x = .own ((orders js).map dO) ∨ x = .d (.list ((orders js).map dO))) → Q x
def tdLeast : Sig := fun xs Q _ => ∃ (ps : PS) (rows pr : Rows), xs = [.d (.list (ps.map dPair)), .d (dRows rows), .d (dRows pr)] ∧ SzOk ps ∧ rows.length = ps.length ∧ pr.length = ps.length ∧ (∀ ns ∈ rows, ns.length ≤ 100) ∧ Q (.d (.int (lawBest (lv ps pr) (lv ps rows) (jobs ps rows pr))))
theorem mf_jobs : MonoF tdJobs := fun xs Q Q' Z k ⟨a, b, c, d, e, f, g, h, q⟩ => ⟨a, b, c, d, e, f, g, h, k _ q⟩
theorem mf_orders : MonoF tdOrders := fun xs Q Q' Z k ⟨a, b, c, q⟩ => ⟨a, b, c, fun x h => k _ (q x h)⟩
theorem mf_least : MonoF tdLeast := fun xs Q Q' Z k ⟨a, b, c, d, e, f, g, h, q⟩ => ⟨a, b, c, d, e, f, g, h, k _ q⟩
def fct : Nat → Nat
  | 0 => 1
  | n + 1 => fct n * (n + 1)
theorem flat_len {α : Type} {x : α} {n : Nat} : ∀ {ls : List (List α)}, (∀ l ∈ ls, l.length = n) → (ls.flatMap (insAll x)).length = ls.length * (n + 1)
  | [], _ => by simp
  | l :: ls, h => by
    have i := flat_len (x := x) fun m hm => h m (List.mem_cons_of_mem _ hm)
    rw [List.flatMap_cons, List.length_append, i]
    unfold insAll
    rw [List.length_map, List.length_range, h l List.mem_cons_self, List.length_cons, Nat.add_mul]
    omega
theorem orders_len {α : Type} : ∀ (n : Nat) (xs : List α), xs.length = n → (orders xs).length = fct n
  | 0, xs, h => by
    have e : xs = [] := List.length_eq_zero_iff.mp h
    subst e
    rfl
  | n + 1, xs, h => by
    obtain ⟨ys, x, rfl⟩ : ∃ ys x, xs = ys ++ [x] := by
      have ne : xs ≠ [] := fun z => by rw [z] at h; cases h
      exact ⟨xs.dropLast, xs.getLast ne, (List.dropLast_concat_getLast ne).symm⟩
    have hl : ys.length = n := by
      rw [List.length_append, List.length_singleton] at h
      omega
    rw [orders_snoc, flat_len (n := n) fun l hl2 => by rw [((orders_iff n ys hl l).mp hl2).length_eq, hl], orders_len n ys hl]
    rfl
theorem fct6 {i : Nat} (hi : i ≤ 6) : fct i ≤ 720 := by
  have : i = 0 ∨ i = 1 ∨ i = 2 ∨ i = 3 ∨ i = 4 ∨ i = 5 ∨ i = 6 := by omega
  rcases this with rfl | rfl | rfl | rfl | rfl | rfl | rfl <;> decide
theorem cut_o {o : List Job} {a : Nat} (h : a ≤ o.length) : DL.cutD (o.map dJ) none (some (a : Int)) = (o.take a).map dJ ∧ DL.cutD (o.map dJ) (some (a : Int)) none = (o.drop a).map dJ := by
  have l : (o.map dJ).length = o.length := List.length_map _
  rw [cutD_to (by omega) (by omega), cutD_from (by omega) (by omega), Int.toNat_natCast, List.map_take, List.map_drop]
  exact ⟨rfl, rfl⟩
theorem get_map {α : Type} {f : α → PyData} {xs : List α} {i : Nat} {d : PyData} (hi : (xs.map f)[i]? = some d) : ∃ x, xs[i]? = some x ∧ d = f x := by
  rw [List.getElem?_map] at hi
  cases e : xs[i]? with
  | none => rw [e] at hi; cases hi
  | some q => rw [e] at hi; exact ⟨q, rfl, (Option.some.inj hi).symm⟩
theorem orders_next {α : Type} {xs : List α} {i : Nat} {x : α} (h : xs[i]? = some x) : orders (xs.take (i + 1)) = (orders (xs.take i)).flatMap (insAll x) := by
  rw [← take_next h, orders_snoc]
def bestD : List Int → PyData
  | [] => .none
  | n :: ns => .int (minI (n :: ns))
theorem minI_snoc {ns : List Int} {n : Int} (h : ns ≠ []) : minI (ns ++ [n]) = min (minI ns) n := by
  cases ns with
  | nil => exact absurd rfl h
  | cons m ns =>
    show (ns ++ [n]).foldl min m = min (ns.foldl min m) n
    rw [List.foldl_append]
    rfl
theorem bestD_ne {ns : List Int} (h : ns ≠ []) : bestD ns = .int (minI ns) := by
  cases ns with
  | nil => exact absurd rfl h
  | cons m ns => rfl
theorem jobs_len {ps : PS} {rows pr : Rows} (sz : SzOk ps) (h1 : rows.length = ps.length) (h2 : pr.length = ps.length) : (jobs ps rows pr).length ≤ 6 := by
  unfold jobs
  rw [List.length_map]
  have := grow_len (fur rows pr)
  rw [fur_len (by rw [h1, h2]), h2] at this
  have := sz.n6
  omega
theorem orders_ne {α : Type} (xs : List α) : orders xs ≠ [] := fun z => by
  have := (orders_iff _ xs rfl xs).mpr (List.Perm.refl _)
  rw [z] at this
  cases this
def sel (ps : PS) (rows pr : Rows) (ns : List Nat) : List Job := (jobs ps rows pr).filter fun j => decide (j.1.toNat ∈ ns)
def shownV (ps : PS) (rows pr : Rows) (ns : List Nat) : Int := if ns = [] then lv ps rows else ((sel ps rows pr ns).map fun j => j.2.1).sum + lv ps pr + minI ((sel ps rows pr ns).map fun j => j.2.2 - j.2.1)
def tdShown : Sig := fun xs Q _ => ∃ (ps : PS) (rows pr : Rows) (ns : List Nat), xs = [.d (.list (ps.map dPair)), .d (dRows rows), .d (dRows pr), .d (.tuple (dNs ns))] ∧ SzOk ps ∧ rows.length = ps.length ∧ pr.length = ps.length ∧ (∀ ms ∈ rows, ms.length ≤ 100) ∧ (∀ n ∈ ns, n ∈ grow (fur rows pr)) ∧ Q (.d (.int (shownV ps rows pr ns)))
theorem mf_shown : MonoF tdShown := fun xs Q Q' Z k ⟨a, b, c, n, d, e, f, g, h, m, q⟩ => ⟨a, b, c, n, d, e, f, g, h, m, k _ q⟩
theorem shaped_tNs (ns : List Nat) : SeqAt.shaped (.tuple (dNs ns)) = true := by
  obtain ⟨h1, h2⟩ := lay_dNs ns
  have e : PyData.depth (.tuple (dNs ns)) ≤ 64 := by simp only [PyData.depth]; omega
  have e1 : PyData.canLay0 (.tuple (dNs ns)) = true := by simp only [PyData.canLay0]; exact h1
  show (PyData.canLay0 _ && decide (PyData.depth _ ≤ 64)) = true
  rw [e1, decide_eq_true e]
  rfl
theorem eqv_tnil (ns : List Nat) : PyData.eqv (.tuple (dNs ns)) (.tuple []) = decide (ns = []) := by
  cases ns with
  | nil => exact eqv_self (shaped_tNs [])
  | cons n ns => simp [PyData.eqv, dNs, PyData.eqvAll]
end MR
set_option Elab.async false
set_option linter.all false
set_option maxRecDepth 100000
set_option maxHeartbeats 4000000
namespace K20
open PySem PySem.Spec PyProof.Rows L2 XV SL DL MR LamX
section
variable {P : Program} {w : World} {K : PySem.W.Frag} {mg : Str → Option Value} {base : Heap} {C f : Addr} {fd : FuncData}
abbrev s__law_jobs : Stmt := topS 44
theorem sc__law_jobs : FnScope ["_law_classes_here", "_law_table_here", "_law_fixed", "_law_found", "_law_number", "_law_size", "_law_slots", "_law_many", "_law_few", "_law_needed"] ["_law_classes_here", "_law_table_here", "_law_fixed"] (defScope s__law_jobs) := ⟨rfl, rfl, rfl, by decide +kernel, rfl, by decide +kernel, by decide +kernel⟩
theorem ok_law_jobs (F : Fun K "_law_jobs" "_law_jobs" s__law_jobs f fd) (B : Bt mg) (BL : BL mg) :
    FnOk P w K mg base CX0 2 f fd ["_law_classes_here", "_law_table_here", "_law_fixed"] (spD C 3 tdJobs) := by
  refine fn_spec (F.ok sc__law_jobs (fun vs H Q E h => spD_len vs H Q E h) (fun cdv A outer s H vs Q E hr h => fn_go (k := 7) h rfl (fun c Z hC hZ => (pds_cons (pds_set (i := 3) sc__law_jobs.nd rfl (Or.inl rfl) (pd_lst pda_nil))
      (pds_cons (pds_for (p := (.tup [(.nm 4), (.tup [(.nm 5), (.nm 6)])])) PassesOwn.never rfl (pdi_enum (by rfl) B.b_enumerate (pda_cons (pdv (pv 0)) pda_nil)) (pg_tup rfl (pgs_cons (pg_name (i := 4) sc__law_jobs.nd rfl (Or.inl rfl)) (pgs_cons (pg_tup rfl (pgs_cons (pg_name (i := 5) sc__law_jobs.nd rfl (Or.inl rfl)) (pgs_cons (pg_name (i := 6) sc__law_jobs.nd rfl (Or.inl rfl)) pgs_nil))) pgs_nil)))
      (pds_cons (pds_par (i := 7) (j := 8) (fun _ h => ps_par rfl sc__law_jobs.nd rfl rfl (by decide) rfl rfl h (by rfl)) (by decide) (pda_cons (pd_callB cs_len (by rfl) B.b_len (by decide +kernel) (pda_cons (pd_ix os_ix (pdb (pv 1)) (pdv (pv 4)) (fun _ _ => rfl)) pda_nil)) (pda_cons (pd_callB cs_len (by rfl) B.b_len (by decide +kernel) (pda_cons (pd_ix os_ix (pdb (pv 2)) (pdv (pv 4)) (fun _ _ => rfl)) pda_nil)) pda_nil)))
      (pds_one (pds_if (pdt_cmp os_gt (pdb (pv 7)) (pdb (pv 8)) (nomark _)) (pds_cons (pds_set (i := 9) sc__law_jobs.nd rfl (Or.inl rfl) (pd_op os_sub (pd_op os_mul (pd_op os_add (pd_op os_mul (pd_op os_sub (pdb (pv 7)) pd_int) (pdb (pv 6))) pd_int) (pdb (pv 5))) (pd_op os_mul (pdv (pv 5)) (pd_callB (cs_sum rfl) (by rfl) B.b_sum (by decide +kernel) (pda_cons (pd_ix os_ix (pdb (pv 2)) (pdv (pv 4)) (fun _ _ => rfl)) pda_nil)))))
      (pds_one (pds_app (i := 3) (fun _ h => pe_bm PySem.F.plainAttrs_list PySem.F.slot_list_append PySem.F.type_list_append mt_append (pv 3) (pa_cons h pa_nil)) (pd_tup (pda_cons (pdv (pv 4)) (pda_cons (pd_op os_mul (pd_op os_sub (pdb (pv 7)) (pdb (pv 8))) (pdb (pv 5))) (pda_cons (pdv (pv 9)) pda_nil))))))) pds_nil))))
      (pds_one (pds_ret (pdo (pv 3))))))))) ?_
  rintro xs Q Z ⟨ps, rows, pr, rfl, sz, h1, h2, h3, q⟩
  have n6 := sz.n6
  have lf : (fur rows pr).length = ps.length := by rw [fur_len (by rw [h1, h2]), h2]
  refine ⟨Nat.le_of_ble_eq_true rfl, rfl, fun i r => ∃ (x4 x5 x6 x7 x8 x9 : DV), r = [.d (.list (ps.map dPair)), .d (dRows rows), .d (dRows pr), .own ((((List.range i).filter fun n => decide (0 < fAt (fur rows pr) n)).map (jobAt ps rows pr)).map dJ), x4, x5, x6, x7, x8, x9], ⟨_, _, _, _, _, _, rfl⟩, ?_, ?_⟩
  · rintro i d r hi ⟨x4, x5, x6, x7, x8, x9, rfl⟩
    obtain ⟨p, ep, rfl⟩ := enum_back (f := dPair) hi
    have lt := (List.getElem?_eq_some_iff.mp ep).1
    have rg := sz.rg p (List.mem_of_getElem? ep)
    obtain ⟨ns, en⟩ : ∃ ns, rows[i]? = some ns := ⟨_, List.getElem?_eq_getElem (by omega)⟩
    obtain ⟨ms, em⟩ : ∃ ms, pr[i]? = some ms := ⟨_, List.getElem?_eq_getElem (by omega)⟩
    have ej : jobAt ps rows pr i = job1 i p ns ms := by
      unfold jobAt
      rw [List.getD_eq_getElem?_getD, List.getD_eq_getElem?_getD, List.getD_eq_getElem?_getD, ep, en, em]
      rfl
    have ef : fAt (fur rows pr) i = (ns.length : Int) - ms.length := by
      unfold fAt fur
      rw [List.getD_eq_getElem?_getD, List.getElem?_map, (List.getElem?_zip_eq_some (z := (ns, ms))).mpr ⟨en, em⟩]
      rfl
    have gn := grow_next (fur rows pr) i (by omega)
    have l3 := h3 ns (List.mem_of_getElem? en)
    have len1 : (dInts ns).length = ns.length := List.length_map _
    have len2 : (dInts ms).length = ms.length := List.length_map _
    refine ⟨_, rfl, ?_⟩
    refine mat_map (f := dTup) en (mat_map (f := dTup) em ?_)
    refine ⟨rfl, rfl, ?_⟩
    cases hc : decide (((dInts ms).length : Int) < ((dInts ns).length : Int)) with
    | true =>
      refine ifA (b := decide (((dInts ms).length : Int) < ((dInts ns).length : Int))) hc ?_
      have hc := of_decide_eq_true hc
      refine ⟨.inl ⟨by omega, by omega⟩, .inr ⟨by omega, by omega⟩, ?_⟩
      refine mat_map (f := dTup) em ?_
      refine ints_onS (x := .bor (dI ms)) (ns := ms) rfl ?_
      refine ⟨.inl ⟨by omega, by omega⟩, rfl, .inr ⟨by omega, by omega⟩, Nat.le_of_ble_eq_true rfl, ?_, .d (.int (i : Int)), .d (.int p.1), .d (.int p.2), .d (.int ((dInts ns).length : Int)), .d (.int ((dInts ms).length : Int)), .d (.int (((((dInts ns).length : Int) - 1) * p.2 + 1) * p.1 - p.1 * ms.sum)), ?_⟩
      · rw [List.length_map, List.length_map]
        have := List.length_filter_le (fun n => decide (0 < fAt (fur rows pr) n)) (List.range i)
        rw [List.length_range] at this
        omega
      · rw [gn, if_pos (by omega), List.map_append, List.map_append]
        show _ = [_, _, _, DV.own (_ ++ [dJ (jobAt ps rows pr i)]), _, _, _, _, _, _]
        rw [ej]
        unfold job1
        rw [← len1, ← len2]
        rfl
    | false =>
      refine ifB (b := decide (((dInts ms).length : Int) < ((dInts ns).length : Int))) hc ?_
      have hc := of_decide_eq_false hc
      refine ⟨.d (.int (i : Int)), .d (.int p.1), .d (.int p.2), .d (.int ((dInts ns).length : Int)), .d (.int ((dInts ms).length : Int)), x9, ?_⟩
      rw [gn, if_neg (by omega), List.append_nil]
      rfl
  · rintro r ⟨x4, x5, x6, x7, x8, x9, rfl⟩
    rw [enumD_len, List.length_map, ← lf]
    exact ⟨rfl, q⟩
abbrev s__law_orders : Stmt := topS 45
theorem sc__law_orders : FnScope ["_law_items", "_law_found", "_law_item", "_law_longer", "_law_row", "_law_at"] ["_law_items"] (defScope s__law_orders) := ⟨rfl, rfl, rfl, by decide +kernel, rfl, by decide +kernel, by decide +kernel⟩
theorem ok_law_orders (F : Fun K "_law_orders" "_law_orders" s__law_orders f fd) (B : Bt mg) (BL : BL mg) :
    FnOk P w K mg base CX0 1 f fd ["_law_items"] (spD C 1 tdOrders) := by
  refine fn_spec (F.ok sc__law_orders (fun vs H Q E h => spD_len vs H Q E h) (fun cdv A outer s H vs Q E hr h => fn_go (k := 5) h rfl (fun c Z hC hZ => (pds_cons (pds_set (i := 1) sc__law_orders.nd rfl (Or.inl rfl) (pd_lst (pda_cons (pd_lst pda_nil) pda_nil)))
      (pds_cons (pds_for (p := (.nm 2)) PassesOwn.never rfl (pdi_list (pdv (pv 0))) (pg_name (i := 2) sc__law_orders.nd rfl (Or.inr rfl))
      (pds_cons (pds_set (i := 3) sc__law_orders.nd rfl (Or.inl rfl) (pd_lst pda_nil))
      (pds_cons (pds_for (p := (.nm 4)) PassesOwn.never rfl (pdi_list (pdv (pv 1))) (pg_name (i := 4) sc__law_orders.nd rfl (Or.inr rfl))
      (pds_one (pds_set (i := 3) sc__law_orders.nd rfl (Or.inl rfl) (pd_op os_add (pdv (pv 3)) (pd_lc (own := [("_law_at", 5)]) (p := (.nm 5)) (by rfl) sc__law_orders.nd (pdi_range1 (by rfl) BL.b_range (pda_cons (pd_op os_add (pd_callB cs_len (by rfl) B.b_len (by decide +kernel) (pda_cons (pdb (pv 4)) pda_nil)) pd_int) pda_nil)) (blkOk_by (own := [("_law_at", 5)]) (N := ["_law_items", "_law_found", "_law_item", "_law_longer", "_law_row", "_law_at"]) (sc := defScope s__law_orders) (by decide +kernel)) (by rfl) (fun _ _ _ _ _ => (pg_name (i := 5) sc__law_orders.nd rfl (Or.inl rfl))) (fun _ _ _ _ _ => pdts_nil) (fun _ _ _ _ _ => (pd_op os_add (pd_op os_add (pd_cut (pdb (pv 4)) pdo_none (pdo_some (pdv (pv 5)))) (pd_lst (pda_cons (pdv (pv 2)) pda_nil))) (pd_cut (pdb (pv 4)) (pdo_some (pdv (pv 5))) pdo_none))))))))
      (pds_one (pds_set (i := 1) sc__law_orders.nd rfl (Or.inl rfl) (pdv (pv 3)))))))
      (pds_one (pds_ret (pdo (pv 1))))))))) ?_
  rintro xs Q Z ⟨js, rfl, hl, q⟩
  refine ⟨Nat.le_of_ble_eq_true rfl, Nat.le_of_ble_eq_true rfl, rfl, fun i r => ∃ (y1 x2 x3 x4 x5 : DV), (y1 = .own ((orders (js.take i)).map dO) ∨ y1 = .d (.list ((orders (js.take i)).map dO))) ∧ r = [.d (.list (js.map dJ)), y1, x2, x3, x4, x5], ⟨_, _, _, _, _, .inl rfl, rfl⟩, ?_, ?_⟩
  · rintro i d r hi ⟨y1, x2, x3, x4, x5, hy, rfl⟩
    obtain ⟨x, ex, rfl⟩ := get_map hi
    have lt := (List.getElem?_eq_some_iff.mp ex).1
    have lo : ∀ o ∈ orders (js.take i), o.length = i := fun o ho => by
      have := ((orders_iff _ _ rfl o).mp ho).length_eq
      rw [List.length_take] at this
      omega
    have ll : (orders (js.take i)).length ≤ 720 := by
      rw [orders_len i (js.take i) (by rw [List.length_take]; omega)]
      exact fct6 (by omega)
    have lm : ∀ k, (((orders (js.take i)).take k).flatMap (insAll x)).length ≤ 6000 := fun k => by
      rw [flat_len (n := i) fun o ho => lo o (List.mem_of_mem_take ho), List.length_take]
      have : min k (orders (js.take i)).length * (i + 1) ≤ 720 * 7 := Nat.mul_le_mul (by omega) (by omega)
      omega
    refine ⟨_, rfl, Nat.le_of_ble_eq_true rfl, rfl, ?_⟩
    rcases hy with rfl | rfl
    all_goals
      refine ⟨fun k r => ∃ (x4 x5 : DV), r = [.d (.list (js.map dJ)), .d (.list ((orders (js.take i)).map dO)), .d (dJ x), .own ((((orders (js.take i)).take k).flatMap (insAll x)).map dO), x4, x5], ⟨_, _, rfl⟩, ?_, ?_⟩
      · rintro k d r hk ⟨x4, x5, rfl⟩
        obtain ⟨o, eo, rfl⟩ := get_map hk
        have ho := lo o (List.mem_of_getElem? eo)
        have ol : (o.map dJ).length = o.length := List.length_map _
        refine ⟨_, rfl, ?_⟩
        refine ⟨⟨by omega, by omega⟩, fun a acc r => acc = (((List.range (o.length + 1)).map fun a => o.take a ++ [x] ++ o.drop a).take a).map dO ∧ r = _, ⟨rfl, rfl⟩, ?_, ?_⟩
        · rintro a d acc r ha ⟨rfl, rfl⟩
          obtain ⟨la, ed⟩ := rng_back ha
          rw [Int.zero_add] at ed
          subst ed
          have la2 : a < o.length + 1 := by omega
          obtain ⟨c1, c2⟩ := cut_o (o := o) (a := a) (by omega)
          have hv : ((List.range (o.length + 1)).map fun a => o.take a ++ [x] ++ o.drop a)[a]? = some (o.take a ++ [x] ++ o.drop a) := by
            rw [List.getElem?_map, List.getElem?_range la2]
            rfl
          have tl := take_lt (xs := (List.range (o.length + 1)).map fun a => o.take a ++ [x] ++ o.drop a) (n := 8) (by rw [List.length_map, List.length_range]; omega) a
          refine ⟨_, rfl, Nat.le_of_ble_eq_true rfl, ?_, ?_, ?_, ?_, rfl⟩
          · show (DL.cutD (o.map dJ) none (some (a : Int))).length + 1 ≤ 100000
            rw [c1, List.length_map, List.length_take]
            omega
          · show (DL.cutD (o.map dJ) none (some (a : Int)) ++ [dJ x]).length + (DL.cutD (o.map dJ) (some (a : Int)) none).length ≤ 100000
            rw [c1, c2, List.length_append, List.length_map, List.length_map, List.length_take, List.length_drop]
            show _ + 1 + _ ≤ 100000
            omega
          · rw [List.length_map]
            omega
          · show _ = List.map dO _
            rw [← take_next hv, List.map_append]
            show _ ++ [PyData.list (DL.cutD (o.map dJ) none (some (a : Int)) ++ [dJ x] ++ DL.cutD (o.map dJ) (some (a : Int)) none)] = _ ++ [PyData.list ((o.take a ++ [x] ++ o.drop a).map dJ)]
            rw [c1, c2, List.map_append, List.map_append]
            rfl
        · rintro acc r ⟨rfl, rfl⟩
          have er : (rngD 0 (((o.map dJ).length : Int) + 1).toNat 1).length = o.length + 1 := by
            rw [rngD_len, ol]
            omega
          have et : List.take (rngD 0 (((o.map dJ).length : Int) + 1).toNat 1).length ((List.range (o.length + 1)).map fun a => o.take a ++ [x] ++ o.drop a) = insAll x o := by
            rw [er, List.take_of_length_le (by rw [List.length_map, List.length_range]; exact Nat.le_refl _)]
            rfl
          have l1 := lm k
          have l2 : (insAll x o).length ≤ 7 := by
            unfold insAll
            rw [List.length_map, List.length_range]
            omega
          rw [et]
          refine ⟨?_, rfl, .d (dO o), x5, ?_⟩
          · show (List.map dO _).length + (List.map dO _).length ≤ 100000
            rw [List.length_map, List.length_map]
            omega
          · rw [← take_next eo, List.flatMap_append, List.map_append]
            show [_, _, _, DV.own (_ ++ List.map dO (insAll x o)), _, _] = [_, _, _, DV.own (_ ++ List.map dO (List.flatMap (insAll x) [o])), _, _]
            rw [List.flatMap_cons, List.flatMap_nil, List.append_nil]
            rfl
      · rintro r ⟨x4, x5, rfl⟩
        rw [List.length_map, List.take_of_length_le (Nat.le_refl _), ← orders_next ex]
        exact ⟨rfl, _, _, _, _, _, .inr rfl, rfl⟩
  · rintro r ⟨y1, x2, x3, x4, x5, hy, rfl⟩
    rw [List.length_map, List.take_of_length_le (Nat.le_refl _)] at hy
    rcases hy with rfl | rfl
    · exact ⟨rfl, q _ (.inl rfl)⟩
    · exact ⟨rfl, q _ (.inr rfl)⟩
abbrev s__law_least : Stmt := topS 46
theorem sc__law_least : FnScope ["_law_classes_here", "_law_table_here", "_law_fixed", "_law_best", "_law_order", "_law_total", "_law_most", "_law_number", "_law_hold", "_law_needed"] ["_law_classes_here", "_law_table_here", "_law_fixed"] (defScope s__law_least) := ⟨rfl, rfl, rfl, by decide +kernel, rfl, by decide +kernel, by decide +kernel⟩
theorem ok_law_least (F : Fun K "_law_least" "_law_least" s__law_least f fd) (B : Bt mg) (BL : BL mg)
    {f_law_jobs : Addr} {d_law_jobs : FuncData} (G_law_jobs : FnOk P w K mg base CX0 2 f_law_jobs d_law_jobs ["_law_classes_here", "_law_table_here", "_law_fixed"] (spD C 3 tdJobs)) (m_law_jobs : mg "_law_jobs" = some (.ref f_law_jobs)) (k_law_jobs : PySem.W.keepIn K (.ref f_law_jobs) = true) (b_law_jobs : Binds K d_law_jobs ["_law_classes_here", "_law_table_here", "_law_fixed"] [])
    {f_law_orders : Addr} {d_law_orders : FuncData} (G_law_orders : FnOk P w K mg base CX0 1 f_law_orders d_law_orders ["_law_items"] (spD C 1 tdOrders)) (m_law_orders : mg "_law_orders" = some (.ref f_law_orders)) (k_law_orders : PySem.W.keepIn K (.ref f_law_orders) = true) (b_law_orders : Binds K d_law_orders ["_law_items"] [])
    {f_law_live : Addr} {d_law_live : FuncData} (G_law_live : FnOk P w K mg base CX0 2 f_law_live d_law_live ["_law_classes_here", "_law_table_here"] (spD C 2 tdDrL)) (m_law_live : mg "_law_live" = some (.ref f_law_live)) (k_law_live : PySem.W.keepIn K (.ref f_law_live) = true) (b_law_live : Binds K d_law_live ["_law_classes_here", "_law_table_here"] []) :
    FnOk P w K mg base CX0 3 f fd ["_law_classes_here", "_law_table_here", "_law_fixed"] (spD C 3 tdLeast) := by
  refine fn_spec (F.ok sc__law_least (fun vs H Q E h => spD_len vs H Q E h) (fun cdv A outer s H vs Q E hr h => fn_go (k := 7) h rfl (fun c Z hC hZ => (pds_cons (pds_set (i := 3) sc__law_least.nd rfl (Or.inl rfl) pd_non)
      (pds_cons (pds_for (p := (.nm 4)) PassesOwn.never rfl (pdi_list (pd_callN G_law_orders mf_orders hC (hr.mono (by decide)) rfl m_law_orders k_law_orders b_law_orders pass0 (pda_cons (pd_callN G_law_jobs mf_jobs hC (hr.mono (by decide)) rfl m_law_jobs k_law_jobs b_law_jobs pass0 (pda_cons (pdv (pv 0)) (pda_cons (pdv (pv 1)) (pda_cons (pdv (pv 2)) pda_nil)))) pda_nil))) (pg_name (i := 4) sc__law_least.nd rfl (Or.inl rfl))
      (pds_cons (pds_set (i := 5) sc__law_least.nd rfl (Or.inl rfl) (pd_callN G_law_live mf_drl hC (hr.mono (by decide)) rfl m_law_live k_law_live b_law_live pass0 (pda_cons (pdv (pv 0)) (pda_cons (pdv (pv 2)) pda_nil))))
      (pds_cons (pds_set (i := 6) sc__law_least.nd rfl (Or.inl rfl) (pdv (pv 5)))
      (pds_cons (pds_for (p := (.tup [(.nm 7), (.nm 8), (.nm 9)])) PassesOwn.never rfl (pdi_list (pdv (pv 4))) (pg_tup rfl (pgs_cons (pg_name (i := 7) sc__law_least.nd rfl (Or.inl rfl)) (pgs_cons (pg_name (i := 8) sc__law_least.nd rfl (Or.inl rfl)) (pgs_cons (pg_name (i := 9) sc__law_least.nd rfl (Or.inl rfl)) pgs_nil))))
      (pds_cons (pds_set (i := 6) sc__law_least.nd rfl (Or.inl rfl) (pd_callB (cs_max2 rfl) (by rfl) BL.b_max (by decide +kernel) (pda_cons (pdv (pv 6)) (pda_cons (pd_op os_add (pdb (pv 5)) (pdb (pv 9))) pda_nil))))
      (pds_one (pds_set (i := 5) sc__law_least.nd rfl (Or.inl rfl) (pd_op os_add (pdb (pv 5)) (pdb (pv 8)))))))
      (pds_one (pds_set (i := 3) sc__law_least.nd rfl (Or.inl rfl) (pd_if (pdt_cmp os_isN (pdb (pv 3)) pd_non (nomark _)) (pdv (pv 6)) (pd_callB (cs_min2 rfl) (by rfl) BL.b_min (by decide +kernel) (pda_cons (pdv (pv 3)) (pda_cons (pdv (pv 6)) pda_nil))))))))))
      (pds_one (pds_ret (pd_callB (cs_max2 rfl) (by rfl) BL.b_max (by decide +kernel) (pda_cons (pdv (pv 3)) (pda_cons (pd_callN G_law_live mf_drl hC (hr.mono (by decide)) rfl m_law_live k_law_live b_law_live pass0 (pda_cons (pdv (pv 0)) (pda_cons (pdv (pv 1)) pda_nil))) pda_nil)))))))))) ?_
  rintro xs Q Z ⟨ps, rows, pr, rfl, sz, h1, h2, h3, q⟩
  have n6 := sz.n6
  refine ⟨rfl, ps, rows, pr, rfl, sz, h1, h2, h3, rfl, jobs ps rows pr, rfl, jobs_len sz h1 h2, fun y hy => ⟨?_, ?_⟩⟩
  · rcases hy with rfl | rfl <;> rfl
  generalize hjs : jobs ps rows pr = js at hy q
  have body : lstQ y fun ds => ds = (orders js).map dO := by
    rcases hy with rfl | rfl <;> exact rfl
  rcases hy with rfl | rfl
  all_goals
    clear body
    refine ⟨fun i r => ∃ (x4 x5 x6 x7 x8 x9 : DV), r = [.d (.list (ps.map dPair)), .d (dRows rows), .d (dRows pr), .d (bestD (((orders js).map fun o => need o (lv ps pr) (lv ps pr)).take i)), x4, x5, x6, x7, x8, x9], ⟨_, _, _, _, _, _, rfl⟩, ?_, ?_⟩
    · rintro i d r hi ⟨x4, x5, x6, x7, x8, x9, rfl⟩
      obtain ⟨o, eo, rfl⟩ := get_map hi
      have hv : ((orders js).map fun o => need o (lv ps pr) (lv ps pr))[i]? = some (need o (lv ps pr) (lv ps pr)) := by
        rw [List.getElem?_map, eo]
        rfl
      refine ⟨_, rfl, ?_⟩
      refine ⟨ps, pr, rfl, sz, h2, rfl, rfl, rfl, ?_⟩
      refine ⟨fun k r => ∃ (t m : Int) (x7 x8 x9 : DV), need (o.drop k) t m = need o (lv ps pr) (lv ps pr) ∧ r = [.d (.list (ps.map dPair)), .d (dRows rows), .d (dRows pr), .d (bestD (((orders js).map fun o => need o (lv ps pr) (lv ps pr)).take i)), .d (dO o), .d (.int t), .d (.int m), x7, x8, x9], ⟨_, _, _, _, _, rfl, rfl⟩, ?_, ?_⟩
      · rintro k d r hk ⟨t, m, x7, x8, x9, en, rfl⟩
        obtain ⟨j, ej, rfl⟩ := get_map hk
        rw [drop_at ej] at en
        refine ⟨_, rfl, ?_⟩
        refine ⟨rfl, rfl, t + j.2.1, max m (t + j.2.2), .d (.int j.1), .d (.int j.2.1), .d (.int j.2.2), en, ?_⟩
        rw [← max_if]
        rfl
      · rintro r ⟨t, m, x7, x8, x9, en, rfl⟩
        rw [List.length_map, List.drop_of_length_le (Nat.le_refl _)] at en
        have en : m = need o (lv ps pr) (lv ps pr) := en
        have nx := take_next hv
        cases hp : ((orders js).map fun o => need o (lv ps pr) (lv ps pr)).take i with
        | nil =>
          rw [hp] at nx
          refine ⟨rfl, .d (dO o), .d (.int t), .d (.int m), x7, x8, x9, ?_⟩
          rw [← nx, en]
          rfl
        | cons b bs =>
          rw [hp] at nx
          refine ⟨rfl, .d (dO o), .d (.int t), .d (.int m), x7, x8, x9, ?_⟩
          have e5 : bestD (b :: bs ++ [need o (lv ps pr) (lv ps pr)]) = .int (if m < minI (b :: bs) then m else minI (b :: bs)) := by
            rw [bestD_ne (by simp), minI_snoc (by simp), ← en, ← min_if]
          rw [← nx, e5]
          rfl
    · rintro r ⟨x4, x5, x6, x7, x8, x9, rfl⟩
      have en : List.take (List.map dO (orders js)).length ((orders js).map fun o => need o (lv ps pr) (lv ps pr)) = (orders js).map fun o => need o (lv ps pr) (lv ps pr) := by
        rw [List.length_map, List.take_of_length_le (by rw [List.length_map]; exact Nat.le_refl _)]
      rw [en, bestD_ne (by simpa using orders_ne js)]
      refine ⟨ps, rows, rfl, sz, h1, rfl, rfl, ?_⟩
      unfold lawBest at q
      rw [← max_if] at q
      exact q
abbrev s__law_shown : Stmt := topS 47
theorem sc__law_shown : FnScope ["_law_classes_here", "_law_table_here", "_law_fixed", "_law_some", "_law_jobs_here", "_law_total", "_law_job", "_law_number", "_law_hold", "_law_needed"] ["_law_classes_here", "_law_table_here", "_law_fixed", "_law_some"] (defScope s__law_shown) := ⟨rfl, rfl, rfl, by decide +kernel, rfl, by decide +kernel, by decide +kernel⟩
theorem ok_law_shown (F : Fun K "_law_shown" "_law_shown" s__law_shown f fd) (B : Bt mg) (BL : BL mg)
    {f_law_jobs : Addr} {d_law_jobs : FuncData} (G_law_jobs : FnOk P w K mg base CX0 2 f_law_jobs d_law_jobs ["_law_classes_here", "_law_table_here", "_law_fixed"] (spD C 3 tdJobs)) (m_law_jobs : mg "_law_jobs" = some (.ref f_law_jobs)) (k_law_jobs : PySem.W.keepIn K (.ref f_law_jobs) = true) (b_law_jobs : Binds K d_law_jobs ["_law_classes_here", "_law_table_here", "_law_fixed"] [])
    {f_law_live : Addr} {d_law_live : FuncData} (G_law_live : FnOk P w K mg base CX0 2 f_law_live d_law_live ["_law_classes_here", "_law_table_here"] (spD C 2 tdDrL)) (m_law_live : mg "_law_live" = some (.ref f_law_live)) (k_law_live : PySem.W.keepIn K (.ref f_law_live) = true) (b_law_live : Binds K d_law_live ["_law_classes_here", "_law_table_here"] []) :
    FnOk P w K mg base CX0 3 f fd ["_law_classes_here", "_law_table_here", "_law_fixed", "_law_some"] (spD C 4 tdShown) := by
  refine fn_spec (F.ok sc__law_shown (fun vs H Q E h => spD_len vs H Q E h) (fun cdv A outer s H vs Q E hr h => fn_go (k := 6) h rfl (fun c Z hC hZ => (pds_cons (pds_if (pdt_cmp (os_eq hr.units) (pdb (pv 3)) (pd_tup pda_nil) (nomark _)) (pds_one (pds_ret (pd_callN G_law_live mf_drl hC (hr.mono (by decide)) rfl m_law_live k_law_live b_law_live pass0 (pda_cons (pdv (pv 0)) (pda_cons (pdv (pv 1)) pda_nil))))) pds_nil)
      (pds_cons (pds_setLc (i := 4) (own := [("_law_job", 6)]) (p := (.nm 6)) (by rfl) sc__law_shown.nd rfl rfl (sw_true rfl rfl rfl (by decide +kernel)) (pdi_list (pd_callN G_law_jobs mf_jobs hC (hr.mono (by decide)) rfl m_law_jobs k_law_jobs b_law_jobs pass0 (pda_cons (pdv (pv 0)) (pda_cons (pdv (pv 1)) (pda_cons (pdv (pv 2)) pda_nil))))) (blkOk_by (own := [("_law_job", 6)]) (N := ["_law_classes_here", "_law_table_here", "_law_fixed", "_law_some", "_law_jobs_here", "_law_total", "_law_job", "_law_number", "_law_hold", "_law_needed"]) (sc := defScope s__law_shown) (by decide +kernel)) (by rfl) (fun _ _ _ _ _ => (pg_name (i := 6) sc__law_shown.nd rfl (Or.inl rfl))) (fun _ _ _ _ _ => (pdts_one (pdt_cmp (os_in (Room.in128 hr)) (pd_ix os_ix (pdb (pv 6)) pd_int (fun _ _ => rfl)) (pdb (pv 3)) rfl))) (fun _ _ _ _ _ => (pdv (pv 6))))
      (pds_cons (pds_set (i := 5) sc__law_shown.nd rfl (Or.inl rfl) (pd_op os_add (pd_callB (cs_sum rfl) (by rfl) B.b_sum (by decide +kernel) (pda_cons (pd_lc (own := [("_law_number", 7), ("_law_hold", 8), ("_law_needed", 9)]) (p := (.tup [(.nm 7), (.nm 8), (.nm 9)])) (by rfl) sc__law_shown.nd (pdi_list (pdv (pv 4))) (blkOk_by (own := [("_law_number", 7), ("_law_hold", 8), ("_law_needed", 9)]) (N := ["_law_classes_here", "_law_table_here", "_law_fixed", "_law_some", "_law_jobs_here", "_law_total", "_law_job", "_law_number", "_law_hold", "_law_needed"]) (sc := defScope s__law_shown) (by decide +kernel)) (by rfl) (fun _ _ _ _ _ => (pg_tup rfl (pgs_cons (pg_name (i := 7) sc__law_shown.nd rfl (Or.inl rfl)) (pgs_cons (pg_name (i := 8) sc__law_shown.nd rfl (Or.inl rfl)) (pgs_cons (pg_name (i := 9) sc__law_shown.nd rfl (Or.inl rfl)) pgs_nil))))) (fun _ _ _ _ _ => pdts_nil) (fun _ _ _ _ _ => (pdv (pv 8)))) pda_nil)) (pd_callN G_law_live mf_drl hC (hr.mono (by decide)) rfl m_law_live k_law_live b_law_live pass0 (pda_cons (pdv (pv 0)) (pda_cons (pdv (pv 2)) pda_nil)))))
      (pds_one (pds_ret (pd_op os_add (pdv (pv 5)) (pd_callB (cs_minL rfl) (by rfl) BL.b_min (by decide +kernel) (pda_cons (pd_lc (own := [("_law_number", 7), ("_law_hold", 8), ("_law_needed", 9)]) (p := (.tup [(.nm 7), (.nm 8), (.nm 9)])) (by rfl) sc__law_shown.nd (pdi_list (pdv (pv 4))) (blkOk_by (own := [("_law_number", 7), ("_law_hold", 8), ("_law_needed", 9)]) (N := ["_law_classes_here", "_law_table_here", "_law_fixed", "_law_some", "_law_jobs_here", "_law_total", "_law_job", "_law_number", "_law_hold", "_law_needed"]) (sc := defScope s__law_shown) (by decide +kernel)) (by rfl) (fun _ _ _ _ _ => (pg_tup rfl (pgs_cons (pg_name (i := 7) sc__law_shown.nd rfl (Or.inl rfl)) (pgs_cons (pg_name (i := 8) sc__law_shown.nd rfl (Or.inl rfl)) (pgs_cons (pg_name (i := 9) sc__law_shown.nd rfl (Or.inl rfl)) pgs_nil))))) (fun _ _ _ _ _ => pdts_nil) (fun _ _ _ _ _ => (pd_op os_sub (pdb (pv 9)) (pdb (pv 8))))) pda_nil))))))))))) ?_
  rintro xs Q Z ⟨ps, rows, pr, ns, rfl, sz, h1, h2, h3, h4, q⟩
  have n6 := sz.n6
  refine ⟨Nat.le_of_ble_eq_true rfl, plain_dNs ns, rfl, shaped_tNs ns, shaped_tNs [], ?_⟩
  cases hn : decide (ns = []) with
  | true =>
    refine ifA (b := false ^^ PyData.eqv (.tuple (dNs ns)) (.tuple [])) (by rw [eqv_tnil, hn]; rfl) ?_
    refine ⟨ps, rows, rfl, sz, h1, rfl, rfl, ?_⟩
    have e : shownV ps rows pr ns = lv ps rows := if_pos (of_decide_eq_true hn)
    rw [← e]
    exact q
  | false =>
    refine ifB (b := false ^^ PyData.eqv (.tuple (dNs ns)) (.tuple [])) (by rw [eqv_tnil, hn]; rfl) ?_
    refine ⟨ps, rows, pr, rfl, sz, h1, h2, h3, rfl, ?_⟩
    have jl := jobs_len sz h1 h2
    have sub : ∀ j ∈ jobs ps rows pr, 0 ≤ j.1 := fun j hj => by
      unfold jobs at hj
      obtain ⟨n, _, rfl⟩ := List.mem_map.mp hj
      exact Int.natCast_nonneg n
    refine ⟨fun i acc r => acc = (((jobs ps rows pr).take i).filter fun j => decide (j.1.toNat ∈ ns)).map dJ ∧ r = _, ⟨rfl, rfl⟩, ?_, ?_⟩
    · rintro i d acc r hi ⟨rfl, rfl⟩
      obtain ⟨j, ej, rfl⟩ := get_map hi
      have j0 := sub j (List.mem_of_getElem? ej)
      refine ⟨_, rfl, rfl, flat_dNs ns, ?_⟩
      cases hc : decide (j.1.toNat ∈ ns) with
      | true =>
        refine ifA (b := false ^^ (dNs ns).any fun z => PyData.eqv z (.int j.1)) (by rw [any_dNs j.1 j0, hc]; rfl) ?_
        have fn : [j].filter (fun j => decide (j.1.toNat ∈ ns)) = [j] := by rw [List.filter_cons, if_pos hc, List.filter_nil]
        refine ⟨?_, ?_, rfl⟩
        · rw [List.length_map]
          have a := List.length_filter_le (fun j : Job => decide (j.1.toNat ∈ ns)) ((jobs ps rows pr).take i)
          have b := take_lt (n := 6) jl i
          omega
        · rw [← take_next ej, List.filter_append, fn, List.map_append]
          rfl
      | false =>
        refine ifB (b := false ^^ (dNs ns).any fun z => PyData.eqv z (.int j.1)) (by rw [any_dNs j.1 j0, hc]; rfl) ?_
        have fn : [j].filter (fun j => decide (j.1.toNat ∈ ns)) = [] := by rw [List.filter_cons, if_neg (by rw [hc]; exact Bool.false_ne_true), List.filter_nil]
        refine ⟨?_, rfl⟩
        rw [← take_next ej, List.filter_append, fn, List.append_nil]
    · rintro acc r ⟨rfl, rfl⟩
      have es : ((jobs ps rows pr).take ((jobs ps rows pr).map dJ).length).filter (fun j => decide (j.1.toNat ∈ ns)) = sel ps rows pr ns := by
        rw [List.length_map, List.take_of_length_le (Nat.le_refl _)]
        rfl
      have sl : (sel ps rows pr ns).length ≤ 6 := by
        have := List.length_filter_le (fun j : Job => decide (j.1.toNat ∈ ns)) (jobs ps rows pr)
        exact Nat.le_trans this jl
      have sne : sel ps rows pr ns ≠ [] := fun z => by
        cases hns : ns with
        | nil => rw [hns] at hn; cases hn
        | cons n rest =>
          have hm : n ∈ ns := by rw [hns]; exact List.mem_cons_self
          have : jobAt ps rows pr n ∈ sel ps rows pr ns := List.mem_filter.mpr ⟨List.mem_map_of_mem (h4 n hm), decide_eq_true (by
            show (n : Int).toNat ∈ ns
            rw [Int.toNat_natCast]
            exact hm)⟩
          rw [z] at this
          cases this
      rw [es]
      generalize hsel : sel ps rows pr ns = S at sl sne
      refine ⟨rfl, fun i acc r => acc = ((S.take i).map fun j => j.2.1).map PyData.int ∧ r = _, ⟨rfl, rfl⟩, ?_, ?_⟩
      · rintro i d acc r hi ⟨rfl, rfl⟩
        obtain ⟨j, ej, rfl⟩ := get_map hi
        have tl := take_lt (n := 6) sl i
        refine ⟨_, rfl, ?_⟩
        refine ⟨by rw [List.length_map, List.length_map]; omega, ?_, rfl⟩
        rw [← take_next ej, List.map_append, List.map_append]
        rfl
      · rintro acc r ⟨rfl, rfl⟩
        have e1 : S.take (S.map dJ).length = S := by rw [List.length_map, List.take_of_length_le (Nat.le_refl _)]
        rw [e1]
        refine ints_on ?_
        refine ⟨ps, pr, rfl, sz, h2, rfl, rfl, ?_⟩
        dsimp only
        have ev : shownV ps rows pr ns = (S.map fun j => j.2.1).sum + lv ps pr + minI (S.map fun j => j.2.2 - j.2.1) := by
          unfold shownV
          rw [if_neg (of_decide_eq_false hn), hsel]
        rw [ev] at q
        generalize (List.map (fun j : Job => j.2.1) S).sum + lv ps pr = A at q ⊢
        refine seq_env (ρ' := [.d (.list (ps.map dPair)), .d (dRows rows), .d (dRows pr), .d (.tuple (dNs ns)), .d (.list (S.map dJ)), .d (.int A), .no, .no, .no, .no]) rfl ?_
        refine ⟨fun i acc r => acc = ((S.take i).map fun j => j.2.2 - j.2.1).map PyData.int ∧ r = [.d (.list (ps.map dPair)), .d (dRows rows), .d (dRows pr), .d (.tuple (dNs ns)), .d (.list (S.map dJ)), .d (.int A), .no, .no, .no, .no], ⟨rfl, rfl⟩, ?_, ?_⟩
        · rintro i d acc r hi ⟨rfl, rfl⟩
          obtain ⟨j, ej, rfl⟩ := get_map hi
          have tl := take_lt (n := 6) sl i
          refine ⟨_, rfl, ?_⟩
          refine ⟨by rw [List.length_map, List.length_map]; omega, ?_, rfl⟩
          rw [← take_next ej, List.map_append, List.map_append]
          rfl
        · rintro acc r ⟨rfl, rfl⟩
          rw [e1]
          exact ⟨_, rfl, by simpa using sne, rfl, q⟩
end
end K20
set_option Elab.async false
set_option linter.all false
set_option maxRecDepth 100000
set_option maxHeartbeats 4000000
/-! the laws' jobs are the program's costs -/
namespace MR
open PySem PySem.Spec PyProof.Rows L2 XV SL DL
theorem jobs_of {ps : PS} {rows pr : Rows} (sz : SzOk ps) (h1 : rows.length = ps.length) (h2 : pr.length = ps.length) : JobsOf (cst ps pr) (fur rows pr) (lv ps pr) (jobAt ps rows pr) := by
  have lf : (fur rows pr).length = ps.length := by rw [fur_len (by rw [h1, h2]), h2]
  have key : ∀ n, n ∈ grow (fur rows pr) → ∃ q ns ms, q ∈ ps ∧ jobAt ps rows pr n = job1 n q ns ms ∧ cAt (cst ps pr) n = cost1 (lv ps pr) q ms ∧ fAt (fur rows pr) n = (ns.length : Int) - ms.length := by
    intro n hn
    have lt := (grow_mem hn).1
    rw [lf] at lt
    obtain ⟨q, eq⟩ : ∃ q, ps[n]? = some q := ⟨_, List.getElem?_eq_getElem lt⟩
    obtain ⟨ns, en⟩ : ∃ ns, rows[n]? = some ns := ⟨_, List.getElem?_eq_getElem (by omega)⟩
    obtain ⟨ms, em⟩ : ∃ ms, pr[n]? = some ms := ⟨_, List.getElem?_eq_getElem (by omega)⟩
    refine ⟨q, ns, ms, List.mem_of_getElem? eq, ?_, ?_, ?_⟩
    · unfold jobAt
      rw [List.getD_eq_getElem?_getD, List.getD_eq_getElem?_getD, List.getD_eq_getElem?_getD, eq, en, em]
      rfl
    · unfold cAt cst
      rw [List.getD_eq_getElem?_getD, List.getElem?_map, (List.getElem?_zip_eq_some (z := (q, ms))).mpr ⟨eq, em⟩]
      rfl
    · unfold fAt fur
      rw [List.getD_eq_getElem?_getD, List.getElem?_map, (List.getElem?_zip_eq_some (z := (ns, ms))).mpr ⟨en, em⟩]
      rfl
  refine ⟨fun n => rfl, fun n hn => ?_, fun n hn => ?_⟩
  · obtain ⟨q, ns, ms, hq, e1, e2, e3⟩ := key n hn
    have g := (grow_mem hn).2
    have rg := sz.rg q hq
    unfold MR.hold
    rw [e1, e2, e3]
    rw [e3] at g
    refine ⟨Int.mul_comm _ _, Int.mul_nonneg (by show 0 ≤ q.1; omega) (by omega)⟩
  · obtain ⟨q, ns, ms, hq, e1, e2, e3⟩ := key n hn
    rw [e1, e2, e3]
    show lv ps pr + ((((ns.length : Int) - 1) * q.2 + 1) * q.1 - q.1 * ms.sum) = (lv ps pr - q.1 * ms.sum + q.1 * ((ms.length : Int) * q.2 + 1)) + q.1 * q.2 * (((ns.length : Int) - ms.length) - 1)
    grind
theorem law_least {ps : PS} {rows pr : Rows} (sz : SzOk ps) (h1 : rows.length = ps.length) (h2 : pr.length = ps.length) (hF : lv ps pr ≤ lv ps rows) : lawBest (lv ps pr) (lv ps rows) (jobs ps rows pr) = (leastS (cst ps pr) (fur rows pr) (lv ps rows)).1 :=
  lawBest_eq (jobs_of sz h1 h2) hF
/-- what the law says that a set shows -/
theorem sel_perm {ps : PS} {rows pr : Rows} {ns : List Nat} (nd : ns.Nodup) (hg : ∀ n ∈ ns, n ∈ grow (fur rows pr)) : (sel ps rows pr ns).Perm (ns.map (jobAt ps rows pr)) := by
  unfold sel jobs
  rw [List.filter_map]
  refine List.Perm.map _ ?_
  refine (List.perm_ext_iff_of_nodup (List.Nodup.sublist List.filter_sublist (grow_nodup _)) nd).mpr fun n => ?_
  rw [List.mem_filter]
  constructor
  · rintro ⟨_, h⟩
    have h := of_decide_eq_true h
    have h : ((n : Int)).toNat ∈ ns := h
    rw [Int.toNat_natCast] at h
    exact h
  · intro h
    refine ⟨hg n h, decide_eq_true ?_⟩
    show ((n : Int)).toNat ∈ ns
    rw [Int.toNat_natCast]
    exact h
theorem shown_last {ps : PS} {rows pr : Rows} {ns : List Nat} (sz : SzOk ps) (h1 : rows.length = ps.length) (h2 : pr.length = ps.length) (nd : ns.Nodup) (hg : ∀ n ∈ ns, n ∈ grow (fur rows pr)) (ne : ns ≠ []) : shownV ps rows pr ns = lastB (cst ps pr) (fur rows pr) ns := by
  have J := jobs_of sz h1 h2
  have p := sel_perm (ps := ps) nd hg
  unfold shownV
  rw [if_neg ne, perm_sum (p.map _), perm_minI (p.map _), J.sum hg, List.map_map]
  unfold lastB
  have e : ns.map (gb (cst ps pr) (fur rows pr)) = (ns.map ((fun j : Job => j.2.2 - j.2.1) ∘ jobAt ps rows pr)).map fun v => lv ps pr + v := by
    rw [List.map_map]
    refine List.map_congr_left fun n hn => ?_
    rw [J.gb (hg n hn)]
    show _ = lv ps pr + ((jobAt ps rows pr n).2.2 - (jobAt ps rows pr n).2.1)
    omega
  have sh : ∀ (F : Int) {vs : List Int}, vs ≠ [] → minI (vs.map fun v => F + v) = F + minI vs := by
    intro F vs hv
    obtain ⟨a1, a2⟩ := minI_ok hv
    obtain ⟨b1, b2⟩ := minI_ok (ns := vs.map fun v => F + v) (by simpa using hv)
    obtain ⟨v, hv2, ev⟩ := List.mem_map.mp b1
    have := b2 _ (List.mem_map_of_mem (f := fun v => F + v) a1)
    have := a2 v hv2
    omega
  rw [e, sh _ (by simpa using ne)]
  omega
/-- the told list is not empty only if it shows more than the live bytes -/
theorem least_nil (cs : List Cost) (fs : List Int) (held : Int) : (leastS cs fs held).2 = [] ↔ (leastS cs fs held).1 = held := by
  unfold leastS
  have key : ∀ (is : List Nat) (a : Int × List Nat), (∀ i ∈ is, i < (srt cs fs).length) → held ≤ a.1 → (a.2 = [] ↔ a.1 = held) → held ≤ (is.foldl (leastStep cs fs (srt cs fs)) a).1 ∧ ((is.foldl (leastStep cs fs (srt cs fs)) a).2 = [] ↔ (is.foldl (leastStep cs fs (srt cs fs)) a).1 = held) := by
    intro is
    induction is with
    | nil => exact fun a _ h0 h => ⟨h0, h⟩
    | cons i is ih =>
      intro a hi h0 h
      rw [List.foldl_cons]
      have li := hi i List.mem_cons_self
      have st : held ≤ (leastStep cs fs (srt cs fs) a i).1 ∧ ((leastStep cs fs (srt cs fs) a i).2 = [] ↔ (leastStep cs fs (srt cs fs) a i).1 = held) := by
        unfold leastStep
        split
        · rename_i hl
          refine ⟨by show held ≤ lastB cs fs _; omega, fun z => ?_, fun z => ?_⟩
          · have z : (srt cs fs).take (i + 1) = [] := z
            have := congrArg List.length z
            rw [List.length_take] at this
            simp only [List.length_nil] at this
            omega
          · have z : lastB cs fs ((srt cs fs).take (i + 1)) = held := z
            omega
        · exact ⟨h0, h⟩
      exact ih _ (fun j hj => hi j (List.mem_cons_of_mem _ hj)) st.1 st.2
  exact (key _ _ (fun i hi => List.mem_range.mp hi) (Int.le_refl _) ⟨fun _ => rfl, fun _ => rfl⟩).2
/-- what is told, in plain words -/
theorem told_facts (cs : List Cost) (fs : List Int) (held : Int) : ∃ (l : Int) (ns : List Nat), dLim (leastS cs fs held) = .tuple [.int l, .tuple (dNs ns)] ∧ l = (leastS cs fs held).1 ∧ ns.Nodup ∧ (∀ n ∈ ns, n ∈ grow fs) ∧ (toI ns).Pairwise (· < ·) ∧ (ns = [] ↔ l = held) ∧ (ns ≠ [] → l = lastB cs fs ns) ∧ ns.length ≤ fs.length := by
  have hn := least_nil cs fs held
  have fm := least_form cs fs held
  have sub : (∀ n ∈ (leastS cs fs held).2, n ∈ grow fs) ∧ (leastS cs fs held).2.Nodup ∧ ((leastS cs fs held).2 ≠ [] → (leastS cs fs held).1 = lastB cs fs (leastS cs fs held).2) ∧ (leastS cs fs held).2.length ≤ fs.length := by
    rcases fm with h | ⟨i, hi, h⟩ <;> rw [h]
    · exact ⟨(fun n hn => nomatch hn), .nil, fun z => absurd rfl z, Nat.zero_le _⟩
    · refine ⟨fun n hn => (srt_perm cs fs).mem_iff.mp (List.mem_of_mem_take hn), List.Nodup.sublist (List.take_sublist _ _) (srt_nodup cs fs), fun _ => rfl, ?_⟩
      have := srt_len cs fs
      show ((srt cs fs).take (i + 1)).length ≤ fs.length
      rw [List.length_take]
      omega
  generalize leastS cs fs held = a at hn sub ⊢
  obtain ⟨l, as⟩ := a
  obtain ⟨s1, s2, s3, s4⟩ := sub
  have pn := srtI_nats as
  have so := srtI_ok (toI as)
  have back : toI ((srtI (toI as)).map Int.toNat) = srtI (toI as) := by
    unfold toI
    rw [List.map_map]
    refine (List.map_congr_left fun i hi => ?_).trans (List.map_id _)
    have z := so.1.mem_iff.mp hi
    obtain ⟨n, _, rfl⟩ := List.mem_map.mp z
    show (((n : Int).toNat : Nat) : Int) = (n : Int)
    rw [Int.toNat_natCast]
  have nd : ((srtI (toI as)).map Int.toNat).Nodup := pn.nodup_iff.mpr s2
  refine ⟨l, (srtI (toI as)).map Int.toNat, ?_, rfl, nd, fun n hn => s1 n (pn.mem_iff.mp hn), ?_, ?_, fun ne => ?_, by rw [pn.length_eq]; exact s4⟩
  · unfold dLim
    rw [dNs_toI, back]
    rfl
  · rw [back]
    have nd2 : (srtI (toI as)).Nodup := by
      rw [← back]
      unfold toI
      have : ∀ ns : List Nat, ns.Nodup → (ns.map fun (n : Nat) => (n : Int)).Nodup := by
        intro ns
        induction ns with
        | nil => intro _; exact .nil
        | cons n ns ih =>
          intro h
          rw [List.nodup_cons] at h
          rw [List.map_cons, List.nodup_cons]
          refine ⟨fun z => ?_, ih h.2⟩
          obtain ⟨m, hm, e⟩ := List.mem_map.mp z
          have e3 : m = n := by omega
          exact h.1 (e3 ▸ hm)
      exact this _ nd
    have := List.Pairwise.and so.2 nd2
    refine this.imp fun h => ?_
    obtain ⟨h1, h2⟩ := h
    omega
  · rw [← hn]
    constructor
    · intro z
      rw [z] at pn
      exact pn.nil_eq.symm
    · intro z
      have z : as = [] := z
      have pn2 := pn
      exact (z ▸ pn : ((srtI (toI as)).map Int.toNat).Perm []).eq_nil
  · have na : as ≠ [] := fun z => ne (z ▸ pn : ((srtI (toI as)).map Int.toNat).Perm []).eq_nil
    rw [perm_lastB pn]
    exact s3 na
theorem asc_eq {ms ks : List Int} (h1 : ms.Pairwise (· < ·)) (h2 : ks.Pairwise (· < ·)) (h : ∀ k : Int, k ∈ ms ↔ k ∈ ks) : ms = ks := by
  have p : ms.Perm ks := (List.perm_ext_iff_of_nodup (h1.imp fun h e => by omega) (h2.imp fun h e => by omega)).mpr h
  exact List.Perm.eq_of_pairwise (le := fun a b : Int => a ≤ b) (fun a b _ _ x y => by omega) (h1.imp fun h => by omega) (h2.imp fun h => by omega) p
end MR
set_option Elab.async false
set_option linter.all false
set_option maxRecDepth 100000
set_option maxHeartbeats 4000000
/-! calls whose arguments are all keywords, in the reverse order of the parameters; the last may lack -/
namespace DL
open PySem PySem.Spec PyProof.Rows L2 XV SL LamX
theorem vals_rev : ∀ {zs : List V} {ws : List Value}, Vals zs ws → Vals zs.reverse ws.reverse
  | _, _, .nil => .nil
  | _, _, .cons a r => by
    rw [List.reverse_cons, List.reverse_cons]
    exact (vals_rev r).append (.cons a .nil)
def tCallR (m : Nat) (sp : Sp) (gV : List V → List V → List V) (E : XK) (tk : TA) : TE := fun σ H Q => tk σ H fun zs H2 => zs.length = m ∧ sp (gV [] zs) H2 Q E
theorem pe_callR {X : Cx} {CX : CXT} {k : Nat} {f : Addr} {fd : FuncData} {ps ks : List Str} {sp : Sp} {E : XK} {x : Str} {p pos : Pos} {kws : List Keyword} {tk : TA} {g : List Value → List Value → List Value} {gV : List V → List V → List V}
    (F : FnOk X.prog X.w X.K X.mg X.base CX k f fd ps sp) (hr : Room k X.A) (hg : Gl X x) (hm : X.mg x = some (.ref f)) (hk : PySem.W.keepIn X.K (.ref f) = true) (hb : KBn X.K fd ps 0 ks g gV) (hx : Passes CX X E)
    (hkw : PK X kws tk) (hall : (backToKw pos (keywordEach kws X.env)).all (·.1.isSome) = true := by rfl) (hks : (backToKw pos (keywordEach kws X.env)).filterMap (·.1) = ks := by rfl)
    (hdb : (x == ("__debug__" : Str)) = false := by decide) (hpl : ((backTo pos (starEach [] X.env)).any (·.1) || (backToKw pos (keywordEach kws X.env)).any (·.1.isNone)) = false := by rfl) :
    PE X (.Call (.Name x p) [] kws pos) (tCallR ks.length sp gV E tk) := by
  refine ⟨fun pins s σ H Q I h => ?_⟩
  refine wpAny_Call_Name_kw (ld_glob I hg hm ?_ hdb)
  refine PySem.W.callWith_KW0 (h₀ := X.base) I.ok.mod.kin hk hall (thn (hkw.run pos pins s σ H _ I h) fun ws s2 ⟨zs, H2, I2, rz, l2, q2⟩ => ⟨I2.kIn, ?_⟩) hpl
  rw [hks]
  exact run_fnN F hr hb hx I2 .nil rz rfl l2 q2
theorem pk_wk {X : Cx} {kws : List Keyword} {t t' : TA} (h : PK X kws t) (k : ∀ σ H Q, t' σ H Q → t σ H Q) : PK X kws t' := ⟨fun pos pins s σ H Q I q => h.run pos pins s σ H Q I (k σ H Q q)⟩
section
variable {c : DC} {E : EZ} {X : Cx}
structure PDK (c : DC) (E : EZ) (X : Cx) (kws : List Keyword) (t : TDA) : Prop where
  pk : PK X kws (liftA c E t)
  mono : MonoA t
  len : ∀ ρ Q Z, t ρ Q Z → t ρ (fun xs r => xs.length = kws.length ∧ Q xs r) Z
theorem pdk_nil : PDK c E X [] tdNil := ⟨pk_wk pk_nil fun σ H Q ⟨ρ, τ, B, s, q⟩ => q [] H B rfl s, fun ρ Q Q' Z k q => k _ _ q, fun ρ Q Z q => ⟨rfl, q⟩⟩
theorem pdk_cons {e : Expr} {kws : List Keyword} {ta : TD} {tr : TDA} {nm : Option Str} {kpos : Pos} (ha : PDE c E X e ta) (hr : PDK c E X kws tr) : PDK c E X (⟨nm, e, kpos⟩ :: kws) (tdCons ta tr) :=
  ⟨pk_wk (pk_cons ha.pe hr.pk) fun σ H Q ⟨ρ, τ, B, s, q⟩ => ⟨ρ, τ, B, s, ha.mono _ _ _ _ (fun x ρ1 q1 v H1 B1 s1 => ⟨ρ1, _, B1, s1, hr.mono _ _ _ _ (fun xs ρ2 q2 vs H2 B2 hl s2 => q2 (v :: vs) H2 B2 (by rw [List.length_cons, List.length_cons, hl]) s2) q1⟩) q⟩,
    fun ρ Q Q' Z k q => ha.mono _ _ _ _ (fun x r q1 => hr.mono _ _ _ _ (fun xs r2 q2 => k _ _ q2) q1) q,
    fun ρ Q Z q => ha.mono _ _ _ _ (fun x r q1 => hr.mono _ _ _ _ (fun xs r2 q2 => ⟨by rw [List.length_cons, List.length_cons, q2.1], q2.2⟩) (hr.len _ _ _ q1)) q⟩
theorem pushT_one : ∀ (vs : List V) (xs : List DV) (v : V) (x : DV) (τ : List (Option V × DV)), (pushT vs xs ((some v, x) :: τ)).Perm ((some v, x) :: pushT vs xs τ)
  | [], [], _, _, _ => List.Perm.refl _
  | [], _ :: _, _, _, _ => List.Perm.refl _
  | _ :: _, [], _, _, _ => List.Perm.refl _
  | u :: us, y :: ys, v, x, τ => by
    show (pushT us ys ((some u, y) :: (some v, x) :: τ)).Perm ((some v, x) :: pushT us ys ((some u, y) :: τ))
    exact (pushT_one us ys u y _).trans (((pushT_one us ys v x τ).cons _).trans ((List.Perm.swap _ _ _).trans ((pushT_one us ys u y τ).symm.cons _)))
theorem pushT_perm : ∀ {vs : List V} {xs : List DV} {τ : List (Option V × DV)}, vs.length = xs.length → (pushT vs xs τ).Perm (pushT vs.reverse xs.reverse τ)
  | [], [], τ, _ => List.Perm.refl _
  | v :: vs, x :: xs, τ, h => by
    have h : vs.length = xs.length := by simpa using h
    rw [List.reverse_cons, List.reverse_cons, pushT_snoc v x (by rw [List.length_reverse, List.length_reverse, h])]
    refine List.Perm.trans ?_ (List.Perm.cons _ (pushT_perm (τ := τ) h))
    show (pushT vs xs ((some v, x) :: τ)).Perm ((some v, x) :: pushT vs xs τ)
    clear h
    exact pushT_one vs xs v x τ
  | [], _ :: _, _, h => by simp at h
  | _ :: _, [], _, h => by simp at h
def tdFnR (td : List DV → (DV → Prop) → EZ → Prop) (ta : TDA) : TD := fun ρ Q Z => ta ρ (fun xs r => match argsOf xs.reverse with
  | some ys => td ys (fun x => x.isBor = false ∧ Q x r) (fun C n x => x.isBor = false ∧ Z C n x)
  | none => False) Z
theorem mono_fnR {td : List DV → (DV → Prop) → EZ → Prop} {ta : TDA} (mf : MonoF td) (ma : MonoA ta) : MonoE (tdFnR td ta) := fun ρ Q Q' Z m q => ma _ _ _ _ (fun xs r hx => by
  split at hx
  · exact mf _ _ _ _ (fun x hx => ⟨hx.1, m _ _ hx.2⟩) hx
  · exact hx.elim) q
/-- the last argument lacks: None -/
def tdFnRD (td : List DV → (DV → Prop) → EZ → Prop) (ta : TDA) : TD := fun ρ Q Z => ta ρ (fun xs r => match argsOf (xs.reverse ++ [.d .none]) with
  | some ys => td ys (fun x => x.isBor = false ∧ Q x r) (fun C n x => x.isBor = false ∧ Z C n x)
  | none => False) Z
theorem mono_fnRD {td : List DV → (DV → Prop) → EZ → Prop} {ta : TDA} (mf : MonoF td) (ma : MonoA ta) : MonoE (tdFnRD td ta) := fun ρ Q Q' Z m q => ma _ _ _ _ (fun xs r hx => by
  split at hx
  · exact mf _ _ _ _ (fun x hx => ⟨hx.1, m _ _ hx.2⟩) hx
  · exact hx.elim) q
theorem pd_callR {CX : CXT} {k n : Nat} {f : Addr} {fd : FuncData} {ps ks : List Str} {td : List DV → (DV → Prop) → EZ → Prop} {EX : XK} {x : Str} {p pos : Pos} {kws : List Keyword} {ta : TDA} {C : Addr} {g : List Value → List Value → List Value}
    (F : FnOk X.prog X.w X.K X.mg X.base CX k f fd ps (spD C n td)) (mf : MonoF td) (hC : c.C = C ∧ Nt c.B0) (hZ : ∀ C n x, E C n x → XW c EX C n x) (hr : Room k X.A) (hg : Gl X x) (hm : X.mg x = some (.ref f)) (hk : PySem.W.keepIn X.K (.ref f) = true)
    (hb : KBn X.K fd ps 0 ks g (fun _ zs => zs.reverse)) (hx : Passes CX X EX) (ha : PDK c E X kws ta) (hn : kws.length = n := by rfl)
    (hall : (backToKw pos (keywordEach kws X.env)).all (·.1.isSome) = true := by rfl) (hks : (backToKw pos (keywordEach kws X.env)).filterMap (·.1) = ks := by rfl)
    (hdb : (x == ("__debug__" : Str)) = false := by decide) (hpl : ((backTo pos (starEach [] X.env)).any (·.1) || (backToKw pos (keywordEach kws X.env)).any (·.1.isNone)) = false := by rfl) (hn2 : ks.length = n := by rfl) :
    PDE c E X (.Call (.Name x p) [] kws pos) (tdFnR td ta) := by
  obtain ⟨hC, hN⟩ := hC
  subst hC
  refine ⟨pe_wk (pe_callR F hr hg hm hk hb hx ha.pk hall hks hdb hpl) fun σ H Q ⟨ρ, τ, B, s, q⟩ => ⟨ρ, τ, B, s, ha.mono _ _ _ _ (fun xs r hx vs H' B' hl s' => ?_) (ha.len _ _ _ q)⟩, mono_fnR mf ha.mono⟩
  have s2 := s'.perm (pushT_perm hl)
  have hl2 : vs.reverse.length = xs.reverse.length := by rw [List.length_reverse, List.length_reverse, hl]
  have hl3 : vs.reverse.length = n := by
    rw [List.length_reverse, hl, hx.1, hn]
  refine ⟨by rw [hl, hx.1, hn, hn2], ?_⟩
  show spD c.C n td (vs.reverse) H' Q EX
  exact call_sp (Qd := fun x ρ' => ∀ v H' B', Sd c σ H' ρ' ((some v, x) :: τ) B' → Q v H') (xs := xs.reverse) mf hN hZ s2 hl2 hl3 hx.2 fun x v H2 B2 hq s2 => hq v H2 B2 s2
theorem pd_callRD {CX : CXT} {k n : Nat} {f : Addr} {fd : FuncData} {ps ks : List Str} {td : List DV → (DV → Prop) → EZ → Prop} {EX : XK} {x : Str} {p pos : Pos} {kws : List Keyword} {ta : TDA} {C : Addr} {g : List Value → List Value → List Value}
    (F : FnOk X.prog X.w X.K X.mg X.base CX k f fd ps (spD C (n + 1) td)) (mf : MonoF td) (hC : c.C = C ∧ Nt c.B0) (hZ : ∀ C n x, E C n x → XW c EX C n x) (hr : Room k X.A) (hg : Gl X x) (hm : X.mg x = some (.ref f)) (hk : PySem.W.keepIn X.K (.ref f) = true)
    (hb : KBn X.K fd ps 0 ks g (fun _ zs => zs.reverse ++ [.non])) (hx : Passes CX X EX) (ha : PDK c E X kws ta) (hn : kws.length = n := by rfl)
    (hall : (backToKw pos (keywordEach kws X.env)).all (·.1.isSome) = true := by rfl) (hks : (backToKw pos (keywordEach kws X.env)).filterMap (·.1) = ks := by rfl)
    (hdb : (x == ("__debug__" : Str)) = false := by decide) (hpl : ((backTo pos (starEach [] X.env)).any (·.1) || (backToKw pos (keywordEach kws X.env)).any (·.1.isNone)) = false := by rfl) (hn2 : ks.length = n := by rfl) :
    PDE c E X (.Call (.Name x p) [] kws pos) (tdFnRD td ta) := by
  obtain ⟨hC, hN⟩ := hC
  subst hC
  refine ⟨pe_wk (pe_callR F hr hg hm hk hb hx ha.pk hall hks hdb hpl) fun σ H Q ⟨ρ, τ, B, s, q⟩ => ⟨ρ, τ, B, s, ha.mono _ _ _ _ (fun xs r hx vs H' B' hl s' => ?_) (ha.len _ _ _ q)⟩, mono_fnRD mf ha.mono⟩
  have s2 := s'.perm (pushT_perm hl)
  have hl2 : vs.reverse.length = xs.reverse.length := by rw [List.length_reverse, List.length_reverse, hl]
  have hl3 : vs.reverse.length = n := by
    rw [List.length_reverse, hl, hx.1, hn]
  refine ⟨by rw [hl, hx.1, hn, hn2], ?_⟩
  show spD c.C (n + 1) td (vs.reverse ++ [.non]) H' Q EX
  have s3 := s2.push (v := .non) (x := .d .none) rfl rfl
  have e2 := pushT_snoc (τ := τ) .non (.d .none) hl2
  rw [← e2] at s3
  exact call_sp (Qd := fun x ρ' => ∀ v H' B', Sd c σ H' ρ' ((some v, x) :: τ) B' → Q v H') (xs := xs.reverse ++ [.d .none]) mf hN hZ s3 (by rw [List.length_append, List.length_append, hl2]; rfl) (by rw [List.length_append, hl3]; rfl) hx.2 fun x v H2 B2 hq s2 => hq v H2 B2 s2
theorem pd_callRT {CX : CXT} {k n : Nat} {f : Addr} {fd : FuncData} {ps ks : List Str} {td : List DV → (DV → Prop) → EZ → Prop} {EX : XK} {x : Str} {p pos : Pos} {kws : List Keyword} {ta : TDA} {C : Addr} {g : List Value → List Value → List Value} {TT : List (Addr × Str)}
    (F : FnOk X.prog X.w X.K X.mg X.base CX k f fd ps (spDT C TT n td)) (mf : MonoF td) (hC : c.C = C ∧ Nt c.B0) (hL : LamOk c TT) (hZ : ∀ C n x, E C n x → XW c EX C n x) (hr : Room k X.A) (hg : Gl X x) (hm : X.mg x = some (.ref f)) (hk : PySem.W.keepIn X.K (.ref f) = true)
    (hb : KBn X.K fd ps 0 ks g (fun _ zs => zs.reverse)) (hx : Passes CX X EX) (ha : PDK c E X kws ta) (hn : kws.length = n := by rfl)
    (hall : (backToKw pos (keywordEach kws X.env)).all (·.1.isSome) = true := by rfl) (hks : (backToKw pos (keywordEach kws X.env)).filterMap (·.1) = ks := by rfl)
    (hdb : (x == ("__debug__" : Str)) = false := by decide) (hpl : ((backTo pos (starEach [] X.env)).any (·.1) || (backToKw pos (keywordEach kws X.env)).any (·.1.isNone)) = false := by rfl) (hn2 : ks.length = n := by rfl) :
    PDE c E X (.Call (.Name x p) [] kws pos) (tdFnR td ta) := by
  obtain ⟨hC, hN⟩ := hC
  subst hC
  refine ⟨pe_wk (pe_callR F hr hg hm hk hb hx ha.pk hall hks hdb hpl) fun σ H Q ⟨ρ, τ, B, s, q⟩ => ⟨ρ, τ, B, s, ha.mono _ _ _ _ (fun xs r hx vs H' B' hl s' => ?_) (ha.len _ _ _ q)⟩, mono_fnR mf ha.mono⟩
  have s2 := s'.perm (pushT_perm hl)
  have hl2 : vs.reverse.length = xs.reverse.length := by rw [List.length_reverse, List.length_reverse, hl]
  have hl3 : vs.reverse.length = n := by
    rw [List.length_reverse, hl, hx.1, hn]
  refine ⟨by rw [hl, hx.1, hn, hn2], ?_⟩
  show spDT c.C TT n td (vs.reverse) H' Q EX
  exact call_spT (Qd := fun x ρ' => ∀ v H' B', Sd c σ H' ρ' ((some v, x) :: τ) B' → Q v H') (xs := xs.reverse) mf hN hL hZ s2 hl2 hl3 hx.2 fun x v H2 B2 hq s2 => hq v H2 B2 s2
theorem pd_callRDT {CX : CXT} {k n : Nat} {f : Addr} {fd : FuncData} {ps ks : List Str} {td : List DV → (DV → Prop) → EZ → Prop} {EX : XK} {x : Str} {p pos : Pos} {kws : List Keyword} {ta : TDA} {C : Addr} {g : List Value → List Value → List Value} {TT : List (Addr × Str)}
    (F : FnOk X.prog X.w X.K X.mg X.base CX k f fd ps (spDT C TT (n + 1) td)) (mf : MonoF td) (hC : c.C = C ∧ Nt c.B0) (hL : LamOk c TT) (hZ : ∀ C n x, E C n x → XW c EX C n x) (hr : Room k X.A) (hg : Gl X x) (hm : X.mg x = some (.ref f)) (hk : PySem.W.keepIn X.K (.ref f) = true)
    (hb : KBn X.K fd ps 0 ks g (fun _ zs => zs.reverse ++ [.non])) (hx : Passes CX X EX) (ha : PDK c E X kws ta) (hn : kws.length = n := by rfl)
    (hall : (backToKw pos (keywordEach kws X.env)).all (·.1.isSome) = true := by rfl) (hks : (backToKw pos (keywordEach kws X.env)).filterMap (·.1) = ks := by rfl)
    (hdb : (x == ("__debug__" : Str)) = false := by decide) (hpl : ((backTo pos (starEach [] X.env)).any (·.1) || (backToKw pos (keywordEach kws X.env)).any (·.1.isNone)) = false := by rfl) (hn2 : ks.length = n := by rfl) :
    PDE c E X (.Call (.Name x p) [] kws pos) (tdFnRD td ta) := by
  obtain ⟨hC, hN⟩ := hC
  subst hC
  refine ⟨pe_wk (pe_callR F hr hg hm hk hb hx ha.pk hall hks hdb hpl) fun σ H Q ⟨ρ, τ, B, s, q⟩ => ⟨ρ, τ, B, s, ha.mono _ _ _ _ (fun xs r hx vs H' B' hl s' => ?_) (ha.len _ _ _ q)⟩, mono_fnRD mf ha.mono⟩
  have s2 := s'.perm (pushT_perm hl)
  have hl2 : vs.reverse.length = xs.reverse.length := by rw [List.length_reverse, List.length_reverse, hl]
  have hl3 : vs.reverse.length = n := by
    rw [List.length_reverse, hl, hx.1, hn]
  refine ⟨by rw [hl, hx.1, hn, hn2], ?_⟩
  show spDT c.C TT (n + 1) td (vs.reverse ++ [.non]) H' Q EX
  have s3 := s2.push (v := .non) (x := .d .none) rfl rfl
  have e2 := pushT_snoc (τ := τ) .non (.d .none) hl2
  rw [← e2] at s3
  exact call_spT (Qd := fun x ρ' => ∀ v H' B', Sd c σ H' ρ' ((some v, x) :: τ) B' → Q v H') (xs := xs.reverse ++ [.d .none]) mf hN hL hZ s3 (by rw [List.length_append, List.length_append, hl2]; rfl) (by rw [List.length_append, hl3]; rfl) hx.2 fun x v H2 B2 hq s2 => hq v H2 B2 s2
def tdFnRN (td : List DV → (DV → Prop) → EZ → Prop) (ta : TDA) : TD := fun ρ Q Z => ta ρ (fun xs r => match argsOf (xs.reverse) with
  | some ys => td ys (fun x => x.isBor = false ∧ Q x r) (fun _ _ _ => False)
  | none => False) Z
theorem mono_fnRN {td : List DV → (DV → Prop) → EZ → Prop} {ta : TDA} (mf : MonoF td) (ma : MonoA ta) : MonoE (tdFnRN td ta) := fun ρ Q Q' Z m q => ma _ _ _ _ (fun xs r hx => by
  split at hx
  · exact mf _ _ _ _ (fun x hx => ⟨hx.1, m _ _ hx.2⟩) hx
  · exact hx.elim) q
def tdFnRDN (td : List DV → (DV → Prop) → EZ → Prop) (ta : TDA) : TD := fun ρ Q Z => ta ρ (fun xs r => match argsOf (xs.reverse ++ [.d .none]) with
  | some ys => td ys (fun x => x.isBor = false ∧ Q x r) (fun _ _ _ => False)
  | none => False) Z
theorem mono_fnRDN {td : List DV → (DV → Prop) → EZ → Prop} {ta : TDA} (mf : MonoF td) (ma : MonoA ta) : MonoE (tdFnRDN td ta) := fun ρ Q Q' Z m q => ma _ _ _ _ (fun xs r hx => by
  split at hx
  · exact mf _ _ _ _ (fun x hx => ⟨hx.1, m _ _ hx.2⟩) hx
  · exact hx.elim) q
theorem pd_callRTN {CX : CXT} {k n : Nat} {f : Addr} {fd : FuncData} {ps ks : List Str} {td : List DV → (DV → Prop) → EZ → Prop} {EX : XK} {x : Str} {p pos : Pos} {kws : List Keyword} {ta : TDA} {C : Addr} {g : List Value → List Value → List Value} {TT : List (Addr × Str)}
    (F : FnOk X.prog X.w X.K X.mg X.base CX k f fd ps (spDT C TT n td)) (mf : MonoF td) (hC : c.C = C ∧ Nt c.B0) (hL : LamOk c TT) (hr : Room k X.A) (hg : Gl X x) (hm : X.mg x = some (.ref f)) (hk : PySem.W.keepIn X.K (.ref f) = true)
    (hb : KBn X.K fd ps 0 ks g (fun _ zs => zs.reverse)) (hx : Passes CX X EX) (ha : PDK c E X kws ta) (hn : kws.length = n := by rfl)
    (hall : (backToKw pos (keywordEach kws X.env)).all (·.1.isSome) = true := by rfl) (hks : (backToKw pos (keywordEach kws X.env)).filterMap (·.1) = ks := by rfl)
    (hdb : (x == ("__debug__" : Str)) = false := by decide) (hpl : ((backTo pos (starEach [] X.env)).any (·.1) || (backToKw pos (keywordEach kws X.env)).any (·.1.isNone)) = false := by rfl) (hn2 : ks.length = n := by rfl) :
    PDE c E X (.Call (.Name x p) [] kws pos) (tdFnRN td ta) := by
  obtain ⟨hC, hN⟩ := hC
  subst hC
  refine ⟨pe_wk (pe_callR F hr hg hm hk hb hx ha.pk hall hks hdb hpl) fun σ H Q ⟨ρ, τ, B, s, q⟩ => ⟨ρ, τ, B, s, ha.mono _ _ _ _ (fun xs r hx vs H' B' hl s' => ?_) (ha.len _ _ _ q)⟩, mono_fnRN mf ha.mono⟩
  have s2 := s'.perm (pushT_perm hl)
  have hl2 : vs.reverse.length = xs.reverse.length := by rw [List.length_reverse, List.length_reverse, hl]
  have hl3 : vs.reverse.length = n := by
    rw [List.length_reverse, hl, hx.1, hn]
  refine ⟨by rw [hl, hx.1, hn, hn2], ?_⟩
  show spDT c.C TT n td (vs.reverse) H' Q EX
  exact call_spTN (Qd := fun x ρ' => ∀ v H' B', Sd c σ H' ρ' ((some v, x) :: τ) B' → Q v H') (xs := xs.reverse) mf hN hL s2 hl2 hl3 hx.2 fun x v H2 B2 hq s2 => hq v H2 B2 s2
theorem pd_callRDTN {CX : CXT} {k n : Nat} {f : Addr} {fd : FuncData} {ps ks : List Str} {td : List DV → (DV → Prop) → EZ → Prop} {EX : XK} {x : Str} {p pos : Pos} {kws : List Keyword} {ta : TDA} {C : Addr} {g : List Value → List Value → List Value} {TT : List (Addr × Str)}
    (F : FnOk X.prog X.w X.K X.mg X.base CX k f fd ps (spDT C TT (n + 1) td)) (mf : MonoF td) (hC : c.C = C ∧ Nt c.B0) (hL : LamOk c TT) (hr : Room k X.A) (hg : Gl X x) (hm : X.mg x = some (.ref f)) (hk : PySem.W.keepIn X.K (.ref f) = true)
    (hb : KBn X.K fd ps 0 ks g (fun _ zs => zs.reverse ++ [.non])) (hx : Passes CX X EX) (ha : PDK c E X kws ta) (hn : kws.length = n := by rfl)
    (hall : (backToKw pos (keywordEach kws X.env)).all (·.1.isSome) = true := by rfl) (hks : (backToKw pos (keywordEach kws X.env)).filterMap (·.1) = ks := by rfl)
    (hdb : (x == ("__debug__" : Str)) = false := by decide) (hpl : ((backTo pos (starEach [] X.env)).any (·.1) || (backToKw pos (keywordEach kws X.env)).any (·.1.isNone)) = false := by rfl) (hn2 : ks.length = n := by rfl) :
    PDE c E X (.Call (.Name x p) [] kws pos) (tdFnRDN td ta) := by
  obtain ⟨hC, hN⟩ := hC
  subst hC
  refine ⟨pe_wk (pe_callR F hr hg hm hk hb hx ha.pk hall hks hdb hpl) fun σ H Q ⟨ρ, τ, B, s, q⟩ => ⟨ρ, τ, B, s, ha.mono _ _ _ _ (fun xs r hx vs H' B' hl s' => ?_) (ha.len _ _ _ q)⟩, mono_fnRDN mf ha.mono⟩
  have s2 := s'.perm (pushT_perm hl)
  have hl2 : vs.reverse.length = xs.reverse.length := by rw [List.length_reverse, List.length_reverse, hl]
  have hl3 : vs.reverse.length = n := by
    rw [List.length_reverse, hl, hx.1, hn]
  refine ⟨by rw [hl, hx.1, hn, hn2], ?_⟩
  show spDT c.C TT (n + 1) td (vs.reverse ++ [.non]) H' Q EX
  have s3 := s2.push (v := .non) (x := .d .none) rfl rfl
  have e2 := pushT_snoc (τ := τ) .non (.d .none) hl2
  rw [← e2] at s3
  exact call_spTN (Qd := fun x ρ' => ∀ v H' B', Sd c σ H' ρ' ((some v, x) :: τ) B' → Q v H') (xs := xs.reverse ++ [.d .none]) mf hN hL s3 (by rw [List.length_append, List.length_append, hl2]; rfl) (by rw [List.length_append, hl3]; rfl) hx.2 fun x v H2 B2 hq s2 => hq v H2 B2 s2
/-- f(e, .., k=v), nothing raised -/
def tdFnKN (td : List DV → (DV → Prop) → EZ → Prop) (ta : TDA) (tb : TD) : TD := fun ρ Q Z => ta ρ (fun xs r => tb r (fun y r2 => match argsOf (xs ++ [y]) with
  | some ys => td ys (fun x => x.isBor = false ∧ Q x r2) (fun _ _ _ => False)
  | none => False) Z) Z
theorem mono_fnKN {td : List DV → (DV → Prop) → EZ → Prop} {ta : TDA} {tb : TD} (mf : MonoF td) (ma : MonoA ta) (mb : MonoE tb) : MonoE (tdFnKN td ta tb) := fun ρ Q Q' Z m q => ma _ _ _ _ (fun xs r hx => mb _ _ _ _ (fun y r2 hy => by
  split at hy
  · exact mf _ _ _ _ (fun x hx => ⟨hx.1, m _ _ hx.2⟩) hy
  · exact hy.elim) hx) q
theorem pd_callKTN {CX : CXT} {k n : Nat} {f : Addr} {fd : FuncData} {ps : List Str} {TT : List (Addr × Str)} {td : List DV → (DV → Prop) → EZ → Prop} {EX : XK} {x nm : Str} {p pos kpos : Pos} {e ev : Expr} {es : List Expr} {ta : TDA} {tb : TD} {C : Addr} {g : List Value → List Value → List Value}
    (F : FnOk X.prog X.w X.K X.mg X.base CX k f fd ps (spDT C TT (n + 1) td)) (mf : MonoF td) (hC : c.C = C ∧ Nt c.B0) (hL : LamOk c TT) (hr : Room k X.A) (hg : Gl X x) (hm : X.mg x = some (.ref f)) (hk : PySem.W.keepIn X.K (.ref f) = true)
    (hb : KBn X.K fd ps n [nm] g (fun vs zs => vs ++ zs)) (hx : Passes CX X EX) (ha : PDA c E X (e :: es) ta) (hv : PDE c E X ev tb) (hn : (e :: es).length = n := by rfl)
    (hall : (backToKw pos (keywordEach [⟨some nm, ev, kpos⟩] X.env)).all (·.1.isSome) = true := by rfl) (hks : (backToKw pos (keywordEach [⟨some nm, ev, kpos⟩] X.env)).filterMap (·.1) = [nm] := by rfl)
    (hdb : (x == ("__debug__" : Str)) = false := by decide) (he : starEach (e :: es) X.env = (false, eval e X.env) :: starEach es X.env := by rfl)
    (hpl : ((backTo pos (starEach (e :: es) X.env)).any (·.1) || (backToKw pos (keywordEach [⟨some nm, ev, kpos⟩] X.env)).any (·.1.isNone)) = false := by rfl) :
    PDE c E X (.Call (.Name x p) (e :: es) [⟨some nm, ev, kpos⟩] pos) (tdFnKN td ta tb) := by
  obtain ⟨hC, hN⟩ := hC
  subst hC
  refine ⟨pe_wk (pe_callN F hr hg hm hk hb hx ha.pa (pk_cons hv.pe pk_nil) hall hks hdb he hpl) fun σ H Q ⟨ρ, τ, B, s, q⟩ => ⟨ρ, τ, B, s, ha.mono _ _ _ _ (fun xs r hx vs H' B' hl s' => ?_) (ha.len _ _ _ q)⟩, mono_fnKN mf ha.mono hv.mono⟩
  refine ⟨r, _, B', s', hv.mono _ _ _ _ (fun y r2 hy v H2 B2 s2 => ?_) hx.2⟩
  show vs.length = n ∧ ([v] : List V).length = 1 ∧ spDT c.C TT (n + 1) td (vs ++ [v]) H2 Q EX
  refine ⟨by have := hx.1; omega, rfl, ?_⟩
  have e2 := pushT_snoc (τ := τ) v y hl
  rw [← e2] at s2
  exact call_spTN (Qd := fun x ρ' => ∀ v H' B', Sd c σ H' ρ' ((some v, x) :: τ) B' → Q v H') (xs := xs ++ [y]) mf hN hL s2 (by rw [List.length_append, List.length_append, hl]; rfl) (by rw [List.length_append, List.length_singleton]; have := hx.1; omega) hy fun x v H2 B2 hq s2 => hq v H2 B2 s2
end
/-- keyword-only defaults, the others written by name -/
theorem kbinds0 {K : PySem.W.Frag} {x qual : Str} {params : Arguments} {body : List Stmt} {scope : Scope} {kws : List (Str × V)} {f : Addr} {fd : FuncData} {ps : List Str} (F : FunD K x qual params body scope [] kws f fd) (ks : List Str) (hk : kws ≠ [])
    (h : ∀ (D : Addr) (doc pm : Value) (an : Option Addr) (cdv ct : Value) (mv ws : List Value), mv.length = kws.length → ws.length = ks.length →
      KwChain D ((kws.map (·.1)).zip mv) (bindArgs (PySem.W.fnOf x qual params body scope .none (.ref D) doc pm an cdv ct) ⟨[], ks.zip ws⟩) (ps.zip (ws.reverse ++ mv))) : ∃ g, KBn K fd ps 0 ks g (fun _ zs => zs.reverse ++ kws.map (·.2)) := by
  obtain ⟨oc, od, dV, kV, doc, pm, an, cdv, ct, osl, rfl, lk, hcd, hD, hK⟩ := F.ex
  rcases hD with ⟨_, rfl⟩ | ⟨e, _⟩
  · rcases hK with e | ⟨D, rfl, hq⟩
    · exact absurd e hk
    · obtain ⟨mv, hl, rk, hks⟩ := kwd_vals hq
      refine ⟨fun _ ws => ws.reverse ++ mv, ⟨fun s us ws X l1 l2 => ?_, fun _ r2 => (vals_rev r2).append rk⟩⟩
      have e : us = [] := List.length_eq_zero_iff.mp l1
      subst e
      exact BindsTo.of_looks fun M => KwChain.looks X hks (h D doc pm an cdv ct mv ws hl l2)
  · exact absurd rfl e
theorem kbR {K : PySem.W.Frag} {x qual : Str} {st : Stmt} {f : Addr} {fd : FuncData} (F : Fun K x qual st f fd) {ps ks : List Str}
    (h : ∀ (kV doc pm : Value) (an : Option Addr) (cdv ct : Value) (ws : List Value), ws.length = ks.length → bindArgs (PySem.W.fnOf x qual (defArgs st) (defBody st) (defScope st) .none kV doc pm an cdv ct) ⟨[], ks.zip ws⟩ = pure (ps.zip ws.reverse)) :
    KBn K fd ps 0 ks (fun _ ws => ws.reverse) (fun _ zs => zs.reverse) := by
  obtain ⟨oc, od, kV, doc, pm, an, cdv, ct, osl, rfl, lk, hcd⟩ := F.ex
  refine ⟨fun s us ws X h1 h2 => ?_, fun _ r2 => vals_rev r2⟩
  have e : us = [] := List.length_eq_zero_iff.mp h1
  subst e
  exact .of_eq (h kV doc pm an cdv ct ws h2)
end DL
set_option Elab.async false
set_option linter.all false
set_option maxRecDepth 100000
set_option maxHeartbeats 4000000
/-! sorted(set(xs)), over data -/
namespace DL
open PySem PySem.Spec PyProof.Rows L2 XV SL LamX
theorem Sd.junk {c : DC} {σ : L2.St} {H B : Hp} {ρ : Env} {τ : Tmp} (s : Sd c σ H ρ τ B) {p : Addr} (n : H p = none) {o : HO} (ho : ∀ xs, o ≠ .tup xs) : Sd c σ (upd H p o) ρ τ B :=
  s.grow (Same.refl _) (s.sub.trans (same_upd n)) (fun b u z _ => same_upd n _ _ z) (fun b u z => .inl z) (fun w hw => (s.wl w hw).2.2.keep fun _ _ z _ => same_upd n _ _ z) fun b ys z => s.tup _ _ (by
    by_cases e : b = p
    · subst e
      rw [upd_same] at z
      exact absurd (Option.some.inj z) (ho ys)
    · rw [upd_ne e] at z
      exact z)
def tdSortSet (te : TD) : TD := fun ρ Q Z => te ρ (fun x ρ1 => onInts x fun ns => ns.length < 64 ∧ ∀ ms : List Int, ms.Pairwise (· < ·) → (∀ k : Int, k ∈ ms ↔ k ∈ ns) → Q (.own (ms.map PyData.int)) ρ1) Z
theorem pd_sortSet {c : DC} {E : EZ} {X : Cx} {e : Expr} {te : TD} {p1 p2 q1 q2 : Pos} (hc : X.calm = true) (hg1 : Gl X "sorted") (hm1 : X.mg "sorted" = none) (hg2 : Gl X "set") (hm2 : X.mg "set" = none) (he : PDE c E X e te)
    (hv1 : bootBuiltins "sorted" = some (.builtin "sorted") := by decide +kernel) (hv2 : bootBuiltins "set" = some (.type "set") := by decide +kernel)
    (h1 : starEach [.Call (.Name "set" p2) [e] [] q2] X.env = [(false, eval (.Call (.Name "set" p2) [e] [] q2) X.env)] := by rfl) (h2 : starEach [e] X.env = [(false, eval e X.env)] := by rfl) :
    PDE c E X (.Call (.Name "sorted" p1) [.Call (.Name "set" p2) [e] [] q2] [] q1) (tdSortSet te) := by
  refine ⟨pe_wk (pe_callB (cr_sortedSet hc) hg1 hm1 hv1 (pa_cons (pe_callTy (cr_setI hc) hg2 hm2 hv2 (pa_cons he.pe pa_nil h2) (he := h2)) pa_nil h1) (he := h1)) fun σ H Q ⟨ρ, τ, B, s, q⟩ => ⟨ρ, τ, B, s, he.mono _ _ _ _ (fun x ρ1 hx v H1 B1 s1 => ?_) q⟩, fun ρ Q Q' Z k q => he.mono _ _ _ _ (fun x r hx => onInts_mono (fun ns h => ⟨h.1, fun ms a b => k _ _ (h.2 ms a b)⟩) hx) q⟩
  show rSetI X.K X.w [v] H1 fun u H2 => rSortedSet X.w [u] H2 Q
  obtain ⟨ns, e, hl, q⟩ := onInts_at hx
  have fin : ∀ (l : Addr), v = .ref l → (SqL X.K H1 l (ns.map V.int) ∨ SqT X.K H1 l (ns.map V.int)) → rSetI X.K X.w [v] H1 fun u H2 => rSortedSet X.w [u] H2 Q := fun l ev sq => by
    subst ev
    refine ⟨l, ns, rfl, sq, by omega, fun p n np hn => ⟨p, _, n, rfl, upd_same, by omega, fun ms p2 hs hm hl np2 => ?_⟩⟩
    have s2 := (s1.pop.junk np (o := SetO X.w p (fun j => decide (j ∈ ns)) n) (fun xs z => by unfold SetO at z; cases z)).newOwn np2 (ints_dhL (B := B1) ms)
    exact q ms hs (fun k => by rw [hm k]; exact decide_eq_true_iff) _ _ _ s2
  rcases seq_cases e with e | e
  · obtain ⟨l, vs, rfl, z, h1⟩ := lst_at s1.pop.sub s1.topR e
    rw [dhL_ints h1] at z
    exact fin l rfl (.inl (SqL.of z))
  · obtain ⟨l, vs, rfl, _, z, h1⟩ := tup_at s1.pop.sub s1.topR e
    rw [dhL_ints h1] at z
    exact fin l rfl (.inr (SqT.of z))
section
variable {c : DC} {E : EZ} {X : Cx}
/-- the last argument is None if it isn't written; nothing raised -/
def tdFnDN (td : List DV → (DV → Prop) → EZ → Prop) (ta : TDA) : TD := fun ρ Q Z => ta ρ (fun xs r => match argsOf (xs ++ [.d .none]) with
  | some ys => td ys (fun x => x.isBor = false ∧ Q x r) (fun _ _ _ => False)
  | none => False) Z
theorem mono_fnDN {td : List DV → (DV → Prop) → EZ → Prop} {ta : TDA} (mf : MonoF td) (ma : MonoA ta) : MonoE (tdFnDN td ta) := fun ρ Q Q' Z m q => ma _ _ _ _ (fun xs r hx => by
  split at hx
  · exact mf _ _ _ _ (fun x hx => ⟨hx.1, m _ _ hx.2⟩) hx
  · exact hx.elim) q
theorem pd_callDTN {CX : CXT} {k n : Nat} {f : Addr} {fd : FuncData} {ps : List Str} {ds : List Value} {TT : List (Addr × Str)} {td : List DV → (DV → Prop) → EZ → Prop} {EX : XK} {x : Str} {p pos : Pos} {e : Expr} {es : List Expr} {ta : TDA} {C : Addr}
    (F : FnOk X.prog X.w X.K X.mg X.base CX k f fd ps (spDT C TT (n + 1) td)) (mf : MonoF td) (hC : c.C = C ∧ Nt c.B0) (hL : LamOk c TT) (hr : Room k X.A) (hg : Gl X x) (hm : X.mg x = some (.ref f)) (hk : PySem.W.keepIn X.K (.ref f) = true) (hb : Binds X.K fd ps ds) (hd : Vals [.non] ds) (hx : Passes CX X EX)
    (ha : PDA c E X (e :: es) ta) (hn : (e :: es).length = n := by rfl) (hdb : (x == ("__debug__" : Str)) = false := by decide) (he : starEach (e :: es) X.env = (false, eval e X.env) :: starEach es X.env := by rfl) (hpl : (backTo pos (starEach es X.env)).any (·.1) = false := by rfl) :
    PDE c E X (.Call (.Name x p) (e :: es) [] pos) (tdFnDN td ta) := by
  obtain ⟨hC, hN⟩ := hC
  subst hC
  refine ⟨pe_wk (pe_call F hr hg hm hk hb hd hx ha.pa hdb he hpl) fun σ H Q ⟨ρ, τ, B, s, q⟩ => ⟨ρ, τ, B, s, ha.mono _ _ _ _ (fun xs r hx vs H' B' hl s' => ?_) (ha.len _ _ _ q)⟩, mono_fnDN mf ha.mono⟩
  show spDT c.C TT (n + 1) td (vs ++ [.non]) H' Q EX
  have s2 := s'.push (v := .non) (x := .d .none) rfl rfl
  have e2 := pushT_snoc (τ := τ) .non (.d .none) hl
  rw [← e2] at s2
  exact call_spTN (Qd := fun x ρ' => ∀ v H' B', Sd c σ H' ρ' ((some v, x) :: τ) B' → Q v H') (xs := xs ++ [.d .none]) mf hN hL s2 (by rw [List.length_append, List.length_append, hl]; rfl) (by rw [List.length_append, List.length_singleton]; have := hx.1; omega) hx.2 fun x v H2 B2 hq s2 => hq v H2 B2 s2
end
end DL
set_option Elab.async false
set_option linter.all false
set_option maxRecDepth 100000
set_option maxHeartbeats 4000000
namespace K20
open PySem PySem.Spec PyProof.Rows L2 XV SL DL MR LamX
def tdTR : Sig := fun xs Q _ => ∃ (ps : MR.PS) (rows pr : MR.Rows), xs = [.d (.list (ps.map dPair)), .d (dRows rows), .d (dRows pr), .d (dLim (leastS (cst ps pr) (fur rows pr) (lv ps rows)))] ∧ SzOk ps ∧ rows.length = ps.length ∧ pr.length = ps.length ∧ (∀ ns ∈ rows, ns.length ≤ 100) ∧ lv ps pr ≤ lv ps rows ∧ Q (.d (.bool true))
theorem mf_tr : MonoF tdTR := fun xs Q Q' Z k ⟨a, b, c, d, e, f, g, h, i, q⟩ => ⟨a, b, c, d, e, f, g, h, i, k _ q⟩
section
variable {P : Program} {w : World} {K : PySem.W.Frag} {mg : Str → Option Value} {base : Heap} {C f : Addr} {fd : FuncData}
abbrev s__law_told_right : Stmt := topS 48
theorem sc__law_told_right : FnScope ["_law_classes_here", "_law_table_here", "_law_fixed", "_law_told", "_law_limit", "_law_some", "_law_known", "_law_number", "_law_hold", "_law_needed"] ["_law_classes_here", "_law_table_here", "_law_fixed", "_law_told"] (defScope s__law_told_right) := ⟨rfl, rfl, rfl, by decide +kernel, rfl, by decide +kernel, by decide +kernel⟩
theorem ok_law_told_right (F : Fun K "_law_told_right" "_law_told_right" s__law_told_right f fd) (B : Bt mg) (BL : BL mg)
    {f_law_jobs : Addr} {d_law_jobs : FuncData} (G_law_jobs : FnOk P w K mg base CX0 2 f_law_jobs d_law_jobs ["_law_classes_here", "_law_table_here", "_law_fixed"] (spD C 3 tdJobs)) (m_law_jobs : mg "_law_jobs" = some (.ref f_law_jobs)) (k_law_jobs : PySem.W.keepIn K (.ref f_law_jobs) = true) (b_law_jobs : Binds K d_law_jobs ["_law_classes_here", "_law_table_here", "_law_fixed"] [])
    {f_law_least : Addr} {d_law_least : FuncData} (G_law_least : FnOk P w K mg base CX0 3 f_law_least d_law_least ["_law_classes_here", "_law_table_here", "_law_fixed"] (spD C 3 tdLeast)) (m_law_least : mg "_law_least" = some (.ref f_law_least)) (k_law_least : PySem.W.keepIn K (.ref f_law_least) = true) (b_law_least : Binds K d_law_least ["_law_classes_here", "_law_table_here", "_law_fixed"] [])
    {f_law_shown : Addr} {d_law_shown : FuncData} (G_law_shown : FnOk P w K mg base CX0 3 f_law_shown d_law_shown ["_law_classes_here", "_law_table_here", "_law_fixed", "_law_some"] (spD C 4 tdShown)) (m_law_shown : mg "_law_shown" = some (.ref f_law_shown)) (k_law_shown : PySem.W.keepIn K (.ref f_law_shown) = true) (b_law_shown : Binds K d_law_shown ["_law_classes_here", "_law_table_here", "_law_fixed", "_law_some"] [])
    {f_law_live : Addr} {d_law_live : FuncData} (G_law_live : FnOk P w K mg base CX0 2 f_law_live d_law_live ["_law_classes_here", "_law_table_here"] (spD C 2 tdDrL)) (m_law_live : mg "_law_live" = some (.ref f_law_live)) (k_law_live : PySem.W.keepIn K (.ref f_law_live) = true) (b_law_live : Binds K d_law_live ["_law_classes_here", "_law_table_here"] []) :
    FnOk P w K mg base CX0 4 f fd ["_law_classes_here", "_law_table_here", "_law_fixed", "_law_told"] (spD C 4 tdTR) := by
  refine fn_spec (F.ok sc__law_told_right (fun vs H Q E h => spD_len vs H Q E h) (fun cdv A outer s H vs Q E hr h => fn_go (k := 6) h rfl (fun c Z hC hZ => (pds_cons (pds_if (PDW.t (pdw_or (pdt_not (pdt_val (pd_callB cs_isi (by rfl) B.b_isinstance (by decide +kernel) (pda_cons (pdv (pv 3)) (pda_cons (pd_any (pe_bltn (v := V.ty "tuple") rfl B.b_tuple (by decide +kernel) rfl)) pda_nil))))) (pdw_or (pdt_cmp (os_ne hr.units) (pd_callB cs_len (by rfl) B.b_len (by decide +kernel) (pda_cons (pdb (pv 3)) pda_nil)) pd_int (nomark _)) (pdw_or (pdt_not (pdt_val (pd_callB cs_isi (by rfl) B.b_isinstance (by decide +kernel) (pda_cons (pd_ix os_ix (pdb (pv 3)) pd_int (fun _ _ => rfl)) (pda_cons (pd_any (pe_bltn (v := V.ty "tuple") rfl B.b_tuple (by decide +kernel) rfl)) pda_nil))))) (pdw_or1 (pdt_val (pd_callB cs_isi (by rfl) B.b_isinstance (by decide +kernel) (pda_cons (pd_ix os_ix (pdb (pv 3)) pd_int (fun _ _ => rfl)) (pda_cons (pd_any (pe_bltn (v := V.ty "bool") rfl B.b_bool (by decide +kernel) rfl)) pda_nil))))))))) (pds_one (pds_ret pd_bl)) pds_nil)
      (pds_cons (pds_unp (p := (.tup [(.nm 4), (.nm 5)])) (pdv (pv 3)) (pg_tup rfl (pgs_cons (pg_name (i := 4) sc__law_told_right.nd rfl (Or.inl rfl)) (pgs_cons (pg_name (i := 5) sc__law_told_right.nd rfl (Or.inl rfl)) pgs_nil))))
      (pds_cons (pds_set (i := 6) sc__law_told_right.nd rfl (Or.inr rfl) (pd_lc (own := [("_law_number", 7), ("_law_hold", 8), ("_law_needed", 9)]) (p := (.tup [(.nm 7), (.nm 8), (.nm 9)])) (by rfl) sc__law_told_right.nd (pdi_list (pd_callN G_law_jobs mf_jobs hC (hr.mono (by decide)) rfl m_law_jobs k_law_jobs b_law_jobs pass0 (pda_cons (pdv (pv 0)) (pda_cons (pdv (pv 1)) (pda_cons (pdv (pv 2)) pda_nil))))) (blkOk_by (own := [("_law_number", 7), ("_law_hold", 8), ("_law_needed", 9)]) (N := ["_law_classes_here", "_law_table_here", "_law_fixed", "_law_told", "_law_limit", "_law_some", "_law_known", "_law_number", "_law_hold", "_law_needed"]) (sc := defScope s__law_told_right) (by decide +kernel)) (by rfl) (fun _ _ _ _ _ => (pg_tup rfl (pgs_cons (pg_name (i := 7) sc__law_told_right.nd rfl (Or.inl rfl)) (pgs_cons (pg_name (i := 8) sc__law_told_right.nd rfl (Or.inl rfl)) (pgs_cons (pg_name (i := 9) sc__law_told_right.nd rfl (Or.inl rfl)) pgs_nil))))) (fun _ _ _ _ _ => pdts_nil) (fun _ _ _ _ _ => (pdv (pv 7)))))
      (pds_cons (pds_if (PDW.t (pdw_or (pdt_cmp (os_ne hr.units) (pd_callTy cs_list (by rfl) B.b_list (by decide +kernel) (pda_cons (pdb (pv 5)) pda_nil)) (pd_sortSet rfl rfl B.b_sorted rfl B.b_set (pdv (pv 5))) (nomark _)) (pdw_or1 (pdt_cmp (os_ne hr.units) (pd_lc (own := [("_law_number", 7)]) (p := (.nm 7)) (by rfl) sc__law_told_right.nd (pdi_tup (pdv (pv 5))) (blkOk_by (own := [("_law_number", 7)]) (N := ["_law_classes_here", "_law_table_here", "_law_fixed", "_law_told", "_law_limit", "_law_some", "_law_known", "_law_number", "_law_hold", "_law_needed"]) (sc := defScope s__law_told_right) (by decide +kernel)) (by rfl) (fun _ _ _ _ _ => (pg_name (i := 7) sc__law_told_right.nd rfl (Or.inl rfl))) (fun _ _ _ _ _ => (pdts_one (pdt_cmp (os_notIn (Room.in128 hr)) (pdb (pv 7)) (pdb (pv 6)) rfl))) (fun _ _ _ _ _ => (pdv (pv 7)))) (pd_lst pda_nil) (nomark _))))) (pds_one (pds_ret pd_bl)) pds_nil)
      (pds_cons (pds_if (PDW.t (pdw_or (pdt_cmp (os_ne hr.units) (pdv (pv 4)) (pd_callN G_law_least mf_least hC (hr.mono (by decide)) rfl m_law_least k_law_least b_law_least pass0 (pda_cons (pdv (pv 0)) (pda_cons (pdv (pv 1)) (pda_cons (pdv (pv 2)) pda_nil)))) (nomark _)) (pdw_or1 (pdt_cmp (os_ne hr.units) (pd_cmp (os_eq hr.units) (pdb (pv 5)) (pd_tup pda_nil) (nomark _)) (pd_cmp (os_eq hr.units) (pdv (pv 4)) (pd_callN G_law_live mf_drl hC (hr.mono (by decide)) rfl m_law_live k_law_live b_law_live pass0 (pda_cons (pdv (pv 0)) (pda_cons (pdv (pv 1)) pda_nil))) (nomark _)) (nomark _))))) (pds_one (pds_ret pd_bl)) pds_nil)
      (pds_one (pds_ret (pd_cmp (os_eq hr.units) (pd_callN G_law_shown mf_shown hC (hr.mono (by decide)) rfl m_law_shown k_law_shown b_law_shown pass0 (pda_cons (pdv (pv 0)) (pda_cons (pdv (pv 1)) (pda_cons (pdv (pv 2)) (pda_cons (pdv (pv 5)) pda_nil))))) (pdb (pv 4)) (nomark _)))))))))))) ?_
  rintro xs Q Z ⟨ps, rows, pr, rfl, sz, h1, h2, h3, hF, q⟩
  have n6 := sz.n6
  obtain ⟨l, ns, e, el, nd, hg, hs, hnil, hlast, nf⟩ := told_facts (cst ps pr) (fur rows pr) (lv ps rows)
  rw [e]
  have gl := grow_len (fur rows pr)
  rw [fur_len (by rw [h1, h2]), h2] at gl
  rw [fur_len (by rw [h1, h2]), h2] at nf
  have nl : ns.length ≤ 6 := by omega
  refine ⟨.inr (.inr (.inl rfl)), .inr (.inr (.inl rfl)), .inr (.inl rfl), ?_⟩
  refine ⟨ps, rows, pr, rfl, sz, h1, h2, h3, rfl, ?_⟩
  have jl := jobs_len sz h1 h2
  have known : (jobs ps rows pr).map (fun j => j.1.toNat) = grow (fur rows pr) := by
    unfold jobs
    rw [List.map_map]
    exact List.map_id'' (fun n => Int.toNat_natCast n) _
  have jn : ∀ {i : Nat} {j : Job}, (jobs ps rows pr)[i]? = some j → (grow (fur rows pr))[i]? = some j.1.toNat ∧ j.1 = (j.1.toNat : Int) := fun {i j} h => by
    have z := h
    unfold jobs at z
    rw [List.getElem?_map] at z
    cases hgi : (grow (fur rows pr))[i]? with
    | none => rw [hgi] at z; cases z
    | some n =>
      rw [hgi] at z
      cases z
      exact ⟨by show some n = some ((n : Int)).toNat; rw [Int.toNat_natCast], by show (n : Int) = (((n : Int)).toNat : Int); rw [Int.toNat_natCast]⟩
  refine ⟨fun i acc r => acc = dNs ((grow (fur rows pr)).take i) ∧ r = [.d (.list (ps.map dPair)), .d (dRows rows), .d (dRows pr), .d (.tuple [.int l, .tuple (dNs ns)]), .d (.int l), .d (.tuple (dNs ns)), .no, .no, .no, .no], ⟨rfl, rfl⟩, ?_, ?_⟩
  · rintro i d acc r hi ⟨rfl, rfl⟩
    obtain ⟨j, ej, rfl⟩ := get_map hi
    obtain ⟨j1, j2⟩ := jn ej
    have tl := take_lt (xs := grow (fur rows pr)) (n := 6) (by omega) i
    refine ⟨_, rfl, by rw [dNs_len]; omega, ?_, rfl⟩
    show _ ++ [PyData.int j.1] = _
    rw [← take_next j1, j2, Int.toNat_natCast]
    unfold dNs
    rw [List.map_append]
    rfl
  · rintro acc r ⟨rfl, rfl⟩
    have et : (grow (fur rows pr)).take ((jobs ps rows pr).map dJ).length = grow (fur rows pr) := by
      rw [List.length_map, show (jobs ps rows pr).length = (grow (fur rows pr)).length by unfold jobs; rw [List.length_map], List.take_of_length_le (Nat.le_refl _)]
    rw [et]
    refine ⟨rfl, ?_⟩
    have dn : (dNs ns) = (toI ns).map PyData.int := dNs_toI ns
    refine ints_onS (x := .d (.tuple (dNs ns))) (ns := toI ns) (by rw [dNs_toI]; rfl) ⟨by unfold toI; rw [List.length_map]; omega, fun ms m1 m2 => ?_⟩
    have em : ms = toI ns := asc_eq m1 hs m2
    subst em
    rw [← dn]
    have sd := shaped_dNs ns
    refine ⟨plain_dNs ns, plain_dNs ns, sd, sd, ?_⟩
    refine ifB (b := true ^^ PyData.eqv (.list (dNs ns)) (.list (dNs ns))) (by rw [eqv_self sd]; rfl) ?_
    refine ⟨fun i acc r => acc = [] ∧ r = [.d (.list (ps.map dPair)), .d (dRows rows), .d (dRows pr), .d (.tuple [.int l, .tuple (dNs ns)]), .d (.int l), .d (.tuple (dNs ns)), .own (dNs (grow (fur rows pr))), .no, .no, .no], ⟨rfl, rfl⟩, ?_, ?_⟩
    · rintro i d acc r hi ⟨rfl, rfl⟩
      obtain ⟨n, en, rfl⟩ := dNs_get hi
      have hn := hg n (List.mem_of_getElem? en)
      refine ⟨_, rfl, rfl, plain_dNs _, rfl, shaped_dNs _, ?_⟩
      refine ifB (b := true ^^ (dNs (grow (fur rows pr))).any fun z => PyData.eqv z (.int (n : Int))) (by rw [any_dNs (n : Int) (by omega), Int.toNat_natCast, decide_eq_true hn]; rfl) ?_
      exact ⟨rfl, rfl⟩
    · rintro acc r ⟨rfl, rfl⟩
      have s0 : SeqAt.shaped (.list []) = true := shaped_dNs []
      refine ⟨Nat.le_of_ble_eq_true rfl, rfl, rfl, s0, s0, ?_⟩
      have ll := law_least sz h1 h2 hF
      refine ⟨ps, rows, pr, rfl, sz, h1, h2, h3, rfl, ?_⟩
      refine ifB (b := true ^^ decide (l = lawBest (lv ps pr) (lv ps rows) (jobs ps rows pr))) (by rw [decide_eq_true (by rw [ll, el])]; rfl) ?_
      refine ⟨Nat.le_of_ble_eq_true rfl, plain_dNs ns, rfl, shaped_tNs ns, shaped_tNs [], ?_⟩
      refine ⟨ps, rows, rfl, sz, h1, rfl, ?_⟩
      have sb : ∀ b : Bool, SeqAt.shaped (.bool b) = true := fun b => by
        show (PyData.canLay0 _ && decide (PyData.depth _ ≤ 64)) = true
        simp [PyData.canLay0, PyData.depth]
      have eb : (false ^^ PyData.eqv (.tuple (dNs ns)) (.tuple [])) = (false ^^ decide (l = lv ps rows)) := by
        rw [eqv_tnil, decide_eq_decide.mpr hnil]
      refine ⟨rfl, rfl, sb _, sb _, ?_⟩
      refine ifB (b := true ^^ PyData.eqv (.bool (false ^^ PyData.eqv (.tuple (dNs ns)) (.tuple []))) (.bool (false ^^ decide (l = lv ps rows)))) (by rw [eb, eqv_self (sb _)]; rfl) ?_
      refine ⟨ps, rows, pr, ns, rfl, sz, h1, h2, h3, hg, rfl, ?_⟩
      have es : shownV ps rows pr ns = l := by
        by_cases ne : ns = []
        · unfold shownV
          rw [if_pos ne, hnil.mp ne]
        · rw [shown_last sz h1 h2 nd hg ne, ← hlast ne]
      refine ⟨rfl, ?_⟩
      show Q (.d (.bool (false ^^ decide (shownV ps rows pr ns = l))))
      rw [decide_eq_true es]
      exact q
end
end K20
set_option Elab.async false
set_option linter.all false
set_option maxRecDepth 100000
set_option maxHeartbeats 4000000
namespace K20
open PySem PySem.Spec PyProof.Rows L2 XV SL DL MR LamX
theorem lim_ok (a : Int × List Nat) : SeqAt.shaped (dLim a) = true ∧ plain (dLim a) = true := by
  obtain ⟨h1, h2, h3⟩ := lay_lim a
  refine ⟨?_, h3⟩
  show (PyData.canLay0 _ && decide (PyData.depth _ ≤ 64)) = true
  rw [h1, decide_eq_true (by omega)]
  rfl
theorem lay_pairs : ∀ ps : MR.PS, PyData.canLayAll0 (ps.map dPair) = true ∧ PyData.depthAll (ps.map dPair) ≤ 4 ∧ plainL (ps.map dPair) = true
  | [] => ⟨by simp [PyData.canLayAll0], by simp [PyData.depthAll], rfl⟩
  | p :: ps => by
    obtain ⟨h1, h2, h3⟩ := lay_pairs ps
    rw [List.map_cons]
    refine ⟨?_, ?_, ?_⟩
    · simp only [dPair, PyData.canLayAll0, PyData.canLay0, h1]
      rfl
    · simp only [dPair, PyData.depthAll, PyData.depth]
      omega
    · exact h3
theorem pairs_ok (ps : MR.PS) : SeqAt.shaped (.list (ps.map dPair)) = true ∧ plain (.list (ps.map dPair)) = true := by
  obtain ⟨h1, h2, h3⟩ := lay_pairs ps
  refine ⟨?_, h3⟩
  have e : PyData.depth (.list (ps.map dPair)) ≤ 64 := by simp only [PyData.depth]; omega
  have e1 : PyData.canLay0 (.list (ps.map dPair)) = true := by simp only [PyData.canLay0]; exact h1
  show (PyData.canLay0 _ && decide (PyData.depth _ ≤ 64)) = true
  rw [e1, decide_eq_true e]
  rfl
structure RF (P : Program) (w : World) (K : PySem.W.Frag) (mg : Str → Option Value) (base : Heap) (C : Addr) (TT : List (Addr × Str)) where
  B : Bt mg
  BL : BL mg
  f_least_limit : Addr
  d_least_limit : FuncData
  G_least_limit : FnOk P w K mg base (L2.CX P w) 9 f_least_limit d_least_limit ["classes", "table", "pins"] (spDT C TT 3 tdLL)
  m_least_limit : mg "least_limit" = some (.ref f_least_limit)
  k_least_limit : PySem.W.keepIn K (.ref f_least_limit) = true
  K_least_limit : KBn K d_least_limit ["classes", "table", "pins"] 2 ["pins"] (fun us ws => us ++ ws) (fun vs zs => vs ++ zs)
  D_least_limit : ∃ ds, Vals [.non] ds ∧ Binds K d_least_limit ["classes", "table", "pins"] ds
  f_law_draw : Addr
  d_law_draw : FuncData
  G_law_draw : FnOk P w K mg base CX0 1 f_law_draw d_law_draw ["_law_well", "_law_limit"] (spDraw)
  m_law_draw : mg "_law_draw" = some (.ref f_law_draw)
  k_law_draw : PySem.W.keepIn K (.ref f_law_draw) = true
  b_law_draw : Binds K d_law_draw ["_law_well", "_law_limit"] []
  f_law_classes : Addr
  d_law_classes : FuncData
  G_law_classes : FnOk P w K mg base CX0 2 f_law_classes d_law_classes ["_law_well", "_law_most", "_law_wide"] (spD C 3 tdDrC)
  m_law_classes : mg "_law_classes" = some (.ref f_law_classes)
  k_law_classes : PySem.W.keepIn K (.ref f_law_classes) = true
  b_law_classes : Binds K d_law_classes ["_law_well", "_law_most", "_law_wide"] []
  f_law_table : Addr
  d_law_table : FuncData
  G_law_table : FnOk P w K mg base CX0 2 f_law_table d_law_table ["_law_well", "_law_classes_here", "_law_most"] (spD C 3 tdDrT)
  m_law_table : mg "_law_table" = some (.ref f_law_table)
  k_law_table : PySem.W.keepIn K (.ref f_law_table) = true
  b_law_table : Binds K d_law_table ["_law_well", "_law_classes_here", "_law_most"] []
  f_law_pins : Addr
  d_law_pins : FuncData
  G_law_pins : FnOk P w K mg base CX0 2 f_law_pins d_law_pins ["_law_well", "_law_table_here"] (spD C 2 tdDrP)
  m_law_pins : mg "_law_pins" = some (.ref f_law_pins)
  k_law_pins : PySem.W.keepIn K (.ref f_law_pins) = true
  b_law_pins : Binds K d_law_pins ["_law_well", "_law_table_here"] []
  f_law_live : Addr
  d_law_live : FuncData
  G_law_live : FnOk P w K mg base CX0 2 f_law_live d_law_live ["_law_classes_here", "_law_table_here"] (spD C 2 tdDrL)
  m_law_live : mg "_law_live" = some (.ref f_law_live)
  k_law_live : PySem.W.keepIn K (.ref f_law_live) = true
  b_law_live : Binds K d_law_live ["_law_classes_here", "_law_table_here"] []
  f_law_told_right : Addr
  d_law_told_right : FuncData
  G_law_told_right : FnOk P w K mg base CX0 4 f_law_told_right d_law_told_right ["_law_classes_here", "_law_table_here", "_law_fixed", "_law_told"] (spD C 4 tdTR)
  m_law_told_right : mg "_law_told_right" = some (.ref f_law_told_right)
  k_law_told_right : PySem.W.keepIn K (.ref f_law_told_right) = true
  b_law_told_right : Binds K d_law_told_right ["_law_classes_here", "_law_table_here", "_law_fixed", "_law_told"] []
section
variable {P : Program} {w : World} {K : PySem.W.Frag} {mg : Str → Option Value} {base : Heap} {C f : Addr} {fd : FuncData} {TT : List (Addr × Str)}
abbrev s__law_right : Stmt := topS 49
theorem sc__law_right : FnScope ["_law_well", "_law_k", "_law_classes_here", "_law_table_here", "_law_fixed", "_law_handed", "_law_told", "_law_none", "_law_size", "_law_slots", "_law_counts"] ["_law_well", "_law_k"] (defScope s__law_right) := ⟨rfl, rfl, rfl, by decide +kernel, rfl, by decide +kernel, by decide +kernel⟩
theorem ok_law_right (F : Fun K "_law_right" "_law_right" s__law_right f fd) (R : RF P w K mg base C TT) :
    FnOk P w K mg base CX0 10 f fd ["_law_well", "_law_k"] (spWellT TT) := by
  refine FnOk.imp (fn_specT (td' := tdWellT) (F.ok sc__law_right (fun vs H Q E h => spDT_len vs H Q E h) (fun cdv A outer s H vs Q E hr h => fn_goT (C := C) (TT := TT) (k := 9) h rfl (fun c Z hC hL hZ => (pds_cons (pds_set (i := 2) sc__law_right.nd rfl (Or.inl rfl) (pd_if (pdt_cmp (os_eq hr.units) (pdb (pv 1)) pd_int (nomark _)) (pd_callN R.G_law_classes mf_drc hC (hr.mono (by decide)) rfl R.m_law_classes R.k_law_classes R.b_law_classes pass0 (pda_cons (pdv (pv 0)) (pda_cons pd_int (pda_cons pd_int pda_nil)))) (pd_callN R.G_law_classes mf_drc hC (hr.mono (by decide)) rfl R.m_law_classes R.k_law_classes R.b_law_classes pass0 (pda_cons (pdv (pv 0)) (pda_cons pd_int (pda_cons pd_int pda_nil))))))
      (pds_cons (pds_if (PDW.t (pdw_and (pdt_cmp (os_eq hr.units) (pdb (pv 1)) pd_int (nomark _)) (pdw_and1 (pdt_cmp (os_eq hr.units) (pd_callN (R.G_law_draw.imp (ad_draw (C := C))) mf_draw hC (hr.mono (by decide)) rfl R.m_law_draw R.k_law_draw R.b_law_draw pass0 (pda_cons (pdv (pv 0)) (pda_cons pd_int pda_nil))) pd_int (nomark _))))) (pds_one (pds_setLc (i := 2) (own := [("_law_size", 8), ("_law_slots", 9)]) (p := (.tup [(.nm 8), (.nm 9)])) (by rfl) sc__law_right.nd rfl rfl (sw_true rfl rfl rfl (by decide +kernel)) (pdi_list (pdv (pv 2))) (blkOk_by (own := [("_law_size", 8), ("_law_slots", 9)]) (N := ["_law_well", "_law_k", "_law_classes_here", "_law_table_here", "_law_fixed", "_law_handed", "_law_told", "_law_none", "_law_size", "_law_slots", "_law_counts"]) (sc := defScope s__law_right) (by decide +kernel)) (by rfl) (fun _ _ _ _ _ => (pg_tup rfl (pgs_cons (pg_name (i := 8) sc__law_right.nd rfl (Or.inl rfl)) (pgs_cons (pg_name (i := 9) sc__law_right.nd rfl (Or.inl rfl)) pgs_nil)))) (fun _ _ _ _ _ => pdts_nil) (fun _ _ _ _ _ => (pd_tup (pda_cons (pd_op os_mul (pdb (pv 8)) pd_int) (pda_cons (pdv (pv 9)) pda_nil)))))) pds_nil)
      (pds_cons (pds_set (i := 3) sc__law_right.nd rfl (Or.inl rfl) (pd_callN R.G_law_table mf_drt hC (hr.mono (by decide)) rfl R.m_law_table R.k_law_table R.b_law_table pass0 (pda_cons (pdv (pv 0)) (pda_cons (pdv (pv 2)) (pda_cons pd_int pda_nil)))))
      (pds_cons (pds_if (pdt_cmp os_gt (pd_callN R.G_law_live mf_drl hC (hr.mono (by decide)) rfl R.m_law_live R.k_law_live R.b_law_live pass0 (pda_cons (pdv (pv 2)) (pda_cons (pdv (pv 3)) pda_nil))) (pd_op os_pow pd_int pd_int) (nomark _)) (pds_one (pds_ret pd_bl)) pds_nil)
      (pds_cons (pds_set (i := 4) sc__law_right.nd rfl (Or.inl rfl) (pd_callN R.G_law_pins mf_drp hC (hr.mono (by decide)) rfl R.m_law_pins R.k_law_pins R.b_law_pins pass0 (pda_cons (pdv (pv 0)) (pda_cons (pdv (pv 3)) pda_nil))))
      (pds_cons (pds_set (i := 5) sc__law_right.nd rfl (Or.inl rfl) (pd_callTy cs_list (by rfl) R.B.b_list (by decide +kernel) (pda_cons (pdb (pv 2)) pda_nil)))
      (pds_cons (pds_set (i := 6) sc__law_right.nd rfl (Or.inl rfl) (pd_callKTN R.G_least_limit mf_ll hC hL (hr.mono (by decide)) rfl R.m_least_limit R.k_least_limit R.K_least_limit passL (pda_cons (pdv (pv 5)) (pda_cons (pdv (pv 3)) pda_nil)) (pdv (pv 4))))
      (pds_cons (pds_if (PDW.t (pdw_or (pdt_not (pdt_val (pd_callN R.G_law_told_right mf_tr hC (hr.mono (by decide)) rfl R.m_law_told_right R.k_law_told_right R.b_law_told_right pass0 (pda_cons (pdv (pv 2)) (pda_cons (pdv (pv 3)) (pda_cons (pdv (pv 4)) (pda_cons (pdv (pv 6)) pda_nil))))))) (pdw_or1 (pdt_cmp (os_ne hr.units) (pdb (pv 5)) (pdb (pv 2)) (nomark _))))) (pds_one (pds_ret pd_bl)) pds_nil)
      (pds_cons (pds_if (pdt_cmp (os_ne hr.units) (pd_callKTN R.G_least_limit mf_ll hC hL (hr.mono (by decide)) rfl R.m_least_limit R.k_least_limit R.K_least_limit passL (pda_cons (pdv (pv 2)) (pda_cons (pdv (pv 3)) pda_nil)) (pdv (pv 4))) (pdb (pv 6)) (nomark _)) (pds_one (pds_ret pd_bl)) pds_nil)
      (pds_cons (pds_set (i := 7) sc__law_right.nd rfl (Or.inl rfl) (pd_callTy cs_tuple (by rfl) R.B.b_tuple (by decide +kernel) (pda_cons (pd_lc (own := [("_law_counts", 10)]) (p := (.nm 10)) (by rfl) sc__law_right.nd (pdi_tup (pdv (pv 3))) (blkOk_by (own := [("_law_counts", 10)]) (N := ["_law_well", "_law_k", "_law_classes_here", "_law_table_here", "_law_fixed", "_law_handed", "_law_told", "_law_none", "_law_size", "_law_slots", "_law_counts"]) (sc := defScope s__law_right) (by decide +kernel)) (by rfl) (fun _ _ _ _ _ => (pg_name (i := 10) sc__law_right.nd rfl (Or.inl rfl))) (fun _ _ _ _ _ => pdts_nil) (fun _ _ _ _ _ => (pd_tup pda_nil))) pda_nil)))
      (pds_one (pds_ret (pd_cmp (os_eq hr.units) (pd_callDTN R.G_least_limit mf_ll hC hL (hr.mono (by decide)) rfl R.m_least_limit R.k_least_limit R.D_least_limit.choose_spec.2 R.D_least_limit.choose_spec.1 passL (pda_cons (pdv (pv 2)) (pda_cons (pdv (pv 3)) pda_nil))) (pd_callKTN R.G_least_limit mf_ll hC hL (hr.mono (by decide)) rfl R.m_least_limit R.k_least_limit R.K_least_limit passL (pda_cons (pdv (pv 2)) (pda_cons (pdv (pv 3)) pda_nil)) (pdv (pv 7))) (nomark _))))))))))))))))) ?_) ad_wellT
  rintro xs Q Z ⟨k, rfl, q⟩
  cases hk : decide (k = 0) with
  | false =>
    refine ifB (b := false ^^ decide (k = 0)) (by rw [hk]; rfl) ?_
    refine ⟨5, 6, rfl, by decide, by decide, by decide, by decide, fun ps hps => ⟨rfl, rfl, ?_⟩⟩
    have sz : SzOk ps := hps.sz (by decide) (by decide)
    refine ifB (b := false ^^ decide (k = 0)) (by rw [hk]; rfl) ?_
    have n6 := sz.n6
    refine ⟨ps, 3, rfl, sz, by decide, by decide, fun rows hr => ⟨rfl, rfl, ?_⟩⟩
    have pg := hr.pgs (by decide)
    have c10 : (10 : Int) ^ (6 : Int).toNat = 1000000 := by decide
    refine ⟨ps, rows, rfl, sz, hr.1, rfl, by unfold CPow; decide, ?_⟩
    cases hc : decide (lv ps rows > (10 : Int) ^ (6 : Int).toNat) with
    | true =>
      refine ifA (b := decide (lv ps rows > (10 : Int) ^ (6 : Int).toNat)) hc ?_
      exact ⟨rfl, q⟩
    | false =>
      refine ifB (b := decide (lv ps rows > (10 : Int) ^ (6 : Int).toNat)) hc ?_
      have hc := of_decide_eq_false hc
      rw [c10] at hc
      have it := hr.items (w := 60) fun q hq => (sz.rg q hq).2.2
      have tab : TabOk ps (lv ps rows) rows := hr.tab (by omega) (Int.le_refl _)
      have tabM : TabOk ps ML rows := ⟨tab.len, tab.cnt, tab.few, by show _ ≤ (1000000 : Int); omega⟩
      refine ⟨rows, rfl, by rw [hr.1]; omega, fun ns hn => ⟨(it ns hn).1, by have := (it ns hn).2.1; omega, fun n h => by have := (it ns hn).2.2 n h; omega⟩, fun pr hp => ⟨rfl, rfl, ?_⟩⟩
      have a : Ask ps ML rows (dRows pr) pr := ask_of sz (by decide) tabM hp
      have hF : lv ps pr ≤ lv ps rows := lv_pins (fun q hq => (sz.rg q hq).1.1) (fun ns hn n h => by have := (it ns hn).2.2 n h; omega) hp
      have p0 := PnsOk.none rows
      rw [hr.1] at p0
      have b : Ask ps ML rows (dRows (List.replicate (ps).length [])) (List.replicate (ps).length []) := ask_of sz (by decide) tabM p0
      have cN : Ask ps ML rows .none (List.replicate (ps).length []) := ask_non sz (by decide) tabM
      obtain ⟨so, po⟩ := pairs_ok ps
      refine ⟨rfl, ?_⟩
      refine ⟨ps, rows, pr, dRows pr, rfl, a, rfl, rfl, ?_⟩
      refine ⟨ps, rows, pr, rfl, sz, hr.1, a.pin.1.len, fun ns hn => by have := (it ns hn).2.1; omega, hF, rfl, ?_⟩
      refine ⟨po, po, so, so, ?_⟩
      refine ifB (b := true ^^ PyData.eqv (.list ((ps).map dPair)) (.list ((ps).map dPair))) (by rw [eqv_self so]; rfl) ?_
      refine ⟨ps, rows, pr, dRows pr, rfl, a, rfl, ?_⟩
      have lo := lim_ok (leastS (cst ps pr) (fur rows pr) (lv ps rows))
      obtain ⟨sT, pT⟩ := lo
      refine ⟨pT, pT, sT, sT, ?_⟩
      refine ifB (b := true ^^ PyData.eqv (dLim (leastS (cst ps pr) (fur rows pr) (lv ps rows))) (dLim (leastS (cst ps pr) (fur rows pr) (lv ps rows)))) (by rw [eqv_self sT]; rfl) ?_
      generalize dLim (leastS (cst ps pr) (fur rows pr) (lv ps rows)) = T
      refine ⟨fun i acc r => acc = ((List.replicate rows.length ([] : List Int)).take i).map dTup ∧ r = [.well, .d (.int k), .d (.list ((ps).map dPair)), .d (dRows rows), .d (dRows pr), .d (.list ((ps).map dPair)), .d T, .no, .no, .no, .no], ⟨rfl, rfl⟩, ?_, ?_⟩
      · rintro i d acc r hi ⟨rfl, rfl⟩
        have lt := (List.getElem?_eq_some_iff.mp hi).1
        rw [List.length_map] at lt
        have ho : (List.replicate rows.length ([] : List Int))[i]? = some [] := by
          rw [List.getElem?_replicate, if_pos lt]
        have tl := take_lt (xs := List.replicate rows.length ([] : List Int)) (n := 1000) (by rw [List.length_replicate, hr.1]; omega) i
        refine ⟨_, rfl, Nat.le_of_ble_eq_true rfl, by rw [List.length_map]; omega, ?_, rfl⟩
        rw [← take_next ho, List.map_append]
        rfl
      · rintro acc r ⟨rfl, rfl⟩
        rw [List.length_map, List.take_of_length_le (by rw [List.length_replicate]; exact Nat.le_refl _), hr.1]
        refine ⟨rfl, ?_⟩
        refine ⟨ps, rows, List.replicate (ps).length [], .none, rfl, cN, rfl, ?_⟩
        refine ⟨ps, rows, List.replicate (ps).length [], dRows (List.replicate (ps).length []), rfl, b, rfl, ?_⟩
        obtain ⟨sN, pN⟩ := lim_ok (leastS (cst ps (List.replicate (ps).length [])) (fur rows (List.replicate (ps).length [])) (lv ps rows))
        refine ⟨pN, pN, sN, sN, rfl, ?_⟩
        generalize dLim (leastS (cst ps (List.replicate (ps).length [])) (fur rows (List.replicate (ps).length [])) (lv ps rows)) = N at sN ⊢
        show Q (.d (.bool (false ^^ PyData.eqv N N)))
        rw [eqv_self sN]
        exact q
  | true =>
    refine ifA (b := false ^^ decide (k = 0)) (by rw [hk]; rfl) ?_
    refine ⟨6, 60, rfl, by decide, by decide, by decide, by decide, fun ps hps => ⟨rfl, rfl, ?_⟩⟩
    refine ifA (b := false ^^ decide (k = 0)) (by rw [hk]; rfl) ?_
    refine ⟨2, rfl, by decide, by decide, fun b b0 b1 => ⟨rfl, ?_⟩⟩
    cases hb : decide (b = 0) with
    | false =>
      refine ifB (b := false ^^ decide (b = 0)) (by rw [hb]; rfl) ?_
      have sz : SzOk ps := hps.sz (by decide) (by decide)
      have n6 := sz.n6
      refine ⟨ps, 3, rfl, sz, by decide, by decide, fun rows hr => ⟨rfl, rfl, ?_⟩⟩
      have pg := hr.pgs (by decide)
      have c10 : (10 : Int) ^ (6 : Int).toNat = 1000000 := by decide
      refine ⟨ps, rows, rfl, sz, hr.1, rfl, by unfold CPow; decide, ?_⟩
      cases hc : decide (lv ps rows > (10 : Int) ^ (6 : Int).toNat) with
      | true =>
        refine ifA (b := decide (lv ps rows > (10 : Int) ^ (6 : Int).toNat)) hc ?_
        exact ⟨rfl, q⟩
      | false =>
        refine ifB (b := decide (lv ps rows > (10 : Int) ^ (6 : Int).toNat)) hc ?_
        have hc := of_decide_eq_false hc
        rw [c10] at hc
        have it := hr.items (w := 60) fun q hq => (sz.rg q hq).2.2
        have tab : TabOk ps (lv ps rows) rows := hr.tab (by omega) (Int.le_refl _)
        have tabM : TabOk ps ML rows := ⟨tab.len, tab.cnt, tab.few, by show _ ≤ (1000000 : Int); omega⟩
        refine ⟨rows, rfl, by rw [hr.1]; omega, fun ns hn => ⟨(it ns hn).1, by have := (it ns hn).2.1; omega, fun n h => by have := (it ns hn).2.2 n h; omega⟩, fun pr hp => ⟨rfl, rfl, ?_⟩⟩
        have a : Ask ps ML rows (dRows pr) pr := ask_of sz (by decide) tabM hp
        have hF : lv ps pr ≤ lv ps rows := lv_pins (fun q hq => (sz.rg q hq).1.1) (fun ns hn n h => by have := (it ns hn).2.2 n h; omega) hp
        have p0 := PnsOk.none rows
        rw [hr.1] at p0
        have b : Ask ps ML rows (dRows (List.replicate (ps).length [])) (List.replicate (ps).length []) := ask_of sz (by decide) tabM p0
        have cN : Ask ps ML rows .none (List.replicate (ps).length []) := ask_non sz (by decide) tabM
        obtain ⟨so, po⟩ := pairs_ok ps
        refine ⟨rfl, ?_⟩
        refine ⟨ps, rows, pr, dRows pr, rfl, a, rfl, rfl, ?_⟩
        refine ⟨ps, rows, pr, rfl, sz, hr.1, a.pin.1.len, fun ns hn => by have := (it ns hn).2.1; omega, hF, rfl, ?_⟩
        refine ⟨po, po, so, so, ?_⟩
        refine ifB (b := true ^^ PyData.eqv (.list ((ps).map dPair)) (.list ((ps).map dPair))) (by rw [eqv_self so]; rfl) ?_
        refine ⟨ps, rows, pr, dRows pr, rfl, a, rfl, ?_⟩
        have lo := lim_ok (leastS (cst ps pr) (fur rows pr) (lv ps rows))
        obtain ⟨sT, pT⟩ := lo
        refine ⟨pT, pT, sT, sT, ?_⟩
        refine ifB (b := true ^^ PyData.eqv (dLim (leastS (cst ps pr) (fur rows pr) (lv ps rows))) (dLim (leastS (cst ps pr) (fur rows pr) (lv ps rows)))) (by rw [eqv_self sT]; rfl) ?_
        generalize dLim (leastS (cst ps pr) (fur rows pr) (lv ps rows)) = T
        refine ⟨fun i acc r => acc = ((List.replicate rows.length ([] : List Int)).take i).map dTup ∧ r = [.well, .d (.int k), .d (.list ((ps).map dPair)), .d (dRows rows), .d (dRows pr), .d (.list ((ps).map dPair)), .d T, .no, .no, .no, .no], ⟨rfl, rfl⟩, ?_, ?_⟩
        · rintro i d acc r hi ⟨rfl, rfl⟩
          have lt := (List.getElem?_eq_some_iff.mp hi).1
          rw [List.length_map] at lt
          have ho : (List.replicate rows.length ([] : List Int))[i]? = some [] := by
            rw [List.getElem?_replicate, if_pos lt]
          have tl := take_lt (xs := List.replicate rows.length ([] : List Int)) (n := 1000) (by rw [List.length_replicate, hr.1]; omega) i
          refine ⟨_, rfl, Nat.le_of_ble_eq_true rfl, by rw [List.length_map]; omega, ?_, rfl⟩
          rw [← take_next ho, List.map_append]
          rfl
        · rintro acc r ⟨rfl, rfl⟩
          rw [List.length_map, List.take_of_length_le (by rw [List.length_replicate]; exact Nat.le_refl _), hr.1]
          refine ⟨rfl, ?_⟩
          refine ⟨ps, rows, List.replicate (ps).length [], .none, rfl, cN, rfl, ?_⟩
          refine ⟨ps, rows, List.replicate (ps).length [], dRows (List.replicate (ps).length []), rfl, b, rfl, ?_⟩
          obtain ⟨sN, pN⟩ := lim_ok (leastS (cst ps (List.replicate (ps).length [])) (fur rows (List.replicate (ps).length [])) (lv ps rows))
          refine ⟨pN, pN, sN, sN, rfl, ?_⟩
          generalize dLim (leastS (cst ps (List.replicate (ps).length [])) (fur rows (List.replicate (ps).length [])) (lv ps rows)) = N at sN ⊢
          show Q (.d (.bool (false ^^ PyData.eqv N N)))
          rw [eqv_self sN]
          exact q
    | true =>
      refine ifA (b := false ^^ decide (b = 0)) (by rw [hb]; rfl) ?_
      refine ⟨fun i acc r => acc = ((ps.map fun p => (p.1 * 16, p.2)).take i).map dPair ∧ r = _, ⟨rfl, rfl⟩, ?_, ?_⟩
      · rintro i d acc r hi ⟨rfl, rfl⟩
        obtain ⟨p, ep, rfl⟩ := get_map hi
        have rg := hps.2.2 p (List.mem_of_getElem? ep)
        have hl := hps.2.1
        have ho : (ps.map fun p => (p.1 * 16, p.2))[i]? = some (p.1 * 16, p.2) := by rw [List.getElem?_map, ep]; rfl
        have tl := take_lt (xs := ps.map fun p => (p.1 * 16, p.2)) (n := 6) (by rw [List.length_map]; omega) i
        refine ⟨_, rfl, .inl ⟨by omega, by omega⟩, Nat.le_of_ble_eq_true rfl, by rw [List.length_map]; omega, ?_, rfl⟩
        rw [← take_next ho, List.map_append]
        rfl
      · rintro acc r ⟨rfl, rfl⟩
        have et : (ps.map fun p => (p.1 * 16, p.2)).take (ps.map dPair).length = ps.map fun p => (p.1 * 16, p.2) := by rw [List.length_map, List.take_of_length_le (by rw [List.length_map]; exact Nat.le_refl _)]
        rw [et]
        have sz : SzOk (ps.map fun p => (p.1 * 16, p.2)) := by
          refine ⟨fun q hq => ?_, by rw [List.length_map]; exact hps.1, by rw [List.length_map]; have := hps.2.1; omega⟩
          obtain ⟨p, hp, rfl⟩ := List.mem_map.mp hq
          have := hps.2.2 p hp
          show (1 ≤ p.1 * 16 ∧ p.1 * 16 ≤ 1000) ∧ 1 ≤ p.2 ∧ p.2 ≤ 60
          omega
        generalize (ps.map fun p => (p.1 * 16, p.2)) = ps2 at sz ⊢
        refine ⟨rfl, ?_⟩
        dsimp only
        refine seq_env (ρ' := [.well, .d (.int k), .own (ps2.map dPair), .no, .no, .no, .no, .no, .no, .no, .no]) rfl ?_
        have n6 := sz.n6
        refine ⟨ps2, 3, rfl, sz, by decide, by decide, fun rows hr => ⟨rfl, rfl, ?_⟩⟩
        have pg := hr.pgs (by decide)
        have c10 : (10 : Int) ^ (6 : Int).toNat = 1000000 := by decide
        refine ⟨ps2, rows, rfl, sz, hr.1, rfl, by unfold CPow; decide, ?_⟩
        cases hc : decide (lv ps2 rows > (10 : Int) ^ (6 : Int).toNat) with
        | true =>
          refine ifA (b := decide (lv ps2 rows > (10 : Int) ^ (6 : Int).toNat)) hc ?_
          exact ⟨rfl, q⟩
        | false =>
          refine ifB (b := decide (lv ps2 rows > (10 : Int) ^ (6 : Int).toNat)) hc ?_
          have hc := of_decide_eq_false hc
          rw [c10] at hc
          have it := hr.items (w := 60) fun q hq => (sz.rg q hq).2.2
          have tab : TabOk ps2 (lv ps2 rows) rows := hr.tab (by omega) (Int.le_refl _)
          have tabM : TabOk ps2 ML rows := ⟨tab.len, tab.cnt, tab.few, by show _ ≤ (1000000 : Int); omega⟩
          refine ⟨rows, rfl, by rw [hr.1]; omega, fun ns hn => ⟨(it ns hn).1, by have := (it ns hn).2.1; omega, fun n h => by have := (it ns hn).2.2 n h; omega⟩, fun pr hp => ⟨rfl, rfl, ?_⟩⟩
          have a : Ask ps2 ML rows (dRows pr) pr := ask_of sz (by decide) tabM hp
          have hF : lv ps2 pr ≤ lv ps2 rows := lv_pins (fun q hq => (sz.rg q hq).1.1) (fun ns hn n h => by have := (it ns hn).2.2 n h; omega) hp
          have p0 := PnsOk.none rows
          rw [hr.1] at p0
          have b : Ask ps2 ML rows (dRows (List.replicate (ps2).length [])) (List.replicate (ps2).length []) := ask_of sz (by decide) tabM p0
          have cN : Ask ps2 ML rows .none (List.replicate (ps2).length []) := ask_non sz (by decide) tabM
          obtain ⟨so, po⟩ := pairs_ok ps2
          refine ⟨rfl, ?_⟩
          refine ⟨ps2, rows, pr, dRows pr, rfl, a, rfl, rfl, ?_⟩
          refine ⟨ps2, rows, pr, rfl, sz, hr.1, a.pin.1.len, fun ns hn => by have := (it ns hn).2.1; omega, hF, rfl, ?_⟩
          refine ⟨po, po, so, so, ?_⟩
          refine ifB (b := true ^^ PyData.eqv (.list ((ps2).map dPair)) (.list ((ps2).map dPair))) (by rw [eqv_self so]; rfl) ?_
          refine ⟨ps2, rows, pr, dRows pr, rfl, a, rfl, ?_⟩
          have lo := lim_ok (leastS (cst ps2 pr) (fur rows pr) (lv ps2 rows))
          obtain ⟨sT, pT⟩ := lo
          refine ⟨pT, pT, sT, sT, ?_⟩
          refine ifB (b := true ^^ PyData.eqv (dLim (leastS (cst ps2 pr) (fur rows pr) (lv ps2 rows))) (dLim (leastS (cst ps2 pr) (fur rows pr) (lv ps2 rows)))) (by rw [eqv_self sT]; rfl) ?_
          generalize dLim (leastS (cst ps2 pr) (fur rows pr) (lv ps2 rows)) = T
          refine ⟨fun i acc r => acc = ((List.replicate rows.length ([] : List Int)).take i).map dTup ∧ r = [.well, .d (.int k), .d (.list ((ps2).map dPair)), .d (dRows rows), .d (dRows pr), .d (.list ((ps2).map dPair)), .d T, .no, .no, .no, .no], ⟨rfl, rfl⟩, ?_, ?_⟩
          · rintro i d acc r hi ⟨rfl, rfl⟩
            have lt := (List.getElem?_eq_some_iff.mp hi).1
            rw [List.length_map] at lt
            have ho : (List.replicate rows.length ([] : List Int))[i]? = some [] := by
              rw [List.getElem?_replicate, if_pos lt]
            have tl := take_lt (xs := List.replicate rows.length ([] : List Int)) (n := 1000) (by rw [List.length_replicate, hr.1]; omega) i
            refine ⟨_, rfl, Nat.le_of_ble_eq_true rfl, by rw [List.length_map]; omega, ?_, rfl⟩
            rw [← take_next ho, List.map_append]
            rfl
          · rintro acc r ⟨rfl, rfl⟩
            rw [List.length_map, List.take_of_length_le (by rw [List.length_replicate]; exact Nat.le_refl _), hr.1]
            refine ⟨rfl, ?_⟩
            refine ⟨ps2, rows, List.replicate (ps2).length [], .none, rfl, cN, rfl, ?_⟩
            refine ⟨ps2, rows, List.replicate (ps2).length [], dRows (List.replicate (ps2).length []), rfl, b, rfl, ?_⟩
            obtain ⟨sN, pN⟩ := lim_ok (leastS (cst ps2 (List.replicate (ps2).length [])) (fur rows (List.replicate (ps2).length [])) (lv ps2 rows))
            refine ⟨pN, pN, sN, sN, rfl, ?_⟩
            generalize dLim (leastS (cst ps2 (List.replicate (ps2).length [])) (fur rows (List.replicate (ps2).length [])) (lv ps2 rows)) = N at sN ⊢
            show Q (.d (.bool (false ^^ PyData.eqv N N)))
            rw [eqv_self sN]
            exact q
end
end K20
set_option Elab.async false
set_option linter.all false
set_option maxRecDepth 100000
set_option maxHeartbeats 4000000
/-! the rest of a suite, over data -/
namespace DL
open PySem PySem.Spec PyProof.Rows L2 XV SL LamX
def tsuite (C : Addr) (TT : List (Addr × Str)) (t : TDS) : TS := fun D σ H => ∃ c : DC, (c.C = C ∧ Nt c.B0) ∧ LamOk c TT ∧ liftS c (fun _ _ _ => False) t D σ H
theorem pss_tsuite {C : Addr} {TT : List (Addr × Str)} {X : Cx} {body : List Stmt} {t : TDS} (h : ∀ c : DC, (c.C = C ∧ Nt c.B0) → LamOk c TT → PDSs c (fun _ _ _ => False) X body t) : PSs X body (tsuite C TT t) :=
  ⟨fun pins s σ H D I ⟨c, hC, hL, q⟩ => (h c hC hL).ps.run pins s σ H D I q⟩
/-- at any heap with the tables: a frame of nothing -/
theorem sd_bare {C : Addr} {TT : List (Addr × Str)} {σ : L2.St} {H : Hp} (hT : Tabs TT H) : ∃ (c : DC) (B : Hp), (c.C = C ∧ Nt c.B0) ∧ LamOk c TT ∧ Sd c σ H (σ.map fun _ => DV.no) [] B := by
  have tb : ∀ b nm, (b, nm) ∈ TT → ∃ q, H b = some (.tbl q) := fun b nm h => by
    obtain ⟨q, z, _⟩ := hT (b, nm) h
    exact ⟨q, z⟩
  have all : ∀ p ∈ σ.zip (σ.map fun _ => DV.no) ++ [], p.2 = DV.no := fun p hp => by
    rw [List.append_nil] at hp
    have := (List.of_mem_zip hp).2
    obtain ⟨_, _, e⟩ := List.mem_map.mp this
    exact e.symm
  let c0 : DC := ⟨C, H, DL.filt H, fun b => ∃ nm, (b, nm) ∈ TT, TT⟩
  refine ⟨⟨C, tf c0 H, DL.filt H, fun b => ∃ nm, (b, nm) ∈ TT, TT⟩, DL.filt H, ⟨rfl, filt_nt⟩, ⟨rfl, fun p hp => ⟨p.2, hp⟩, fun b q z => tf_tbl (c := c0) z⟩, ?_⟩
  exact {
    len := (List.length_map _).symm
    sub := filt_sub
    ext := Same.refl _
    new := fun b o z => .inl z
    keep := fun b o z _ => tf_sub (c := c0) _ _ z
    wl := fun w ⟨nm, hw⟩ => by
      obtain ⟨q, z⟩ := tb w nm hw
      refine ⟨?_, (by show tf c0 H w ≠ none; rw [tf_w (c := c0) ⟨nm, hw⟩, z]; intro e; cases e), .inl ⟨⟨nm, hw⟩, fun nm' h' => hT (w, nm') h'⟩⟩
      show DL.filt H w = none
      unfold DL.filt
      rw [z]
    rep := fun p hp => .inl (all p hp)
    ap := List.pairwise_of_forall_mem_list fun a ha b hb => ap_no (by rw [all a ha]; rfl)
    nbor := fun x hx => by
      obtain ⟨_, _, e⟩ := List.mem_map.mp hx
      rw [← e]
      rfl
    tup := fun b xs z => filt_of z fun q e => by cases e }
end DL
set_option Elab.async false
set_option linter.all false
set_option maxRecDepth 100000
set_option maxHeartbeats 4000000
/-! the least limit of tables written out -/
namespace MR
open PySem PySem.Spec PyProof.Rows L2 XV SL DL
theorem srt_is {cs : List Cost} {fs : List Int} {ns : List Nat} (g : grow fs = ns) (h : ns.Pairwise fun a b => decide (-gb cs fs a ≤ -gb cs fs b) = true) : srt cs fs = ns := by
  unfold srt
  rw [g]
  exact List.mergeSort_of_pairwise h
theorem srtI_is {ns : List Int} (h : ns.Pairwise fun a b => decide (a ≤ b) = true) : srtI ns = ns := List.mergeSort_of_pairwise h
theorem least60 : dLim (leastS (cst [(1000, 60)] [[]]) (fur [List.replicate 60 1] [[]]) 60000) = .tuple [.int 3541000, .tuple [.int 0]] := by
  have e : srt (cst [(1000, 60)] [[]]) (fur [List.replicate 60 1] [[]]) = [0] := srt_is (by decide) (by decide)
  have l : leastS (cst [(1000, 60)] [[]]) (fur [List.replicate 60 1] [[]]) 60000 = (3541000, [0]) := by
    unfold leastS
    rw [e]
    decide
  rw [l]
  unfold dLim
  rw [srtI_is (by decide)]
  rfl
theorem least20 : dLim (leastS (cst [(1000, 60)] [[]]) (fur [List.replicate 20 1] [[]]) 20000) = .tuple [.int 1141000, .tuple [.int 0]] := by
  have e : srt (cst [(1000, 60)] [[]]) (fur [List.replicate 20 1] [[]]) = [0] := srt_is (by decide) (by decide)
  have l : leastS (cst [(1000, 60)] [[]]) (fur [List.replicate 20 1] [[]]) 20000 = (1141000, [0]) := by
    unfold leastS
    rw [e]
    decide
  rw [l]
  unfold dLim
  rw [srtI_is (by decide)]
  rfl
theorem least8 : dLim (leastS (cst [(1, 4), (2, 2)] [[], []]) (fur [[1, 1], [1, 1]] [[], []]) 6) = .tuple [.int 8, .tuple [.int 0, .int 1]] := by
  have e : srt (cst [(1, 4), (2, 2)] [[], []]) (fur [[1, 1], [1, 1]] [[], []]) = [0, 1] := srt_is (by decide) (by decide)
  have l : leastS (cst [(1, 4), (2, 2)] [[], []]) (fur [[1, 1], [1, 1]] [[], []]) 6 = (8, [0, 1]) := by
    unfold leastS
    rw [e]
    decide
  rw [l]
  unfold dLim
  rw [srtI_is (by decide)]
  rfl
theorem tab_c {n : Nat} (hn : SL.pgs [List.replicate n 1] ≤ 60) (hl : lv [(1000, 60)] [List.replicate n 1] ≤ ML) : TabOk [(1000, 60)] ML [List.replicate n 1] := by
  refine ⟨rfl, fun i q ns h1 h2 => ?_, hn, hl⟩
  cases i with
  | zero =>
    cases h1
    cases h2
    exact ⟨List.pairwise_replicate.mpr (.inr (Int.le_refl _)), fun m hm => by rw [List.eq_of_mem_replicate hm]; decide⟩
  | succ i => cases h1
theorem sz_c : SzOk [(1000, 60)] := ⟨fun q hq => by rw [List.mem_singleton.mp hq]; decide, by decide, by decide⟩
theorem ask60 : Ask [(1000, 60)] ML [List.replicate 60 1] .none [[]] := ask_non sz_c (by decide) (tab_c (by decide) (by decide))
theorem ask20 : Ask [(1000, 60)] ML [List.replicate 20 1] .none [[]] := ask_non sz_c (by decide) (tab_c (by decide) (by decide))
abbrev tl60 : PyData := .tuple [.int 3541000, .tuple [.int 0]]
abbrev tl20 : PyData := .tuple [.int 1141000, .tuple [.int 0]]
abbrev tl8 : PyData := .tuple [.int 8, .tuple [.int 0, .int 1]]
theorem e60 : dLim (leastS (cst [(1000, 60)] [[]]) (fur [List.replicate 60 1] [[]]) (lv [(1000, 60)] [List.replicate 60 1])) = tl60 := by
  rw [show lv [(1000, 60)] [List.replicate 60 1] = 60000 by decide]
  exact least60
theorem e20 : dLim (leastS (cst [(1000, 60)] [[]]) (fur [List.replicate 20 1] [[]]) (lv [(1000, 60)] [List.replicate 20 1])) = tl20 := by
  rw [show lv [(1000, 60)] [List.replicate 20 1] = 20000 by decide]
  exact least20
theorem e8 : dLim (leastS (cst [(1, 4), (2, 2)] [[], []]) (fur [[1, 1], [1, 1]] [[], []]) (lv [(1, 4), (2, 2)] [[1, 1], [1, 1]])) = tl8 := by
  rw [show lv [(1, 4), (2, 2)] [[1, 1], [1, 1]] = 6 by decide]
  exact least8
theorem lim_ok2 (a : Int × List Nat) : SeqAt.shaped (dLim a) = true ∧ plain (dLim a) = true := by
  obtain ⟨h1, h2, h3⟩ := lay_lim a
  refine ⟨?_, h3⟩
  show (PyData.canLay0 _ && decide (PyData.depth _ ≤ 64)) = true
  rw [h1, decide_eq_true (by omega)]
  rfl
theorem o60 : SeqAt.shaped tl60 = true := e60 ▸ (lim_ok2 _).1
theorem o20 : SeqAt.shaped tl20 = true := e20 ▸ (lim_ok2 _).1
theorem o8 : SeqAt.shaped tl8 = true := e8 ▸ (lim_ok2 _).1
abbrev ps2 : PS := [(1000, 60), (999, 60)]
abbrev rows2 : Rows := [List.replicate 30 1, List.replicate 30 1]
theorem sz2 : SzOk ps2 := ⟨fun q hq => by
  rcases List.mem_cons.mp hq with rfl | hq
  · decide
  · rw [List.mem_singleton.mp hq]
    decide, by decide, by decide⟩
theorem ask2 : Ask ps2 ML rows2 .none [[], []] := by
  refine ask_non sz2 (by decide) ⟨rfl, fun i q ns h1 h2 => ?_, by decide, by decide⟩
  have a : ∀ m ∈ List.replicate 30 (1 : Int), 1 ≤ m ∧ m ≤ 60 := fun m hm => by rw [List.eq_of_mem_replicate hm]; decide
  match i, h1, h2 with
  | 0, h1, h2 => cases h1; cases h2; exact ⟨List.pairwise_replicate.mpr (.inr (Int.le_refl _)), a⟩
  | 1, h1, h2 => cases h1; cases h2; exact ⟨List.pairwise_replicate.mpr (.inr (Int.le_refl _)), a⟩
  | i + 2, h1, h2 => cases h1
theorem sz8 : SzOk [(1, 4), (2, 2)] := ⟨fun q hq => by
  rcases List.mem_cons.mp hq with rfl | hq
  · decide
  · rw [List.mem_singleton.mp hq]
    decide, by decide, by decide⟩
theorem ask8 : Ask [(1, 4), (2, 2)] ML [[1, 1], [1, 1]] .none [[], []] := by
  refine ask_non sz8 (by decide) ⟨rfl, fun i q ns h1 h2 => ?_, by decide, by decide⟩
  match i, h1, h2 with
  | 0, h1, h2 => cases h1; cases h2; exact ⟨by decide, by decide⟩
  | 1, h1, h2 => cases h1; cases h2; exact ⟨by decide, by decide⟩
  | i + 2, h1, h2 => cases h1
end MR
set_option Elab.async false
set_option linter.all false
set_option maxRecDepth 100000
set_option maxHeartbeats 4000000
namespace K20
open PySem PySem.Spec PyProof.Rows L2 XV SL DL MR LamX
abbrev s_law : Stmt := topS 50
theorem sc_law : FnScope ["_law_script", "_law_k", "_law_cell", "_law_classes_here", "_law_table_here"] ["_law_script"] (defScope s_law) := ⟨rfl, rfl, rfl, by decide +kernel, rfl, by decide +kernel, by decide +kernel⟩
theorem cut_int {ms : List Int} {lo hi : Option Int} {i : Nat} {y : V} (h : (cutV (ms.map V.int) lo hi)[i]? = some y) : ∃ z, y = V.int z := by
  have hm : y ∈ ms.map V.int := List.mem_of_mem_drop (List.mem_of_mem_take (List.mem_of_getElem? h))
  obtain ⟨z, _, e⟩ := List.mem_map.mp hm
  exact ⟨z, e.symm⟩
section
variable {P : Program} {w : World} {K : PySem.W.Frag} {mg : Str → Option Value} {base : Heap} {C : Addr}
def spLaw (K : PySem.W.Frag) (T : List (Addr × Str)) : Sp := fun vs H Q _ => ∃ (a : Addr) (ns : List Int), vs = [.ref a] ∧ SqL K H a (ns.map V.int) ∧ ns.length ≤ 63 ∧ Tabs T H ∧ ∀ H', Q (.bl true) H'
theorem ok_law {T : List (Addr × Str)} {f fR : Addr} {fd dR : FuncData} (F : Fun K "law" "law" s_law f fd) (R : RF P w K mg base C T)
    (GR : FnOk P w K mg base CX0 10 fR dR ["_law_well", "_law_k"] (spWellT T)) (mR : mg "_law_right" = some (.ref fR)) (kR : PySem.W.keepIn K (.ref fR) = true) (bR : Binds K dR ["_law_well", "_law_k"] []) :
    FnOk P w K mg base CX0 11 f fd ["_law_script"] (spLaw K T) := by
  refine F.ok sc_law (fun vs H Q E h => ?_) (fun cdv Ar outer s H vs Q E hr h => ?_)
  · obtain ⟨a, ns, rfl, _⟩ := h
    rfl
  · obtain ⟨a, ns, rfl, hS, hlen, hT, k⟩ := h
    refine ⟨_, (pss_cons (ps_for PassesOwn.never rfl (pi_enum (by rfl) R.B.b_enumerate (pa_cons (pe_slice sl_list (pe_op op_catS (pv 0) (pe_lst (pa_cons pe_int pa_nil))) po_none (po_some pe_int)) pa_nil)) (pg_tup rfl (pgs_cons (pg_name (i := 1) sc_law.nd rfl (Or.inl rfl)) (pgs_cons (pg_name (i := 2) sc_law.nd rfl (Or.inl rfl)) pgs_nil)))
      (pss_one (ps_if (pt_not (pt_val (pe_call GR (hr.mono (by decide)) rfl mR kR bR .nil pass0 (pa_cons (pe_lst (pa_cons (pe_op op_mul (pv 2) (pe_callTy call_int1 (by rfl) R.B.b_int (by decide +kernel) (pa_cons (pe_cmpR op_ge (pv 2) (pe_op op_pow pe_int pe_int) (nomark _)) pa_nil))) (pa_cons (pe_op op_add (pe_op op_mod (pe_callTy call_int1 (by rfl) R.B.b_int (by decide +kernel) (pa_cons (pv 2) pa_nil)) pe_int) (pe_op op_mul pe_int (pv 1))) (pa_cons pe_int pa_nil)))) (pa_cons (pv 1) pa_nil))))) (pss_one (ps_ret pe_bl)) pss_nil))) (pss_tsuite (C := C) (TT := T) fun c hC hL => (pds_cons (pds_if (pdt_cmp (os_ne hr.units) (pd_callDTN R.G_least_limit mf_ll hC hL (hr.mono (by decide)) rfl R.m_least_limit R.k_least_limit R.D_least_limit.choose_spec.2 R.D_least_limit.choose_spec.1 passL (pda_cons (pd_lst (pda_cons (pd_tup (pda_cons pd_int (pda_cons pd_int pda_nil))) pda_nil)) (pda_cons (pd_tup (pda_cons (pd_op os_mul (pd_tup (pda_cons pd_int pda_nil)) pd_int) pda_nil)) pda_nil))) (pd_tup (pda_cons pd_int (pda_cons (pd_tup (pda_cons pd_int pda_nil)) pda_nil))) (nomark _)) (pds_one (pds_ret pd_bl)) pds_nil)
      (pds_cons (pds_if (pdt_cmp (os_ne hr.units) (pd_callDTN R.G_least_limit mf_ll hC hL (hr.mono (by decide)) rfl R.m_least_limit R.k_least_limit R.D_least_limit.choose_spec.2 R.D_least_limit.choose_spec.1 passL (pda_cons (pd_lst (pda_cons (pd_tup (pda_cons pd_int (pda_cons pd_int pda_nil))) pda_nil)) (pda_cons (pd_tup (pda_cons (pd_op os_mul (pd_tup (pda_cons pd_int pda_nil)) pd_int) pda_nil)) pda_nil))) (pd_tup (pda_cons pd_int (pda_cons (pd_tup (pda_cons pd_int pda_nil)) pda_nil))) (nomark _)) (pds_one (pds_ret pd_bl)) pds_nil)
      (pds_cons (pds_par (i := 3) (j := 4) (fun _ h => ps_par rfl sc_law.nd rfl rfl (by decide) rfl rfl h (by rfl)) (by decide) (pda_cons (pd_lst (pda_cons (pd_tup (pda_cons pd_int (pda_cons pd_int pda_nil))) (pda_cons (pd_tup (pda_cons pd_int (pda_cons pd_int pda_nil))) pda_nil))) (pda_cons (pd_tup (pda_cons (pd_op os_mul (pd_tup (pda_cons pd_int pda_nil)) pd_int) (pda_cons (pd_op os_mul (pd_tup (pda_cons pd_int pda_nil)) pd_int) pda_nil))) pda_nil)))
      (pds_cons (pds_if (pdt_not (pdt_val (pd_callN R.G_law_told_right mf_tr hC (hr.mono (by decide)) rfl R.m_law_told_right R.k_law_told_right R.b_law_told_right pass0 (pda_cons (pdv (pv 3)) (pda_cons (pdv (pv 4)) (pda_cons (pd_tup (pda_cons (pd_tup pda_nil) (pda_cons (pd_tup pda_nil) pda_nil))) (pda_cons (pd_callDTN R.G_least_limit mf_ll hC hL (hr.mono (by decide)) rfl R.m_least_limit R.k_least_limit R.D_least_limit.choose_spec.2 R.D_least_limit.choose_spec.1 passL (pda_cons (pdv (pv 3)) (pda_cons (pdv (pv 4)) pda_nil))) pda_nil))))))) (pds_one (pds_ret pd_bl)) pds_nil)
      (pds_one (pds_ret (pd_cmp (os_eq hr.units) (pd_callDTN R.G_least_limit mf_ll hC hL (hr.mono (by decide)) rfl R.m_least_limit R.k_least_limit R.D_least_limit.choose_spec.2 R.D_least_limit.choose_spec.1 passL (pda_cons (pd_lst (pda_cons (pd_tup (pda_cons pd_int (pda_cons pd_int pda_nil))) (pda_cons (pd_tup (pda_cons pd_int (pda_cons pd_int pda_nil))) pda_nil))) (pda_cons (pd_tup (pda_cons (pd_tup (pda_cons pd_int (pda_cons pd_int pda_nil))) (pda_cons (pd_tup (pda_cons pd_int (pda_cons pd_int pda_nil))) pda_nil))) pda_nil))) (pd_tup (pda_cons pd_int (pda_cons (pd_tup (pda_cons pd_int (pda_cons pd_int pda_nil))) pda_nil))) (nomark _)))))))))), ?_⟩
    refine ⟨.ref a, rfl, (by show 1 ≤ sizeLine; decide), fun p1 np1 => ?_⟩
    generalize h1 : upd _ p1 _ = H1
    obtain ⟨t1, e1⟩ := eqU h1 np1
    refine ⟨a, p1, _, _, rfl, rfl, t1.seq hS, SqL.of e1, (by rw [List.length_map, sizeLine_eq]; show ns.length + 1 ≤ _; omega), fun p2 np2 => ?_⟩
    have ec : ns.map V.int ++ [V.int 0] = (ns ++ [0]).map V.int := by simp
    rw [ec]
    generalize h2 : upd _ p2 _ = H2
    obtain ⟨t2, e2⟩ := eqU h2 np2
    refine ⟨6, rfl, p2, _, rfl, SqL.of e2, fun p3 np3 => ?_⟩
    generalize hcut : cutV _ _ _ = L
    have hint : ∀ (i : Nat) (y : V), L[i]? = some y → ∃ z, y = V.int z := fun i y h => by
      subst hcut
      exact cut_int h
    generalize h3 : upd _ p3 _ = H3
    obtain ⟨t3, e3⟩ := eqU h3 np3
    have T3 : Tabs T H3 := ((hT.ext t1).ext t2).ext t3
    refine ⟨p3, L, rfl, SqL.of e3, for_it (walk_enum (K := K) (a := p3) (xs := L)) (fun i σ H4 => ∃ y1 y2, σ = [some (.ref a), y1, y2, none, none] ∧ H4 p3 = some (.lst L) ∧ Tabs T H4) ⟨_, _, rfl, e3, T3⟩ (fun i σ H4 _ ⟨_, _, _, z, _⟩ => SqL.of z) ?_ ?_⟩
    · rintro j x σ H4 H5 hj ⟨y1, y2, rfl, e4, T4⟩ ⟨T', x1, x2, rfl, nT, rfl, g1, g2⟩
      cases g1
      obtain ⟨z, rfl⟩ := hint j x2 g2
      generalize h6 : upd H4 T' _ = H6
      obtain ⟨t6, e6⟩ := eqU h6 nT
      refine ⟨T', _, rfl, SqT.of e6, rfl, _, _, rfl, _, _, rfl, rfl, ?_⟩
      refine ⟨.int z, rfl, .int z, rfl, 10, 18, rfl, rfl, ⟨by decide, by decide, by decide⟩, z, _, rfl, rfl, .inr ⟨_, rfl, z, _, rfl, rfl, .inr ?_, ?_⟩⟩
      · split
        · exact ⟨by decide, by decide⟩
        · exact ⟨by decide, by decide⟩
      refine ⟨.int z, rfl, .inl ⟨z, rfl, z, 2147483647, rfl, rfl, (by show (0 : Int) < 2147483647; decide), .int j, rfl, 7919, j, rfl, rfl, .inl ⟨by decide, by decide⟩, _, _, rfl, rfl, ?_⟩⟩
      refine ⟨(by show 3 ≤ sizeLine; decide), fun l nl => ?_⟩
      generalize h7 : upd _ l _ = H7
      obtain ⟨t7, e7⟩ := eqU h7 nl
      have e4' := t7 _ _ (t6 _ _ e4)
      refine ⟨.int j, rfl, l, j, rfl, ⟨_, _, _, e7⟩, (T4.ext t6).ext t7, fun H8 b8 T8 => ⟨_, rfl, iteF ?_⟩⟩
      refine ⟨_, _, rfl, b8 _ _ e4' (ne_of_none (t6 _ _ e4) nl) (fun q y => by cases y), T8⟩
    · rintro σ H4 ⟨y1, y2, rfl, e4, T4⟩
      obtain ⟨c, B, hc, hL, sd⟩ := sd_bare (C := C) (σ := [some (.ref a), y1, y2, none, none]) T4
      refine ⟨c, hc, hL, _, [], B, sd, (fun _ h => nomatch h), ?_⟩
      have q : Q (.bl true) H4 := k _
      refine ⟨Nat.le_of_ble_eq_true rfl, Nat.le_of_ble_eq_true rfl, Nat.le_of_ble_eq_true rfl, by simp, by decide, by decide, Nat.le_of_ble_eq_true rfl, Nat.le_of_ble_eq_true rfl, [(1000, 60)], [List.replicate 60 1], [[]], .none, rfl, ask60, rfl, ?_⟩
      refine ⟨Nat.le_of_ble_eq_true rfl, Nat.le_of_ble_eq_true rfl, (lim_ok2 _).2, rfl, (lim_ok2 _).1, o60, ?_⟩
      refine ifB (b := true ^^ PyData.eqv (dLim (leastS (cst [(1000, 60)] [[]]) (fur [List.replicate 60 1] [[]]) (lv [(1000, 60)] [List.replicate 60 1]))) tl60) (by rw [e60, eqv_self o60]; rfl) ?_
      refine ⟨Nat.le_of_ble_eq_true rfl, Nat.le_of_ble_eq_true rfl, Nat.le_of_ble_eq_true rfl, by simp, by decide, by decide, Nat.le_of_ble_eq_true rfl, Nat.le_of_ble_eq_true rfl, [(1000, 60)], [List.replicate 20 1], [[]], .none, rfl, ask20, rfl, ?_⟩
      refine ⟨Nat.le_of_ble_eq_true rfl, Nat.le_of_ble_eq_true rfl, (lim_ok2 _).2, rfl, (lim_ok2 _).1, o20, ?_⟩
      refine ifB (b := true ^^ PyData.eqv (dLim (leastS (cst [(1000, 60)] [[]]) (fur [List.replicate 20 1] [[]]) (lv [(1000, 60)] [List.replicate 20 1]))) tl20) (by rw [e20, eqv_self o20]; rfl) ?_
      refine ⟨Nat.le_of_ble_eq_true rfl, Nat.le_of_ble_eq_true rfl, Nat.le_of_ble_eq_true rfl, Nat.le_of_ble_eq_true rfl, by simp, by decide, by decide, Nat.le_of_ble_eq_true rfl, Nat.le_of_ble_eq_true rfl, by simp, by decide, by decide, Nat.le_of_ble_eq_true rfl, Nat.le_of_ble_eq_true rfl, ?_⟩
      refine ⟨rfl, rfl, ?_⟩
      refine ⟨Nat.le_of_ble_eq_true rfl, Nat.le_of_ble_eq_true rfl, Nat.le_of_ble_eq_true rfl, MR.ps2, MR.rows2, [[], []], .none, rfl, ask2, rfl, ?_⟩
      refine ⟨MR.ps2, MR.rows2, [[], []], rfl, sz2, rfl, rfl, by decide, by decide, rfl, ?_⟩
      refine ⟨Nat.le_of_ble_eq_true rfl, Nat.le_of_ble_eq_true rfl, Nat.le_of_ble_eq_true rfl, Nat.le_of_ble_eq_true rfl, Nat.le_of_ble_eq_true rfl, Nat.le_of_ble_eq_true rfl, [(1, 4), (2, 2)], [[1, 1], [1, 1]], [[], []], .none, rfl, ask8, rfl, ?_⟩
      refine ⟨Nat.le_of_ble_eq_true rfl, Nat.le_of_ble_eq_true rfl, (lim_ok2 _).2, rfl, (lim_ok2 _).1, o8, rfl, ?_⟩
      have ee : PyData.eqv (dLim (leastS (cst [(1, 4), (2, 2)] [[], []]) (fur [[1, 1], [1, 1]] [[], []]) (lv [(1, 4), (2, 2)] [[1, 1], [1, 1]]))) tl8 = true := by rw [e8, eqv_self o8]
      show (endsOf c [] _).rt (.d (.bool (false ^^ PyData.eqv (dLim _) tl8)))
      rw [ee]
      intro v H' B' f r
      have r : v = .bl true := r
      subst r
      exact k _
end
/-! ### what the top has written -/
/-- a def of the top, found -/
def DefAt (K : PySem.W.Frag) (mg : Str → Option Value) (x : Str) (st : Stmt) : Prop := ∃ f fd, Fun K x x st f fd ∧ mg x = some (.ref f)
theorem def_mk {K : PySem.W.Frag} {h : Heap} {mg : Str → Option Value} {x : Str} {st : Stmt} {f : Addr} {oc : Value} {od an : Option Addr} {osl : Array (Option Value)} {kV doc pm cdv ct : Value} (X : K.In h) (G : h.Ns mainGlobals mg)
    (a : PySem.W.nsIn K mainGlobals x = some (some (.ref f))) (l : K.lookup f = some ⟨oc, od, .func (PySem.W.fnOf x x (defArgs st) (defBody st) (defScope st) .none kV doc pm an cdv ct), osl⟩)
    (c : PySem.W.codeIn K cdv x = true) (k : PySem.W.keepIn K (.ref f) = true) : DefAt K mg x st := ⟨f, _, fun_mk l c k, PySem.W.mg_of X G a⟩
/-- a def with keyword-only defaults that are None, or numbers -/
def DefKw (K : PySem.W.Frag) (mg : Str → Option Value) (x : Str) (st : Stmt) (kws : List (Str × V)) : Prop := ∃ f fd, L2.FunD K x x (defArgs st) (defBody st) (defScope st) [] kws f fd ∧ mg x = some (.ref f)
theorem defkw_mk {K : PySem.W.Frag} {h : Heap} {mg : Str → Option Value} {x : Str} {st : Stmt} {f D : Addr} {oc : Value} {od an : Option Addr} {osl : Array (Option Value)} {doc pm cdv ct : Value} {kws : List (Str × V)} (X : K.In h) (G : h.Ns mainGlobals mg)
    (a : PySem.W.nsIn K mainGlobals x = some (some (.ref f))) (l : K.lookup f = some ⟨oc, od, .func (PySem.W.fnOf x x (defArgs st) (defBody st) (defScope st) .none (.ref D) doc pm an cdv ct), osl⟩)
    (c : PySem.W.codeIn K cdv x = true) (k : PySem.W.keepIn K (.ref f) = true) (q : ∀ q ∈ kws, ∃ u, PySem.W.nsIn K D q.1 = some (some u) ∧ L2.RelV q.2 u) : DefKw K mg x st kws :=
  ⟨f, _, ⟨⟨oc, od, .none, .ref D, doc, pm, an, cdv, ct, osl, rfl, l, c, .inl ⟨rfl, rfl⟩, .inr ⟨D, rfl, q⟩⟩, k⟩, PySem.W.mg_of X G a⟩
theorem DefKw.fn {K : PySem.W.Frag} {x : Str} {st : Stmt} {kws : List (Str × V)} {f : Addr} {fd : FuncData} (F : L2.FunD K x x (defArgs st) (defBody st) (defScope st) [] kws f fd) : Fun K x x st f fd := by
  obtain ⟨oc, od, dV, kV, doc, pm, an, cdv, ct, osl, rfl, lk, hcd, hD, _⟩ := F.ex
  rcases hD with ⟨_, rfl⟩ | ⟨e, _⟩
  · exact fun_mk lk hcd F.kp
  · exact absurd rfl e
/-- the end of a law some of whose defs make lambdas -/
theorem walk_ofY {l : PySem.W.OpenLaw} {n k : Nat} {q : Program} {loose : List Str} {XP : (Str → Option Value) → Heap → Prop} {YP : World → Heap → Prop} {d : DefRec} {K : Params → PySem.W.Frag} {x : Str} (ys : List Str)
    (hn : l.most = some n) (hn2 : n ≤ sizeLine) (hdf : d.params.defaults = []) (hr : Room k callerA) (hrec : (ys.all fun y => (recsOf q).any fun e => e.name == y) = true) (hY : ∀ (w : World) (h : Heap), YP w h → (K w.params).In h)
    (F : ∀ (w : World) (mg : Str → Option Value) (fa : Addr) (h : Heap), (K w.params).In h → h.Ns mainGlobals mg → mg d.name = some (.ref fa) → (∀ y ∈ ys, TabOf h mg y) → LawAtS l w (K w.params) CX0 k n x mg fa h) :
    PySem.W.WalkO q loose XP YP l.row.toRowW d [] (fun f vs => PySem.call f vs) := by
  refine Att.attach_callB hn hdf fun w s₀ s₁ mg mb fa o pm cd doc a vs ns G Y ho hd hcd hmg hobj hints hlen hbits hg => ?_
  have KX := hY w _ Y
  have own : ∀ y ∈ ys, TabOf s₁.heap mg y := fun y hy => by
    obtain ⟨dL, hm, hn1⟩ := List.any_eq_true.mp (List.all_eq_true.mp hrec y hy)
    have hn2 : dL.name = y := beq_iff_eq.mp hn1
    obtain ⟨a', o', fd', c', P', h1, h2, h3, h4, h5, h6⟩ := G.T.tab dL hm
    rw [hn2] at h1
    exact ⟨a', o', fd', c', P', h1, h2, h3, h4, PySem.W.CodeHd.of h5 h6, h6.2⟩
  obtain ⟨fd, cs, sp, hT, nT, C, hb, hsp, hF⟩ := F w mg fa _ KX G.T.g hmg own
  exact law_callTs KX G.T.g G.T.b G.T.builtins G.T.nolimit hg hT nT C G.T.bmain hobj hints (Nat.le_trans hlen hn2) hr hF hb (fun H hH hS => hsp H a ns hlen hbits hH hS) fun H e s' z => z
/-- the facts of the top -/
theorem all_mk {l : PySem.W.OpenLaw} {w : World} {K : PySem.W.Frag} {h : Heap} {mg : Str → Option Value} {fa : Addr} (X : K.In h) (G : h.Ns mainGlobals mg) (hfa : mg "law" = some (.ref fa)) (nt : PySem.W.noTabs K = true) (tb : ∀ y ∈ (["sorted_numbers"] : List Str), TabOf h mg y)
    {C : Addr}
    {fI : Addr} {ocI kVI docI pmI cdI ctI : Value} {odI anI : Option Addr} {slI : Array (Option Value)}
    {fN : Addr} {ocN kVN docN pmN cdN ctN : Value} {odN anN : Option Addr} {slN : Array (Option Value)}
    {fc : Addr} {occ kVc docc pmc cdc ctc : Value} {odc anc : Option Addr} {slc : Array (Option Value)}
    {fl : Addr} {ocl kVl docl pml cdl ctl : Value} {odl anl : Option Addr} {sll : Array (Option Value)}
    {fb : Addr} {ocb kVb docb pmb cdb ctb : Value} {odb anb : Option Addr} {slb : Array (Option Value)}
    {fs : Addr} {ocs kVs docs pms cds cts : Value} {ods ans : Option Addr} {sls : Array (Option Value)}
    {fz : Addr} {ocz kVz docz pmz cdz ctz : Value} {odz anz : Option Addr} {slz : Array (Option Value)}
    {CS NS : Addr} {nmS qS : Str} {bsS : List Value} {snS : List Str} {subS : List Value} {abS : Bool} {colS : Option Bool} {ddS : Option Addr} {m0S m1S m2S m3S m5S : Option Value} {SS : Addr}
    {fXS : Addr} {ocXS kVXS docXS pmXS cdXS ctXS : Value} {odXS anXS : Option Addr} {slXS : Array (Option Value)}
    {CN NN : Addr} {nmN qN : Str} {bsN : List Value} {snN : List Str} {subN : List Value} {abN : Bool} {colN : Option Bool} {ddN : Option Addr} {m0N m1N m2N m3N m5N : Option Value} {SN : Addr}
    {fXN : Addr} {ocXN kVXN docXN pmXN cdXN ctXN : Value} {odXN anXN : Option Addr} {slXN : Array (Option Value)}
    {CT NT : Addr} {nmT qT : Str} {bsT : List Value} {snT : List Str} {subT : List Value} {abT : Bool} {colT : Option Bool} {ddT : Option Addr} {m0T m1T m2T m3T m5T : Option Value} {ST : Addr}
    {fXT : Addr} {ocXT kVXT docXT pmXT cdXT ctXT : Value} {odXT anXT : Option Addr} {slXT : Array (Option Value)}
    {CP NP : Addr} {nmP qP : Str} {bsP : List Value} {snP : List Str} {subP : List Value} {abP : Bool} {colP : Option Bool} {ddP : Option Addr} {m0P m1P m2P m3P m5P : Option Value} {SP : Addr}
    {fXP : Addr} {ocXP kVXP docXP pmXP cdXP ctXP : Value} {odXP anXP : Option Addr} {slXP : Array (Option Value)}
    {tclasses : Tok}
    {tsize : Tok}
    {tslots : Tok}
    {tlimit : Tok}
    {tpages : Tok}
    (gC : PySem.W.nsIn K mainGlobals "Slab" = some (some (.ref C)))
    (pg : PySem.W.plainGet K C Str.empty = true)
    (hd : PySem.W.hasDictIn K C = true)
    (po : PySem.W.plainOver K C = true)
    (sa : PySem.W.findIn K (.ref C) "__setattr__" = some (some (.builtin "object.__setattr__")))
    (nP : PySem.W.findIn K (.ref C) "pairs" = some none)
    (nB : PySem.W.findIn K (.ref C) "bound" = some none)
    (ca : PySem.W.findIn K (.ref C) "__class__" = some (some (.builtin "object.__class__")))
    (sp : PySem.W.specialIn K (.builtin "object.__class__") "__get__" = some (some (.builtin "getset_descriptor.__get__")))
    (tk : PySem.W.takesIn K (.builtin "object.__class__") = some true)
    (mr : PySem.W.mroIn K C (.type "object") = some true)
    (kI : PySem.W.kitOne K (.ref C) (.ref C) = some true)
    (kT : PySem.W.kitOne K (.type "tuple") (.ref C) = some false)
    (fT : PySem.W.notFirst K C (.type "tuple") = true)
    (fC : PySem.W.notFirst K C (.ref C) = true)
    (mk : PySem.W.makesIn K C = true)
    (kC : PySem.W.keepIn K (.ref C) = true)
    (a_I : PySem.W.findIn K (.ref C) "__init__" = some (some (.ref fI)))
    (i_I : PySem.W.isFn K (.ref fI) = true)
    (l_I : K.lookup fI = some ⟨ocI, odI, .func (PySem.W.fnOf "__init__" "Slab.__init__" (defArgs s_init) (defBody s_init) (defScope s_init) .none kVI docI pmI anI cdI ctI), slI⟩)
    (c_I : PySem.W.codeIn K cdI "Slab.__init__" = true)
    (k_I : PySem.W.keepIn K (.ref fI) = true)
    (a_N : PySem.W.findIn K (.ref C) "__len__" = some (some (.ref fN)))
    (i_N : PySem.W.isFn K (.ref fN) = true)
    (l_N : K.lookup fN = some ⟨ocN, odN, .func (PySem.W.fnOf "__len__" "Slab.__len__" (defArgs s_len) (defBody s_len) (defScope s_len) .none kVN docN pmN anN cdN ctN), slN⟩)
    (c_N : PySem.W.codeIn K cdN "Slab.__len__" = true)
    (k_N : PySem.W.keepIn K (.ref fN) = true)
    (a_c : PySem.W.findIn K (.ref C) "classes" = some (some (.ref fc)))
    (i_c : PySem.W.isFn K (.ref fc) = true)
    (l_c : K.lookup fc = some ⟨occ, odc, .func (PySem.W.fnOf "classes" "Slab.classes" (defArgs s_classes) (defBody s_classes) (defScope s_classes) .none kVc docc pmc anc cdc ctc), slc⟩)
    (c_c : PySem.W.codeIn K cdc "Slab.classes" = true)
    (k_c : PySem.W.keepIn K (.ref fc) = true)
    (a_l : PySem.W.findIn K (.ref C) "limit" = some (some (.ref fl)))
    (i_l : PySem.W.isFn K (.ref fl) = true)
    (l_l : K.lookup fl = some ⟨ocl, odl, .func (PySem.W.fnOf "limit" "Slab.limit" (defArgs s_limit) (defBody s_limit) (defScope s_limit) .none kVl docl pml anl cdl ctl), sll⟩)
    (c_l : PySem.W.codeIn K cdl "Slab.limit" = true)
    (k_l : PySem.W.keepIn K (.ref fl) = true)
    (a_b : PySem.W.findIn K (.ref C) "bytes_of" = some (some (.ref fb)))
    (i_b : PySem.W.isFn K (.ref fb) = true)
    (l_b : K.lookup fb = some ⟨ocb, odb, .func (PySem.W.fnOf "bytes_of" "Slab.bytes_of" (defArgs s_bytes_of) (defBody s_bytes_of) (defScope s_bytes_of) .none kVb docb pmb anb cdb ctb), slb⟩)
    (c_b : PySem.W.codeIn K cdb "Slab.bytes_of" = true)
    (k_b : PySem.W.keepIn K (.ref fb) = true)
    (a_s : PySem.W.findIn K (.ref C) "slots_of" = some (some (.ref fs)))
    (i_s : PySem.W.isFn K (.ref fs) = true)
    (l_s : K.lookup fs = some ⟨ocs, ods, .func (PySem.W.fnOf "slots_of" "Slab.slots_of" (defArgs s_slots_of) (defBody s_slots_of) (defScope s_slots_of) .none kVs docs pms ans cds cts), sls⟩)
    (c_s : PySem.W.codeIn K cds "Slab.slots_of" = true)
    (k_s : PySem.W.keepIn K (.ref fs) = true)
    (a_z : PySem.W.findIn K (.ref C) "size_class" = some (some (.ref fz)))
    (i_z : PySem.W.isFn K (.ref fz) = true)
    (l_z : K.lookup fz = some ⟨ocz, odz, .func (PySem.W.fnOf "size_class" "Slab.size_class" (defArgs s_size_class) (defBody s_size_class) (defScope s_size_class) .none kVz docz pmz anz cdz ctz), slz⟩)
    (c_z : PySem.W.codeIn K cdz "Slab.size_class" = true)
    (k_z : PySem.W.keepIn K (.ref fz) = true)
    (gS : PySem.W.nsIn K mainGlobals "NoSlab" = some (some (.ref CS)))
    (xS : K.lookup CS = some (excClassObj nmS qS CS NS bsS [.ref SS, .type "ValueError", .type "Exception", .type "BaseException", .type "object"] true snS subS abS colS ddS m0S m1S m2S m3S m5S "ValueError.__new__"))
    (saS : PySem.W.findIn K (.ref CS) "__setattr__" = some (some (.builtin "object.__setattr__")))
    (exS : PySem.W.subIn K (.ref CS) (.type "BaseException") = some true)
    (tyS : PySem.W.typeIn K (.ref CS) = some (.type "type"))
    (kcS : PySem.W.keepIn K (.ref CS) = true)
    (inS : PySem.W.findIn K (.ref CS) "__init__" = some (some (.ref fXS)))
    (tiS : PySem.W.typeIn K (.ref fXS) = some (.type "function"))
    (nfS : PySem.W.findIn K (.ref CS) "index" = some none)
    (gaS : PySem.W.findIn K (.ref CS) "__getattribute__" = some (some (.builtin "BaseException.__getattribute__")))
    (ggS : PySem.W.findIn K (.ref CS) "__getattr__" = some none)
    (hdS : PySem.W.hasDictIn K CS = true)
    (l_XS : K.lookup fXS = some ⟨ocXS, odXS, .func (PySem.W.fnOf "__init__" "NoSlab.__init__" (defArgs s_iNoSlab) (defBody s_iNoSlab) (defScope s_iNoSlab) .none kVXS docXS pmXS anXS cdXS ctXS), slXS⟩)
    (c_XS : PySem.W.codeIn K cdXS "NoSlab.__init__" = true)
    (k_XS : PySem.W.keepIn K (.ref fXS) = true)
    (gN : PySem.W.nsIn K mainGlobals "NoClass" = some (some (.ref CN)))
    (xN : K.lookup CN = some (excClassObj nmN qN CN NN bsN [.ref SN, .type "ValueError", .type "Exception", .type "BaseException", .type "object"] true snN subN abN colN ddN m0N m1N m2N m3N m5N "ValueError.__new__"))
    (saN : PySem.W.findIn K (.ref CN) "__setattr__" = some (some (.builtin "object.__setattr__")))
    (exN : PySem.W.subIn K (.ref CN) (.type "BaseException") = some true)
    (tyN : PySem.W.typeIn K (.ref CN) = some (.type "type"))
    (kcN : PySem.W.keepIn K (.ref CN) = true)
    (inN : PySem.W.findIn K (.ref CN) "__init__" = some (some (.ref fXN)))
    (tiN : PySem.W.typeIn K (.ref fXN) = some (.type "function"))
    (nfN : PySem.W.findIn K (.ref CN) "number" = some none)
    (gaN : PySem.W.findIn K (.ref CN) "__getattribute__" = some (some (.builtin "BaseException.__getattribute__")))
    (ggN : PySem.W.findIn K (.ref CN) "__getattr__" = some none)
    (hdN : PySem.W.hasDictIn K CN = true)
    (l_XN : K.lookup fXN = some ⟨ocXN, odXN, .func (PySem.W.fnOf "__init__" "NoClass.__init__" (defArgs s_iNoClass) (defBody s_iNoClass) (defScope s_iNoClass) .none kVXN docXN pmXN anXN cdXN ctXN), slXN⟩)
    (c_XN : PySem.W.codeIn K cdXN "NoClass.__init__" = true)
    (k_XN : PySem.W.keepIn K (.ref fXN) = true)
    (gT : PySem.W.nsIn K mainGlobals "NoTable" = some (some (.ref CT)))
    (xT : K.lookup CT = some (excClassObj nmT qT CT NT bsT [.ref ST, .type "ValueError", .type "Exception", .type "BaseException", .type "object"] true snT subT abT colT ddT m0T m1T m2T m3T m5T "ValueError.__new__"))
    (saT : PySem.W.findIn K (.ref CT) "__setattr__" = some (some (.builtin "object.__setattr__")))
    (exT : PySem.W.subIn K (.ref CT) (.type "BaseException") = some true)
    (tyT : PySem.W.typeIn K (.ref CT) = some (.type "type"))
    (kcT : PySem.W.keepIn K (.ref CT) = true)
    (inT : PySem.W.findIn K (.ref CT) "__init__" = some (some (.ref fXT)))
    (tiT : PySem.W.typeIn K (.ref fXT) = some (.type "function"))
    (nfT : PySem.W.findIn K (.ref CT) "index" = some none)
    (gaT : PySem.W.findIn K (.ref CT) "__getattribute__" = some (some (.builtin "BaseException.__getattribute__")))
    (ggT : PySem.W.findIn K (.ref CT) "__getattr__" = some none)
    (hdT : PySem.W.hasDictIn K CT = true)
    (l_XT : K.lookup fXT = some ⟨ocXT, odXT, .func (PySem.W.fnOf "__init__" "NoTable.__init__" (defArgs s_iNoTable) (defBody s_iNoTable) (defScope s_iNoTable) .none kVXT docXT pmXT anXT cdXT ctXT), slXT⟩)
    (c_XT : PySem.W.codeIn K cdXT "NoTable.__init__" = true)
    (k_XT : PySem.W.keepIn K (.ref fXT) = true)
    (gP : PySem.W.nsIn K mainGlobals "NoPins" = some (some (.ref CP)))
    (xP : K.lookup CP = some (excClassObj nmP qP CP NP bsP [.ref SP, .type "ValueError", .type "Exception", .type "BaseException", .type "object"] true snP subP abP colP ddP m0P m1P m2P m3P m5P "ValueError.__new__"))
    (saP : PySem.W.findIn K (.ref CP) "__setattr__" = some (some (.builtin "object.__setattr__")))
    (exP : PySem.W.subIn K (.ref CP) (.type "BaseException") = some true)
    (tyP : PySem.W.typeIn K (.ref CP) = some (.type "type"))
    (kcP : PySem.W.keepIn K (.ref CP) = true)
    (inP : PySem.W.findIn K (.ref CP) "__init__" = some (some (.ref fXP)))
    (tiP : PySem.W.typeIn K (.ref fXP) = some (.type "function"))
    (nfP : PySem.W.findIn K (.ref CP) "pins" = some none)
    (gaP : PySem.W.findIn K (.ref CP) "__getattribute__" = some (some (.builtin "BaseException.__getattribute__")))
    (ggP : PySem.W.findIn K (.ref CP) "__getattr__" = some none)
    (hdP : PySem.W.hasDictIn K CP = true)
    (l_XP : K.lookup fXP = some ⟨ocXP, odXP, .func (PySem.W.fnOf "__init__" "NoPins.__init__" (defArgs s_iNoPins) (defBody s_iNoPins) (defScope s_iNoPins) .none kVXP docXP pmXP anXP cdXP ctXP), slXP⟩)
    (c_XP : PySem.W.codeIn K cdXP "NoPins.__init__" = true)
    (k_XP : PySem.W.keepIn K (.ref fXP) = true)
    (eTT : PySem.W.exmOne K (.ref CT) (.ref CT) = some true)
    (b_int : PySem.W.nsIn K mainGlobals "int" = some none)
    (b_bool : PySem.W.nsIn K mainGlobals "bool" = some none)
    (b_tuple : PySem.W.nsIn K mainGlobals "tuple" = some none)
    (b_list : PySem.W.nsIn K mainGlobals "list" = some none)
    (b_len : PySem.W.nsIn K mainGlobals "len" = some none)
    (b_isinstance : PySem.W.nsIn K mainGlobals "isinstance" = some none)
    (b_enumerate : PySem.W.nsIn K mainGlobals "enumerate" = some none)
    (b_range : PySem.W.nsIn K mainGlobals "range" = some none)
    (b_sum : PySem.W.nsIn K mainGlobals "sum" = some none)
    (b_sorted : PySem.W.nsIn K mainGlobals "sorted" = some none)
    (b_set : PySem.W.nsIn K mainGlobals "set" = some none)
    (b_str : PySem.W.nsIn K mainGlobals "str" = some none)
    (b_zip : PySem.W.nsIn K mainGlobals "zip" = some none)
    (b_min : PySem.W.nsIn K mainGlobals "min" = some none)
    (b_max : PySem.W.nsIn K mainGlobals "max" = some none)
    (b_reversed : PySem.W.nsIn K mainGlobals "reversed" = some none)
    (b_all : PySem.W.nsIn K mainGlobals "all" = some none)
    (n_classes : PySem.W.nsIn K mainGlobals "MOST_CLASSES" = some (some (.int 6 tclasses)))
    (n_size : PySem.W.nsIn K mainGlobals "MOST_SIZE" = some (some (.int 1000 tsize)))
    (n_slots : PySem.W.nsIn K mainGlobals "MOST_SLOTS" = some (some (.int 60 tslots)))
    (n_limit : PySem.W.nsIn K mainGlobals "MOST_LIMIT" = some (some (.int 1000000 tlimit)))
    (n_pages : PySem.W.nsIn K mainGlobals "MOST_PAGES" = some (some (.int 60 tpages)))
    (d0 : DefAt K mg "is_between" s_is_between)
    (d1 : DefAt K mg "is_size_class" s_is_size_class)
    (d2 : DefAt K mg "check_table" s_check_table)
    (d3 : DefAt K mg "are_counts" s_are_counts)
    (d4 : DefAt K mg "page_total" s_page_total)
    (d5 : DefAt K mg "byte_total" s_byte_total)
    (d6 : DefAt K mg "empty" s_empty)
    (d7 : DefAt K mg "pin_table" s_pin_table)
    (d8 : DefAt K mg "pins_of" s_pins_of)
    (d9 : DefAt K mg "has_pins" s_has_pins)
    (d10 : DefAt K mg "has_counts" s_has_counts)
    (d11 : DefAt K mg "further_pages" s_further_pages)
    (d12 : DefAt K mg "class_costs" s_class_costs)
    (d13 : DefAt K mg "peak_bytes" s_peak_bytes)
    (d14 : DefAt K mg "further_bytes" s_further_bytes)
    (d15 : DefAt K mg "growing" s_growing)
    (d16 : DefAt K mg "given_back" s_given_back)
    (d17 : DefAt K mg "sorted_numbers" s_sorted_numbers)
    (d18 : DefAt K mg "last_bytes" s_last_bytes)
    (d19 : DefAt K mg "least_shown" s_least_shown)
    (d20 : DefKw K mg "least_limit" s_least_limit [("pins", .non)])
    (d21 : DefAt K mg "_law_draw" s__law_draw)
    (d22 : DefAt K mg "_law_classes" s__law_classes)
    (d23 : DefAt K mg "_law_table" s__law_table)
    (d24 : DefAt K mg "_law_pins" s__law_pins)
    (d25 : DefAt K mg "_law_live" s__law_live)
    (d26 : DefAt K mg "_law_jobs" s__law_jobs)
    (d27 : DefAt K mg "_law_orders" s__law_orders)
    (d28 : DefAt K mg "_law_least" s__law_least)
    (d29 : DefAt K mg "_law_shown" s__law_shown)
    (d30 : DefAt K mg "_law_told_right" s__law_told_right)
    (d31 : DefAt K mg "_law_right" s__law_right)
    (d32 : DefAt K mg "law" s_law) :
    LawAtS l w K CX0 11 63 "_law_script" mg fa h := by
  have FI := fun_mk (st := s_init) l_I c_I k_I
  have bI := FI.binds (ps := ["self", "classes", "limit"]) fun _ _ _ _ _ _ us hl => match us, hl with | [_, _, _], _ => rfl
  have FN := fun_mk (st := s_len) l_N c_N k_N
  have bN := FN.binds (ps := ["self"]) fun _ _ _ _ _ _ us hl => match us, hl with | [_], _ => rfl
  have Fc := fun_mk (st := s_classes) l_c c_c k_c
  have bc := Fc.binds (ps := ["self"]) fun _ _ _ _ _ _ us hl => match us, hl with | [_], _ => rfl
  have Fl := fun_mk (st := s_limit) l_l c_l k_l
  have bl := Fl.binds (ps := ["self"]) fun _ _ _ _ _ _ us hl => match us, hl with | [_], _ => rfl
  have Fb := fun_mk (st := s_bytes_of) l_b c_b k_b
  have bb := Fb.binds (ps := ["self", "number"]) fun _ _ _ _ _ _ us hl => match us, hl with | [_, _], _ => rfl
  have Fs := fun_mk (st := s_slots_of) l_s c_s k_s
  have bs := Fs.binds (ps := ["self", "number"]) fun _ _ _ _ _ _ us hl => match us, hl with | [_, _], _ => rfl
  have Fz := fun_mk (st := s_size_class) l_z c_z k_z
  have bz := Fz.binds (ps := ["self", "number"]) fun _ _ _ _ _ _ us hl => match us, hl with | [_, _], _ => rfl
  have FXS := fun_mk (st := s_iNoSlab) l_XS c_XS k_XS
  have bXS := FXS.binds (ps := ["self", "index"]) fun _ _ _ _ _ _ us hl => match us, hl with | [_, _], _ => rfl
  have TS : XCls K CS fXS "index" := ⟨⟨⟨_, _, _, _, _, _, _, _, _, _, _, _, _, _, _, xS, (show PySem.HandSPX.refsVE PySem.HandSPX.veTail = true by decide +kernel)⟩, saS, exS, tyS, kcS⟩, inS, tiS, nfS, gaS, ggS, hdS⟩
  have FXN := fun_mk (st := s_iNoClass) l_XN c_XN k_XN
  have bXN := FXN.binds (ps := ["self", "number"]) fun _ _ _ _ _ _ us hl => match us, hl with | [_, _], _ => rfl
  have TN : XCls K CN fXN "number" := ⟨⟨⟨_, _, _, _, _, _, _, _, _, _, _, _, _, _, _, xN, (show PySem.HandSPX.refsVE PySem.HandSPX.veTail = true by decide +kernel)⟩, saN, exN, tyN, kcN⟩, inN, tiN, nfN, gaN, ggN, hdN⟩
  have FXT := fun_mk (st := s_iNoTable) l_XT c_XT k_XT
  have bXT := FXT.binds (ps := ["self", "index"]) fun _ _ _ _ _ _ us hl => match us, hl with | [_, _], _ => rfl
  have TT : XCls K CT fXT "index" := ⟨⟨⟨_, _, _, _, _, _, _, _, _, _, _, _, _, _, _, xT, (show PySem.HandSPX.refsVE PySem.HandSPX.veTail = true by decide +kernel)⟩, saT, exT, tyT, kcT⟩, inT, tiT, nfT, gaT, ggT, hdT⟩
  have FXP := fun_mk (st := s_iNoPins) l_XP c_XP k_XP
  have bXP := FXP.binds (ps := ["self", "pins"]) fun _ _ _ _ _ _ us hl => match us, hl with | [_, _], _ => rfl
  have TP : XCls K CP fXP "pins" := ⟨⟨⟨_, _, _, _, _, _, _, _, _, _, _, _, _, _, _, xP, (show PySem.HandSPX.refsVE PySem.HandSPX.veTail = true by decide +kernel)⟩, saP, exP, tyP, kcP⟩, inP, tiP, nfP, gaP, ggP, hdP⟩
  obtain ⟨g0, e0, D0, m0⟩ := d0
  have v0 := D0.binds (ps := ["value", "low", "high"]) fun _ _ _ _ _ _ us hl => match us, hl with | [_, _, _], _ => rfl
  obtain ⟨g1, e1, D1, m1⟩ := d1
  have v1 := D1.binds (ps := ["item"]) fun _ _ _ _ _ _ us hl => match us, hl with | [_], _ => rfl
  obtain ⟨g2, e2, D2, m2⟩ := d2
  have v2 := D2.binds (ps := ["slab", "table"]) fun _ _ _ _ _ _ us hl => match us, hl with | [_, _], _ => rfl
  obtain ⟨g3, e3, D3, m3⟩ := d3
  have v3 := D3.binds (ps := ["counts", "slots"]) fun _ _ _ _ _ _ us hl => match us, hl with | [_, _], _ => rfl
  obtain ⟨g4, e4, D4, m4⟩ := d4
  have v4 := D4.binds (ps := ["rows"]) fun _ _ _ _ _ _ us hl => match us, hl with | [_], _ => rfl
  obtain ⟨g5, e5, D5, m5⟩ := d5
  have v5 := D5.binds (ps := ["slab", "rows"]) fun _ _ _ _ _ _ us hl => match us, hl with | [_, _], _ => rfl
  obtain ⟨g6, e6, D6, m6⟩ := d6
  have v6 := D6.binds (ps := ["slab"]) fun _ _ _ _ _ _ us hl => match us, hl with | [_], _ => rfl
  obtain ⟨g7, e7, D7, m7⟩ := d7
  have v7 := D7.binds (ps := ["slab", "pins"]) fun _ _ _ _ _ _ us hl => match us, hl with | [_, _], _ => rfl
  obtain ⟨g8, e8, D8, m8⟩ := d8
  have v8 := D8.binds (ps := ["slab", "table", "pins"]) fun _ _ _ _ _ _ us hl => match us, hl with | [_, _, _], _ => rfl
  obtain ⟨g9, e9, D9, m9⟩ := d9
  have v9 := D9.binds (ps := ["table", "pinned"]) fun _ _ _ _ _ _ us hl => match us, hl with | [_, _], _ => rfl
  obtain ⟨g10, e10, D10, m10⟩ := d10
  have v10 := D10.binds (ps := ["counts", "least"]) fun _ _ _ _ _ _ us hl => match us, hl with | [_, _], _ => rfl
  obtain ⟨g11, e11, D11, m11⟩ := d11
  have v11 := D11.binds (ps := ["table", "pinned"]) fun _ _ _ _ _ _ us hl => match us, hl with | [_, _], _ => rfl
  obtain ⟨g12, e12, D12, m12⟩ := d12
  have v12 := D12.binds (ps := ["slab", "pinned"]) fun _ _ _ _ _ _ us hl => match us, hl with | [_, _], _ => rfl
  obtain ⟨g13, e13, D13, m13⟩ := d13
  have v13 := D13.binds (ps := ["cost", "further"]) fun _ _ _ _ _ _ us hl => match us, hl with | [_, _], _ => rfl
  obtain ⟨g14, e14, D14, m14⟩ := d14
  have v14 := D14.binds (ps := ["costs", "further", "numbers"]) fun _ _ _ _ _ _ us hl => match us, hl with | [_, _, _], _ => rfl
  obtain ⟨g15, e15, D15, m15⟩ := d15
  have v15 := D15.binds (ps := ["further"]) fun _ _ _ _ _ _ us hl => match us, hl with | [_], _ => rfl
  obtain ⟨g16, e16, D16, m16⟩ := d16
  have v16 := D16.binds (ps := ["costs", "further", "number"]) fun _ _ _ _ _ _ us hl => match us, hl with | [_, _, _], _ => rfl
  obtain ⟨g17, e17, D17, m17⟩ := d17
  have v17 := D17.binds (ps := ["costs", "further"]) fun _ _ _ _ _ _ us hl => match us, hl with | [_, _], _ => rfl
  obtain ⟨g18, e18, D18, m18⟩ := d18
  have v18 := D18.binds (ps := ["costs", "further", "numbers"]) fun _ _ _ _ _ _ us hl => match us, hl with | [_, _, _], _ => rfl
  obtain ⟨g19, e19, D19, m19⟩ := d19
  have v19 := D19.binds (ps := ["costs", "further", "held"]) fun _ _ _ _ _ _ us hl => match us, hl with | [_, _, _], _ => rfl
  obtain ⟨g20, e20, D20, m20⟩ := d20
  have u20 := D20.binds0 (ps := ["classes", "table", "pins"]) 2 (by simp) rfl (fun _ _ _ _ _ _ us ks h1 h2 => match us, ks, h1, h2 with | [_, _], [_], _, _ => ⟨_, _, _, _, _, _, rfl, rfl, rfl⟩)
  have D20 := DefKw.fn D20
  have v20 := D20.kb 2 (ps := ["classes", "table", "pins"]) (ks := ["pins"]) (fun _ _ _ _ _ _ us ws h1 h2 => match us, ws, h1, h2 with | [_, _], [_], _, _ => rfl)
  obtain ⟨g21, e21, D21, m21⟩ := d21
  have v21 := D21.binds (ps := ["_law_well", "_law_limit"]) fun _ _ _ _ _ _ us hl => match us, hl with | [_, _], _ => rfl
  obtain ⟨g22, e22, D22, m22⟩ := d22
  have v22 := D22.binds (ps := ["_law_well", "_law_most", "_law_wide"]) fun _ _ _ _ _ _ us hl => match us, hl with | [_, _, _], _ => rfl
  obtain ⟨g23, e23, D23, m23⟩ := d23
  have v23 := D23.binds (ps := ["_law_well", "_law_classes_here", "_law_most"]) fun _ _ _ _ _ _ us hl => match us, hl with | [_, _, _], _ => rfl
  obtain ⟨g24, e24, D24, m24⟩ := d24
  have v24 := D24.binds (ps := ["_law_well", "_law_table_here"]) fun _ _ _ _ _ _ us hl => match us, hl with | [_, _], _ => rfl
  obtain ⟨g25, e25, D25, m25⟩ := d25
  have v25 := D25.binds (ps := ["_law_classes_here", "_law_table_here"]) fun _ _ _ _ _ _ us hl => match us, hl with | [_, _], _ => rfl
  obtain ⟨g26, e26, D26, m26⟩ := d26
  have v26 := D26.binds (ps := ["_law_classes_here", "_law_table_here", "_law_fixed"]) fun _ _ _ _ _ _ us hl => match us, hl with | [_, _, _], _ => rfl
  obtain ⟨g27, e27, D27, m27⟩ := d27
  have v27 := D27.binds (ps := ["_law_items"]) fun _ _ _ _ _ _ us hl => match us, hl with | [_], _ => rfl
  obtain ⟨g28, e28, D28, m28⟩ := d28
  have v28 := D28.binds (ps := ["_law_classes_here", "_law_table_here", "_law_fixed"]) fun _ _ _ _ _ _ us hl => match us, hl with | [_, _, _], _ => rfl
  obtain ⟨g29, e29, D29, m29⟩ := d29
  have v29 := D29.binds (ps := ["_law_classes_here", "_law_table_here", "_law_fixed", "_law_some"]) fun _ _ _ _ _ _ us hl => match us, hl with | [_, _, _, _], _ => rfl
  obtain ⟨g30, e30, D30, m30⟩ := d30
  have v30 := D30.binds (ps := ["_law_classes_here", "_law_table_here", "_law_fixed", "_law_told"]) fun _ _ _ _ _ _ us hl => match us, hl with | [_, _, _, _], _ => rfl
  obtain ⟨g31, e31, D31, m31⟩ := d31
  have v31 := D31.binds (ps := ["_law_well", "_law_k"]) fun _ _ _ _ _ _ us hl => match us, hl with | [_, _], _ => rfl
  obtain ⟨g32, e32, D32, m32⟩ := d32
  have v32 := D32.binds (ps := ["_law_script"]) fun _ _ _ _ _ _ us hl => match us, hl with | [_], _ => rfl
  have z := hfa.symm.trans m32
  cases z
  have B : Bi mg := ⟨PySem.W.mg_none_of X G b_int, PySem.W.mg_none_of X G b_bool, PySem.W.mg_none_of X G b_tuple, PySem.W.mg_none_of X G b_list, PySem.W.mg_none_of X G b_len, PySem.W.mg_none_of X G b_isinstance, PySem.W.mg_none_of X G b_enumerate, ⟨_, PySem.W.mg_of X G n_classes⟩, ⟨_, PySem.W.mg_of X G n_size⟩, ⟨_, PySem.W.mg_of X G n_slots⟩, ⟨_, PySem.W.mg_of X G n_limit⟩⟩
  have BT : Bt mg := { toBi := B, b_sum := PySem.W.mg_none_of X G b_sum, b_sorted := PySem.W.mg_none_of X G b_sorted, b_set := PySem.W.mg_none_of X G b_set, b_str := PySem.W.mg_none_of X G b_str, c_pages := ⟨_, PySem.W.mg_of X G n_pages⟩ }
  have BLL : BL mg := ⟨PySem.W.mg_none_of X G b_range, PySem.W.mg_none_of X G b_zip, PySem.W.mg_none_of X G b_min, PySem.W.mg_none_of X G b_max, PySem.W.mg_none_of X G b_reversed, PySem.W.mg_none_of X G b_sorted⟩
  have bzip : mg "zip" = none := PySem.W.mg_none_of X G b_zip
  have ball : mg "all" = none := PySem.W.mg_none_of X G b_all
  have SC : SlabC K mg C := ⟨⟨pg, hd, po, sa⟩, nP, nB, ca, sp, tk, mr, PySem.W.mg_of X G gC, kI, kT, fT, fC⟩
  have gs := PySem.W.mg_of X G gS
  have gn := PySem.W.mg_of X G gN
  have gt := PySem.W.mg_of X G gT
  have gp := PySem.W.mg_of X G gP
  obtain ⟨fb', o', fd', c', P', h1, h2, h3, h4, h5, h6⟩ := tb "sorted_numbers" (by simp)
  rw [m17] at h1
  cases h1
  have kS := D17.kp
  obtain ⟨ocS, odS, kVS, docS, pmS, anS, cdvS, ctS, oslS, rfl, lkS, hcdS⟩ := D17.ex
  have h2' := X _ _ lkS
  rw [h2] at h2'
  cases h2'
  cases h3
  have ecd : cdvS = .ref c' := h4
  subst ecd
  have RR : ∀ base : Heap, TabB base mg c' P' → Nonempty (RF l.prog w K mg base C [(P', (("sorted_numbers" : Str) ++ (".<locals>." : Str)) ++ ("<lambda>" : Str))]) := fun base TB => by
    have hmT : (P', (("sorted_numbers" : Str) ++ (".<locals>." : Str)) ++ ("<lambda>" : Str)) ∈ [(P', (("sorted_numbers" : Str) ++ (".<locals>." : Str)) ++ ("<lambda>" : Str))] := List.mem_cons_self
    have huT : ∀ p ∈ [(P', (("sorted_numbers" : Str) ++ (".<locals>." : Str)) ++ ("<lambda>" : Str))], p.1 = P' → p.2 = (("sorted_numbers" : Str) ++ (".<locals>." : Str)) ++ ("<lambda>" : Str) := fun p hp _ => by rw [List.mem_singleton.mp hp]
    have G_is_between := ok_between (P := l.prog) (w := w) (base := base) D0 B
    have G_is_size_class := ok_sc (P := l.prog) (w := w) (base := base) D1 B G_is_between m0 D0.kp v0
    have IS := ok_iNoSlab (P := l.prog) (w := w) (mg := mg) (base := base) FXS TS
    have IN := ok_iNoClass (P := l.prog) (w := w) (mg := mg) (base := base) FXN TN
    have IT := ok_iNoTable (P := l.prog) (w := w) (mg := mg) (base := base) FXT TT
    have IP := ok_iNoPins (P := l.prog) (w := w) (mg := mg) (base := base) FXP TP
    have IPH := ok_iNoPinsH (P := l.prog) (w := w) (mg := mg) (base := base) FXP TP
    have GLen := ok_len (P := l.prog) (w := w) (base := base) FN B SC
    have GLim := ok_limit (P := l.prog) (w := w) (base := base) Fl SC
    have GCls := ok_classes (P := l.prog) (w := w) (base := base) Fc B SC
    have Gz := ok_cls (P := l.prog) (w := w) (base := base) Fz B SC G_is_between m0 D0.kp v0 TN IN bXN gn
    have Gb := ok_bytes_of (P := l.prog) (w := w) (base := base) Fb SC Gz ⟨a_z, i_z, k_z⟩ bz
    have Gs := ok_slots_of (P := l.prog) (w := w) (base := base) Fs SC Gz ⟨a_z, i_z, k_z⟩ bz
    have mb' : Meth K C "bytes_of" fb := ⟨a_b, i_b, k_b⟩
    have ms' : Meth K C "slots_of" fs := ⟨a_s, i_s, k_s⟩
    have ml' : Meth K C "limit" fl := ⟨a_l, i_l, k_l⟩
    have SFF : SF l.prog w K mg base C CN fN fl fb fs _ _ _ _ := ⟨SC, GLen, bN, a_N, i_N, GLim, bl, ml', Gb, bb, mb', Gs, bs, ms'⟩
    have GI := ok_init FI B SC TS IS bXS gs G_is_between m0 D0.kp v0 G_is_size_class m1 D1.kp v1
    have G_are_counts := ok_are_counts (P := l.prog) (w := w) (base := base) D3 BT G_is_between m0 D0.kp v0
    have G_page_total := ok_page_total (P := l.prog) (w := w) (base := base) D4 BT
    have G_byte_total := ok_byte_total (P := l.prog) (w := w) (base := base) D5 BT SC Gb bb mb'
    have G_check_table := ok_check_table D2 BT SFF TT IT bXT gt G_are_counts m3 D3.kp v3 G_page_total m4 D4.kp v4 G_byte_total m5 D5.kp v5
    have G_empty := ok_empty (P := l.prog) (w := w) (base := base) D6 BT SC GLen bN a_N i_N
    have G_pin_table := ok_pin_table D7 gt eTT G_check_table m2 D2.kp v2 G_empty m6 D6.kp v6 TP IPH bXP gp
    have G_has_counts := ok_has_counts (P := l.prog) (w := w) (base := base) D10 BT bzip ball
    have G_has_pins := ok_has_pins D9 BT bzip ball G_has_counts m10 D10.kp v10
    have G_pins_of := ok_pins_of D8 BT G_check_table m2 D2.kp v2 G_pin_table m7 D7.kp v7 G_has_pins m9 D9.kp v9 TP IP bXP gp
    have G_further_pages := ok_further_pages (C := C) (P := l.prog) (w := w) (base := base) D11 BT BLL
    have G_peak_bytes := ok_peak_bytes (C := C) (P := l.prog) (w := w) (base := base) D13 BT BLL
    have G_further_bytes := ok_further_bytes (C := C) (P := l.prog) (w := w) (base := base) D14 BT BLL
    have G_growing := ok_growing (C := C) (P := l.prog) (w := w) (base := base) D15 BT BLL
    have G_given_back := ok_given_back (C := C) D16 BT BLL G_peak_bytes m13 D13.kp v13 G_further_bytes m14 D14.kp v14
    have G_sorted_numbers := ok_sorted_numbers (C := C) lkS hcdS TB hmT huT BLL G_growing m15 D15.kp v15 G_given_back m16 D16.kp v16
    have G_last_bytes := ok_last_bytes (C := C) D18 BT BLL G_further_bytes m14 D14.kp v14 G_given_back m16 D16.kp v16
    have G_least_shown := ok_least_shown (C := C) D19 BT BLL G_sorted_numbers m17 kS v17 G_last_bytes m18 D18.kp v18
    have G_class_costs := ok_class_costs D12 BT BLL G_byte_total m5 D5.kp v5 SC GCls bc ⟨a_c, i_c, k_c⟩
    have G_least_limit := ok_least_limit D20 BT BLL G_class_costs m12 D12.kp v12 G_further_pages m11 D11.kp v11 G_least_shown m19 D19.kp v19 G_pins_of m8 D8.kp v8 G_byte_total m5 D5.kp v5 SC ⟨mk, a_I, i_I, kC⟩ GI bI ⟨_, PySem.W.mg_of X G n_limit⟩
    have G__law_draw := ok_draw (P := l.prog) (w := w) (base := base) D21 B
    have G__law_classes := ok_law_classes (C := C) (P := l.prog) (w := w) (base := base) D22 BT BLL G__law_draw m21 D21.kp v21
    have G__law_table := ok_law_table (C := C) (P := l.prog) (w := w) (base := base) D23 BT BLL G__law_draw m21 D21.kp v21
    have G__law_pins := ok_law_pins (C := C) (P := l.prog) (w := w) (base := base) D24 BT BLL G__law_draw m21 D21.kp v21
    have G__law_live := ok_law_live (C := C) (P := l.prog) (w := w) (base := base) D25 BT BLL
    have G__law_jobs := ok_law_jobs (C := C) (P := l.prog) (w := w) (base := base) D26 BT BLL
    have G__law_orders := ok_law_orders (C := C) (P := l.prog) (w := w) (base := base) D27 BT BLL
    have G__law_least := ok_law_least (C := C) D28 BT BLL G__law_jobs m26 D26.kp v26 G__law_orders m27 D27.kp v27 G__law_live m25 D25.kp v25
    have G__law_shown := ok_law_shown (C := C) D29 BT BLL G__law_jobs m26 D26.kp v26 G__law_live m25 D25.kp v25
    have G__law_told_right := ok_law_told_right (C := C) D30 BT BLL G__law_jobs m26 D26.kp v26 G__law_least m28 D28.kp v28 G__law_shown m29 D29.kp v29 G__law_live m25 D25.kp v25
    exact ⟨{ B := BT, BL := BLL, f_least_limit := _, d_least_limit := _, G_least_limit := G_least_limit, m_least_limit := m20, k_least_limit := D20.kp, K_least_limit := v20, D_least_limit := u20, f_law_draw := _, d_law_draw := _, G_law_draw := G__law_draw, m_law_draw := m21, k_law_draw := D21.kp, b_law_draw := v21, f_law_classes := _, d_law_classes := _, G_law_classes := G__law_classes, m_law_classes := m22, k_law_classes := D22.kp, b_law_classes := v22, f_law_table := _, d_law_table := _, G_law_table := G__law_table, m_law_table := m23, k_law_table := D23.kp, b_law_table := v23, f_law_pins := _, d_law_pins := _, G_law_pins := G__law_pins, m_law_pins := m24, k_law_pins := D24.kp, b_law_pins := v24, f_law_live := _, d_law_live := _, G_law_live := G__law_live, m_law_live := m25, k_law_live := D25.kp, b_law_live := v25, f_law_told_right := _, d_law_told_right := _, G_law_told_right := G__law_told_right, m_law_told_right := m30, k_law_told_right := D30.kp, b_law_told_right := v30 }⟩
  refine ⟨e32, [(c', P')], spLaw K [(P', (("sorted_numbers" : Str) ++ (".<locals>." : Str)) ++ ("<lambda>" : Str))], fun p hp => ?_, fun p hp => ?_, fun p hp => ?_, fun s u => ?_, fun H a ns hl _ hH hS => ?_, fun base hK hG hB => ?_⟩
  · rw [List.mem_singleton.mp hp]
    exact h6
  · rw [List.mem_singleton.mp hp]
    exact no_tab X nt h6
  · rw [List.mem_singleton.mp hp]
    exact h5
  · obtain ⟨oc, od, kV, doc, pm, an, cdv, ct, osl, rfl, _, _⟩ := D32.ex
    exact .of_eq rfl
  · refine ⟨a, ns, rfl, hS, hl, fun p hp => ?_, fun _ => rfl⟩
    rw [List.mem_singleton.mp hp]
    exact .nil (hH (c', P') List.mem_cons_self)
  · obtain ⟨R⟩ := RR base (hB (c', P') List.mem_cons_self)
    have GR := ok_law_right D31 R
    exact ok_law D32 R GR m31 D31.kp v31
end K20
open PySem PySem.W PyProof.Rows
set_option Elab.async false
set_option linter.all false
set_option maxRecDepth 100000 in
set_option maxHeartbeats 0 in
theorem PySem.Challenge.cw_slabpins_k20_least_limits_holds : PySem.Challenge.rw_slabpins_k20_least_limits.Holds := by
  w_on; o_law; k_head; (case hw => w_witness2)
  k_fill
  refine K20.walk_ofY (l := PySem.Challenge.rw_slabpins_k20_least_limits) (n := 63) (k := 11) (x := "_law_script") ["sorted_numbers"] rfl (by decide) rfl ⟨rfl, by decide, by decide⟩ (by kernel_rfl) (fun w h Y => PySem.W.km_in_of Y) ?F
  case F =>
    intro w mg fa h KX G hmg tb
    refine' K20.all_mk KX G hmg ?zz_nt tb ?zz_gC ?zz_pg ?zz_hd ?zz_po ?zz_sa ?zz_nP ?zz_nB ?zz_ca ?zz_sp ?zz_tk ?zz_mr ?zz_kI ?zz_kT ?zz_fT ?zz_fC ?zz_mk ?zz_kC ?zz_a_I ?zz_i_I ?zz_l_I ?zz_c_I ?zz_k_I ?zz_a_N ?zz_i_N ?zz_l_N ?zz_c_N ?zz_k_N ?zz_a_c ?zz_i_c ?zz_l_c ?zz_c_c ?zz_k_c ?zz_a_l ?zz_i_l ?zz_l_l ?zz_c_l ?zz_k_l ?zz_a_b ?zz_i_b ?zz_l_b ?zz_c_b ?zz_k_b ?zz_a_s ?zz_i_s ?zz_l_s ?zz_c_s ?zz_k_s ?zz_a_z ?zz_i_z ?zz_l_z ?zz_c_z ?zz_k_z ?zz_gS ?zz_xS ?zz_saS ?zz_exS ?zz_tyS ?zz_kcS ?zz_inS ?zz_tiS ?zz_nfS ?zz_gaS ?zz_ggS ?zz_hdS ?zz_l_XS ?zz_c_XS ?zz_k_XS ?zz_gN ?zz_xN ?zz_saN ?zz_exN ?zz_tyN ?zz_kcN ?zz_inN ?zz_tiN ?zz_nfN ?zz_gaN ?zz_ggN ?zz_hdN ?zz_l_XN ?zz_c_XN ?zz_k_XN ?zz_gT ?zz_xT ?zz_saT ?zz_exT ?zz_tyT ?zz_kcT ?zz_inT ?zz_tiT ?zz_nfT ?zz_gaT ?zz_ggT ?zz_hdT ?zz_l_XT ?zz_c_XT ?zz_k_XT ?zz_gP ?zz_xP ?zz_saP ?zz_exP ?zz_tyP ?zz_kcP ?zz_inP ?zz_tiP ?zz_nfP ?zz_gaP ?zz_ggP ?zz_hdP ?zz_l_XP ?zz_c_XP ?zz_k_XP ?zz_eTT ?zz_b_int ?zz_b_bool ?zz_b_tuple ?zz_b_list ?zz_b_len ?zz_b_isinstance ?zz_b_enumerate ?zz_b_range ?zz_b_sum ?zz_b_sorted ?zz_b_set ?zz_b_str ?zz_b_zip ?zz_b_min ?zz_b_max ?zz_b_reversed ?zz_b_all ?zz_n_classes ?zz_n_size ?zz_n_slots ?zz_n_limit ?zz_n_pages ?zzd0 ?zzd1 ?zzd2 ?zzd3 ?zzd4 ?zzd5 ?zzd6 ?zzd7 ?zzd8 ?zzd9 ?zzd10 ?zzd11 ?zzd12 ?zzd13 ?zzd14 ?zzd15 ?zzd16 ?zzd17 ?zzd18 ?zzd19 ?zzd20 ?zzd21 ?zzd22 ?zzd23 ?zzd24 ?zzd25 ?zzd26 ?zzd27 ?zzd28 ?zzd29 ?zzd30 ?zzd31 ?zzd32
    case zz_nt => kernel_rfl
    case zz_gC => k_is
    case zz_pg => k_is
    case zz_hd => k_is
    case zz_po => k_is
    case zz_sa => k_is
    case zz_nP => k_is
    case zz_nB => k_is
    case zz_ca => k_is
    case zz_sp => k_is
    case zz_tk => k_is
    case zz_mr => k_is
    case zz_kI => kit_is
    case zz_kT => kit_is
    case zz_fT => k_is
    case zz_fC => k_is
    case zz_mk => k_is
    case zz_kC => k_is
    case zz_a_I => k_is
    case zz_i_I => k_is
    case zz_l_I => k_is
    case zz_c_I => k_is
    case zz_k_I => k_is
    case zz_a_N => k_is
    case zz_i_N => k_is
    case zz_l_N => k_is
    case zz_c_N => k_is
    case zz_k_N => k_is
    case zz_a_c => k_is
    case zz_i_c => k_is
    case zz_l_c => k_is
    case zz_c_c => k_is
    case zz_k_c => k_is
    case zz_a_l => k_is
    case zz_i_l => k_is
    case zz_l_l => k_is
    case zz_c_l => k_is
    case zz_k_l => k_is
    case zz_a_b => k_is
    case zz_i_b => k_is
    case zz_l_b => k_is
    case zz_c_b => k_is
    case zz_k_b => k_is
    case zz_a_s => k_is
    case zz_i_s => k_is
    case zz_l_s => k_is
    case zz_c_s => k_is
    case zz_k_s => k_is
    case zz_a_z => k_is
    case zz_i_z => k_is
    case zz_l_z => k_is
    case zz_c_z => k_is
    case zz_k_z => k_is
    case zz_gS => k_is
    case zz_xS => k_is
    case zz_saS => k_is
    case zz_exS => k_is
    case zz_tyS => k_is
    case zz_kcS => k_is
    case zz_inS => k_is
    case zz_tiS => k_is
    case zz_nfS => k_is
    case zz_gaS => k_is
    case zz_ggS => k_is
    case zz_hdS => k_is
    case zz_l_XS => k_is
    case zz_c_XS => k_is
    case zz_k_XS => k_is
    case zz_gN => k_is
    case zz_xN => k_is
    case zz_saN => k_is
    case zz_exN => k_is
    case zz_tyN => k_is
    case zz_kcN => k_is
    case zz_inN => k_is
    case zz_tiN => k_is
    case zz_nfN => k_is
    case zz_gaN => k_is
    case zz_ggN => k_is
    case zz_hdN => k_is
    case zz_l_XN => k_is
    case zz_c_XN => k_is
    case zz_k_XN => k_is
    case zz_gT => k_is
    case zz_xT => k_is
    case zz_saT => k_is
    case zz_exT => k_is
    case zz_tyT => k_is
    case zz_kcT => k_is
    case zz_inT => k_is
    case zz_tiT => k_is
    case zz_nfT => k_is
    case zz_gaT => k_is
    case zz_ggT => k_is
    case zz_hdT => k_is
    case zz_l_XT => k_is
    case zz_c_XT => k_is
    case zz_k_XT => k_is
    case zz_gP => k_is
    case zz_xP => k_is
    case zz_saP => k_is
    case zz_exP => k_is
    case zz_tyP => k_is
    case zz_kcP => k_is
    case zz_inP => k_is
    case zz_tiP => k_is
    case zz_nfP => k_is
    case zz_gaP => k_is
    case zz_ggP => k_is
    case zz_hdP => k_is
    case zz_l_XP => k_is
    case zz_c_XP => k_is
    case zz_k_XP => k_is
    case zz_eTT => kts_exm
    case zz_b_int => k_is
    case zz_b_bool => k_is
    case zz_b_tuple => k_is
    case zz_b_list => k_is
    case zz_b_len => k_is
    case zz_b_isinstance => k_is
    case zz_b_enumerate => k_is
    case zz_b_range => k_is
    case zz_b_sum => k_is
    case zz_b_sorted => k_is
    case zz_b_set => k_is
    case zz_b_str => k_is
    case zz_b_zip => k_is
    case zz_b_min => k_is
    case zz_b_max => k_is
    case zz_b_reversed => k_is
    case zz_b_all => k_is
    case zz_n_classes => k_is
    case zz_n_size => k_is
    case zz_n_slots => k_is
    case zz_n_limit => k_is
    case zz_n_pages => k_is
    case zzd0 => (refine' K20.def_mk KX G ?zza0 ?zzl0 ?zzc0 ?zzk0; (case zza0 => k_is); (case zzl0 => k_is); (case zzc0 => k_is); (case zzk0 => k_is))
    case zzd1 => (refine' K20.def_mk KX G ?zza1 ?zzl1 ?zzc1 ?zzk1; (case zza1 => k_is); (case zzl1 => k_is); (case zzc1 => k_is); (case zzk1 => k_is))
    case zzd2 => (refine' K20.def_mk KX G ?zza2 ?zzl2 ?zzc2 ?zzk2; (case zza2 => k_is); (case zzl2 => k_is); (case zzc2 => k_is); (case zzk2 => k_is))
    case zzd3 => (refine' K20.def_mk KX G ?zza3 ?zzl3 ?zzc3 ?zzk3; (case zza3 => k_is); (case zzl3 => k_is); (case zzc3 => k_is); (case zzk3 => k_is))
    case zzd4 => (refine' K20.def_mk KX G ?zza4 ?zzl4 ?zzc4 ?zzk4; (case zza4 => k_is); (case zzl4 => k_is); (case zzc4 => k_is); (case zzk4 => k_is))
    case zzd5 => (refine' K20.def_mk KX G ?zza5 ?zzl5 ?zzc5 ?zzk5; (case zza5 => k_is); (case zzl5 => k_is); (case zzc5 => k_is); (case zzk5 => k_is))
    case zzd6 => (refine' K20.def_mk KX G ?zza6 ?zzl6 ?zzc6 ?zzk6; (case zza6 => k_is); (case zzl6 => k_is); (case zzc6 => k_is); (case zzk6 => k_is))
    case zzd7 => (refine' K20.def_mk KX G ?zza7 ?zzl7 ?zzc7 ?zzk7; (case zza7 => k_is); (case zzl7 => k_is); (case zzc7 => k_is); (case zzk7 => k_is))
    case zzd8 => (refine' K20.def_mk KX G ?zza8 ?zzl8 ?zzc8 ?zzk8; (case zza8 => k_is); (case zzl8 => k_is); (case zzc8 => k_is); (case zzk8 => k_is))
    case zzd9 => (refine' K20.def_mk KX G ?zza9 ?zzl9 ?zzc9 ?zzk9; (case zza9 => k_is); (case zzl9 => k_is); (case zzc9 => k_is); (case zzk9 => k_is))
    case zzd10 => (refine' K20.def_mk KX G ?zza10 ?zzl10 ?zzc10 ?zzk10; (case zza10 => k_is); (case zzl10 => k_is); (case zzc10 => k_is); (case zzk10 => k_is))
    case zzd11 => (refine' K20.def_mk KX G ?zza11 ?zzl11 ?zzc11 ?zzk11; (case zza11 => k_is); (case zzl11 => k_is); (case zzc11 => k_is); (case zzk11 => k_is))
    case zzd12 => (refine' K20.def_mk KX G ?zza12 ?zzl12 ?zzc12 ?zzk12; (case zza12 => k_is); (case zzl12 => k_is); (case zzc12 => k_is); (case zzk12 => k_is))
    case zzd13 => (refine' K20.def_mk KX G ?zza13 ?zzl13 ?zzc13 ?zzk13; (case zza13 => k_is); (case zzl13 => k_is); (case zzc13 => k_is); (case zzk13 => k_is))
    case zzd14 => (refine' K20.def_mk KX G ?zza14 ?zzl14 ?zzc14 ?zzk14; (case zza14 => k_is); (case zzl14 => k_is); (case zzc14 => k_is); (case zzk14 => k_is))
    case zzd15 => (refine' K20.def_mk KX G ?zza15 ?zzl15 ?zzc15 ?zzk15; (case zza15 => k_is); (case zzl15 => k_is); (case zzc15 => k_is); (case zzk15 => k_is))
    case zzd16 => (refine' K20.def_mk KX G ?zza16 ?zzl16 ?zzc16 ?zzk16; (case zza16 => k_is); (case zzl16 => k_is); (case zzc16 => k_is); (case zzk16 => k_is))
    case zzd17 => (refine' K20.def_mk KX G ?zza17 ?zzl17 ?zzc17 ?zzk17; (case zza17 => k_is); (case zzl17 => k_is); (case zzc17 => k_is); (case zzk17 => k_is))
    case zzd18 => (refine' K20.def_mk KX G ?zza18 ?zzl18 ?zzc18 ?zzk18; (case zza18 => k_is); (case zzl18 => k_is); (case zzc18 => k_is); (case zzk18 => k_is))
    case zzd19 => (refine' K20.def_mk KX G ?zza19 ?zzl19 ?zzc19 ?zzk19; (case zza19 => k_is); (case zzl19 => k_is); (case zzc19 => k_is); (case zzk19 => k_is))
    case zzd20 => (refine' K20.defkw_mk KX G ?zza20 ?zzl20 ?zzc20 ?zzk20 ?zzq20; (case zza20 => k_is); (case zzl20 => k_is); (case zzc20 => k_is); (case zzk20 => k_is); (case zzq20 => (intro q hq; simp only [List.mem_cons, List.not_mem_nil, or_false] at hq; rcases hq with rfl; (refine' ⟨.none, ?zzw, rfl⟩; (case zzw => k_is)))))
    case zzd21 => (refine' K20.def_mk KX G ?zza21 ?zzl21 ?zzc21 ?zzk21; (case zza21 => k_is); (case zzl21 => k_is); (case zzc21 => k_is); (case zzk21 => k_is))
    case zzd22 => (refine' K20.def_mk KX G ?zza22 ?zzl22 ?zzc22 ?zzk22; (case zza22 => k_is); (case zzl22 => k_is); (case zzc22 => k_is); (case zzk22 => k_is))
    case zzd23 => (refine' K20.def_mk KX G ?zza23 ?zzl23 ?zzc23 ?zzk23; (case zza23 => k_is); (case zzl23 => k_is); (case zzc23 => k_is); (case zzk23 => k_is))
    case zzd24 => (refine' K20.def_mk KX G ?zza24 ?zzl24 ?zzc24 ?zzk24; (case zza24 => k_is); (case zzl24 => k_is); (case zzc24 => k_is); (case zzk24 => k_is))
    case zzd25 => (refine' K20.def_mk KX G ?zza25 ?zzl25 ?zzc25 ?zzk25; (case zza25 => k_is); (case zzl25 => k_is); (case zzc25 => k_is); (case zzk25 => k_is))
    case zzd26 => (refine' K20.def_mk KX G ?zza26 ?zzl26 ?zzc26 ?zzk26; (case zza26 => k_is); (case zzl26 => k_is); (case zzc26 => k_is); (case zzk26 => k_is))
    case zzd27 => (refine' K20.def_mk KX G ?zza27 ?zzl27 ?zzc27 ?zzk27; (case zza27 => k_is); (case zzl27 => k_is); (case zzc27 => k_is); (case zzk27 => k_is))
    case zzd28 => (refine' K20.def_mk KX G ?zza28 ?zzl28 ?zzc28 ?zzk28; (case zza28 => k_is); (case zzl28 => k_is); (case zzc28 => k_is); (case zzk28 => k_is))
    case zzd29 => (refine' K20.def_mk KX G ?zza29 ?zzl29 ?zzc29 ?zzk29; (case zza29 => k_is); (case zzl29 => k_is); (case zzc29 => k_is); (case zzk29 => k_is))
    case zzd30 => (refine' K20.def_mk KX G ?zza30 ?zzl30 ?zzc30 ?zzk30; (case zza30 => k_is); (case zzl30 => k_is); (case zzc30 => k_is); (case zzk30 => k_is))
    case zzd31 => (refine' K20.def_mk KX G ?zza31 ?zzl31 ?zzc31 ?zzk31; (case zza31 => k_is); (case zzl31 => k_is); (case zzc31 => k_is); (case zzk31 => k_is))
    case zzd32 => (refine' K20.def_mk KX G ?zza32 ?zzl32 ?zzc32 ?zzk32; (case zza32 => k_is); (case zzl32 => k_is); (case zzc32 => k_is); (case zzk32 => k_is))
#print axioms PySem.Challenge.cw_slabpins_k20_least_limits_holds
