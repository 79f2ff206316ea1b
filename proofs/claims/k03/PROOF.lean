import PyProof.Rows.All
import Wide.All
import OpenK.AllK
import Wide.FinOn
import PyProof.InstEq
import HandS.ForMost
import HandS.Exc
import HandS.IsInst
import HandS.Walk
import HandS.TryMany
import HandS.TryOnly
import HandS.ExcInit
import HandS.ExcField
import HandS.Lambda
import HandS.EndTab
import KE.KExcIs
import HandS.ExcOwn
import HandS.ExcValue
import HandS.ExcBuiltin
import HandS.SuiteRaise
import HandS.RaiseFrom
import HandS.WordsExc
import HandS.ForExc
import HandS.SortRule
import HandS.SetFor
import HandS.Strs
import PyProof.SumWalkG
import PyProof.WalksMore
import HandS.Zip
import KE.GoesMore
import KE.GoesEnum
import KE.GoesZip
import HandS.TupMul
import HandS.TupAny
import HandS.Defaults
import HandS.SortInts
import HandS.DeepEq
import HandS.Style
import HandS.RaiseMore
import KE.RegKTryMore
import PySem.Challenge.RW_slabpins_k03_invalid_tables_and_pins
set_option Elab.async false
set_option linter.all false
set_option maxRecDepth 100000
set_option maxHeartbeats 4000000
namespace PySem
namespace NeX
open PySem.W PySem.Calls PyProof.Rows Builtin
section
variable {prog : Program} {w : World} {A : Around} {E : Value → Shared → Prop} {s : Shared} {K : Frag} {x C L f : Addr} {h₀ : Heap} {m : Str → Option Value} {ox : Obj} {od : Option Obj} {name : Str} {b tb : Value}
theorem bindNe (self : Value) : bindSpecial (.builtin "object.__ne__") self = pure (.builtin "object.__ne__", [self]) := PySem.F.cmp_object.ne.bind self
/-- a built-in's special method of an own class, called if it is bound -/
theorem ifBoundNe {M : Model} {args : List Value} {Q : Option Value → Shared → Prop} (X : K.In s.heap) (I : InstAt s.heap x ox C od) (hs : findIn K (.ref C) "__ne__" = some (some (.builtin "object.__ne__")))
    (h : wpAny M A (call (.builtin "object.__ne__") (.ref x :: args)) (fun v => Q (some v)) E s) : wpAny M A (callSpecialIfBound? (.ref x) "__ne__" args) Q E s := by
  simp only [callSpecialIfBound?, bindSpecialIfBound?]
  refine wpAny_holding (wpAny_bind (wpAny_bind (wpAny_bind (I.type.here ((looks_findIn X hs).here ?_)))))
  refine wpAny_bind (wpAny_askSetting (wpAny_ite ?_))
  rw [bindNe]
  have fin : wpAny M A (call (.builtin "object.__ne__") ([.ref x] ++ args) >>= fun v => pure (some v)) Q E s := wpAny_bind (wpAny_mono h (fun v s' h' => wpAny_pure h') fun _ _ h' => h')
  split
  · exact wpAny_bind (wpAny_pure (wpAny_pure (by exact fin)))
  · exact wpAny_tryCatch (wpAny_bind (wpAny_pure (wpAny_pure (by exact fin))))
/-- object's != by the own == -/
theorem callNe {Q : Value → Shared → Prop} (hu : A.units + 1 < cLine) (X : K.In s.heap) (I : InstAt s.heap x ox C od) (hm : mroIn K C (.type "object") = some true) (he : findIn K (.ref C) "__eq__" = some (some (.ref f))) (hf : isFn K (.ref f) = true)
    (h : wpAny (model prog w) A.in1 (call (.ref f) [.ref x, b]) (fun v s' => ∃ k, v = .bool k ∧ Q (.bool (!k)) s') E s) : wpAny (model prog w) A (call (.builtin "object.__ne__") [.ref x, b]) Q E s := by
  have sub : Looks (model prog w) s.heap (isInstance (.ref x) (.type "object")) true := I.type.andThen (looks_mroIn X hm)
  refine wpAny_call (codeAny_call_builtin PySem.F.cmp_object.ne.plain PySem.F.cmpEntry_ne (check_slot PySem.F.cmpKind_ne PySem.F.cmpSplit_ne sub (PySem.F.cmpArgs_ne (.ref x) b) ?_))
  unfold Builtin.«object.__ne__»
  refine wpAny_bind (wpAny_of_eq (a := ((Value.ref x : Value), [b])) (by first | rfl | (simp only [slotArgs]; rfl)) ?_)
  refine wpAny_bind (wpAny_cRoomFor (by show A.units + 1 < cLine; exact hu) ?_)
  refine wpAny_bind (ifBound_K X I he hf (wpAny_mono h (fun v s' z => ?_) fun _ _ e => e))
  obtain ⟨k, rfl, q⟩ := z
  show wpAny _ _ (truthy (.bool k) >>= fun r => ret (Value.bool !r)) _ _ _
  exact wpAny_bind (wpAny_pure (wpAny_pure q))
end
end NeX
end PySem
namespace XV
open PySem PySem.Spec PyProof.Rows L2
section
variable {X : Cx} {CX : CXT} {k : Nat} {C f : Addr} {fd : FuncData} {ps : List Str} {sp : Sp}
/-- a def called from within a built-in -/
theorem run_in1 {A : Around} {pins : List (Addr × Obj)} {σ : L2.St} {H : Hp} {s : Shared} {us : List Value} {vs : List V} {Q : VK} {R E : Value → Shared → Prop} (F : FnOk X.prog X.w X.K X.mg X.base CX0 k f fd ps sp) (hr : Room k A) (hA : A.frames = X.A.frames) (hb : Binds X.K fd ps [])
    (I : Inv X pins σ H s) (r : Vals vs us) (h : sp vs H Q E0) (hR : ∀ v u H' s', Inv X pins σ H' s' → RelV v u → Q v H' → R u s') : wpAny (model X.prog X.w) A (call (.ref f) us) R E s := by
  have e0 : Env0 X.prog X.w X.K X.mg X.base A X.stack s H := by
    have e := I.env0
    exact ⟨by rw [hA]; exact e.frames, e.mod, e.bs, e.bsz, e.funs, e.frf, e.hok, e.bare⟩
  have hl := F.len _ _ _ _ h
  have hl2 : (us ++ []).length = ps.length := by
    rw [List.append_nil, ← r.length]
    exact hl
  refine wpAny_call (codeAny_mono (F.run A X.stack s H ⟨us, []⟩ us vs _ E0 hr e0 (by
    have := hb s us I.kIn hl2
    simpa using this) r h) fun r s' hq => ?_)
  cases r with
  | error e => exact (show False from hq).elim
  | ok fl =>
    cases fl with
    | ret u =>
      obtain ⟨v, H', I', rv, q⟩ := I.after hq
      exact hR v u H' s' I' rv q
    | next => exact False.elim hq
    | brk => exact False.elim hq
    | cont => exact False.elim hq
/-- len(x) by the own __len__ -/
def rLenI (C : Addr) (sp : Sp) : List V → Hp → VK → Prop := fun xs H Q => ∃ (a dx : Addr) (fs : List (Str × V)), xs = [.ref a] ∧ H a = some (.ins C dx fs) ∧ sp [.ref a] H (fun v H' => ∃ n : Nat, v = .int n ∧ n < 1000 ∧ Q (.int n) H') E0
theorem call_lenI (F : FnOk X.prog X.w X.K X.mg X.base CX0 k f fd ps sp) (hs : PySem.W.findIn X.K (.ref C) "__len__" = some (some (.ref f))) (hf : PySem.W.isFn X.K (.ref f) = true) (hb : Binds X.K fd ps []) (hr : Room (k + 1) X.A) :
    CallR X (.builtin "len") (rLenI C sp) := by
  intro pins s σ H xs us Q I r h
  obtain ⟨a, dx, fs, rfl, ha, q⟩ := h
  obtain ⟨u, rfl, rx⟩ := vals1 r
  obtain rfl : u = Value.ref a := rx
  obtain ⟨mA, J, _⟩ := ins_get I.hok ha
  obtain ⟨od, J, _⟩ := J.look
  obtain ⟨m, hF⟩ := I.fr
  refine PySem.W.len_K hF I.ok.mod.kin J hs hf (run_in1 (vs := [V.ref a]) F hr.in1 rfl hb I (.cons rfl .nil) q fun v u H' s' I' rv z => ?_)
  obtain ⟨n, rfl, hn, z⟩ := z
  obtain ⟨t, rfl⟩ := rv
  exact ⟨⟨by omega, by omega⟩, ⟨.int n, H', I'.tok _, ⟨_, rfl⟩, z⟩⟩
/-- x == y by the own __eq__ -/
def rEqI (K : PySem.W.Frag) (C : Addr) (sp : Sp) (neg : Bool) : R2 := fun x y H Q => ∃ (a dx : Addr) (fs : List (Str × V)) (t : Value), x = .ref a ∧ H a = some (.ins C dx fs) ∧ TyX K H y t ∧ PySem.W.notFirst K C t = true ∧
  sp [x, y] H (fun v H' => ∃ b, v = .bl b ∧ Q (.bl (b ^^ neg)) H') E0
theorem op_eqI (F : FnOk X.prog X.w X.K X.mg X.base CX0 k f fd ps sp) (hs : PySem.W.findIn X.K (.ref C) "__eq__" = some (some (.ref f))) (hf : PySem.W.isFn X.K (.ref f) = true) (hb : Binds X.K fd ps []) (hr : Room k X.A) :
    OpR X (compareOp .Eq) (rEqI X.K C sp false) := by
  intro pins s σ H x y v u Q I rx ry h
  obtain ⟨a, dx, fs, t, rfl, ha, ty, hn, q⟩ := h
  cases rx
  obtain ⟨mA, J, _⟩ := ins_get I.hok ha
  obtain ⟨od, J, _⟩ := J.look
  obtain ⟨m, hF⟩ := I.fr
  obtain ⟨P, Z, p, _⟩ := kit_of I ry ty
  show wpAny _ _ (richCompare .Eq (.ref a) u) _ _ _
  refine PySem.W.cmp_K (op := .Eq) (tb := t) hr.units0 hF I.ok.mod.kin J (Z.ty _ _ I.kIn p) hn hs hf (run_in1 (vs := [V.ref a, y]) F hr rfl hb I (.cons rfl (.cons ry .nil)) q fun v u H' s' I' rv z => ?_)
  obtain ⟨b, rfl, z⟩ := z
  cases rv
  rw [Bool.xor_false] at z
  exact ⟨.bl b, H', I', rfl, z⟩
theorem op_neI (F : FnOk X.prog X.w X.K X.mg X.base CX0 k f fd ps sp) (hs : PySem.W.findIn X.K (.ref C) "__eq__" = some (some (.ref f))) (hf : PySem.W.isFn X.K (.ref f) = true) (hb : Binds X.K fd ps []) (hr : Room (k + 1) X.A)
    (hne : PySem.W.findIn X.K (.ref C) "__ne__" = some (some (.builtin "object.__ne__"))) (hm : PySem.W.mroIn X.K C (.type "object") = some true) :
    OpR X (compareOp .NotEq) (rEqI X.K C sp true) := by
  intro pins s σ H x y v u Q I rx ry h
  obtain ⟨a, dx, fs, t, rfl, ha, ty, hn, q⟩ := h
  cases rx
  obtain ⟨mA, J, _⟩ := ins_get I.hok ha
  obtain ⟨od, J, _⟩ := J.look
  obtain ⟨m, hF⟩ := I.fr
  obtain ⟨P, Z, p, _⟩ := kit_of I ry ty
  have one : wpAny (model X.prog X.w) X.A (call (.builtin "object.__ne__") [.ref a, u]) (fun v s' => ∃ b, v = .bool b ∧ EP X pins σ Q (.bool b) s') X.xe s := by
    refine PySem.NeX.callNe (f := f) (by have := hr.units; omega) I.kIn J hm hs hf (run_in1 (vs := [V.ref a, y]) F hr.in1 rfl hb I (.cons rfl (.cons ry .nil)) q fun v u H' s' I' rv z => ?_)
    obtain ⟨b, rfl, z⟩ := z
    cases rv
    rw [Bool.xor_true] at z
    exact ⟨b, rfl, !b, rfl, .bl (!b), H', I', rfl, z⟩
  show wpAny _ _ (richCompare .NotEq (.ref a) u) _ _ _
  have two : wpAny (model X.prog X.w) X.A (tryCompare (.ref a) (cmpInfo .NotEq).2.1 u) (fun r s' => ∃ v, r = some v ∧ EP X pins σ Q v s') X.xe s := by
    unfold tryCompare
    refine wpAny_bind (PySem.NeX.ifBoundNe I.kIn J hne (wpAny_mono one (fun v s' hv => ?_) fun _ _ e => e))
    obtain ⟨b, rfl, hv⟩ := hv
    exact wpAny_pure ⟨_, rfl, hv⟩
  unfold richCompare
  simp only [oneThing_ref]
  refine wpAny_holding (wpAny_bind (wpAny_cRoomFor hr.units0 ?_))
  refine wpAny_bind (J.type.here (wpAny_bind ((Z.ty _ _ I.kIn p).here ?_)))
  split
  · rename_i qq
    have e : PySem.W.subIn X.K t (.ref C) = some false := by
      rcases Bool.or_eq_true_iff.mp hn with e | e
      · rw [beq_iff_eq.mp e] at qq
        simp at qq
      · exact beq_iff_eq.mp e
    refine wpAny_bind ((PySem.W.looks_subIn I.kIn e).here ?_)
    simp only [Bool.false_eq_true, if_false]
    refine wpAny_bind (wpAny_mono two (fun r s' z => ?_) fun _ _ e => e)
    obtain ⟨v, rfl, hq⟩ := z
    exact wpAny_pure hq
  · refine wpAny_bind (wpAny_pure ?_)
    simp only [Bool.false_eq_true, if_false]
    refine wpAny_bind (wpAny_mono two (fun r s' z => ?_) fun _ _ e => e)
    obtain ⟨v, rfl, hq⟩ := z
    exact wpAny_pure hq
end
end XV
set_option Elab.async false
set_option linter.all false
set_option maxRecDepth 100000
set_option maxHeartbeats 4000000
namespace XV
open PySem PySem.Spec PyProof.Rows L2
/-- behind a clause 'as n' (slot i) the name is gone -/
def goneE (i : Nat) (D : Ends) : Ends := { nx := fun σ' H' => D.nx (σ'.set i none) H', rt := D.rt, bk := fun σ' H' => D.bk (σ'.set i none) H', ct := fun σ' H' => D.ct (σ'.set i none) H' }
/-- what the clauses 'except x as n' wish, one after the other -/
def wManyAs (K : PySem.W.Frag) (i : Nat) (Wout : WX) (D : Ends) : List (Value × (Addr → Value → Option Addr → TS)) → WX
  | [] => Wout
  | (c, ts) :: r => fun cls d σ H => ∃ b, PySem.W.exmOne K cls c = some b ∧ (b = true → ∀ a, H a = none → ts a cls d (goneE i D) (σ.set i (some (.ref a))) H) ∧ (b = false → wManyAs K i Wout D r cls d σ H)
inductive HdsAs (X : Cx) (n : Str) : List ExceptHandler → List (Value × (Addr → Value → Option Addr → TS)) → Prop
  | nil : HdsAs X n [] []
  | cons {x : Str} {c : Value} {ts : Addr → Value → Option Addr → TS} {b₀ : Stmt} {suite : List Stmt} {np pos' : Pos} {hds : List ExceptHandler} {l : List (Value × (Addr → Value → Option Addr → TS))} (hc : Names X x c)
      (hsu : ∀ (a : Addr) (oe : Obj) (cls : Value) (d : Option Addr) (pn : List (Addr × Obj)), Zc cls d oe → (∃ vs, oe.data = .fields vs) → PSs (X.suite a ((a, oe) :: pn)) (b₀ :: suite) (ts a cls d)) (r : HdsAs X n hds l) :
      HdsAs X n (.ExceptHandler (some (.Name x np)) (some n) (b₀ :: suite) pos' :: hds) ((c, ts) :: l)
section
variable {X : Cx} {n : Str} {i : Nat} {body : List Stmt} {h₀ : ExceptHandler} {hds : List ExceptHandler} {l : List (Value × (Addr → Value → Option Addr → TS))} {pos : Pos} {tb : WX → TS} {Wout : WX}
theorem ps_try_manyAs (hs : X.stack = X.env :: X.outer) (hf : X.env.frame = some X.env.locals) (hN : X.N.Nodup) (hi : X.N[i]? = some n) (hln : X.env.kindOf n = some .local) (tk : Takes X Wout)
    (hb : ∀ (W : WX) (pn : List (Addr × Obj)) (xe : Value → Shared → Prop), Takes (X.tr pn xe) W → PassesOwn (model X.prog X.w) X.A X.env xe → PSs (X.tr pn xe) body (tb W))
    (hh : HdsAs X n (h₀ :: hds) l) : PS X (.Try body (h₀ :: hds) [] [] pos) (fun D σ H => tb (wManyAs X.K i Wout D l) D σ H) := by
  refine ⟨fun pins s σ H D I h => ?_⟩
  have ok := I.ok
  have hfr : X.A.frames = some (X.env :: X.outer) := by rw [ok.frames, hs]
  have hloc : Loc X.env.scope n := .inl hln
  refine wpAny_Try_except ?_
  refine wpAny_mono ((hb (wManyAs X.K i Wout D l) (X.pn ++ pins) (fun e s₁ => wpAny (model X.prog X.w) X.A (noteFrame e X.env) (fun _ s₂ => wpAny (model X.prog X.w) X.A (setFlight e none) (fun _ s₃ =>
    wpAny (model X.prog X.w) X.A (handleBy e X.env (h₀ :: hds)) (SP X pins D) X.xe s₃) X.xe s₂) X.xe s₁) (fun u s' xx => ?_) PassesOwn.looking).run [] s σ H D (I.toTry _) h) (fun f s1 hsp => ?_) (fun e s1 he => he)
  · obtain ⟨a, B, sI, pins', σ', H', cls, d, rfl, J', nb, up, sky, na, os, ag, w⟩ := xx
    have J : Inv X pins σ' H' sI := J'.ofTry ok
    have sky' : Sky B (X.env :: X.outer) a (Zc cls d) X.env.locals s'.heap := by rw [← hs]; exact sky
    show wpAny (model X.prog X.w) X.A (noteFrame (.ref a) X.env) _ _ _
    refine Sky.land Zc.steady hfr hf sky' fun h3 fl3 up3 => ?_
    have J3 : Inv X pins σ' H' { s' with heap := h3 } := J.landed nb fl3.1 (up.trans up3) os ag
    obtain ⟨oe3, vs3, he3, hz3, hd3⟩ := fl3.there
    have notFr : ∀ {h : Heap} {o : Obj} {vs : Array Value}, h.FunFrames B (X.env :: X.outer) → h.get? a = some o → o.data = .fields vs → a ∉ frs (X.env :: X.outer) := fun {h o vs} ff e dd hm => by
      obtain ⟨_, o', e', hnf⟩ := ff.mem hm
      rw [e] at e'; cases e'
      exact hnf _ dd
    have nfr := notFr fl3.2.2.1 he3 hd3
    have nL : a ≠ X.env.locals := fun z => nfr (List.mem_filterMap.mpr ⟨X.env, List.mem_cons_self, by rw [hf, z]⟩)
    have nF : a ∉ X.fs := fun hm => by
      obtain ⟨e, he, q⟩ := List.mem_filterMap.mp hm
      exact nfr (List.mem_filterMap.mpr ⟨e, List.mem_cons_of_mem _ he, q⟩)
    have S3 := J3.suite he3 hd3 na nL nF
    have go : ∀ {hds' : List ExceptHandler} {l' : List (Value × (Addr → Value → Option Addr → TS))}, HdsAs X n hds' l' → wManyAs X.K i Wout D l' cls d σ' H' →
        wpAny (model X.prog X.w) X.A (handleBy (.ref a) X.env hds') (SP X pins D) X.xe { s' with heap := h3 } := by
      intro hds' l' hk
      induction hk with
      | nil =>
        intro w
        refine wpAny_handleBy_nil ?_
        obtain ⟨k1, k2, k3, oe, vs, T, oT, ts', he, hz, hd, h1, hr⟩ := id fl3
        unfold PySem.passOn
        refine wpAny_bind (wpAny_field he hd h1 ?_)
        rw [if_neg (show ¬ ((Value.ref T == Value.none) = true) from by simp)]
        have fin : wpAny (model X.prog X.w) X.A (setFlight (.ref a) X.env.frame) (fun _ s4 => wpAny (model X.prog X.w) X.A (throw (.ref a) : Sem Flow) (SP X pins D) X.xe s4) X.xe { s' with heap := h3 } := by
          rw [hf]
          refine HandSPX.setFlight_upZ fl3 fun h4 hh4 up4 => wpAny_throw (tk _ _ ?_)
          exact ⟨a, B, sI, pins, σ', H', cls, d, rfl, J, nb, (up.trans up3).trans up4, .inr (.inr (by rw [hs]; exact hh4)), na, os, ag, w⟩
        first
          | exact wpAny_bind (wpAny_pure (wpAny_bind fin))
          | exact wpAny_bind fin
      | @cons x c ts b₀ suite np pos' hds2 l2 hc hsu r ih =>
        intro w
        obtain ⟨b, hb1, hyes, hno⟩ := w
        refine wpAny_handleBy_cons (codeAny_handlers_test ?_) (by intro q; cases q)
        have LT : PySem.W.Looks (model X.prog X.w) h3 (typeOf (.ref a)) cls := fun A Q E s k q => wpAny_typeOf_ref (k _ _ he3) (by rw [hz3.1]; exact q)
        have LM := PySem.W.exm_one (M := model X.prog X.w) (J3.kIn) LT hb1
        have test : ∀ {Q : Value → Shared → Prop} {E : Value → Shared → Prop}, Q c { s' with heap := h3 } → wpAny (model X.prog X.w) (X.A.mark (some (.ref a))) (eval (.Name x np) X.env) Q E { s' with heap := h3 } := fun {Q E} q => by
          obtain ⟨hg, hdbg, hm | ⟨hm, hv, hnn⟩⟩ := hc
          · exact ld_glob (X := X.suite a ((a, oe3) :: (X.pn ++ pins))) S3 hg hm q hdbg
          · exact ld_blt (X := X.suite a ((a, oe3) :: (X.pn ++ pins))) S3 hg hm hv q hnn hdbg
        refine test (LM.here ?_)
        cases b with
        | true =>
          refine codeAny_handlers_suite_as ?_
          refine HandSPX.lands_againZ fl3 fun h4 fl4 up4 => ?_
          have J4 : Inv X pins σ' H' { s' with heap := h4 } := J.landed nb fl4.1 ((up.trans up3).trans up4) os ag
          obtain ⟨oe4, vs4, he4, hz4, hd4⟩ := fl4.there
          have S4 := J4.suite he4 hd4 na nL nF
          refine store_ok (X := X.suite a ((a, oe4) :: (X.pn ++ pins))) (v := .ref a) S4 hN hi hloc rfl (fun s5 S5 => ?_) (.inr hln)
          refine wpAny_mono ((hsu a oe4 cls d (X.pn ++ pins) hz4 ⟨_, hd4⟩).run [] s5 _ H' _ S5 (hyes rfl a na)) (fun f s6 hsp => ?_) (fun _ _ z => False.elim z)
          have end_ : ∀ {σ6 : L2.St} {H6 : Hp} {Q : Shared → Prop}, Inv (X.suite a ((a, oe4) :: (X.pn ++ pins))) [] σ6 H6 s6 → (∀ s7, Inv X pins (σ6.set i none) H6 s7 → Q s7) →
              wpAny (model X.prog X.w) X.A (do bindName X.env n .none; unbindBehindTheSuite X.env n pos') (fun _ s7 => Q s7) X.xe s6 := fun {σ6 H6 Q} S6 hq => gone_ok (S6.unsuite ok) hN hi hln hq
          cases f with
          | next =>
            obtain ⟨σ6, H6, S6, q6⟩ := hsp
            exact end_ S6 fun s7 J7 => ⟨_, _, J7, q6⟩
          | brk =>
            obtain ⟨σ6, H6, S6, q6⟩ := hsp
            exact end_ S6 fun s7 J7 => ⟨_, _, J7, q6⟩
          | cont =>
            obtain ⟨σ6, H6, S6, q6⟩ := hsp
            exact end_ S6 fun s7 J7 => ⟨_, _, J7, q6⟩
          | ret u =>
            obtain ⟨v6, σ6, H6, S6, r6, q6⟩ := hsp
            exact end_ S6 fun s7 J7 => ⟨_, _, _, J7, r6, q6⟩
        | false =>
          show wpAny _ X.A (handleBy (.ref a) X.env hds2) _ _ _
          exact ih (hno rfl)
    exact go hh w
  · cases f with
    | next =>
      obtain ⟨σ', H', J', q⟩ := hsp
      exact wpAny_execs_nil ⟨σ', H', J'.ofTry ok, q⟩
    | brk =>
      obtain ⟨σ', H', J', q⟩ := hsp
      exact ⟨σ', H', J'.ofTry ok, q⟩
    | cont =>
      obtain ⟨σ', H', J', q⟩ := hsp
      exact ⟨σ', H', J'.ofTry ok, q⟩
    | ret u =>
      obtain ⟨v, σ', H', J', r, q⟩ := hsp
      exact ⟨v, σ', H', J'.ofTry ok, r, q⟩
end
end XV
set_option Elab.async false
set_option linter.all false
set_option maxRecDepth 100000
set_option maxHeartbeats 4000000
namespace XV
open PySem PySem.Spec PyProof.Rows L2 LamX
section
variable {X : Cx} {pins : List (Addr × Obj)} {σ : L2.St} {H HZ : Hp} {s s1 : Shared}
/-- x(), in the def that got the lambda: Z is that def's context, entered at s -/
theorem pe_actS {CXg : CXT} {Eg : XK} {Ng : List Str} {qg : Str} {sg : Scope} {g f c' : Addr} {cdg pm ctv : Value} {params : Arguments} {body : Expr} {scope : Scope} {k i : Nat} {a : Str} {pn : List (Addr × Obj)} {xe : Value → Shared → Prop} {W : WX} {E : L2.St → XK} {tb : L2.St → TE} {p1 p2 : Pos}
    (I : Inv X pins σ H s) (L : LamS X.env.scope scope) (hf : s.heap.get? f = some (PySem.W.kla_obj "<lambda>" (X.env.qual ++ "<lambda>") params body scope (cloFrom X.env.cells scope.names []) pm c' ctv)) (hfn : H f = none) (hfr : f ∉ frs X.stack)
    (hbind : bindArgs (PySem.W.kla_fn "<lambda>" (X.env.qual ++ "<lambda>") params body scope (cloFrom X.env.cells scope.names []) pm (.ref c') ctv) ⟨[], []⟩ = pure [])
    (tk : Takes ((cxOf CXg X.prog X.w X.K X.mg X.base Ng qg sg g cdg X.A X.stack s H Eg).tr pn xe) W) (hr : Room (k + 1) (X.A.deeper (envOfC qg sg s.heap.objs.size g cdg)))
    (hbody : ∀ (σZ : L2.St) (A : Around) (outer : List Env) (s : Shared) (H : Hp), Room k (A.deeper (lamEnv X scope s.heap.objs.size f c')) → PE (lamCx X A outer s H (E σZ) scope f c') body (tb σZ))
    (hN : Ng[i]? = some a) (hv : Vis sg a) (hd : (a == ("__debug__" : Str)) = false := by decide) (hcd : (a == ("__classdict__" : Str)) = false := by decide) :
    PE ((cxOf CXg X.prog X.w X.K X.mg X.base Ng qg sg g cdg X.A X.stack s H Eg).tr pn xe) (.Call (.Name a p1) [] [] p2)
      (fun σZ HZ Q => σZ[i]? = some (some (.ref f)) ∧ HZ c' = some (CodeO c' (X.env.qual ++ "<lambda>")) ∧ (∀ cls d H', E σZ cls d H' → W cls d σZ H') ∧ tb σZ σ HZ Q) := by
  refine ⟨fun pinsZ sZ σZ HZ Q IZ h => ?_⟩
  obtain ⟨hs, hc, hW, ht⟩ := h
  refine wpAny_Call_Name_kw (thn ((pe_var (pos := p1) (i := i) hN hv hd hcd).run pinsZ sZ σZ HZ (fun v H1 => v = .ref f ∧ H1 = HZ) IZ ⟨.ref f, hs, rfl, rfl⟩) fun u s1 ⟨v, H1, I1, r1, q1⟩ => ?_)
  obtain ⟨ev, eH⟩ := q1
  subst ev
  rw [eH] at I1
  obtain rfl : u = Value.ref f := r1
  have of1 : s1.heap.get? f = some (PySem.W.kla_obj "<lambda>" (X.env.qual ++ "<lambda>") params body scope (cloFrom X.env.cells scope.names []) pm c' ctv) := I1.base.keep f _ hf hfn hfr (fun z => nomatch (show f ∈ ([] : List Addr) from z))
  refine PySem.W.callWith_F0 ⟨_, _, _, _, of1⟩ ?_
  have un : Un (frs X.stack) [] H HZ s.heap s1.heap := I1.base
  obtain ⟨⟨oc, vs, t, hoc, hdc, hvc⟩, _, _⟩ := I1.hok c' _ hc
  have rc : codeAny (model X.prog X.w) (X.A.deeper (envOfC qg sg s.heap.objs.size g cdg)) (.call (.ref f) ⟨[], []⟩) (CR (L2.CX X.prog X.w) (envOfC qg sg s.heap.objs.size g cdg :: X.stack) X.prog X.w HZ s1 Q (E σZ)) s1 := by
    refine PySem.W.kla_callFunE hr.depth of1 rfl L.co L.gen rfl ⟨c', oc, vs, t, rfl, hoc, hdc, hvc⟩ ?_
    rw [hbind]
    refine wpAny_pure (wpAny_newFunctionEnv (fun y hy => (L.own y hy).2) (fun y hy => absurd hy (by simp)) (fun h₁ hns hsb => ⟨I1.nolimit.fresh _ hsb, ?_⟩) L.kind)
    show codeAny _ _ (.expr body (lamEnv X scope s1.heap.objs.size f c')) _ _
    have kp : ∀ b o, s1.heap.get? b = some o → h₁.get? b = some o := fun b o e => hsb.extBut b o (Nat.ne_of_lt (Heap.lt_size e)) (Heap.get?_push_of_some _ e)
    have J : Inv (lamCx X (X.A.deeper (envOfC qg sg s.heap.objs.size g cdg)) (envOfC qg sg s.heap.objs.size g cdg :: X.stack) s1 HZ (E σZ) scope f c') [] σ HZ { s1 with heap := h₁, toks := s1.toks + ([] : List (Str × Value)).length } :=
      lam_start2 I L I1.env0 hr.hd un hns kp
    refine PySem.W.kla_codeExpr (wpAny_mono ((hbody σZ _ _ s1 HZ (hr.deeper _)).run [] _ _ HZ Q J ht) (fun v s' hq => ?_) fun e s' hq => hq)
    obtain ⟨w', H', J', rv, q⟩ := hq
    exact ⟨w', H', J'.os, J'.bare, J'.base, J'.hok, rv, q⟩
  refine wpAny_call (codeAny_mono rc fun r s' hq => ?_)
  cases r with
  | error e => exact tk e s' (XE.of_call I1 hW hq)
  | ok fl =>
    cases fl with
    | ret u => exact I1.after hq
    | next => exact False.elim hq
    | brk => exact False.elim hq
    | cont => exact False.elim hq
end
/-- the def that calls what it got: a calls it; TT: what it makes of the lambda's reading -/
def GivesToS (X : Cx) (Ng : List Str) (x : Str) (sg : Scope) (g : Addr) (cdg : Value) (bg : List Stmt) (a : Str) (q : Str) (TT : (XK → Hp → VK → Prop) → Hp → VK → Prop) : Prop :=
  ∀ (f c' : Addr) (s : Shared) (H : Hp) (Q : VK) (tl : XK → Hp → VK → Prop),
    (∀ (W : WX) (pn : List (Addr × Obj)) (xe : Value → Shared → Prop) (E : L2.St → XK) (p1 p2 : Pos), Takes ((cxOf C8.CX0 X.prog X.w X.K X.mg X.base Ng x sg g cdg X.A X.stack s H C8.E0).tr pn xe) W →
      PE ((cxOf C8.CX0 X.prog X.w X.K X.mg X.base Ng x sg g cdg X.A X.stack s H C8.E0).tr pn xe) (.Call (.Name a p1) [] [] p2) (fun σZ HZ Q => σZ[0]? = some (some (.ref f)) ∧ HZ c' = some (CodeO c' q) ∧ (∀ cls d H', E σZ cls d H' → W cls d σZ H') ∧ tl (E σZ) HZ Q)) →
    H c' = some (CodeO c' q) → TT tl H Q →
    ∃ t, PSs (cxOf C8.CX0 X.prog X.w X.K X.mg X.base Ng x sg g cdg X.A X.stack s H C8.E0).nox bg t ∧ t { nx := fun _ H' => Q .non H', rt := Q } (L2.start Ng [.ref f]) H
section
variable {X : Cx}
/-- x(lambda: body) -/
theorem pe_lamcallS {T : List (Addr × Str)} {TT : (XK → Hp → VK → Prop) → Hp → VK → Prop} {x a : Str} {g c P : Addr} {k : Nat} {pg : Arguments} {bg : List Stmt} {sg : Scope} {dV kV doc pm cdv ct oc : Value} {an od : Option Addr} {osl : Array (Option Value)} {Ng : List Str}
    {params : Arguments} {body : Expr} {scope : Scope} {t : XK → TE} {p lpos pos : Pos} (hg : Gl X x) (hm : X.mg x = some (.ref g)) (hk : PySem.W.keepIn X.K (.ref g) = true)
    (lk : X.K.lookup g = some ⟨oc, od, .func (PySem.W.fnOf x x pg bg sg dV kV doc pm an cdv ct), osl⟩) (hcg : PySem.W.codeIn X.K cdv x = true) (hb : L2.Binds X.K (PySem.W.fnOf x x pg bg sg dV kV doc pm an cdv ct) [a] []) (Sg : FnScope Ng [a] sg) (hNg : Ng[0]? = some a) (hva : Vis sg a)
    (hG : GivesToS X Ng x sg g cdv bg a (X.env.qual ++ "<lambda>") TT)
    (TB : TabB X.base X.mg c P) (hcode : X.env.code = .ref c) (hmT : (P, X.env.qual ++ "<lambda>") ∈ T) (hu : ∀ p ∈ T, p.1 = P → p.2 = X.env.qual ++ "<lambda>") (hr : Room (k + 2) X.A) (L : LamS X.env.scope scope) (hdef : defaultsOf params X.env = ([], []))
    (hbind : ∀ (q : Str) (cl : List (Str × Addr)) (pm cv ctv : Value), bindArgs (PySem.W.kla_fn "<lambda>" q params body scope cl pm cv ctv) ⟨[], []⟩ = pure [])
    (hbody : ∀ (A : Around) (outer : List Env) (s : Shared) (H : Hp) (E : XK) (f c' : Addr), Room k (A.deeper (lamEnv X scope s.heap.objs.size f c')) → PE (lamCx X A outer s H E scope f c') body (t E))
    (hdb : (x == ("__debug__" : Str)) = false := by decide) (hd : (a == ("__debug__" : Str)) = false := by decide) (hcd : (a == ("__classdict__" : Str)) = false := by decide) :
    PE X (.Call (.Name x p) [.Lambda params body scope lpos] [] pos) (tLam T TT t) := by
  refine ⟨fun pins s σ H Q I h => ?_⟩
  obtain ⟨hT, h⟩ := h
  refine wpAny_Call_Name_kw (ld_glob I hg hm ?_ hdb)
  refine PySem.W.callWith_K (h₀ := X.base) I.ok.mod.kin hk ?_ (by rfl) (by rfl)
  show wpAny _ _ (spliced ((false, eval (.Lambda params body scope lpos) X.env) :: backTo pos (starEach [] X.env))) _ _ s
  refine Calls.spliced_cons (lam_make2 I TB hcode hmT hu hT hdef (L.has I.ok) fun f c' pm' ctv H1 s' I1 eN T1 hf hfn hfr hco => ?_)
  refine Calls.spliced_nil ⟨I1.kIn, ?_⟩
  have rc : codeAny (model X.prog X.w) X.A (.call (.ref g) ⟨[.ref f], []⟩) (CR C8.CX0 X.stack X.prog X.w H1 s' Q C8.E0) s' := by
    refine run_ofS (N := Ng) (ps := [a]) (us := [.ref f]) (vs := [.ref f]) lk hcg Sg hr I1.env0 (hb s' [.ref f] I1.kIn rfl) (.cons rfl .nil) rfl fun hr' => ?_
    obtain ⟨t', ht', hq'⟩ := hG f c' s' H1 Q (fun E H' Q' => t E σ H' Q') (fun W pn xe E p1 p2 tk => pe_actS (i := 0) (E := E) (tb := fun σZ => t (E σZ)) I1 L hf hfn hfr (hbind _ _ _ _ _) tk hr' (fun σZ A outer s H hr2 => hbody A outer s H (E σZ) f c' hr2) hNg hva hd hcd) hco (h H1 eN T1)
    exact ⟨t', ht'.nox, hq'⟩
  refine wpAny_call (codeAny_mono rc fun r s2 hq => ?_)
  cases r with
  | error e => exact (show False from hq).elim
  | ok fl =>
    cases fl with
    | ret u => exact I1.after hq
    | next => exact False.elim hq
    | brk => exact False.elim hq
    | cont => exact False.elim hq
end
end XV
set_option Elab.async false
set_option linter.all false
set_option maxRecDepth 100000
set_option maxHeartbeats 4000000
namespace PySem
namespace KwX
open PySem.W PySem.Calls PyProof.Rows PySem.HandSPX
section
variable {M : Model} {A : Around} {E : Value → Shared → Prop} {h : Heap} {g : Array GenState} {d : Drawn} {t : Nat} {os : OsState} {kw : List (Str × Value)}
variable {nm q : Str} {C N : Addr} {bs bm bmB : List Value} {hdct : Bool} {sn : List Str} {sub : List Value} {ab : Bool} {col : Option Bool} {dd : Option Addr} {k0 k1 k2 k3 k5 : Option Value} {B newId initId : String}
theorem kwNewCheck (F : ExcBaseFacts B newId initId bmB) (hT : ∀ X : String, bm.contains (.type X) = bmB.contains (.type X)) {rest : List Value} {Q : Unit → Shared → Prop}
    (hC : h.get? C = some (excClassObj nm q C N bs bm hdct sn sub ab col dd k0 k1 k2 k3 k5 newId)) (hq : Q () ⟨h, g, d, t, os⟩) : wpAny M A (checkBuiltinCall newId ⟨.ref C :: rest, kw⟩) Q E ⟨h, g, d, t, os⟩ := by
  have inB : (Value.ref C :: bm).contains (.type B) = true := by rw [List.contains_cons, hT, F.hasB, Bool.or_true]
  have nStar := F.noStar
  simp only [checkBuiltinCall, F.newKind, F.newSplit, F.newRow]
  repeat (first | refine wpAny_loadPart_at hC ?_ | (refine wpAny_isSubtype_exc hC ?_; rw [inB]) | refine wpAny_staticBase_exc hC ?_ | refine wpAny_madeBy_exc hC ?_ | simp only [bne_self_eq_false, Bool.false_eq_true, if_false] | wp_step)
  exact hq
end
section
variable {prog : Program} {w : World} {A : Around} {E : Value → Shared → Prop} {R : Result → Shared → Prop} {h : Heap} {g : Array GenState} {d : Drawn} {t : Nat} {os : OsState} {kw : List (Str × Value)}
variable {nm q : Str} {C N : Addr} {bs bm bmB : List Value} {hdct : Bool} {sn : List Str} {sub : List Value} {ab : Bool} {col : Option Bool} {dd : Option Addr} {k0 k1 k2 k3 k5 : Option Value} {B newId initId : String}
theorem kwNew (F : ExcBaseFacts B newId initId bmB) (hT : ∀ X : String, bm.contains (.type X) = bmB.contains (.type X)) {rest : List Value}
    (hC : h.get? C = some (excClassObj nm q C N bs bm hdct sn sub ab col dd k0 k1 k2 k3 k5 newId))
    (hq : R (.ok (.ret (.ref (h.objs.size + 1)))) ⟨(h.push (W.kdv_tup rest)).push (excO C h.objs.size), g, d, t, os⟩) (hrest : rest.length ≤ sizeLine) :
    codeAny (model prog w) A (.builtin newId ⟨.ref C :: rest, kw⟩) R ⟨h, g, d, t, os⟩ := by
  have hends := F.ends
  have inB : (Value.ref C :: bm).contains (.type B) = true := by rw [List.contains_cons, hT, F.hasB, Bool.or_true]
  have inA : (Value.ref C :: bm).contains (.type "AttributeError") = false := by rw [List.contains_cons, hT, F.noAttr]; rfl
  have inN : (Value.ref C :: bm).contains (.type "NameError") = false := by rw [List.contains_cons, hT, F.noName]; rfl
  refine codeAny_builtinAt F.entry ?_
  unfold Builtin.«BaseException.__new__»
  refine wpAt_bind ?_
  show wpAt _ _ _ (stack >>= _) _ _ _
  refine wpAt_bind (wpAt_stack fun p below => wpAt_of_wpAny ?_)
  wp_walk
  refine wpAt_of_wpAny ?_
  rw [F.owner]
  repeat (first | with_reducible refine wpAny_madeHere_exc F.canon hC ?_ | with_reducible refine wpAny_loadPart_at hC ?_ | (with_reducible refine wpAny_isSubtype_exc hC ?_; first | rw [inB] | rw [inA] | rw [inN]) | wp_step)
  show R _ _
  rw [Heap.size_push]
  exact hq
theorem kwTypeCall (F : ExcBaseFacts B newId initId bmB) (hT : ∀ X : String, bm.contains (.type X) = bmB.contains (.type X)) {rest : List Value} {fI : Addr} {Q : Fin → Shared → Prop}
    (hC : h.get? C = some (excClassObj nm q C N bs bm hdct sn sub ab col dd k0 k1 k2 k3 k5 newId))
    (hi : W.Looks (model prog w) h (typeLookup (.ref C) "__init__") (some (.ref fI))) (hb : ∀ self, W.Looks (model prog w) h (bindSpecial (.ref fI) self) (.ref fI, [self])) (hrest : rest.length ≤ sizeLine)
    (hq : codeAny (model prog w) A (.call (.ref fI) ⟨.ref (h.objs.size + 1) :: rest, kw⟩)
      (fun r s' => match r with | .ok (.ret v) => v = .none ∧ Q (.done (.ret (.ref (h.objs.size + 1)))) s' | .ok _ => False | .error e => E e s')
      ⟨(h.push (W.kdv_tup rest)).push (excO C h.objs.size), g, d, t, os⟩) :
    wpAny (model prog w) A (Builtin.«type.__call__» ⟨.ref C :: rest, kw⟩) Q E ⟨h, g, d, t, os⟩ := by
  repeat (first | with_reducible refine wpAny_loadPart_at hC ?_ | with_reducible refine wpAny_madeBy_exc hC ?_ | wp_step)
  refine codeAny_call_builtin_code (Code.quiet_builtin _ F.quiet) (kwNewCheck F hT hC ?_)
  refine kwNew F hT hC ?_ hrest
  show wpAny _ _ _ _ _ _
  have k : ∀ b o, h.get? b = some o → ((h.push (W.kdv_tup rest)).push (excO C h.objs.size)).get? b = some o := fun b o e => Heap.get?_push_of_some _ (Heap.get?_push_of_some _ e)
  have hC₁ := k _ _ hC
  have hget : ((h.push (W.kdv_tup rest)).push (excO C h.objs.size)).get? (h.objs.size + 1) = some (excO C h.objs.size) := by heap_get
  have inC : (Value.ref C :: bm).contains (.ref C) = true := by simp
  have i1 := hi.keeps k
  have b1 := (hb (.ref (h.objs.size + 1))).keeps k
  unfold isInstance
  repeat (first | with_reducible refine wpAny_loadPart_at hget ?_ | (with_reducible refine wpAny_isSubtype_exc hC₁ ?_; rw [inC]) | wp_step)
  show wpAny _ _ (typeLookup (.ref C) _) _ _ _
  refine i1.at ?_
  refine wpAny_holding (wpAny_bind (b1.at ?_))
  refine wpAny_bind (wpAny_call (codeAny_mono hq fun r s' z => ?_))
  rcases r with e | (v | _ | _ | _) <;> first | exact z | exact z.elim | skip
  obtain ⟨rfl, z⟩ := z
  first
    | exact wpAny_pure (wpAny_pure z)
    | (wp_walk; exact z)
theorem kwCall (F : ExcBaseFacts B newId initId bmB) (hT : ∀ X : String, bm.contains (.type X) = bmB.contains (.type X)) {rest : List Value} {fI : Addr}
    (hC : h.get? C = some (excClassObj nm q C N bs bm hdct sn sub ab col dd k0 k1 k2 k3 k5 newId))
    (hi : W.Looks (model prog w) h (typeLookup (.ref C) "__init__") (some (.ref fI))) (hb : ∀ self, W.Looks (model prog w) h (bindSpecial (.ref fI) self) (.ref fI, [self])) (hrest : rest.length ≤ sizeLine)
    (hq : codeAny (model prog w) (A.under (.builtin "type.__call__" ⟨.ref C :: rest, kw⟩)) (.call (.ref fI) ⟨.ref (h.objs.size + 1) :: rest, kw⟩) (W.InitBack (h.objs.size + 1) R)
      ⟨(h.push (W.kdv_tup rest)).push (excO C h.objs.size), g, d, t, os⟩) :
    codeAny (model prog w) A (.call (.ref C) ⟨rest, kw⟩) R ⟨h, g, d, t, os⟩ := by
  have f1 := tc_lookup
  have f2 := tc_bind (.ref C)
  have hTy : (⟨h, g, d, t, os⟩ : Shared).TypeIs (.ref C) "type" := ⟨_, hC, rfl⟩
  refine codeAny_of_tree ?_
  show wpAny _ _ (callAny (.ref C) _) _ _ _
  repeat (any_goals (first | assumption | with_reducible refine wpAny_loadPart_at hC ?_ | wp_step))
  refine ⟨rfl, ?_⟩
  refine codeAny_call_builtin_at (Code.quiet_builtin _ (by decide +kernel)) entry_typeCall (wpAny_check_type_call_sub hC (kwTypeCall F hT hC hi hb hrest ?_))
  refine codeAny_mono hq fun r s' z => ?_
  rcases r with e | (v | _ | _ | _) <;> exact z
end
end KwX
end PySem
set_option Elab.async false
set_option linter.all false
set_option maxRecDepth 100000
set_option maxHeartbeats 4000000
namespace XV
open PySem PySem.Spec PyProof.Rows L2

/-- what the written part tells of an own class of exceptions at C: one field f, its maker at fI -/
structure XCls (K : PySem.W.Frag) (C fI : Addr) (f : Str) : Prop where
  ox : OexC K C
  ini : PySem.W.findIn K (.ref C) "__init__" = some (some (.ref fI))
  tyI : PySem.W.typeIn K (.ref fI) = some (.type "function")
  noF : PySem.W.findIn K (.ref C) f = some none
  ga : PySem.W.findIn K (.ref C) "__getattribute__" = some (some (.builtin "BaseException.__getattribute__"))
  gg : PySem.W.findIn K (.ref C) "__getattr__" = some none
  hd : PySem.W.hasDictIn K C = true
/-- the exception at a, its dict at dx: what is there behind its making -/
def mkE (H : Hp) (a dx C : Addr) (f : Str) (v : V) : Hp := upd (upd H dx (exd dx [(f, v)])) a (exo a C (some dx))
/-- at a stands an exception of the class at C whose field f is v -/
def ExAt (H : Hp) (a C : Addr) (f : Str) (v : V) : Prop := ∃ dx, H a = some (exo a C (some dx)) ∧ H dx = some (exd dx [(f, v)])
theorem mkE_at {H : Hp} {a dx C : Addr} {f : Str} {v : V} (ne : dx ≠ a) : ExAt (mkE H a dx C f v) a C f v :=
  ⟨dx, upd_same, by unfold mkE; rw [upd_ne ne, upd_same]⟩
theorem mkE_same {H : Hp} {a dx C : Addr} {f : Str} {v : V} (ha : H a = none) (hd : H dx = none) : Same H (mkE H a dx C f v) := fun b o e => by
  unfold mkE
  rw [upd_ne (ne_of_none e ha), upd_ne (ne_of_none e hd)]
  exact e
theorem ExAt.keep {H H' : Hp} {a C : Addr} {f : Str} {v : V} (h : ExAt H a C f v) (k : Same H H') : ExAt H' a C f v :=
  let ⟨dx, h1, h2⟩ := h
  ⟨dx, k _ _ h1, k _ _ h2⟩
/-- the maker's promise -/
def spIni (C : Addr) (f : Str) : Sp := fun vs H Q _ => ∃ (a : Addr) (v : V), vs = [.ref a, v] ∧ H a = some (exo a C none) ∧ ∀ dx, H dx = none → dx ≠ a → Q .non (upd (upd H dx (exd dx [(f, v)])) a (exo a C (some dx)))
/-- C(v) as a value -/
def tMkX (C : Addr) (f : Str) (t : TA) : TE := fun σ H Q => t σ H fun vs H1 => ∃ v, vs = [v] ∧ ∀ a dx, H1 a = none → H1 dx = none → dx ≠ a → Q (.ref a) (mkE H1 a dx C f v)
section
variable {X : Cx} {CX : CXT} {k : Nat} {C fI : Addr} {fd : FuncData} {x f : Str} {p pos : Pos} {e : Expr} {es : List Expr} {kws : List Keyword} {t tk : TA}
theorem run_mkX {pins : List (Addr × Obj)} {σ : L2.St} {H : Hp} {s : Shared} {Q : VK} {v : V} {u : Value} {us : List Value} {kw : List (Str × Value)} (T : XCls X.K C fI f) (F1 : FnOk X.prog X.w X.K X.mg X.base CX k fI fd (["self", f] : List Str) (spIni C f)) (hr : Room (k + 1) X.A)
    (hb : ∀ (s : Shared) (y : Value), BindsTo s fd ⟨y :: us, kw⟩ ((["self", f] : List Str).zip [y, u])) (hx : Passes CX X E0) (hus : us.length ≤ 1) (I : Inv X pins σ H s) (r : RelV v u)
    (h : ∀ a dx, H a = none → H dx = none → dx ≠ a → Q (.ref a) (mkE H a dx C f v)) : wpAny (model X.prog X.w) X.A (call (.ref C) us kw) (EP X pins σ Q) X.xe s := by
  obtain ⟨nm, q, N, bs, bm, sn, sub, ab, col, dd, k0, k1, k2, k3, k5, hC, hbm⟩ := T.ox.cls
  obtain ⟨hp, g, dr, tk', os⟩ := s
  have hsz : hp.objs.size ≤ hp.objs.size + 1 := Nat.le_succ _
  have hn : H (hp.objs.size + 1) = none := I.hok.fresh hsz
  have kk : ∀ b o, hp.get? b = some o → ((hp.push (PySem.W.kdv_tup us)).push (PySem.HandSPX.excO C hp.objs.size)).get? b = some o := fun b o z => Heap.get?_push_of_some _ (Heap.get?_push_of_some _ z)
  have hget : ((hp.push (PySem.W.kdv_tup us)).push (PySem.HandSPX.excO C hp.objs.size)).get? (hp.objs.size + 1) = some (PySem.HandSPX.excO C hp.objs.size) := by heap_get
  have I2 : Inv X pins σ (upd H (hp.objs.size + 1) (exo (hp.objs.size + 1) C none)) ⟨(hp.push (PySem.W.kdv_tup us)).push (PySem.HandSPX.excO C hp.objs.size), g, dr, tk', os⟩ :=
    I.laid (t' := tk') (a := hp.objs.size + 1) (o := exo (hp.objs.size + 1) C none) (h' := (hp.push (PySem.W.kdv_tup us)).push (PySem.HandSPX.excO C hp.objs.size)) kk hsz (exo_ok hget)
  have r2 : Vals [V.ref (hp.objs.size + 1), v] [Value.ref (hp.objs.size + 1), u] := .cons rfl (.cons r .nil)
  have hq : spIni C f [V.ref (hp.objs.size + 1), v] (upd H (hp.objs.size + 1) (exo (hp.objs.size + 1) C none)) (fun v' H2 => v' = .non ∧ Q (.ref (hp.objs.size + 1)) H2) E0 := by
    refine ⟨_, _, rfl, upd_same, fun dx n ne => ⟨rfl, ?_⟩⟩
    have nd : H dx = none := by rw [upd_ne ne] at n; exact n
    have z := h (hp.objs.size + 1) dx hn nd ne
    have e : upd (upd (upd H (hp.objs.size + 1) (exo (hp.objs.size + 1) C none)) dx (exd dx [(f, v)])) (hp.objs.size + 1) (exo (hp.objs.size + 1) C (some dx)) = mkE H (hp.objs.size + 1) dx C f v := by
      funext b
      unfold mkE upd
      by_cases h1 : b = hp.objs.size + 1
      · simp only [if_pos h1]
      · by_cases h2 : b = dx
        · simp only [if_neg h1, if_pos h2]
        · simp only [if_neg h1, if_neg h2]
    rw [e]
    exact z
  have hus' : us.length ≤ sizeLine := by
    rw [sizeLine_eq]
    omega
  refine wpAny_call (PySem.KwX.kwCall F.excBase_ValueError (fun Y => PySem.HandSPX.refsVE_contains Y bm hbm) (I.kIn _ _ hC) (PySem.W.looks_findIn I.kIn T.ini) (fun self => PySem.W.bind_fn I.kIn self T.tyI) hus'
    (codeAny_mono (F1.run _ X.stack _ _ ⟨Value.ref (hp.objs.size + 1) :: us, kw⟩ [Value.ref (hp.objs.size + 1), u] _ _ E0 (hr.make C us kw) (I2.env0.make C us kw) (hb _ _) r2 hq) fun r s' hq' => ?_))
  cases r with
  | error er => exact hx pins σ _ _ er s' I2 hq'
  | ok fl =>
    cases fl with
    | ret u' =>
      obtain ⟨v', H', I3, rv, ev, q3⟩ := I2.after hq'
      subst ev
      exact ⟨rv, ⟨V.ref (hp.objs.size + 1), H', I3, rfl, q3⟩⟩
    | next => exact False.elim hq'
    | brk => exact False.elim hq'
    | cont => exact False.elim hq'
/-- C(e) -/
theorem pe_mkX (T : XCls X.K C fI f) (F1 : FnOk X.prog X.w X.K X.mg X.base CX k fI fd (["self", f] : List Str) (spIni C f)) (hr : Room (k + 1) X.A) (hb : Binds X.K fd (["self", f] : List Str) []) (hb2 : ∀ (s : Shared) (y u : Value), BindsTo s fd ⟨[y, u], []⟩ ((["self", f] : List Str).zip [y, u]))
    (hx : Passes CX X E0) (hg : Gl X x) (hm : X.mg x = some (.ref C)) (ha : PA X (e :: es) t)
    (hdb : (x == ("__debug__" : Str)) = false := by decide) (he : starEach (e :: es) X.env = (false, eval e X.env) :: starEach es X.env := by rfl) (hpl : (backTo pos (starEach es X.env)).any (·.1) = false := by rfl) :
    PE X (.Call (.Name x p) (e :: es) [] pos) (tMkX C f t) := by
  refine ⟨fun pins s σ H Q I h => ?_⟩
  refine wpAny_Call_Name_kw (ld_glob I hg hm ?_ hdb)
  refine PySem.W.callWith_K (h₀ := X.base) I.ok.mod.kin T.ox.kC (thn (ha.run pos pins s σ H _ I h) fun us s1 ⟨vs, H1, I1, r, v, ev, q⟩ => ⟨I1.kIn, ?_⟩) he hpl
  subst ev
  cases r with
  | cons rv rn =>
    cases rn
    exact run_mkX T F1 hr (fun s y => hb2 s y _) hx (Nat.le_refl _) I1 rv q
/-- C(f=e) -/
theorem pe_mkXK (T : XCls X.K C fI f) (F1 : FnOk X.prog X.w X.K X.mg X.base CX k fI fd (["self", f] : List Str) (spIni C f)) (hr : Room (k + 1) X.A) (hb2 : ∀ (s : Shared) (y u : Value), BindsTo s fd ⟨[y], ([f] : List Str).zip [u]⟩ ((["self", f] : List Str).zip [y, u]))
    (hx : Passes CX X E0) (hg : Gl X x) (hm : X.mg x = some (.ref C)) (hkw : PK X kws tk)
    (hall : (backToKw pos (keywordEach kws X.env)).all (·.1.isSome) = true := by rfl) (hks : (backToKw pos (keywordEach kws X.env)).filterMap (·.1) = [f] := by rfl) (hdb : (x == ("__debug__" : Str)) = false := by decide)
    (hpl : ((backTo pos (starEach [] X.env)).any (·.1) || (backToKw pos (keywordEach kws X.env)).any (·.1.isNone)) = false := by rfl) :
    PE X (.Call (.Name x p) [] kws pos) (tMkX C f tk) := by
  refine ⟨fun pins s σ H Q I h => ?_⟩
  refine wpAny_Call_Name_kw (ld_glob I hg hm ?_ hdb)
  refine PySem.W.callWith_KW0 (h₀ := X.base) I.ok.mod.kin T.ox.kC hall ?_ hpl
  refine thn (hkw.run pos pins s σ H _ I h) fun ws s2 ⟨zs, H2, I2, rz, v, ev, q2⟩ => ⟨I2.kIn, ?_⟩
  subst ev
  cases rz with
  | cons rv rn =>
    cases rn
    rw [hks]
    exact run_mkX T F1 hr (fun s y => hb2 s y _) hx (Nat.zero_le _) I2 rv q2
end
theorem exo_inst {P : Program} {w : World} {H : Hp} {h : Heap} {a C dx : Addr} {f : Str} {v : V} (hok : HOk P w H h) (ha : H a = some (exo a C (some dx))) (hd : H dx = some (exd dx [(f, v)])) :
    ∃ (oe od : Obj) (u : Value), PySem.W.InstAt h a oe C (some od) ∧ PySem.W.lookIn f od = some (some u) ∧ RelV v u := by
  obtain ⟨t1, e1⟩ := exo_at hok ha
  obtain ⟨mA, hns, rel⟩ := exd_at hok hd
  obtain ⟨od, ho, hl⟩ := lookIn_ns hns
  have l : List.lookup f [(f, v)] = some v := by simp [List.lookup]
  obtain ⟨u, hu, ru⟩ := RelO.some_of (v := v) (o := mA f) (by rw [← l]; exact rel f)
  exact ⟨_, od, u, ⟨e1, rfl, rfl, ho⟩, by rw [hl, hu], ru⟩
/-- e.f -/
def tXf (K : PySem.W.Frag) (f : Str) (te : TE) : TE := fun σ H Q => te σ H fun x H1 => ∃ (a C fI : Addr) (v : V), x = .ref a ∧ XCls K C fI f ∧ ExAt H1 a C f v ∧ Q v H1
section
variable {X : Cx} {f : Str} {pos : Pos} {e : Expr} {te : TE}
theorem pe_xf (he : PE X e te) (hb : attributeBase e f X.env (eval e X.env) = eval e X.env := by rfl) : PE X (.Attribute e f pos) (tXf X.K f te) := by
  refine ⟨fun pins s σ H Q I h => ?_⟩
  refine attr_of hb (thn (he.run pins s σ H _ I h) fun u s1 hh => ?_)
  obtain ⟨x, H1, I1, rx, a, C, fI, v, ex, T, ⟨dx, ea, ed⟩, q⟩ := hh
  subst ex
  obtain rfl : u = Value.ref a := rx
  obtain ⟨oe, od, u, J, hl, ru⟩ := exo_inst I1.hok ea ed
  exact HandSPX.exc_get I1.kIn J T.ga T.gg T.ox.exC (PySem.W.findObj_own T.hd T.noF rfl hl) (handed_of ru) ⟨v, H1, I1.tok _, ru, q⟩
end
/-- what isinstance asks of such a class -/
structure XIs (K : PySem.W.Frag) (C : Addr) : Prop where
  cl : (PySem.W.clsIn K C).isSome = true
  ga : PySem.W.findIn K (.ref C) "__getattribute__" = some (some (.builtin "BaseException.__getattribute__"))
  gg : PySem.W.findIn K (.ref C) "__getattr__" = some none
  exC : PySem.W.subIn K (.ref C) (.type "BaseException") = some true
  ca : PySem.W.findIn K (.ref C) "__class__" = some (some (.builtin "object.__class__"))
  sp : PySem.W.specialIn K (.builtin "object.__class__") "__get__" = some (some (.builtin "getset_descriptor.__get__"))
  tk : PySem.W.takesIn K (.builtin "object.__class__") = some true
  mr : PySem.W.mroIn K C (.type "object") = some true
/-- isinstance(e, c), e such an exception -/
def rIsX (K : PySem.W.Frag) : List V → Hp → VK → Prop := fun xs H Q => ∃ (a C : Addr) (f : Str) (v c : V) (u : Value) (b : Bool), xs = [.ref a, c] ∧ ClsV c u ∧ XIs K C ∧ ExAt H a C f v ∧ PySem.W.kitOne K (.ref C) u = some b ∧ Q (.bl b) H
theorem call_isX {X : Cx} : CallR X (.builtin "isinstance") (rIsX X.K) := by
  intro pins s σ H xs us Q I r h
  obtain ⟨a, C, f, v, c, u, b, rfl, k, T, ⟨dx, ea, ed⟩, e, q⟩ := h
  obtain ⟨u1, u2, rfl, r1, r2⟩ := vals2 r
  have e2 := k.eq r2
  subst e2
  obtain rfl : u1 = Value.ref a := r1
  obtain ⟨oe, od, _, J, _, _⟩ := exo_inst I.hok ea ed
  exact PySem.W.kia_one (PySem.W.kitx_exc T.cl T.ga T.gg T.exC T.ca T.sp T.tk T.mr) I.kIn J e (fun z => nomatch z) fun tk => ⟨.bl b, H, I.tok tk, rfl, q⟩
/-- an exception of a built-in class, as a value -/
def bxo (a : Addr) (T : String) : HO := .ext fun h => ∃ o, h.get? a = some o ∧ o.cls = .type T
def tMkB (T : String) (t : TA) : TE := fun σ H Q => t σ H fun vs H1 => vs.length ≤ sizeLine ∧ ∀ a, H1 a = none → Q (.ref a) (upd H1 a (bxo a T))
def rIsB (K : PySem.W.Frag) (T : String) : List V → Hp → VK → Prop := fun xs H Q => ∃ (a : Addr) (c : V) (u : Value) (b : Bool), xs = [.ref a, c] ∧ ClsV c u ∧ H a = some (bxo a T) ∧ PySem.W.kitOne K (.type T) u = some b ∧ Q (.bl b) H
theorem call_isB_VE {X : Cx} : CallR X (.builtin "isinstance") (rIsB X.K "ValueError") := by
  intro pins s σ H xs us Q I r h
  obtain ⟨a, c, u, b, rfl, k, ea, e, q⟩ := h
  obtain ⟨u1, u2, rfl, r1, r2⟩ := vals2 r
  have e2 := k.eq r2
  subst e2
  obtain rfl : u1 = Value.ref a := r1
  have x : ObjOk X.prog X.w H s.heap a (.ext fun h => ∃ o, h.get? a = some o ∧ o.cls = .type "ValueError") := I.hok a _ ea
  obtain ⟨⟨o, h1, h2⟩, _⟩ := x
  exact PySem.W.kia_one (PySem.W.kitx_bexc PySem.F.excAttr_ValueError PySem.F.lkClass_ValueError PySem.F.soClass_ValueError (by decide +kernel)) I.kIn ⟨o, h1, h2⟩ e (fun z => nomatch z) fun tk => ⟨.bl b, H, I.tok tk, rfl, q⟩
end XV
namespace XV
open PySem PySem.Spec PyProof.Rows L2
section
variable {X : Cx} {T N I : String} {x : Str} {p pos : Pos} {e : Expr} {es : List Expr} {t : TA}
/-- T(e, ..), a built-in class of exceptions, as a value -/
theorem pe_mkB (F : ExcB T N I) (hg : Gl X x) (hm : X.mg x = none) (hv : bootBuiltins x = some (.type T)) (ha : PA X (e :: es) t) (hn : x ≠ "__name__" := by decide) (hdb : (x == ("__debug__" : Str)) = false := by decide)
    (he : starEach (e :: es) X.env = (false, eval e X.env) :: starEach es X.env := by rfl) (hpl : (backTo pos (starEach es X.env)).any (·.1) = false := by rfl) :
    PE X (.Call (.Name x p) (e :: es) [] pos) (tMkB T t) := by
  refine ⟨fun pins s σ H Q J h => ?_⟩
  refine wpAny_Call_Name_kw (ld_blt J hg hm hv ?_ hn hdb)
  refine PyProof.Rows.callWith_type1 (thn (ha.run pos pins s σ H _ J h) fun us s1 hh => ?_) he hpl
  obtain ⟨vs, H1, I1, r1, q0, q1⟩ := hh
  obtain ⟨hp1, g1, d1, tk1, os1⟩ := s1
  refine wpAny_call_exc F.call (fun h' a mk => ?_) (Nat.le_trans (Nat.le_of_eq r1.length.symm) q0)
  obtain ⟨t0, eo, _, _⟩ := mk.there
  have na : H1 a = none := I1.hok.gone mk.new
  have new : ObjOk X.prog X.w (upd H1 a (bxo a T)) h' a (bxo a T) := ⟨⟨_, eo, rfl⟩, ⟨_, eo⟩, fun h1 h2 ⟨o, z1, z2⟩ k => ⟨o, k _ z1, z2⟩⟩
  exact ⟨.ref a, _, I1.laidN (t' := tk1) (a := a) (o := bxo a T) mk.keeps mk.new na new, rfl, q1 a na⟩
end
end XV
set_option Elab.async false
set_option linter.all false
set_option maxRecDepth 100000
set_option maxHeartbeats 4000000
namespace XV
open PySem PySem.Spec PyProof.Rows L2
/-- an argument list's reading, weakened at its end -/
def moA (t : TA) : TA := fun σ H Q => ∃ Q0, t σ H Q0 ∧ ∀ vs H1, Q0 vs H1 → Q vs H1
theorem pa_mo {X : Cx} {es : List Expr} {t : TA} (h : PA X es t) : PA X es (moA t) := ⟨fun pos pins s σ H Q I ⟨Q0, h0, h1⟩ => thn (h.run pos pins s σ H Q0 I h0) fun us s1 ⟨vs, H1, I1, r, q⟩ => ⟨vs, H1, I1, r, h1 vs H1 q⟩⟩
/-- what is wished of an exception C(v) that leaves: its own dict at d, new -/
def Rz (C : Addr) (f : Str) (v : V) (H : Hp) (E : XK) : Prop := ∀ d H', H d = none → Same H H' → H' d = some (.xd [(f, v)]) → E (.ref C) (some d) H'
def tMkR (C : Addr) (f : Str) (t : TA) : L2.St → Hp → XK → Prop := fun σ H Q => t σ H fun vs H1 => ∃ v, vs = [v] ∧ Rz C f v H1 Q
section
variable {X : Cx} {k : Nat} {C fI : Addr} {fd : FuncData} {x f : Str} {p pos pos2 : Pos} {e : Expr} {es : List Expr} {t : TA} {W : WX}
theorem pmk_x (T : XCls X.K C fI f) (F1 : FnOk X.prog X.w X.K X.mg X.base CX0 k fI fd (["self", f] : List Str) (spIni C f)) (hr : Room (k + 1) X.A) (hb : Binds X.K fd (["self", f] : List Str) [])
    (hg : Gl X x) (hm : X.mg x = some (.ref C)) (ha : PA X (e :: es) t)
    (hdb : (x == ("__debug__" : Str)) = false := by decide) (he : starEach (e :: es) X.env = (false, eval e X.env) :: starEach es X.env := by rfl) (hpl : (backTo pos (starEach es X.env)).any (·.1) = false := by rfl) :
    PMk X (.Call (.Name x p) (e :: es) [] pos) (tMkR C f t) := by
  intro pins s σ H Q I h
  refine pmk_oex (dvs := []) (ds := []) T.ox T.ini T.tyI F1 hr hb .nil pass0 hg hm (pa_mo ha) hdb he hpl pins s σ H Q I ⟨_, h, fun vs H1 hq => ?_⟩
  obtain ⟨v, rfl, hq⟩ := hq
  refine ⟨(by show 1 ≤ 1000; decide), fun a na => ⟨a, v, rfl, upd_same, fun dx ndx nea => ⟨rfl, dx, [(f, v)], upd_same, (by rw [upd_ne nea, upd_same]), ?_, ?_⟩⟩⟩
  · rw [upd_ne nea] at ndx
    exact ndx
  · have nd : H1 dx = none := by
      rw [upd_ne nea] at ndx
      exact ndx
    refine hq dx _ nd (fun b o z => ?_) upd_same
    have n1 := ne_of_none z nd
    have n2 := ne_of_none z na
    rw [upd_ne n1, del_ne n2, upd_ne n2, upd_ne n1, upd_ne n2]
    exact z
/-- raise C(e) -/
theorem ps_raiseX (hc : X.calm = true) (tk : Takes X W) (T : XCls X.K C fI f) (F1 : FnOk X.prog X.w X.K X.mg X.base CX0 k fI fd (["self", f] : List Str) (spIni C f)) (hr : Room (k + 1) X.A) (hb : Binds X.K fd (["self", f] : List Str) [])
    (hg : Gl X x) (hm : X.mg x = some (.ref C)) (ha : PA X (e :: es) t)
    (hdb : (x == ("__debug__" : Str)) = false := by decide) (he : starEach (e :: es) X.env = (false, eval e X.env) :: starEach es X.env := by rfl) (hpl : (backTo pos (starEach es X.env)).any (·.1) = false := by rfl) :
    PS X (.Raise (some (.Call (.Name x p) (e :: es) [] pos)) none pos2) (fun _ σ H => tMkR C f t σ H fun cls d H' => W cls d σ H') := ps_raise hc tk (pmk_x T F1 hr hb hg hm ha hdb he hpl)
end
theorem Rz.keep {C : Addr} {f : Str} {v : V} {H H1 : Hp} {E : XK} (h : Rz C f v H E) (s : Same H H1) : Rz C f v H1 E := fun d H' n s' l => h d H' (s.free n) (s.trans s') l
end XV
set_option Elab.async false
set_option linter.all false
set_option maxRecDepth 100000
set_option maxHeartbeats 4000000
namespace SL
open PySem PySem.Spec PyProof.Rows L2 XV
/-! ### kinds of plain values -/
inductive K7 (H : Hp) : V → String → Prop
  | int (i : Int) : K7 H (.int i) "int"
  | bl (b : Bool) : K7 H (.bl b) "bool"
  | non : K7 H .non "NoneType"
  | str (z : Str) : K7 H (.str z) "str"
  | lst {a : Addr} {xs : List V} (e : H a = some (.lst xs)) : K7 H (.ref a) "list"
  | tup {a : Addr} {xs : List V} (e : H a = some (.tup xs)) : K7 H (.ref a) "tuple"
  | dict {a : Addr} {kvs : List (Key × V)} (e : H a = some (.dK kvs)) : K7 H (.ref a) "dict"
def Ty (H : Hp) (x : V) : Prop := ∃ t, K7 H x t
theorem K7.ty {K : PySem.W.Frag} {H : Hp} {x : V} {t : String} (h : K7 H x t) : TyX K H x (.type t) := by
  cases h with
  | int i => exact .base (.int i)
  | bl b => exact .base (.bl b)
  | non => exact .base .non
  | str z => exact .base (.str z)
  | lst e => exact .base (.lst e)
  | tup e => exact .base (.tup e)
  | dict e => exact .base (.dK e)
theorem K7.mem {H : Hp} {x : V} {t : String} (h : K7 H x t) : t ∈ ["int", "bool", "NoneType", "str", "list", "tuple", "dict"] := by
  cases h <;> simp
theorem kb_int {t : String} (h : t ∈ ["int", "bool", "NoneType", "str", "list", "tuple", "dict"]) : kitB t "int" = some (t == "int" || t == "bool") := by
  revert t
  decide +kernel
theorem kb_bool {t : String} (h : t ∈ ["int", "bool", "NoneType", "str", "list", "tuple", "dict"]) : kitB t "bool" = some (t == "bool") := by
  revert t
  decide +kernel
theorem kb_tuple {t : String} (h : t ∈ ["int", "bool", "NoneType", "str", "list", "tuple", "dict"]) : kitB t "tuple" = some (t == "tuple") := by
  revert t
  decide +kernel
theorem kb_list {t : String} (h : t ∈ ["int", "bool", "NoneType", "str", "list", "tuple", "dict"]) : kitB t "list" = some (t == "list") := by
  revert t
  decide +kernel
theorem kb_str {t : String} (h : t ∈ ["int", "bool", "NoneType", "str", "list", "tuple", "dict"]) : kitB t "str" = some (t == "str") := by
  revert t
  decide +kernel
theorem K7.keep {H H' : Hp} {x : V} {t : String} (h : K7 H x t) (k : Same H H') : K7 H' x t := by
  cases h with
  | int i => exact .int i
  | bl b => exact .bl b
  | non => exact .non
  | str z => exact .str z
  | lst e => exact .lst (k _ _ e)
  | tup e => exact .tup (k _ _ e)
  | dict e => exact .dict (k _ _ e)
theorem Ty.keep {H H' : Hp} {x : V} (h : Ty H x) (k : Same H H') : Ty H' x := let ⟨t, z⟩ := h; ⟨t, z.keep k⟩
theorem Ty.here {H : Hp} {a : Addr} (h : Ty H (.ref a)) : ∃ o, H a = some o := by
  obtain ⟨t, z⟩ := h
  cases z with
  | lst e => exact ⟨_, e⟩
  | tup e => exact ⟨_, e⟩
  | dict e => exact ⟨_, e⟩
def inB : V → Int → Int → Bool
  | .int i, lo, hi => decide (lo ≤ i) && decide (i ≤ hi)
  | _, _, _ => false
/-- an item and, if it is a tuple, what is in it -/
def TyI (H : Hp) (x : V) : Prop := Ty H x ∧ ∀ (a : Addr) (xs : List V), x = .ref a → H a = some (.tup xs) → ∀ y ∈ xs, Ty H y
def scB (H : Hp) : V → Bool
  | .ref a => (match H a with
    | some (.tup [y, z]) => inB y 1 1000 && inB z 1 60
    | _ => false)
  | _ => false
def badL (H : Hp) (xs : List V) : Option Int := (xs.findIdx? fun x => !scB H x).map fun (n : Nat) => (n : Int)
def badI (H : Hp) (cls lim : V) : Option Int := match cls with
  | .ref a => (match H a with
    | some (.lst xs) => if (decide (1 ≤ xs.length) && decide (xs.length ≤ 6)) = true then (if inB lim 0 1000000 = true then badL H xs else some (-1)) else some (-1)
    | _ => some (-1))
  | _ => some (-1)
theorem scB_keep {H H' : Hp} {x : V} (h : Ty H x) (k : Same H H') : scB H' x = scB H x := by
  cases x with
  | ref a =>
    obtain ⟨o, e⟩ := h.here
    show (match H' a with | some (.tup [y, z]) => inB y 1 1000 && inB z 1 60 | _ => false) = (match H a with | some (.tup [y, z]) => inB y 1 1000 && inB z 1 60 | _ => false)
    rw [e, k _ _ e]
  | _ => rfl
theorem inB_len (n : Nat) : inB (.int n) 1 6 = (decide (1 ≤ n) && decide (n ≤ 6)) := by
  show (decide ((1 : Int) ≤ n) && decide ((n : Int) ≤ 6)) = _
  rw [decide_eq_decide.mpr (show ((1 : Int) ≤ n) ↔ 1 ≤ n by omega), decide_eq_decide.mpr (show ((n : Int) ≤ 6) ↔ n ≤ 6 by omega)]
theorem inB_int {x : V} {lo hi : Int} (h : inB x lo hi = true) : ∃ i, x = .int i := by
  cases x with
  | int i => exact ⟨i, rfl⟩
  | _ => cases h
theorem inB_nat {i : Int} {n : Nat} (h : inB (.int i) 0 ((n : Int) - 1) = true) : ∃ j : Nat, i = (j : Int) ∧ j < n := by
  have h' : (decide ((0 : Int) ≤ i) && decide (i ≤ (n : Int) - 1)) = true := h
  rw [Bool.and_eq_true, decide_eq_true_eq, decide_eq_true_eq] at h'
  exact ⟨i.toNat, by omega, by omega⟩
theorem badL_some {H : Hp} {xs : List V} {j : Nat} {x : V} (hx : xs[j]? = some x) (c : scB H x = false) (h : ∀ (i : Nat) y, i < j → xs[i]? = some y → scB H y = true) : badL H xs = some (j : Int) := by
  obtain ⟨hj, ex⟩ := List.getElem?_eq_some_iff.mp hx
  have e : (xs.findIdx? fun x => !scB H x) = some j := List.findIdx?_eq_some_iff_getElem.mpr ⟨hj, by rw [ex, c]; rfl, fun i hi => by
    have z := h i xs[i] hi (List.getElem?_eq_getElem (by omega))
    simp [z]⟩
  unfold badL
  rw [e]
  rfl
theorem badL_none {H : Hp} {xs : List V} (h : ∀ (i : Nat) y, xs[i]? = some y → scB H y = true) : badL H xs = none := by
  have e : (xs.findIdx? fun x => !scB H x) = none := List.findIdx?_eq_none_iff.mpr fun x hx => by
    obtain ⟨i, hi⟩ := List.mem_iff_getElem?.mp hx
    rw [h i x hi]
    rfl
  unfold badL
  rw [e]
  rfl
theorem TyI.keep {H H' : Hp} {x : V} (h : TyI H x) (k : Same H H') : TyI H' x := by
  refine ⟨h.1.keep k, fun a xs ex e y hy => ?_⟩
  subst ex
  obtain ⟨o, eo⟩ := h.1.here
  have z := k _ _ eo
  rw [e] at z
  have z2 := Option.some.inj z
  subst z2
  exact (h.2 a xs rfl eo y hy).keep k
theorem eqU {H H1 : Hp} {p : Addr} {o : HO} (e : upd H p o = H1) (n : H p = none) : Same H H1 ∧ H1 p = some o := by
  subst e
  exact ⟨fun b u z => by rw [upd_ne (ne_of_none z n)]; exact z, upd_same⟩
theorem same_upd {H : Hp} {p : Addr} {o : HO} (h : H p = none) : Same H (upd H p o) := fun b u e => by
  rw [upd_ne (ne_of_none e h)]
  exact e
/-! ### slabs -/
def pk (l : Addr) (L : Int) : List (Str × V) := [("pairs", .ref l), ("bound", .int L)]
theorem nPB : ¬ (("pairs" : Str) = "bound") := by decide +kernel
theorem pk_put (x y : V) : putF "bound" y (putF "pairs" x []) = ([("pairs", x), ("bound", y)] : List (Str × V)) := by
  show (if ("pairs" : Str) = "bound" then [(("pairs" : Str), y)] else (("pairs" : Str), x) :: putF "bound" y []) = _
  rw [if_neg nPB]
  rfl
theorem pk_pairs (l : Addr) (L : Int) : (pk l L).lookup ("pairs" : Str) = some (.ref l) := by
  unfold pk
  simp [List.lookup]
theorem pk_bound (l : Addr) (L : Int) : (pk l L).lookup ("bound" : Str) = some (.int L) := by
  unfold pk
  have e : (("bound" : Str) == ("pairs" : Str)) = false := by decide +kernel
  simp [List.lookup, e]
theorem pk_no (l : Addr) (L : Int) {m : Str} (h1 : (m == ("pairs" : Str)) = false) (h2 : (m == ("bound" : Str)) = false) : (pk l L).lookup m = none := by
  unfold pk
  simp [List.lookup, h1, h2]
/-- a slab at p: its list at l -/
structure SlabAt (C : Addr) (H : Hp) (p l : Addr) (xs : List V) (L : Int) : Prop where
  ob : ∃ dx, H p = some (.ins C dx (pk l L))
  ls : H l = some (.lst xs)
theorem SlabAt.keep {C : Addr} {H H' : Hp} {p l : Addr} {xs : List V} {L : Int} (h : SlabAt C H p l xs L) (k : Same H H') : SlabAt C H' p l xs L :=
  ⟨let ⟨dx, e⟩ := h.ob; ⟨dx, k _ _ e⟩, k _ _ h.ls⟩
def PairAt (H : Hp) (x : V) (q : Int × Int) : Prop := ∃ t, x = .ref t ∧ H t = some (.tup [.int q.1, .int q.2])
theorem PairAt.keep {H H' : Hp} {x : V} {q : Int × Int} (h : PairAt H x q) (k : Same H H') : PairAt H' x q := let ⟨t, e, z⟩ := h; ⟨t, e, k _ _ z⟩
abbrev PairsAt (H : Hp) : List V → List (Int × Int) → Prop := Paired (PairAt H)
theorem PairsAt.keep {H H' : Hp} (k : Same H H') : ∀ {xs : List V} {ps : List (Int × Int)}, PairsAt H xs ps → PairsAt H' xs ps
  | _, _, .nil => .nil
  | _, _, .cons a r => .cons (a.keep k) (PairsAt.keep k r)
theorem pairs_get {H : Hp} : ∀ {xs : List V} {ps : List (Int × Int)} {i : Nat} {y : V}, PairsAt H xs ps → xs[i]? = some y → ∃ q, ps[i]? = some q ∧ PairAt H y q
  | _, _, _, _, .nil, h => by simp at h
  | _, _, 0, _, .cons a r, h => by
    simp at h
    subst h
    exact ⟨_, rfl, a⟩
  | _, _, i + 1, y, .cons a r, h => by
    obtain ⟨q, h1, h2⟩ := pairs_get (i := i) r (by simpa using h)
    exact ⟨q, by simpa using h1, h2⟩
/-- what the written part tells of the class Slab -/
structure SlabC (K : PySem.W.Frag) (mg : Str → Option Value) (C : Addr) : Prop where
  cl : Cls K C
  nP : NoAttr K C "pairs"
  nB : NoAttr K C "bound"
  ca : PySem.W.findIn K (.ref C) "__class__" = some (some (.builtin "object.__class__"))
  sp : PySem.W.specialIn K (.builtin "object.__class__") "__get__" = some (some (.builtin "getset_descriptor.__get__"))
  tk : PySem.W.takesIn K (.builtin "object.__class__") = some true
  mr : PySem.W.mroIn K C (.type "object") = some true
  gC : mg "Slab" = some (.ref C)
  kI : PySem.W.kitOne K (.ref C) (.ref C) = some true
  kT : PySem.W.kitOne K (.type "tuple") (.ref C) = some false
  fT : PySem.W.notFirst K C (.type "tuple") = true
  fC : PySem.W.notFirst K C (.ref C) = true
theorem SlabC.ty {K : PySem.W.Frag} {mg : Str → Option Value} {C : Addr} (T : SlabC K mg C) {H : Hp} {p dx : Addr} {fs : List (Str × V)} (e : H p = some (.ins C dx fs)) : TyX K H (.ref p) (.ref C) :=
  .base (.ins e T.cl T.ca T.sp T.tk T.mr)
/-! ### the promises -/
def spBetween : Sp := fun vs H Q _ => ∃ (x : V) (lo hi : Int), vs = [x, .int lo, .int hi] ∧ Ty H x ∧ Q (.bl (inB x lo hi)) H
def spIsSC : Sp := fun vs H Q _ => ∃ x : V, vs = [x] ∧ TyI H x ∧ Q (.bl (scB H x)) H
def spInit (C CS : Addr) : Sp := fun vs H Q E => ∃ (p dx : Addr) (cls lim : V), vs = [.ref p, cls, lim] ∧ H p = some (.ins C dx []) ∧ Ty H cls ∧ Ty H lim ∧ (∀ (a : Addr) (xs : List V), cls = .ref a → H a = some (.lst xs) → xs.length ≤ 1000 ∧ ∀ x ∈ xs, TyI H x) ∧
  (∀ i, badI H cls lim = some i → Rz CS "index" (.int i) H E) ∧
  (∀ (a : Addr) (xs : List V) (L : Int), badI H cls lim = none → cls = .ref a → lim = .int L → H a = some (.lst xs) → ∀ l H', H l = none → (∀ b o, H b = some o → b ≠ p → H' b = some o) → SlabAt C H' p l xs L → Q .non H')
def spLen (C : Addr) : Sp := fun vs H Q _ => ∃ (p l : Addr) (xs : List V) (L : Int), vs = [.ref p] ∧ SlabAt C H p l xs L ∧ Q (.int xs.length) H
def spClasses (C : Addr) : Sp := fun vs H Q _ => ∃ (p l : Addr) (xs : List V) (L : Int), vs = [.ref p] ∧ SlabAt C H p l xs L ∧ ∀ a H', H a = none → Same H H' → H' a = some (.lst xs) → Q (.ref a) H'
def spLimit (C : Addr) : Sp := fun vs H Q _ => ∃ (p l : Addr) (xs : List V) (L : Int), vs = [.ref p] ∧ SlabAt C H p l xs L ∧ Q (.int L) H
/-- the class of a number: its tuple, or NoClass -/
def spCls (C CN : Addr) : Sp := fun vs H Q E => ∃ (p l : Addr) (xs : List V) (L : Int) (x : V), vs = [.ref p, x] ∧ SlabAt C H p l xs L ∧ Ty H x ∧
  (∀ (i : Nat) (y : V), x = .int i → xs[i]? = some y → Q y H) ∧ (inB x 0 ((xs.length : Int) - 1) = false → Rz CN "number" x H E)
def spBytes (C CN : Addr) (fst : Bool) : Sp := fun vs H Q E => ∃ (p l : Addr) (xs : List V) (ps : List (Int × Int)) (L : Int) (x : V), vs = [.ref p, x] ∧ SlabAt C H p l xs L ∧ PairsAt H xs ps ∧ Ty H x ∧
  (∀ (i : Nat) (q : Int × Int), x = .int i → ps[i]? = some q → Q (.int (if fst then q.1 else q.2)) H) ∧ (inB x 0 ((ps.length : Int) - 1) = false → Rz CN "number" x H E)
def spEqS (C : Addr) : Sp := fun vs H Q _ => ∃ (p l : Addr) (xs : List V) (ps : List (Int × Int)) (L : Int) (y : V), vs = [.ref p, y] ∧ SlabAt C H p l xs L ∧ PairsAt H xs ps ∧ ps.length ≤ 1000 ∧
  ((∃ (t : Addr) (zs : List V), y = .ref t ∧ H t = some (.tup zs) ∧ Q (.bl false) H) ∨
    ∃ (p' l' : Addr) (xs' : List V) (ps' : List (Int × Int)) (L' : Int), y = .ref p' ∧ SlabAt C H p' l' xs' L' ∧ PairsAt H xs' ps' ∧ ps'.length ≤ 1000 ∧ Q (.bl (decide (ps = ps') && decide (L = L'))) H)
/-! ### lists of pairs as data -/
def dPair (q : Int × Int) : PyData := .tuple [.int q.1, .int q.2]
theorem dpPairs {K : PySem.W.Frag} {H : Hp} : ∀ {xs : List V} {ps : List (Int × Int)}, PairsAt H xs ps → DpAll K H xs (ps.map dPair)
  | _, _, .nil => .nil
  | _, _, .cons ⟨t, e, z⟩ r => by
    subst e
    exact .cons (.tup (SqT.of z) (.cons (.int _) (.cons (.int _) .nil))) (dpPairs r)
theorem dPairs_lay : ∀ ps : List (Int × Int), PyData.canLayAll0 (ps.map dPair) = true
  | [] => by simp [PyData.canLayAll0]
  | q :: ps => by simp [PyData.canLayAll0, dPair, PyData.canLay0, dPairs_lay ps]
theorem dPairs_depth : ∀ ps : List (Int × Int), PyData.depthAll (ps.map dPair) ≤ 1
  | [] => by simp [PyData.depthAll]
  | q :: ps => by
    have h := dPairs_depth ps
    simp only [List.map_cons, PyData.depthAll, dPair, PyData.depth]
    omega
theorem dPairs_shaped (ps : List (Int × Int)) : SeqAt.shaped (.list (ps.map dPair)) = true := by
  have h1 := dPairs_depth ps
  have h2 : PyData.depth (.list (ps.map dPair)) ≤ 64 := by
    simp only [PyData.depth]
    omega
  show (PyData.canLay0 (.list (ps.map dPair)) && decide (PyData.depth (.list (ps.map dPair)) ≤ 64)) = true
  rw [Bool.and_eq_true]
  exact ⟨by simp only [PyData.canLay0]; exact dPairs_lay ps, decide_eq_true h2⟩
theorem dPair_eqv (q r : Int × Int) : PyData.eqv (dPair q) (dPair r) = decide (q = r) := by
  obtain ⟨a, b⟩ := q
  obtain ⟨c, d⟩ := r
  have e : PyData.eqv (dPair (a, b)) (dPair (c, d)) = ((a == c) && ((b == d) && true)) := by simp only [dPair, PyData.eqv, PyData.eqvAll]
  rw [e, Bool.and_true]
  by_cases h1 : a = c
  · by_cases h2 : b = d
    · subst h1 h2
      simp
    · have z : ¬ ((a, b) : Int × Int) = (c, d) := fun z => h2 (Prod.mk.inj z).2
      rw [decide_eq_false z, beq_eq_false_iff_ne.mpr h2, Bool.and_false]
  · have z : ¬ ((a, b) : Int × Int) = (c, d) := fun z => h1 (Prod.mk.inj z).1
    rw [decide_eq_false z, beq_eq_false_iff_ne.mpr h1, Bool.false_and]
theorem dPairs_eqvAll : ∀ ps qs : List (Int × Int), PyData.eqvAll (ps.map dPair) (qs.map dPair) = decide (ps = qs)
  | [], [] => by simp [PyData.eqvAll]
  | [], _ :: _ => by simp [PyData.eqvAll]
  | _ :: _, [] => by simp [PyData.eqvAll]
  | p :: ps, q :: qs => by
    have h := dPairs_eqvAll ps qs
    simp only [List.map_cons, PyData.eqvAll, dPair_eqv, h]
    by_cases h1 : p = q
    · by_cases h2 : ps = qs
      · subst h1 h2
        simp
      · simp [h1, h2]
    · simp [h1]
theorem dPairs_eqv (ps qs : List (Int × Int)) : PyData.eqv (.list (ps.map dPair)) (.list (qs.map dPair)) = decide (ps = qs) := by
  have e : PyData.eqv (.list (ps.map dPair)) (.list (qs.map dPair)) = PyData.eqvAll (ps.map dPair) (qs.map dPair) := by simp only [PyData.eqv]
  rw [e, dPairs_eqvAll]
end SL
set_option Elab.async false
set_option linter.all false
set_option maxRecDepth 100000
set_option maxHeartbeats 4000000
/-! exceptions whose context is None; raise X(..) from None in an except suite, X with an own __init__ -/
namespace XV
open PySem PySem.Spec PyProof.Rows L2
theorem flyingZ_zc {B h : Heap} {l : List Env} {a : Addr} {cls : Value} {d : Option Addr} (x : HandSPX.FlyingZ B l a (L2N.Zn cls d) h) : HandSPX.FlyingZ B l a (Zc cls d) h := L2H.flyingZ_imp (fun _ z => z.zc) x
theorem cxN {P : Program} {w : World} {outer : List Env} {H : Hp} {s : Shared} {E : XK} {u : Value} {s' : Shared} (h : L2N.CX P w outer H s E u s') : L2.CX P w outer H s E u s' := by
  obtain ⟨a, B, H', cls, d, e, fl, r⟩ := h
  exact ⟨a, B, H', cls, d, e, flyingZ_zc fl, r⟩
/-- a def whose exceptions bear no context: weaker -/
theorem _root_.L2.FnOk.weakN {P : Program} {w : World} {K : PySem.W.Frag} {mg : Str → Option Value} {base : Heap} {k : Nat} {f : Addr} {fd : FuncData} {ps : List Str} {sp : Sp} (F : FnOk P w K mg base (L2N.CX P w) k f fd ps sp) : FnOk P w K mg base (L2.CX P w) k f fd ps sp :=
  ⟨F.len, fun A outer s H args us vs Q E h1 h2 h3 h4 h5 => codeAny_mono (F.run A outer s H args us vs Q E h1 h2 h3 h4 h5) fun r s' q => by
    cases r with
    | error e => exact cxN q
    | ok f =>
      cases f with
      | ret u => exact q
      | next => exact q
      | brk => exact q
      | cont => exact q⟩
theorem passN {X : Cx} : Passes (L2N.CX X.prog X.w) X E0 := fun _ _ _ _ _ _ _ h => by
  obtain ⟨_, _, _, _, _, _, _, _, _, _, _, _, z⟩ := h
  exact z.elim
section
variable {P : Program} {w : World} {K : PySem.W.Frag} {mg : Str → Option Value} {base : Heap}
theorem _root_.L2.Fun.okXN {x qual : Str} {st : Stmt} {f : Addr} {fd : FuncData} {N ps : List Str} {k : Nat} {sp : Sp} (F : Fun K x qual st f fd) (S : FnScope N ps (defScope st)) (len : ∀ vs H Q E, sp vs H Q E → vs.length = ps.length)
    (hbody : ∀ (cdv : Value) (A : Around) (outer : List Env) (s : Shared) (H : Hp) (vs : List V) (Q : VK) (E : XK), Room k (A.deeper (envOfC qual (defScope st) s.heap.objs.size f cdv)) → sp vs H Q E →
      ∃ t, PSs (cxOf (L2N.CX P w) P w K mg base N qual (defScope st) f cdv A outer s H E) (defBody st) t ∧ t { nx := fun _ H' => Q .non H', rt := Q } (L2.start N vs) H) : FnOk P w K mg base (L2N.CX P w) (k + 1) f fd ps sp := by
  obtain ⟨oc, od, kV, doc, pm, an, cdv, ct, osl, rfl, lk, hcd⟩ := F.ex
  exact fn_of lk hcd S len fun A outer s H vs Q E hr hsp => hbody cdv A outer s H vs Q E hr hsp
/-- in a hot context -/
theorem _root_.L2.Fun.okHot {CX : CXT} {x qual : Str} {st : Stmt} {f : Addr} {fd : FuncData} {N ps : List Str} {k : Nat} {sp : Sp} (F : Fun K x qual st f fd) (S : FnScope N ps (defScope st)) (len : ∀ vs H Q E, sp vs H Q E → vs.length = ps.length)
    (hbody : ∀ (cdv : Value) (A : Around) (outer : List Env) (s : Shared) (H : Hp) (vs : List V) (Q : VK) (E : XK) (p : Addr × Obj), L2H.Hot1 A p → L2H.RoomH k (A.deeper (envOfC qual (defScope st) s.heap.objs.size f cdv)) → sp vs H Q E →
      ∃ t, PSs (L2H.cxH CX P w K mg base N qual (defScope st) f cdv A outer s H E p) (defBody st) t ∧ t { nx := fun _ H' => Q .non H', rt := Q } (L2.start N vs) H) : L2H.FnH P w K mg base CX (k + 1) f fd ps sp := by
  obtain ⟨oc, od, kV, doc, pm, an, cdv, ct, osl, rfl, lk, hcd⟩ := F.ex
  exact L2H.fn_ofH lk hcd S len fun A outer s H vs Q E p h1 hr hsp => hbody cdv A outer s H vs Q E p h1 hr hsp
end
theorem roomH_make {k : Nat} {A : Around} (r : L2H.RoomH (k + 1) A) (C : Addr) (us : List Value) (kw : List (Str × Value)) : L2H.RoomH k (A.under (.builtin "type.__call__" ⟨.ref C :: us, kw⟩)) :=
  ⟨by have := r.dp; rw [make_depth]; omega, by have := r.un; rw [make_units]; omega⟩
section
variable {X : Cx} {e : Expr} {es : List Expr} {ta : TA} {p pos : Pos}
/-- the end of C(e, ..), with the record's six fields told -/
theorem mk_end5 {pins : List (Addr × Obj)} {σ : L2.St} {H1 H2 : Hp} {Q : XK} {hp hp2 h2 : Heap} {g1 g2 : Array GenState} {d1 d2 : Drawn} {t1 t2 : Nat} {os1 os2 : OsState} {a C d : Addr} {fs : List (Str × V)} (T : Raises X (.ref C)) (I1 : Inv X pins σ H1 ⟨hp, g1, d1, t1, os1⟩)
    (ha : hp.objs.size ≤ a) (k : ∀ b o, hp.get? b = some o → hp2.get? b = some o) (un : Un (frs X.stack) [] (upd H1 a (exo a C none)) H2 hp2 h2) (hok : HOk X.prog X.w H2 h2) (ho : os2 = os1) (hb : AllBare g2)
    (ea : H2 a = some (exo a C (some d))) (ed : H2 d = some (exd d fs)) (hd1 : H1 d = none) (q : Q (.ref C) (some d) (upd (del H2 a) d (.xd fs))) : L2N.MkP X pins σ Q (.ref a) ⟨h2, g2, d2, t2, os2⟩ ∧ L2H.Six (.ref a) ⟨h2, g2, d2, t2, os2⟩ := by
  obtain ⟨t0, G, J, kG, ge, hoe, na⟩ := mk_end0 (d2 := d2) (t2 := t2) I1 ha k un hok ho hb ea ed hd1
  refine ⟨⟨a, _, _, ⟨G, g2, d2, t2, os2⟩, _, .ref C, some d, rfl, J, kG, ge, hoe, ⟨rfl, rfl, fun vs e => by cases e; rfl⟩, rfl, rfl, na, rfl, hb, T, q⟩, fun b oe vs eb hg hd => ?_⟩
  cases eb
  have hg' : h2.get? a = some oe := hg
  rw [hoe] at hg'
  cases hg'
  cases hd
  show (4 : Nat) < 6
  decide
theorem pmk_oex5 {CX : CXT} {x : Str} {C fI : Addr} {k : Nat} {fd : FuncData} {ps : List Str} {sp : Sp} (T : OexC X.K C) (iC : PySem.W.findIn X.K (.ref C) "__init__" = some (some (.ref fI))) (tI : PySem.W.typeIn X.K (.ref fI) = some (.type "function"))
    (F1 : FnOk X.prog X.w X.K X.mg X.base CX k fI fd ps sp) (hr : Room (k + 1) X.A) (hb : Binds X.K fd ps []) (hx : Passes CX X (fun _ _ _ => False)) (hg : Gl X x) (hm : X.mg x = some (.ref C)) (ha : PA X (e :: es) ta)
    (hdb : (x == ("__debug__" : Str)) = false := by decide) (he : starEach (e :: es) X.env = (false, eval e X.env) :: starEach es X.env := by rfl) (hpl : (backTo pos (starEach es X.env)).any (·.1) = false := by rfl) :
    L2H.PMk5 X (.Call (.Name x p) (e :: es) [] pos) (tMkO C sp [] ta) := by
  intro pins s σ H Q I h
  obtain ⟨nm, q, N, bs, bm, sn, sub, ab, col, dd, k0, k1, k2, k3, k5, hC, hbm⟩ := T.cls
  refine wpAny_Call_Name_kw (ld_glob I hg hm ?_ hdb)
  refine PySem.W.callWith_K (h₀ := X.base) I.ok.mod.kin T.kC (thn (ha.run pos pins s σ H _ I h) fun us s1 ⟨vs, H1, I1, r1, hz, q1⟩ => ⟨I1.kIn, ?_⟩) he hpl
  show wpAny _ _ (call (.ref C) us) _ _ _
  obtain ⟨hp, g, dr, tk, os⟩ := s1
  have hsz : hp.objs.size ≤ hp.objs.size + 1 := Nat.le_succ _
  have hn : H1 (hp.objs.size + 1) = none := I1.hok.fresh hsz
  have hq := q1 (hp.objs.size + 1) hn
  have kk : ∀ b o, hp.get? b = some o → ((hp.push (PySem.W.kdv_tup us)).push (PySem.HandSPX.excO C hp.objs.size)).get? b = some o := fun b o e => Heap.get?_push_of_some _ (Heap.get?_push_of_some _ e)
  have hget : ((hp.push (PySem.W.kdv_tup us)).push (PySem.HandSPX.excO C hp.objs.size)).get? (hp.objs.size + 1) = some (PySem.HandSPX.excO C hp.objs.size) := by heap_get
  have I2 : Inv X pins σ (upd H1 (hp.objs.size + 1) (exo (hp.objs.size + 1) C none)) ⟨(hp.push (PySem.W.kdv_tup us)).push (PySem.HandSPX.excO C hp.objs.size), g, dr, tk, os⟩ :=
    I1.laid (t' := tk) (a := hp.objs.size + 1) (o := exo (hp.objs.size + 1) C none) (h' := (hp.push (PySem.W.kdv_tup us)).push (PySem.HandSPX.excO C hp.objs.size)) kk hsz (exo_ok hget)
  have r2 : Vals (V.ref (hp.objs.size + 1) :: (vs ++ [])) (Value.ref (hp.objs.size + 1) :: (us ++ [])) := .cons rfl (r1.append .nil)
  have hl : (Value.ref (hp.objs.size + 1) :: us ++ []).length = ps.length := by
    have e := r2.length
    rw [F1.len _ _ _ _ hq] at e
    exact e.symm
  have hus : us.length ≤ sizeLine := by
    rw [← Paired.length r1, sizeLine_eq]
    omega
  refine wpAny_call (PySem.HandSPX.call_own F.excBase_ValueError (fun Y => PySem.HandSPX.refsVE_contains Y bm hbm) (I1.kIn _ _ hC) (PySem.W.looks_findIn I1.kIn iC) (fun self => PySem.W.bind_fn I1.kIn self tI) hus
    (codeAny_mono (F1.run _ X.stack _ _ ⟨Value.ref (hp.objs.size + 1) :: us, []⟩ (Value.ref (hp.objs.size + 1) :: us ++ []) _ _ (fun _ _ _ => False) (hr.make C us []) (I2.env0.make C us []) (by have b := hb _ (Value.ref (hp.objs.size + 1) :: us) I2.kIn hl; exact b) r2 hq) fun r s' hq' => ?_))
  cases r with
  | error er => exact hx pins σ _ _ er s' I2 hq'
  | ok fl =>
    cases fl with
    | ret u =>
      obtain ⟨v, H2, os2, bare2, un2, hok2, rv, ev, d, fs, ea, ed, hd1, q2⟩ := hq'
      subst ev
      obtain ⟨h2, g2, d2, t2, os'⟩ := s'
      exact ⟨rv, mk_end5 (raises_own T.exC T.tyC) I1 hsz kk un2 hok2 os2 bare2 ea ed hd1 q2⟩
    | next => exact False.elim hq'
    | brk => exact False.elim hq'
    | cont => exact False.elim hq'
/-- the same where an exception is handled -/
theorem pmk_oexH {CX : CXT} {x : Str} {C fI : Addr} {k : Nat} {fd : FuncData} {ps : List Str} {sp : Sp} (T : OexC X.K C) (iC : PySem.W.findIn X.K (.ref C) "__init__" = some (some (.ref fI))) (tI : PySem.W.typeIn X.K (.ref fI) = some (.type "function"))
    (F1 : L2H.FnH X.prog X.w X.K X.mg X.base CX k fI fd ps sp) (hr : L2H.RoomH (k + 1) X.A) (hot : L2H.HotC X) (hb : Binds X.K fd ps []) (hx : Passes CX X (fun _ _ _ => False)) (hg : Gl X x) (hm : X.mg x = some (.ref C)) (ha : PA X (e :: es) ta)
    (hdb : (x == ("__debug__" : Str)) = false := by decide) (he : starEach (e :: es) X.env = (false, eval e X.env) :: starEach es X.env := by rfl) (hpl : (backTo pos (starEach es X.env)).any (·.1) = false := by rfl) :
    L2H.PMk5 X (.Call (.Name x p) (e :: es) [] pos) (tMkO C sp [] ta) := by
  intro pins s σ H Q I h
  obtain ⟨nm, q, N, bs, bm, sn, sub, ab, col, dd, k0, k1, k2, k3, k5, hC, hbm⟩ := T.cls
  obtain ⟨pp, hot1, hpp⟩ := hot
  refine wpAny_Call_Name_kw (ld_glob I hg hm ?_ hdb)
  refine PySem.W.callWith_K (h₀ := X.base) I.ok.mod.kin T.kC (thn (ha.run pos pins s σ H _ I h) fun us s1 ⟨vs, H1, I1, r1, hz, q1⟩ => ⟨I1.kIn, ?_⟩) he hpl
  show wpAny _ _ (call (.ref C) us) _ _ _
  obtain ⟨hp, g, dr, tk, os⟩ := s1
  have hsz : hp.objs.size ≤ hp.objs.size + 1 := Nat.le_succ _
  have hn : H1 (hp.objs.size + 1) = none := I1.hok.fresh hsz
  have hq := q1 (hp.objs.size + 1) hn
  have kk : ∀ b o, hp.get? b = some o → ((hp.push (PySem.W.kdv_tup us)).push (PySem.HandSPX.excO C hp.objs.size)).get? b = some o := fun b o e => Heap.get?_push_of_some _ (Heap.get?_push_of_some _ e)
  have hget : ((hp.push (PySem.W.kdv_tup us)).push (PySem.HandSPX.excO C hp.objs.size)).get? (hp.objs.size + 1) = some (PySem.HandSPX.excO C hp.objs.size) := by heap_get
  have I2 : Inv X pins σ (upd H1 (hp.objs.size + 1) (exo (hp.objs.size + 1) C none)) ⟨(hp.push (PySem.W.kdv_tup us)).push (PySem.HandSPX.excO C hp.objs.size), g, dr, tk, os⟩ :=
    I1.laid (t' := tk) (a := hp.objs.size + 1) (o := exo (hp.objs.size + 1) C none) (h' := (hp.push (PySem.W.kdv_tup us)).push (PySem.HandSPX.excO C hp.objs.size)) kk hsz (exo_ok hget)
  have r2 : Vals (V.ref (hp.objs.size + 1) :: (vs ++ [])) (Value.ref (hp.objs.size + 1) :: (us ++ [])) := .cons rfl (r1.append .nil)
  have hl : (Value.ref (hp.objs.size + 1) :: us ++ []).length = ps.length := by
    have e := r2.length
    rw [F1.len _ _ _ _ hq] at e
    exact e.symm
  have hus : us.length ≤ sizeLine := by
    rw [← Paired.length r1, sizeLine_eq]
    omega
  have P1 := I2.pin pp (List.mem_append_left _ hpp)
  have hpin : L2H.PinOk X.stack _ _ pp := ⟨P1.1, P1.2.1, fun hm => (List.mem_cons.mp (I2.stkSub pp.1 hm)).elim P1.2.2.1 P1.2.2.2.1, P1.2.2.2.2⟩
  refine wpAny_call (PySem.HandSPX.call_own F.excBase_ValueError (fun Y => PySem.HandSPX.refsVE_contains Y bm hbm) (I1.kIn _ _ hC) (PySem.W.looks_findIn I1.kIn iC) (fun self => PySem.W.bind_fn I1.kIn self tI) hus
    (codeAny_mono (F1.run _ X.stack _ _ ⟨Value.ref (hp.objs.size + 1) :: us, []⟩ (Value.ref (hp.objs.size + 1) :: us ++ []) _ _ (fun _ _ _ => False) pp (roomH_make hr C us []) hot1 hpin (I2.env0.make C us []) (by have b := hb _ (Value.ref (hp.objs.size + 1) :: us) I2.kIn hl; exact b) r2 hq) fun r s' hq' => ?_))
  cases r with
  | error er => exact hx pins σ _ _ er s' I2 hq'
  | ok fl =>
    cases fl with
    | ret u =>
      obtain ⟨v, H2, os2, bare2, un2, hok2, rv, ev, d, fs, ea, ed, hd1, q2⟩ := hq'
      subst ev
      obtain ⟨h2, g2, d2, t2, os'⟩ := s'
      exact ⟨rv, mk_end5 (raises_own T.exC T.tyC) I1 hsz kk un2 hok2 os2 bare2 ea ed hd1 q2⟩
    | next => exact False.elim hq'
    | brk => exact False.elim hq'
    | cont => exact False.elim hq'
end
section
variable {X : Cx} {k : Nat} {C fI : Addr} {fd : FuncData} {x f : Str} {p pos pos2 : Pos} {e : Expr} {es : List Expr} {t : TA} {W : WX}
theorem mkR_of {σ : L2.St} {H : Hp} {Q : XK} (h : tMkR C f t σ H Q) : tMkO C (spIni C f) [] (moA t) σ H Q := by
  refine ⟨_, h, fun vs H1 hq => ?_⟩
  obtain ⟨v, rfl, hq⟩ := hq
  refine ⟨(by show 1 ≤ 1000; decide), fun a na => ⟨a, v, rfl, upd_same, fun dx ndx nea => ⟨rfl, dx, [(f, v)], upd_same, (by rw [upd_ne nea, upd_same]), ?_, ?_⟩⟩⟩
  · rw [upd_ne nea] at ndx
    exact ndx
  · have nd : H1 dx = none := by
      rw [upd_ne nea] at ndx
      exact ndx
    refine hq dx _ nd (fun b o z => ?_) upd_same
    have n1 := ne_of_none z nd
    have n2 := ne_of_none z na
    rw [upd_ne n1, del_ne n2, upd_ne n2, upd_ne n1, upd_ne n2]
    exact z
/-- raise C(e): what leaves bears no context -/
theorem ps_raiseXN (hc : X.calm = true) (tk : L2N.Takes X W) (T : XCls X.K C fI f) (F1 : FnOk X.prog X.w X.K X.mg X.base CX0 k fI fd (["self", f] : List Str) (spIni C f)) (hr : Room (k + 1) X.A) (hb : Binds X.K fd (["self", f] : List Str) [])
    (hg : Gl X x) (hm : X.mg x = some (.ref C)) (ha : PA X (e :: es) t)
    (hdb : (x == ("__debug__" : Str)) = false := by decide) (he : starEach (e :: es) X.env = (false, eval e X.env) :: starEach es X.env := by rfl) (hpl : (backTo pos (starEach es X.env)).any (·.1) = false := by rfl) :
    PS X (.Raise (some (.Call (.Name x p) (e :: es) [] pos)) none pos2) (fun _ σ H => tMkR C f t σ H fun cls d H' => W cls d σ H') :=
  L2N.ps_raise hc tk (fun pins s σ H Q I h => (pmk_oex5 T.ox T.ini T.tyI F1 hr hb pass0 hg hm (pa_mo ha) hdb he hpl).pmk pins s σ H Q I (mkR_of h))
/-- raise C(e) from None, where an exception is handled -/
theorem ps_raiseXH {j : Nat} {cpos : Pos} (hc : L2H.HotC X) (tk : L2.Takes X W) (T : XCls X.K C fI f) (F1 : L2H.FnH X.prog X.w X.K X.mg X.base CX0 k fI fd (["self", f] : List Str) (spIni C f)) (hr : L2H.RoomH (k + 1) X.A) (hb : Binds X.K fd (["self", f] : List Str) [])
    (hg : Gl X x) (hm : X.mg x = some (.ref C)) (ha : PA X (e :: es) t)
    (hdb : (x == ("__debug__" : Str)) = false := by decide) (he : starEach (e :: es) X.env = (false, eval e X.env) :: starEach es X.env := by rfl) (hpl : (backTo pos (starEach es X.env)).any (·.1) = false := by rfl) :
    PS X (.Raise (some (.Call (.Name x p) (e :: es) [] pos)) (some (.Constant .none j cpos)) pos2) (fun _ σ H => tMkR C f t σ H fun cls d H' => W cls d σ H') :=
  L2H.ps_raiseHN hc tk (fun pins s σ H Q I h => pmk_oexH T.ox T.ini T.tyI F1 hr hc hb pass0 hg hm (pa_mo ha) hdb he hpl pins s σ H Q I (mkR_of h))
end
end XV
set_option Elab.async false
set_option linter.all false
set_option maxRecDepth 100000
set_option maxHeartbeats 4000000
namespace K03
open PySem PySem.Spec PyProof.Rows L2 XV SL
local macro_rules | `(tactic| walk_at "rd") => `(tactic| repeat (first | refine And.intro rfl ?_ | refine And.intro (by assumption) ?_ | apply Exists.intro))
/-! ### the text by places -/
def topS (i : Nat) : Stmt := PySem.Challenge.pw_slabpins_k03_invalid_tables_and_pins.main.body.getD i (.Pass ⟨0, 0, 0, 0⟩)
abbrev s_is_between : Stmt := topS 14
theorem sc_is_between : FnScope ["value", "low", "high"] ["value", "low", "high"] (defScope s_is_between) := ⟨rfl, rfl, rfl, by decide +kernel, rfl, by decide +kernel, by decide +kernel⟩
abbrev s_is_size_class : Stmt := topS 15
theorem sc_is_size_class : FnScope ["item"] ["item"] (defScope s_is_size_class) := ⟨rfl, rfl, rfl, by decide +kernel, rfl, by decide +kernel, by decide +kernel⟩
abbrev s_init : Stmt := inClass (topS 16) 0
theorem sc_init : FnScope ["self", "classes", "limit", "index", "item"] ["self", "classes", "limit"] (defScope s_init) := ⟨rfl, rfl, rfl, by decide +kernel, rfl, by decide +kernel, by decide +kernel⟩
abbrev s_len : Stmt := inClass (topS 16) 1
theorem sc_len : FnScope ["self"] ["self"] (defScope s_len) := ⟨rfl, rfl, rfl, by decide +kernel, rfl, by decide +kernel, by decide +kernel⟩
abbrev s_eq : Stmt := inClass (topS 16) 2
theorem sc_eq : FnScope ["self", "other"] ["self", "other"] (defScope s_eq) := ⟨rfl, rfl, rfl, by decide +kernel, rfl, by decide +kernel, by decide +kernel⟩
abbrev s_classes : Stmt := inClass (topS 16) 3
theorem sc_classes : FnScope ["self"] ["self"] (defScope s_classes) := ⟨rfl, rfl, rfl, by decide +kernel, rfl, by decide +kernel, by decide +kernel⟩
abbrev s_limit : Stmt := inClass (topS 16) 4
theorem sc_limit : FnScope ["self"] ["self"] (defScope s_limit) := ⟨rfl, rfl, rfl, by decide +kernel, rfl, by decide +kernel, by decide +kernel⟩
abbrev s_bytes_of : Stmt := inClass (topS 16) 5
theorem sc_bytes_of : FnScope ["self", "number"] ["self", "number"] (defScope s_bytes_of) := ⟨rfl, rfl, rfl, by decide +kernel, rfl, by decide +kernel, by decide +kernel⟩
abbrev s_slots_of : Stmt := inClass (topS 16) 6
theorem sc_slots_of : FnScope ["self", "number"] ["self", "number"] (defScope s_slots_of) := ⟨rfl, rfl, rfl, by decide +kernel, rfl, by decide +kernel, by decide +kernel⟩
abbrev s_size_class : Stmt := inClass (topS 16) 7
theorem sc_size_class : FnScope ["self", "number"] ["self", "number"] (defScope s_size_class) := ⟨rfl, rfl, rfl, by decide +kernel, rfl, by decide +kernel, by decide +kernel⟩
abbrev s_iNoSlab : Stmt := inClass (topS 2) 0
theorem sc_iNoSlab : FnScope ["self", "index"] ["self", "index"] (defScope s_iNoSlab) := ⟨rfl, rfl, rfl, by decide +kernel, rfl, by decide +kernel, by decide +kernel⟩
abbrev s_iNoClass : Stmt := inClass (topS 3) 0
theorem sc_iNoClass : FnScope ["self", "number"] ["self", "number"] (defScope s_iNoClass) := ⟨rfl, rfl, rfl, by decide +kernel, rfl, by decide +kernel, by decide +kernel⟩
/-- the built-in names as they stand, the module's numbers -/
structure Bi (mg : Str → Option Value) : Prop where
  b_int : mg "int" = none
  b_bool : mg "bool" = none
  b_tuple : mg "tuple" = none
  b_list : mg "list" = none
  b_len : mg "len" = none
  b_isinstance : mg "isinstance" = none
  b_enumerate : mg "enumerate" = none
  c_classes : ∃ t, mg "MOST_CLASSES" = some (.int 6 t)
  c_size : ∃ t, mg "MOST_SIZE" = some (.int 1000 t)
  c_slots : ∃ t, mg "MOST_SLOTS" = some (.int 60 t)
  c_limit : ∃ t, mg "MOST_LIMIT" = some (.int 1000000 t)
section
variable {P : Program} {w : World} {K : PySem.W.Frag} {mg : Str → Option Value} {base : Heap}
theorem ok_iNoSlab {C fI : Addr} {fd : FuncData} (F : Fun K "__init__" "NoSlab.__init__" s_iNoSlab fI fd) (T : XCls K C fI "index") : FnOk P w K mg base CX0 1 fI fd ["self", "index"] (spIni C "index") := by
  refine F.ok sc_iNoSlab (fun vs H Q E h => ?_) (fun cdv A outer s H vs Q E hr h => ?_)
  · obtain ⟨a, v, rfl, _⟩ := h
    rfl
  · obtain ⟨a, v, rfl, ha, k⟩ := h
    exact ⟨_, pss_one (ps_ost (pv 0) (pv 1)), _, rfl, _, rfl, a, C, rfl, T.ox, T.noF, .inl ⟨ha, fun dx n ne => k dx n ne⟩⟩
theorem ok_iNoClass {C fI : Addr} {fd : FuncData} (F : Fun K "__init__" "NoClass.__init__" s_iNoClass fI fd) (T : XCls K C fI "number") : FnOk P w K mg base CX0 1 fI fd ["self", "number"] (spIni C "number") := by
  refine F.ok sc_iNoClass (fun vs H Q E h => ?_) (fun cdv A outer s H vs Q E hr h => ?_)
  · obtain ⟨a, v, rfl, _⟩ := h
    rfl
  · obtain ⟨a, v, rfl, ha, k⟩ := h
    exact ⟨_, pss_one (ps_ost (pv 0) (pv 1)), _, rfl, _, rfl, a, C, rfl, T.ox, T.noF, .inl ⟨ha, fun dx n ne => k dx n ne⟩⟩
theorem ok_between {f : Addr} {fd : FuncData} (F : Fun K "is_between" "is_between" s_is_between f fd) (B : Bi mg) : FnOk P w K mg base CX0 1 f fd ["value", "low", "high"] spBetween := by
  refine F.ok sc_is_between (fun vs H Q E h => ?_) (fun cdv A outer s H vs Q E hr h => ?_)
  · obtain ⟨x, lo, hi, rfl, _⟩ := h
    rfl
  · obtain ⟨x, lo, hi, rfl, ⟨t, hx⟩, q⟩ := h
    refine ⟨_, (pss_one (ps_ret (pe_and (pe_callB call_isi (by rfl) B.b_isinstance (by decide +kernel) (pa_cons (pv 0) (pa_cons (pe_bltn (v := V.ty "int") rfl B.b_int (by decide +kernel) rfl) pa_nil))) (pe_and (pe_not (pe_callB call_isi (by rfl) B.b_isinstance (by decide +kernel) (pa_cons (pv 0) (pa_cons (pe_bltn (v := V.ty "bool") rfl B.b_bool (by decide +kernel) rfl) pa_nil)))) (pe_one (pe_chain op_le op_le (pv 1) (pv 0) (pv 2))))))), ?_⟩
    refine ⟨x, rfl, x, .ty "int", .type t, .type "int", _, rfl, .ty _, hx.ty, kit_ty (kb_int hx.mem), _, rfl, ?_⟩
    cases hx with
    | int i =>
      refine iteT ?_
      refine ⟨_, rfl, _, .ty "bool", .type "int", .type "bool", _, rfl, .ty _, (K7.int i).ty, kit_ty (kb_bool (K7.int (H := H) i).mem), _, rfl, _, rfl, iteT ?_⟩
      refine ⟨_, rfl, _, rfl, lo, i, rfl, rfl, _, rfl, ?_⟩
      by_cases c : lo ≤ i
      · have e : inB (.int i) lo hi = decide (i ≤ hi) := by
          show (decide (lo ≤ i) && decide (i ≤ hi)) = decide (i ≤ hi)
          rw [decide_eq_true c, Bool.true_and]
        rw [e] at q
        rw [decide_eq_true c]
        exact iteT ⟨_, rfl, i, hi, rfl, rfl, q⟩
      · have e : inB (.int i) lo hi = false := by
          show (decide (lo ≤ i) && decide (i ≤ hi)) = false
          rw [decide_eq_false c, Bool.false_and]
        rw [e] at q
        rw [decide_eq_false c]
        exact iteF q
    | bl b =>
      refine iteT ?_
      exact ⟨_, rfl, _, .ty "bool", .type "bool", .type "bool", _, rfl, .ty _, (K7.bl b).ty, kit_ty (kb_bool (K7.bl (H := H) b).mem), _, rfl, _, rfl, iteF q⟩
    | non => exact iteF q
    | str z => exact iteF q
    | lst e => exact iteF q
    | tup e => exact iteF q
    | dict e => exact iteF q
theorem ok_sc {f f1 : Addr} {fd d1 : FuncData} (F : Fun K "is_size_class" "is_size_class" s_is_size_class f fd) (B : Bi mg) (G1 : FnOk P w K mg base CX0 1 f1 d1 ["value", "low", "high"] spBetween) (m1 : mg "is_between" = some (.ref f1)) (k1 : PySem.W.keepIn K (.ref f1) = true) (b1 : Binds K d1 ["value", "low", "high"] []) :
    FnOk P w K mg base CX0 2 f fd ["item"] spIsSC := by
  refine F.ok sc_is_size_class (fun vs H Q E h => ?_) (fun cdv A outer s H vs Q E hr h => ?_)
  · obtain ⟨x, rfl, _⟩ := h
    rfl
  · obtain ⟨x, rfl, ⟨⟨t, hx⟩, hi⟩, q⟩ := h
    obtain ⟨t1, k_MOST_SIZE⟩ := B.c_size
    obtain ⟨t2, k_MOST_SLOTS⟩ := B.c_slots
    refine ⟨_, (pss_cons (ps_if (PW.pt (pw_or (pt_not (pt_val (pe_callB call_isi (by rfl) B.b_isinstance (by decide +kernel) (pa_cons (pv 0) (pa_cons (pe_bltn (v := V.ty "tuple") rfl B.b_tuple (by decide +kernel) rfl) pa_nil))))) (pw_or1 (pt_cmpR op_ne (pe_callB call_len_seq (by rfl) B.b_len (by decide +kernel) (pa_cons (pv 0) pa_nil)) pe_int (nomark _))))) (pss_one (ps_ret pe_bl)) pss_nil)
      (pss_one (ps_ret (pe_and (pe_call G1 (hr.mono (by decide)) rfl m1 k1 b1 .nil pass0 (pa_cons (pe_ix ix_tup (pv 0) pe_int (fun _ _ => rfl)) (pa_cons pe_int (pa_cons (pe_glob (v := V.int 1000) rfl k_MOST_SIZE ⟨_, rfl⟩) pa_nil)))) (pe_one (pe_call G1 (hr.mono (by decide)) rfl m1 k1 b1 .nil pass0 (pa_cons (pe_ix ix_tup (pv 0) pe_int (fun _ _ => rfl)) (pa_cons pe_int (pa_cons (pe_glob (v := V.int 60) rfl k_MOST_SLOTS ⟨_, rfl⟩) pa_nil))))))))), ?_⟩
    refine ⟨x, rfl, x, .ty "tuple", .type t, .type "tuple", _, rfl, .ty _, hx.ty, kit_ty (kb_tuple hx.mem), _, rfl, ?_⟩
    cases hx with
    | int i => exact iteT (iteT q)
    | bl b => exact iteT (iteT q)
    | non => exact iteT (iteT q)
    | str z => exact iteT (iteT q)
    | @lst a xs e =>
      refine iteT (iteT ?_)
      have z : scB H (.ref a) = false := by
        show (match H a with | some (.tup [y, z]) => inB y 1 1000 && inB z 1 60 | _ => false) = false
        rw [e]
      rw [z] at q
      exact q
    | @dict a kvs e =>
      refine iteT (iteT ?_)
      have z : scB H (.ref a) = false := by
        show (match H a with | some (.tup [y, z]) => inB y 1 1000 && inB z 1 60 | _ => false) = false
        rw [e]
      rw [z] at q
      exact q
    | @tup a xs e =>
      refine iteF ?_
      refine ⟨_, rfl, a, xs, rfl, .inr (SqT.of e), rfl, _, rfl, ?_⟩
      have ys := hi a xs rfl e
      by_cases c : xs.length = 2
      · match xs, c with
        | [y, z], _ =>
          refine iteF ?_
          refine ⟨_, rfl, a, _, 0, y, rfl, rfl, SqT.of e, rfl, y, 1, 1000, rfl, ys y (by simp), _, rfl, ?_⟩
          have eq : scB H (.ref a) = (inB y 1 1000 && inB z 1 60) := by
            show (match H a with | some (.tup [y, z]) => inB y 1 1000 && inB z 1 60 | _ => false) = _
            rw [e]
          rw [eq] at q
          cases c1 : inB y 1 1000 with
          | false =>
            rw [c1, Bool.false_and] at q
            exact iteF q
          | true =>
            rw [c1, Bool.true_and] at q
            exact iteT ⟨_, rfl, a, _, 1, z, rfl, rfl, SqT.of e, rfl, z, 1, 60, rfl, ys z (by simp), q⟩
      · have n2 : decide (V.int (xs.length : Int) = V.int 2) = false := decide_eq_false fun z => c (by have := V.int.inj z; omega)
        rw [n2]
        refine iteT ?_
        have z : scB H (.ref a) = false := by
          show (match H a with | some (.tup [y, z]) => inB y 1 1000 && inB z 1 60 | _ => false) = false
          rw [e]
          match xs, c with
          | [], _ => rfl
          | [_], _ => rfl
          | [_, _], c => exact absurd rfl c
          | _ :: _ :: _ :: _, _ => rfl
        rw [z] at q
        exact q
theorem ok_init {C CS f f1 f2 fS : Addr} {fd d1 d2 dS : FuncData} (F : Fun K "__init__" "Slab.__init__" s_init f fd) (B : Bi mg) (T : SlabC K mg C)
    (XNoSlab : XCls K CS fS "index") (INoSlab : FnOk P w K mg base CX0 1 fS dS ["self", "index"] (spIni CS "index")) (biNoSlab : Binds K dS ["self", "index"] []) (gNoSlab : mg "NoSlab" = some (.ref CS))
    (G1 : FnOk P w K mg base CX0 1 f1 d1 ["value", "low", "high"] spBetween) (m1 : mg "is_between" = some (.ref f1)) (k1 : PySem.W.keepIn K (.ref f1) = true) (b1 : Binds K d1 ["value", "low", "high"] [])
    (G2 : FnOk P w K mg base CX0 2 f2 d2 ["item"] spIsSC) (m2 : mg "is_size_class" = some (.ref f2)) (k2 : PySem.W.keepIn K (.ref f2) = true) (b2 : Binds K d2 ["item"] []) :
    FnOk P w K mg base (L2.CX P w) 4 f fd ["self", "classes", "limit"] (spInit C CS) := by
  refine F.okX sc_init (fun vs H Q E h => ?_) (fun cdv A outer s H vs Q E hr h => ?_)
  · obtain ⟨p, dx, cls, lim, rfl, _⟩ := h
    rfl
  · obtain ⟨p, dx, cls, lim, rfl, hp, hc, hl, hI, kE, kQ⟩ := h
    obtain ⟨t1, k_MOST_CLASSES⟩ := B.c_classes
    obtain ⟨t2, k_MOST_LIMIT⟩ := B.c_limit
    refine ⟨_, (pss_cons (ps_if (PW.pt (pw_or (pt_not (pt_val (pe_callB call_isi (by rfl) B.b_isinstance (by decide +kernel) (pa_cons (pv 1) (pa_cons (pe_bltn (v := V.ty "list") rfl B.b_list (by decide +kernel) rfl) pa_nil))))) (pw_or1 (pt_not (pt_val (pe_call G1 (hr.mono (by decide)) rfl m1 k1 b1 .nil pass0 (pa_cons (pe_callB call_len_seq (by rfl) B.b_len (by decide +kernel) (pa_cons (pv 1) pa_nil)) (pa_cons pe_int (pa_cons (pe_glob (v := V.int 6) rfl k_MOST_CLASSES ⟨_, rfl⟩) pa_nil))))))))) (pss_one (ps_raiseX rfl (takes_of rfl rfl rfl rfl) XNoSlab INoSlab (hr.mono (by decide)) biNoSlab rfl gNoSlab (pa_cons (pe_un un_neg pe_int) pa_nil))) pss_nil)
      (pss_cons (ps_if (pt_not (pt_val (pe_call G1 (hr.mono (by decide)) rfl m1 k1 b1 .nil pass0 (pa_cons (pv 2) (pa_cons pe_int (pa_cons (pe_glob (v := V.int 1000000) rfl k_MOST_LIMIT ⟨_, rfl⟩) pa_nil)))))) (pss_one (ps_raiseX rfl (takes_of rfl rfl rfl rfl) XNoSlab INoSlab (hr.mono (by decide)) biNoSlab rfl gNoSlab (pa_cons (pe_un un_neg pe_int) pa_nil))) pss_nil)
      (pss_cons (ps_for (passes_of rfl) rfl (pi_enum (by rfl) B.b_enumerate (pa_cons (pv 1) pa_nil)) (pg_tup rfl (pgs_cons (pg_name (i := 3) sc_init.nd rfl (Or.inl rfl)) (pgs_cons (pg_name (i := 4) sc_init.nd rfl (Or.inl rfl)) pgs_nil)))
      (pss_one (ps_if (pt_not (pt_val (pe_call G2 (hr.mono (by decide)) rfl m2 k2 b2 .nil pass0 (pa_cons (pv 4) pa_nil)))) (pss_one (ps_raiseX rfl (takes_of rfl rfl rfl rfl) XNoSlab INoSlab (hr.mono (by decide)) biNoSlab rfl gNoSlab (pa_cons (pv 3) pa_nil))) pss_nil)))
      (pss_cons (ps_fld (pv 0) (pe_callTy call_list_of (by rfl) B.b_list (by decide +kernel) (pa_cons (pv 1) pa_nil)) rfl)
      (pss_one (ps_fld (pv 0) (pv 2) rfl)))))), ?_⟩
    obtain ⟨t, hk⟩ := hc
    have neg : ∀ {Q' : Prop}, Q' → Q' := fun h => h
    refine ⟨cls, rfl, cls, .ty "list", .type t, .type "list", _, rfl, .ty _, hk.ty, kit_ty (kb_list hk.mem), _, rfl, ?_⟩
    cases hk with
    | int i => exact iteT (iteT ⟨1, rfl, _, rfl, kE (-1) rfl⟩)
    | bl b => exact iteT (iteT ⟨1, rfl, _, rfl, kE (-1) rfl⟩)
    | non => exact iteT (iteT ⟨1, rfl, _, rfl, kE (-1) rfl⟩)
    | str z => exact iteT (iteT ⟨1, rfl, _, rfl, kE (-1) rfl⟩)
    | @tup a xs e =>
      refine iteT (iteT ⟨1, rfl, _, rfl, kE (-1) ?_⟩)
      show (match H a with | some (.lst xs) => _ | _ => some (-1)) = some (-1)
      rw [e]
    | @dict a kvs e =>
      refine iteT (iteT ⟨1, rfl, _, rfl, kE (-1) ?_⟩)
      show (match H a with | some (.lst xs) => _ | _ => some (-1)) = some (-1)
      rw [e]
    | @lst a xs e =>
      refine iteF ?_
      refine ⟨.ref a, rfl, a, xs, rfl, .inl (SqL.of e), .int xs.length, 1, 6, rfl, ⟨_, .int _⟩, _, rfl, ?_⟩
      have hb : badI H (.ref a) lim = if (decide (1 ≤ xs.length) && decide (xs.length ≤ 6)) = true then (if inB lim 0 1000000 = true then badL H xs else some (-1)) else some (-1) := by
        show (match H a with | some (.lst xs) => _ | _ => some (-1)) = _
        rw [e]
      rw [← inB_len] at hb
      cases c1 : inB (.int xs.length) 1 6 with
      | false =>
        rw [c1, if_neg Bool.false_ne_true] at hb
        exact iteT ⟨1, rfl, _, rfl, kE (-1) hb⟩
      | true =>
        rw [c1, if_pos rfl] at hb
        refine iteF ?_
        refine ⟨lim, rfl, lim, 0, 1000000, rfl, hl, _, rfl, ?_⟩
        cases c2 : inB lim 0 1000000 with
        | false =>
          rw [c2, if_neg Bool.false_ne_true] at hb
          exact iteT ⟨1, rfl, _, rfl, kE (-1) hb⟩
        | true =>
          rw [c2, if_pos rfl] at hb
          refine iteF ?_
          obtain ⟨L, rfl⟩ := inB_int c2
          obtain ⟨hlen, hIt⟩ := hI a xs rfl e
          refine ⟨.ref a, rfl, a, xs, rfl, SqL.of e, for_it (walk_enum (K := K) (a := a) (xs := xs)) (fun i σ H4 => ∃ y3 y4, σ = [some (.ref p), some (.ref a), some (.int L), y3, y4] ∧ Same H H4 ∧ ∀ (j : Nat) x, j < i → xs[j]? = some x → scB H x = true) ⟨_, _, rfl, Same.refl _, fun j x hj => absurd hj (Nat.not_lt_zero _)⟩
            (fun i σ H4 _ ⟨_, _, _, z, _⟩ => SqL.of (z _ _ e)) ?_ ?_⟩
          · rintro j x σ H4 H5 hj ⟨y3, y4, rfl, S4, hs⟩ ⟨T', x1, x2, rfl, nT, rfl, g1, g2⟩
            cases g1
            have g2' : xs[j]? = some x2 := g2
            generalize h6 : upd H4 T' _ = H6
            obtain ⟨t6, e6⟩ := eqU h6 nT
            have S6 := S4.trans t6
            have hx2 := hIt x2 (List.mem_of_getElem? g2')
            refine ⟨T', _, rfl, SqT.of e6, rfl, _, _, rfl, _, _, rfl, rfl, ?_⟩
            refine ⟨x2, rfl, x2, rfl, hx2.keep S6, _, rfl, ?_⟩
            rw [scB_keep hx2.1 S6]
            cases c3 : scB H x2 with
            | false =>
              have hbad : badL H xs = some (j : Int) := badL_some g2' c3 fun i x hi hx => hs i x hi hx
              exact iteT ⟨_, rfl, _, rfl, (kE j (hb.trans hbad)).keep S6⟩
            | true =>
              refine iteF ⟨_, _, rfl, S6, fun i x hi hx => ?_⟩
              by_cases ei : i = j
              · subst ei
                rw [g2'] at hx
                cases hx
                exact c3
              · exact hs i x (by omega) hx
          · rintro σ H4 ⟨y3, y4, rfl, S4, hs⟩
            have hnone : badL H xs = none := badL_none fun i x hx => hs i x (List.getElem?_eq_some_iff.mp hx).1 hx
            refine ⟨.ref a, rfl, a, xs, rfl, .inl (SqL.of (S4 _ _ e)), fun l nl => ?_⟩
            generalize h5 : upd H4 l _ = H5
            obtain ⟨t5, e5⟩ := eqU h5 nl
            have hp5 := t5 _ _ (S4 _ _ hp)
            have nlp : l ≠ p := (ne_of_none (S4 _ _ hp) nl).symm
            refine ⟨_, rfl, p, C, dx, [], rfl, hp5, T.cl, T.nP, (by show 0 < 1000; decide), _, rfl, _, rfl, p, C, dx, _, rfl, upd_same, T.cl, T.nB, (by show 1 < 1000; decide), ?_⟩
            refine kQ a xs L (hb.trans hnone) rfl rfl e l _ (S4.free nl) (fun b o z n => ?_) ⟨⟨dx, ?_⟩, ?_⟩
            · rw [upd_ne n, upd_ne n]
              exact t5 _ _ (S4 _ _ z)
            · rw [upd_same, pk_put]
              rfl
            · rw [upd_ne nlp, upd_ne nlp]
              exact e5
theorem ok_len {C f : Addr} {fd : FuncData} (F : Fun K "__len__" "Slab.__len__" s_len f fd) (B : Bi mg) (T : SlabC K mg C) : FnOk P w K mg base CX0 1 f fd ["self"] (spLen C) := by
  refine F.ok sc_len (fun vs H Q E h => ?_) (fun cdv A outer s H vs Q E hr h => ?_)
  · obtain ⟨p, l, xs, L, rfl, _⟩ := h
    rfl
  · obtain ⟨p, l, xs, L, rfl, ⟨⟨dx, e⟩, el⟩, q⟩ := h
    exact ⟨_, (pss_one (ps_ret (pe_callB call_len_seq (by rfl) B.b_len (by decide +kernel) (pa_cons (pe_fld (pv 0) rfl) pa_nil)))), ⟨_, rfl, p, C, dx, _, _, rfl, e, T.cl, T.nP, pk_pairs l L, l, xs, rfl, .inl (SqL.of el), q⟩⟩
theorem ok_classes {C f : Addr} {fd : FuncData} (F : Fun K "classes" "Slab.classes" s_classes f fd) (B : Bi mg) (T : SlabC K mg C) : FnOk P w K mg base CX0 1 f fd ["self"] (spClasses C) := by
  refine F.ok sc_classes (fun vs H Q E h => ?_) (fun cdv A outer s H vs Q E hr h => ?_)
  · obtain ⟨p, l, xs, L, rfl, _⟩ := h
    rfl
  · obtain ⟨p, l, xs, L, rfl, ⟨⟨dx, e⟩, el⟩, q⟩ := h
    exact ⟨_, (pss_one (ps_ret (pe_callTy call_list_of (by rfl) B.b_list (by decide +kernel) (pa_cons (pe_fld (pv 0) rfl) pa_nil)))), ⟨_, rfl, p, C, dx, _, _, rfl, e, T.cl, T.nP, pk_pairs l L, l, xs, rfl, .inl (SqL.of el), fun a na => q a _ na (same_upd na) upd_same⟩⟩
theorem ok_limit {C f : Addr} {fd : FuncData} (F : Fun K "limit" "Slab.limit" s_limit f fd) (T : SlabC K mg C) : FnOk P w K mg base CX0 1 f fd ["self"] (spLimit C) := by
  refine F.ok sc_limit (fun vs H Q E h => ?_) (fun cdv A outer s H vs Q E hr h => ?_)
  · obtain ⟨p, l, xs, L, rfl, _⟩ := h
    rfl
  · obtain ⟨p, l, xs, L, rfl, ⟨⟨dx, e⟩, el⟩, q⟩ := h
    exact ⟨_, (pss_one (ps_ret (pe_fld (pv 0) rfl))), ⟨_, rfl, p, C, dx, _, _, rfl, e, T.cl, T.nB, pk_bound l L, q⟩⟩
theorem ok_eq {C f : Addr} {fd : FuncData} (F : Fun K "__eq__" "Slab.__eq__" s_eq f fd) (B : Bi mg) (T : SlabC K mg C) : FnOk P w K mg base CX0 1 f fd ["self", "other"] (spEqS C) := by
  refine F.ok sc_eq (fun vs H Q E h => ?_) (fun cdv A outer s H vs Q E hr h => ?_)
  · obtain ⟨p, l, xs, ps, L, y, rfl, _⟩ := h
    rfl
  · obtain ⟨p, l, xs, ps, L, y, rfl, ⟨⟨dx, e⟩, el⟩, hps, hle, hy⟩ := h
    refine ⟨_, (pss_one (ps_ret (pe_and (pe_callB call_isi (by rfl) B.b_isinstance (by decide +kernel) (pa_cons (pv 1) (pa_cons (pe_glob (v := V.ref C) rfl T.gC rfl) pa_nil))) (pe_and (pe_cmpR (op_eqD hr.units) (pe_fld (pv 0) rfl) (pe_fld (pv 1) rfl) (nomark _)) (pe_one (pe_cmpR op_eq (pe_fld (pv 0) rfl) (pe_fld (pv 1) rfl) (nomark _))))))), ?_⟩
    rcases hy with ⟨t, zs, rfl, et, q⟩ | ⟨p', l', xs', ps', L', rfl, ⟨⟨dx', e'⟩, el'⟩, hps', hle', q⟩
    · exact ⟨_, rfl, .ref t, .ref C, .type "tuple", .ref C, _, rfl, .own _, .base (.tup et), T.kT, _, rfl, iteF q⟩
    · refine ⟨_, rfl, .ref p', .ref C, .ref C, .ref C, _, rfl, .own _, T.ty e', T.kI, _, rfl, iteT ?_⟩
      refine ⟨_, rfl, p, C, dx, _, _, rfl, e, T.cl, T.nP, pk_pairs l L, _, rfl, p', C, dx', _, _, rfl, e', T.cl, T.nP, pk_pairs l' L', _, _, .lst (SqL.of el) (dpPairs hps), .lst (SqL.of el') (dpPairs hps'), dPairs_shaped ps, dPairs_shaped ps', _, rfl, ?_⟩
      rw [dPairs_eqv]
      by_cases c : ps = ps'
      · rw [decide_eq_true c, Bool.true_and] at q
        rw [decide_eq_true c]
        refine iteT ?_
        refine ⟨_, rfl, p, C, dx, _, _, rfl, e, T.cl, T.nB, pk_bound l L, _, rfl, p', C, dx', _, _, rfl, e', T.cl, T.nB, pk_bound l' L', rfl, ?_⟩
        have z : decide (V.int L = V.int L') = decide (L = L') := decide_eq_decide.mpr ⟨V.int.inj, congrArg V.int⟩
        show Q (.bl (decide (V.int L = V.int L'))) H
        rw [z]
        exact q
      · rw [decide_eq_false c, Bool.false_and] at q
        rw [decide_eq_false c]
        exact iteF q
theorem ok_cls {C CN f f1 fN : Addr} {fd d1 dN : FuncData} (F : Fun K "size_class" "Slab.size_class" s_size_class f fd) (B : Bi mg) (T : SlabC K mg C)
    (G1 : FnOk P w K mg base CX0 1 f1 d1 ["value", "low", "high"] spBetween) (m1 : mg "is_between" = some (.ref f1)) (k1 : PySem.W.keepIn K (.ref f1) = true) (b1 : Binds K d1 ["value", "low", "high"] [])
    (XNoClass : XCls K CN fN "number") (INoClass : FnOk P w K mg base CX0 1 fN dN ["self", "number"] (spIni CN "number")) (biNoClass : Binds K dN ["self", "number"] []) (gNoClass : mg "NoClass" = some (.ref CN)) : FnOk P w K mg base (L2N.CX P w) 3 f fd ["self", "number"] (spCls C CN) := by
  refine F.okXN sc_size_class (fun vs H Q E h => ?_) (fun cdv A outer s H vs Q E hr h => ?_)
  · obtain ⟨p, l, xs, L, x, rfl, _⟩ := h
    rfl
  · obtain ⟨p, l, xs, L, x, rfl, ⟨⟨dx, e⟩, el⟩, hx, kQ, kE⟩ := h
    refine ⟨_, (pss_cons (ps_if (pt_not (pt_val (pe_call G1 (hr.mono (by decide)) rfl m1 k1 b1 .nil pass0 (pa_cons (pv 1) (pa_cons pe_int (pa_cons (pe_op op_sub (pe_callB call_len_seq (by rfl) B.b_len (by decide +kernel) (pa_cons (pe_fld (pv 0) rfl) pa_nil)) pe_int) pa_nil)))))) (pss_one (ps_raiseXN rfl (L2N.takes_of rfl rfl rfl rfl) XNoClass INoClass (hr.mono (by decide)) biNoClass rfl gNoClass (pa_cons (pv 1) pa_nil))) pss_nil)
      (pss_one (ps_ret (pe_ix ix_list (pe_fld (pv 0) rfl) (pv 1) (fun _ _ => rfl))))), ?_⟩
    refine ⟨x, rfl, _, rfl, p, C, dx, _, _, rfl, e, T.cl, T.nP, pk_pairs l L, l, xs, rfl, .inl (SqL.of el), _, _, rfl, rfl, x, 0, _, rfl, hx, _, rfl, ?_⟩
    cases c : inB x 0 ((xs.length : Int) - 1) with
    | false => exact iteT ⟨_, rfl, _, rfl, kE c⟩
    | true =>
      refine iteF ?_
      obtain ⟨i, rfl⟩ := inB_int c
      obtain ⟨j, rfl, hj⟩ := inB_nat c
      refine ⟨_, rfl, p, C, dx, _, _, rfl, e, T.cl, T.nP, pk_pairs l L, _, rfl, l, xs, j, xs[j], rfl, rfl, SqL.of el, atI_nat (List.getElem?_eq_getElem hj), ?_⟩
      exact kQ j _ rfl (List.getElem?_eq_getElem hj)
theorem ok_bytes_of {C CN f fS : Addr} {fd dS : FuncData} (F : Fun K "bytes_of" "Slab.bytes_of" s_bytes_of f fd) (T : SlabC K mg C) (GS : FnOk P w K mg base (L2N.CX P w) 3 fS dS ["self", "number"] (spCls C CN)) (mS : Meth K C "size_class" fS) (bS : Binds K dS ["self", "number"] []) :
    FnOk P w K mg base (L2N.CX P w) 4 f fd ["self", "number"] (spBytes C CN true) := by
  refine F.okXN sc_bytes_of (fun vs H Q E h => ?_) (fun cdv A outer s H vs Q E hr h => ?_)
  · obtain ⟨p, l, xs, ps, L, x, rfl, _⟩ := h
    rfl
  · obtain ⟨p, l, xs, ps, L, x, rfl, sl, hps, hx, kQ, kE⟩ := h
    obtain ⟨dx, e⟩ := sl.ob
    refine ⟨_, (pss_one (ps_ret (pe_ix ix_tup (pe_meth (pv 0) T.cl mS GS (hr.mono (by decide)) bS .nil (L2N.passes_call (L2N.takes_of rfl rfl rfl rfl) (fun _ _ _ _ h => h)) (pa_cons (pv 1) pa_nil)) pe_int (fun _ _ => rfl)))), ?_⟩
    refine ⟨_, rfl, p, dx, _, rfl, e, pk_no _ _ (by decide +kernel) (by decide +kernel), x, rfl, p, l, xs, L, x, rfl, sl, hx, fun i y ex hy => ?_, fun c => kE (by rw [← Paired.length hps]; exact c)⟩
    obtain ⟨q, hq, t, rfl, et⟩ := pairs_get hps hy
    exact ⟨t, _, 0, _, rfl, rfl, SqT.of et, rfl, kQ i q ex hq⟩
theorem ok_slots_of {C CN f fS : Addr} {fd dS : FuncData} (F : Fun K "slots_of" "Slab.slots_of" s_slots_of f fd) (T : SlabC K mg C) (GS : FnOk P w K mg base (L2N.CX P w) 3 fS dS ["self", "number"] (spCls C CN)) (mS : Meth K C "size_class" fS) (bS : Binds K dS ["self", "number"] []) :
    FnOk P w K mg base (L2N.CX P w) 4 f fd ["self", "number"] (spBytes C CN false) := by
  refine F.okXN sc_slots_of (fun vs H Q E h => ?_) (fun cdv A outer s H vs Q E hr h => ?_)
  · obtain ⟨p, l, xs, ps, L, x, rfl, _⟩ := h
    rfl
  · obtain ⟨p, l, xs, ps, L, x, rfl, sl, hps, hx, kQ, kE⟩ := h
    obtain ⟨dx, e⟩ := sl.ob
    refine ⟨_, (pss_one (ps_ret (pe_ix ix_tup (pe_meth (pv 0) T.cl mS GS (hr.mono (by decide)) bS .nil (L2N.passes_call (L2N.takes_of rfl rfl rfl rfl) (fun _ _ _ _ h => h)) (pa_cons (pv 1) pa_nil)) pe_int (fun _ _ => rfl)))), ?_⟩
    refine ⟨_, rfl, p, dx, _, rfl, e, pk_no _ _ (by decide +kernel) (by decide +kernel), x, rfl, p, l, xs, L, x, rfl, sl, hx, fun i y ex hy => ?_, fun c => kE (by rw [← Paired.length hps]; exact c)⟩
    obtain ⟨q, hq, t, rfl, et⟩ := pairs_get hps hy
    exact ⟨t, _, 1, _, rfl, rfl, SqT.of et, rfl, kQ i q ex hq⟩
end
end K03
set_option Elab.async false
set_option linter.all false
set_option maxRecDepth 100000
set_option maxHeartbeats 4000000
namespace XV
open PySem PySem.Spec PyProof.Rows L2 LamX
/-! ### defs from which a text of a value is asked: nothing may be under way that a text's writing would see -/
structure FnG (P : Program) (w : World) (K : PySem.W.Frag) (mg : Str → Option Value) (base : Heap) (CX : CXT) (k : Nat) (f : Addr) (fd : FuncData) (ps : List Str) (sp : Sp) : Prop where
  len : ∀ vs H Q E, sp vs H Q E → vs.length = ps.length
  run : ∀ (A : Around) (outer : List Env) (s : Shared) (H : Hp) (args : Args) (us : List Value) (vs : List V) (Q : VK) (E : XK), A.guards = some [] → Room k A →
    Env0 P w K mg base A outer s H → BindsTo s fd args (ps.zip us) → Vals vs us → sp vs H Q E → codeAny (model P w) A (.call (.ref f) args) (CR CX outer P w H s Q E) s
section
variable {P : Program} {w : World} {K : PySem.W.Frag} {mg : Str → Option Value} {base : Heap}
theorem FnG.of {CX : CXT} {k : Nat} {f : Addr} {fd : FuncData} {ps : List Str} {sp : Sp} (F : FnOk P w K mg base CX k f fd ps sp) : FnG P w K mg base CX k f fd ps sp :=
  ⟨F.len, fun A outer s H args us vs Q E _ => F.run A outer s H args us vs Q E⟩
/-- by the body -/
theorem Fun.okG {x qual : Str} {st : Stmt} {f : Addr} {fd : FuncData} {N ps : List Str} {k : Nat} {sp : Sp} (F : Fun K x qual st f fd) (S : FnScope N ps (defScope st)) (len : ∀ vs H Q E, sp vs H Q E → vs.length = ps.length)
    (body : ∀ (cdv : Value) (A : Around) (outer : List Env) (s : Shared) (H : Hp) (vs : List V) (Q : VK) (E : XK), A.guards = some [] → Room k (A.deeper (envOfC qual (defScope st) s.heap.objs.size f cdv)) → sp vs H Q E →
      ∃ t, PSs (cxOf CX0 P w K mg base N qual (defScope st) f cdv A outer s H E).nox (defBody st) t ∧ t { nx := fun _ H' => Q .non H', rt := Q } (start N vs) H) : FnG P w K mg base CX0 (k + 1) f fd ps sp := by
  obtain ⟨oc, od, kV, doc, pm, an, cdv, ct, osl, rfl, lk, hcd⟩ := F.ex
  refine ⟨len, fun A outer s H args us vs Q E hg hr e0 hb rv hs => ?_⟩
  have inK : K.In s.heap := e0.mod.kin.keeps fun b o e => (e0.bs b o e).1
  have nl : s.heap.NoLimit := e0.mod.nolimit.keeps fun b o e => (e0.bs b o e).1
  obtain ⟨t, ht, q⟩ := body cdv A outer s H vs Q E hg (hr.deeper _) hs
  refine codeAny_call_function hr.depth (inK _ _ lk) rfl S.co S.gen rfl (PySem.W.codeRec_of inK hcd) (hb _ _ _ _ ?_)
  refine wpAny_newFunctionEnv_cells S.kind (fun y hy => ?_) fun env ee s1 x => ?_
  · rcases S.par y.1 (List.of_mem_zip (show (y.1, y.2) ∈ ps.zip us from hy)).1 with z | z
    · exact .inl z
    · exact .inr ⟨z, PySem.W.cellsFrom_some _ _ _ (.inl z)⟩
  subst ee
  have I0 : Inv (cxOf CX0 P w K mg base N qual (defScope st) f cdv A outer s H E) [] (start N vs) H s1 := inv_start S hr.hd e0 (len _ _ _ _ hs) rv x
  refine ⟨nl.keeps x.toInCall.keep, codeAny_func (wpAny_mono (ht.nox.run [] s1 (start N vs) H _ I0 q) (fun fl s' z => ?_) fun e s' z => z)⟩
  cases fl with
  | ret u => exact let ⟨v, _, H', J, rv', q'⟩ := z; ⟨v, H', J.os, J.bare, J.base, J.hok, rv', q'⟩
  | next => exact let ⟨_, H', J, q'⟩ := z; ⟨.non, H', J.os, J.bare, J.base, J.hok, rfl, q'⟩
  | brk => exact False.elim (let ⟨_, _, _, q'⟩ := z; q')
  | cont => exact False.elim (let ⟨_, _, _, q'⟩ := z; q')
end
section
variable {X : Cx} {CX : CXT} {k : Nat} {f : Addr} {fd : FuncData} {ps : List Str} {sp : Sp} {dvs : List V} {ds : List Value} {E : XK} {x : Str} {p pos : Pos} {e : Expr} {es : List Expr} {t : TA}
theorem run_fnG {pins : List (Addr × Obj)} {σ : L2.St} {H : Hp} {s : Shared} {Q : VK} {us : List Value} {vs : List V} (F : FnG X.prog X.w X.K X.mg X.base CX k f fd ps sp) (hg : X.A.guards = some []) (hr : Room k X.A) (hb : Binds X.K fd ps ds) (hd : Vals dvs ds) (hx : Passes CX X E)
    (I : Inv X pins σ H s) (r : Vals vs us) (h : sp (vs ++ dvs) H Q E) : wpAny (model X.prog X.w) X.A (call (.ref f) us) (EP X pins σ Q) X.xe s := by
  have both : Vals (vs ++ dvs) (us ++ ds) := r.append hd
  have n1 : (us ++ ds).length = ps.length := both.length.symm.trans (F.len _ _ _ _ h)
  refine wpAny_call (codeAny_mono (F.run X.A X.stack s H ⟨us, []⟩ (us ++ ds) (vs ++ dvs) Q E hg hr I.env0 (hb s us I.kIn n1) both h) fun o s' ho => ?_)
  match o, ho with
  | .error e, ho => exact hx pins σ H s e s' I ho
  | .ok (.ret u), ho => exact I.after ho
theorem pe_callG (F : FnG X.prog X.w X.K X.mg X.base CX k f fd ps sp) (hgd : X.A.guards = some []) (hr : Room k X.A) (hg : Gl X x) (hm : X.mg x = some (.ref f)) (hk : PySem.W.keepIn X.K (.ref f) = true) (hb : Binds X.K fd ps ds) (hd : Vals dvs ds) (hx : Passes CX X E)
    (ha : PA X (e :: es) t) (hdb : (x == ("__debug__" : Str)) = false := by decide) (he : starEach (e :: es) X.env = (false, eval e X.env) :: starEach es X.env := by rfl) (hpl : (backTo pos (starEach es X.env)).any (·.1) = false := by rfl) :
    PE X (.Call (.Name x p) (e :: es) [] pos) (tCall sp dvs E t) :=
  ⟨fun pins s σ H Q I h => wpAny_Call_Name_kw (ld_glob I hg hm (PySem.W.callWith_K (h₀ := X.base) I.ok.mod.kin hk (thn (ha.run pos pins s σ H _ I h) fun us s1 ⟨vs, H1, I1, r, q⟩ => ⟨I1.kIn, run_fnG F hgd hr hb hd hx I1 r q⟩) he hpl) hdb)⟩
end
/-! ### the text of a value -/
def rRepr (K : PySem.W.Frag) : List V → Hp → VK → Prop := fun xs H Q => ∃ (a : Addr) (d : PyData), xs = [.ref a] ∧ Dp K H (.ref a) d ∧ d.showable = true ∧ d.hasDict = false ∧ d.depth ≤ 64 ∧ d.shown.length ≤ sizeLine ∧ Q (.str d.shown) H
theorem call_repr {X : Cx} (hg : X.A.guards = some []) (hu : X.A.units + 66 < cLine) : CallR X (.builtin "repr") (rRepr X.K) := by
  intro pins s σ H xs us Q I r h
  obtain ⟨a, d, rfl, hd, h1, h2, h3, h4, q⟩ := h
  obtain ⟨u, rfl, rx⟩ := vals1 r
  obtain ⟨as, rd⟩ := Dp.reads I d _ _ hd rx
  obtain rfl : u = Value.ref a := rx
  exact repr_of_reads' rd h1 (PyData.noDict_hsm h2) hg (by omega) (fun _ _ e => e) (fun h' u tk hk => ⟨.str d.shown, H, I.kept (t' := tk) hk, ⟨_, rfl⟩, q⟩) h4
end XV
set_option Elab.async false
set_option linter.all false
set_option maxRecDepth 100000
set_option maxHeartbeats 4000000
namespace XV
open PySem PySem.Spec PyProof.Rows L2 LamX
/-- what may be tracked ahead of the law: the script's list, the empty tables of cs -/
def Ahead (cs : List (Addr × Addr)) (a : Addr) (vs : List Value) (h : Heap) (H : Hp) : Prop := ∀ b o, H b = some o →
  (b = a ∧ (∃ xs, o = .frz { cls := .type "list", data := .seq vs.toArray } (.lst xs)) ∧ h.get? b = some { cls := .type "list", data := .seq vs.toArray }) ∨
    ((∃ q ∈ cs, b = q.2 ∧ PySem.W.CodeHd h q.1 b) ∧ o = .tbl #[] ∧ h.get? b = some { cls := .none, data := .fields #[] })
section
variable {P : Program} {w : World} {K : PySem.W.Frag} {mg mb : Str → Option Value} {k : Nat} {fa a : Addr} {cs : List (Addr × Addr)} {fd : FuncData} {x : Str} {sp : Sp} {s₁ : Shared} {vs : List Value} {ns : List Int} {H : Hp}
theorem ahead_run (KX : K.In s₁.heap) (hns : s₁.heap.Ns mainGlobals mg) (hb : s₁.heap.Ns builtinsNs mb) (hbb : ∀ x : Str, x ≠ "__name__" → mb x = bootBuiltins x) (hlim : s₁.heap.NoLimit) (hg : s₁.gens = #[])
    (C : ∀ p ∈ cs, PySem.W.CodeHd s₁.heap p.1 p.2) (hbm : ∃ (bm : Addr) (ob : Obj), mg "__builtins__" = some (.ref bm) ∧ bm ≠ builtinsNs ∧ s₁.heap.get? bm = some ob ∧ ob.cls = .type "module" ∧ ob.dict = some builtinsNs ∧ ob.data = .plain)
    (hT : ∀ p ∈ cs, s₁.heap.get? p.2 = some { cls := .none, data := .fields #[] }) (hr : Room k callerA)
    (F : ∀ base : Heap, K.In base → base.Ns mainGlobals mg → (∀ p ∈ cs, TabB base mg p.1 p.2) → FnG P w K mg base CX0 k fa fd [x] sp) (hbind : ∀ (s : Shared) (u : Value), BindsTo s fd ⟨[u], []⟩ [(x, u)])
    (ah : Ahead cs a vs s₁.heap H) (hok : HOk P w H s₁.heap) (nK : ∀ b, H b ≠ none → K.lookup b = none) (hsp : sp [.ref a] H (fun v _ => v = .bl true) E0) :
    codeAny (model P w) callerA (.call (.ref fa) ⟨[.ref a], []⟩) (fun r s' => r = .ok (.ret (.bool true)) ∧ OldK s₁.heap s'.heap ∧ s'.os = s₁.os ∧ AllBare s'.gens) s₁ := by
  -- the base: all but what is tracked
  have up : ∀ {b : Addr} {o : Obj}, s₁.heap.get? b = some o → H b = none → (hidT s₁.heap H).get? b = some o := fun e n => hidT_get e n
  have un_ : ∀ {b : Addr} {o : Obj}, s₁.heap.get? b = some o → (∀ vs n, o.data ≠ .seq vs n) → o.data ≠ .fields #[] → H b = none := fun {b o} e n1 n2 => by
    cases q : H b with
    | none => rfl
    | some u =>
      exfalso
      rcases ah b u q with ⟨_, _, z⟩ | ⟨_, _, z⟩
      · rw [e] at z
        cases z
        exact n1 _ _ rfl
      · rw [e] at z
        cases z
        exact n2 rfl
  have dct : ∀ {b : Addr} {m : Str → Option Value}, s₁.heap.Ns b m → (hidT s₁.heap H).Ns b m := fun ⟨o, es, ep, e, hd, r⟩ => ⟨o, es, ep, up e (un_ e (fun _ _ z => by rw [hd] at z; cases z) fun z => by rw [hd] at z; cases z), hd, r⟩
  have inB : K.In (hidT s₁.heap H) := fun b o e => up (KX b o e) (by
    cases q : H b with
    | none => rfl
    | some u =>
      have z := nK b (by rw [q]; simp)
      rw [e] at z
      cases z)
  have tabB : ∀ p ∈ cs, TabB (hidT s₁.heap H) mg p.1 p.2 := fun p hp => by
    have ht := hT p hp
    obtain ⟨o, us, i1, i2, i3, i4, i5, i6, i7, e1, r1, r2, r3, rest⟩ := C p hp
    obtain ⟨bm, ob, b1, b2, b3, b4, b5, b6⟩ := hbm
    obtain ⟨og, es, ep, eg, hd, _⟩ := hns
    refine ⟨⟨o, us, i1, i2, i3, i4, i5, i6, i7, up e1 (un_ e1 (fun _ _ z => by rw [r2] at z; cases z) fun z => by rw [r2] at z; cases z; simp at r3), r1, r2, r3, rest⟩,
      ⟨bm, ob, b1, b2, (fun z => by rw [z, eg] at b3; cases b3; rw [hd] at b6; cases b6), (fun z => by rw [z, ht] at b3; cases b3; cases b6), up b3 (un_ b3 (fun _ _ z => by rw [b6] at z; cases z) (fun z => by rw [b6] at z; cases z)), b4, b5, b6⟩,
      fun z => by rw [z, ht] at eg; cases eg; cases hd⟩
  have modB : L2.Mod K mg (hidT s₁.heap H) := ⟨inB, dct hns, ⟨mb, dct hb, hbb⟩, let ⟨mc, h1, h2⟩ := hlim; ⟨mc, dct h1, h2⟩⟩
  have env : Env0 P w K mg (hidT s₁.heap H) callerA [] s₁ H := ⟨rfl, modB, fun b o => of_hidT, Nat.le_of_eq (hidT_size _ _), trivial, fun b z => absurd z (by unfold frs; simp), hok, .of_eq hg⟩
  refine codeAny_mono ((F _ inB (dct hns) tabB).run callerA [] s₁ H ⟨[.ref a], []⟩ [.ref a] [.ref a] _ _ rfl hr env (hbind s₁ (.ref a)) (.cons rfl .nil) hsp) fun r s' h => ?_
  match r, h with
  | .error e, h => exact (show False from h).elim
  | .ok (.ret u), ⟨v, H', os, bare, un, hok', rv, ev⟩ =>
    subst ev
    obtain rfl : u = Value.bool true := rv
    have kept : ∀ b o, s₁.heap.get? b = some o → (∀ q ∈ cs, b = q.2 → H b ≠ some (.tbl #[])) → s'.heap.get? b = some o := fun b o e nb => by
      cases q : H b with
      | none => exact un.keep b o e q (by unfold frs; simp) (by simp)
      | some u =>
        rcases ah b u q with ⟨rfl, ⟨xs, rfl⟩, z⟩ | ⟨⟨p, hp, rfl, _⟩, rfl, _⟩
        · have z2 := un.frzs _ _ _ q
          obtain ⟨e2, _⟩ := hok' _ _ z2
          rw [e] at z
          cases z
          exact e2
        · exact (nb p hp rfl q).elim
    refine ⟨rfl, ⟨fun b o e => ?_, fun b o e => ?_⟩, os, bare⟩
    · by_cases hb : ∃ q ∈ cs, b = q.2 ∧ H b = some (.tbl #[])
      · obtain ⟨p, hp, rfl, q⟩ := hb
        obtain ⟨more, z⟩ := un.tbls _ _ q
        have z2 := hok' _ _ z
        have ht := hT p hp
        rw [ht] at e
        cases e
        exact .inr (.inl ⟨((C p hp).tab ht).isCodeTable, rfl, #[], #[] ++ more, rfl, by rw [Array.empty_append]; exact z2⟩)
      · exact .inl (kept b o e fun p hp eb z => hb ⟨p, hp, eb, z⟩)
    · by_cases hb : ∃ q ∈ cs, b = q.2 ∧ H b = some (.tbl #[])
      · obtain ⟨p, hp, rfl, q⟩ := hb
        obtain ⟨more, z⟩ := un.tbls _ _ q
        exact ⟨_, hok' _ _ z⟩
      · exact ⟨o, kept b o e fun p hp eb z => hb ⟨p, hp, eb, z⟩⟩
/-- the call of the law -/
theorem law_callY (KX : K.In s₁.heap) (hns : s₁.heap.Ns mainGlobals mg) (hb : s₁.heap.Ns builtinsNs mb) (hbb : ∀ x : Str, x ≠ "__name__" → mb x = bootBuiltins x) (hlim : s₁.heap.NoLimit) (hg : s₁.gens = #[])
    (C : ∀ p ∈ cs, PySem.W.CodeHd s₁.heap p.1 p.2) (hbm : ∃ (bm : Addr) (ob : Obj), mg "__builtins__" = some (.ref bm) ∧ bm ≠ builtinsNs ∧ s₁.heap.get? bm = some ob ∧ ob.cls = .type "module" ∧ ob.dict = some builtinsNs ∧ ob.data = .plain)
    (hT : ∀ p ∈ cs, s₁.heap.get? p.2 = some { cls := .none, data := .fields #[] }) (nT : ∀ p ∈ cs, K.lookup p.2 = none) (hr : Room k callerA)
    (F : ∀ base : Heap, K.In base → base.Ns mainGlobals mg → (∀ p ∈ cs, TabB base mg p.1 p.2) → FnG P w K mg base CX0 k fa fd [x] sp) (hbind : ∀ (s : Shared) (u : Value), BindsTo s fd ⟨[u], []⟩ [(x, u)])
    (ha : s₁.heap.get? a = some { cls := .type "list", data := .seq vs.toArray }) (hi : IntsAre vs ns) (hl : ns.length ≤ sizeLine)
    (hsp : ∀ H : Hp, (∀ p ∈ cs, H p.2 = some (.tbl #[])) → SqL K H a (ns.map V.int) → sp [.ref a] H (fun v _ => v = .bl true) E0) :
    codeAny (model P w) callerA (.call (.ref fa) ⟨[.ref a], []⟩) (fun r s' => r = .ok (.ret (.bool true)) ∧ OldK s₁.heap s'.heap ∧ s'.os = s₁.os ∧ AllBare s'.gens) s₁ := by
  have rv := vals_ints hi
  have lv := hi.length
  have aT : a ∉ cs.map (·.2) := fun z => by
    obtain ⟨p, hp, e⟩ := List.mem_map.mp z
    have q := hT p hp
    rw [e, ha] at q
    have q2 : Data.seq vs.toArray _ = Data.fields #[] := congrArg Obj.data (Option.some.inj q)
    cases q2
  have tab : ∀ {b : Addr}, b ∈ cs.map (·.2) → (∃ q ∈ cs, b = q.2 ∧ PySem.W.CodeHd s₁.heap q.1 b) ∧ s₁.heap.get? b = some { cls := .none, data := .fields #[] } ∧ K.lookup b = none := fun hb => by
    obtain ⟨p, hp, rfl⟩ := List.mem_map.mp hb
    exact ⟨⟨p, hp, rfl, C p hp⟩, hT p hp, nT p hp⟩
  have inT : ∀ p ∈ cs, p.2 ∈ cs.map (·.2) := fun p hp => List.mem_map.mpr ⟨p, hp, rfl⟩
  cases hk : K.lookup a with
  | some o =>
    have e := KX a o hk
    rw [ha] at e
    cases e
    have at_ : ∀ b u, (if b ∈ cs.map (·.2) then some (HO.tbl #[]) else none) = some u → b ∈ cs.map (·.2) ∧ u = .tbl #[] := fun b u z => by
      by_cases hb : b ∈ cs.map (·.2)
      · rw [if_pos hb] at z
        exact ⟨hb, (Option.some.inj z).symm⟩
      · rw [if_neg hb] at z
        cases z
    refine ahead_run (H := fun b => if b ∈ cs.map (·.2) then some (.tbl #[]) else none) (vs := vs) KX hns hb hbb hlim hg C hbm hT hr F hbind (fun b u z => ?_) (fun b u z => ?_) (fun b z => ?_) (hsp _ (fun p hp => if_pos (inT p hp)) (.inr ⟨_, vs.toArray, _, hk, rfl, rfl, rfl, by rw [List.size_toArray, lv]; exact hl, by simpa using rv⟩))
    · obtain ⟨hb, rfl⟩ := at_ b u z
      exact .inr ⟨(tab hb).1, rfl, (tab hb).2.1⟩
    · obtain ⟨hb, rfl⟩ := at_ b u z
      exact (tab hb).2.1
    · cases q : (if b ∈ cs.map (·.2) then some (HO.tbl #[]) else none) with
      | none => exact absurd q z
      | some u => exact (tab (at_ b u q).1).2.2
  | none =>
    have at_ : ∀ b u, (if b = a then some (HO.frz { cls := .type "list", data := .seq vs.toArray } (.lst (ns.map V.int))) else if b ∈ cs.map (·.2) then some (.tbl #[]) else none) = some u →
        (b = a ∧ u = .frz { cls := .type "list", data := .seq vs.toArray } (.lst (ns.map V.int))) ∨ b ∈ cs.map (·.2) ∧ u = .tbl #[] := fun b u z => by
      by_cases h1 : b = a
      · rw [if_pos h1] at z
        exact .inl ⟨h1, (Option.some.inj z).symm⟩
      · rw [if_neg h1] at z
        by_cases hb : b ∈ cs.map (·.2)
        · rw [if_pos hb] at z
          exact .inr ⟨hb, (Option.some.inj z).symm⟩
        · rw [if_neg hb] at z
          cases z
    refine ahead_run (H := fun b => if b = a then some (.frz { cls := .type "list", data := .seq vs.toArray } (.lst (ns.map V.int))) else if b ∈ cs.map (·.2) then some (.tbl #[]) else none) (vs := vs) KX hns hb hbb hlim hg C hbm hT hr F hbind (fun b u z => ?_) (fun b u z => ?_) (fun b z => ?_)
      (hsp _ (fun p hp => by rw [if_neg fun e => aT (by rw [← e]; exact inT p hp)]; exact if_pos (inT p hp)) (.inl (.inr ⟨{ cls := .type "list", data := .seq vs.toArray }, if_pos rfl⟩)))
    · rcases at_ b u z with ⟨rfl, rfl⟩ | ⟨hb, rfl⟩
      · exact .inl ⟨rfl, ⟨_, rfl⟩, ha⟩
      · exact .inr ⟨(tab hb).1, rfl, (tab hb).2.1⟩
    · rcases at_ b u z with ⟨rfl, rfl⟩ | ⟨hb, rfl⟩
      · exact ⟨ha, by rw [List.length_map]; exact hl, vs, _, rv, ha⟩
      · exact (tab hb).2.1
    · cases q : (if b = a then some (HO.frz { cls := .type "list", data := .seq vs.toArray } (.lst (ns.map V.int))) else if b ∈ cs.map (·.2) then some (.tbl #[]) else none) with
      | none => exact absurd q z
      | some u =>
        rcases at_ b u q with ⟨rfl, _⟩ | ⟨hb, _⟩
        · exact hk
        · exact (tab hb).2.2
end
/-- what is known of the law's promise behind the top -/
def LawAtG (l : PySem.W.OpenLaw) (w : World) (K : PySem.W.Frag) (k n : Nat) (x : Str) (mg : Str → Option Value) (fa : Addr) (h : Heap) : Prop :=
  ∃ (fd : FuncData) (cs : List (Addr × Addr)) (sp : Sp), (∀ p ∈ cs, h.get? p.2 = some { cls := .none, data := .fields #[] }) ∧ (∀ p ∈ cs, K.lookup p.2 = none) ∧ (∀ p ∈ cs, PySem.W.CodeHd h p.1 p.2) ∧ (∀ (s : Shared) (u : Value), BindsTo s fd ⟨[u], []⟩ [(x, u)]) ∧
    (∀ (H : Hp) (a : Addr) (ns : List Int), ns.length ≤ n → (∀ z ∈ ns, Builtin.Int.intBits z ≤ 1048576) → (∀ p ∈ cs, H p.2 = some (.tbl #[])) → SqL K H a (ns.map V.int) → sp [.ref a] H (fun v _ => v = .bl true) E0) ∧
    ∀ base : Heap, K.In base → base.Ns mainGlobals mg → (∀ p ∈ cs, TabB base mg p.1 p.2) → FnG l.prog w K mg base CX0 k fa fd [x] sp
/-- the table of code objects of the def y of the top: empty -/
def TabOf (h : Heap) (mg : Str → Option Value) (y : Str) : Prop := ∃ (fb : Addr) (o : Obj) (fd : FuncData) (c P : Addr), mg y = some (.ref fb) ∧ h.get? fb = some o ∧ o.data = .func fd ∧ fd.code = .ref c ∧ PySem.W.CodeHd h c P ∧ h.get? P = some { cls := .none, data := .fields #[] }
theorem no_tab {K : PySem.W.Frag} {h : Heap} {P : Addr} (X : K.In h) (n : PySem.W.noTabs K = true) (e : h.get? P = some { cls := .none, data := .fields #[] }) : K.lookup P = none := by
  cases q : K.lookup P with
  | none => rfl
  | some o =>
    have e2 := X _ _ q
    rw [e] at e2
    cases e2
    have h2 := List.all_eq_true.mp n (P, _) (PySem.W.mem_of_lookupK q)
    exact absurd (show false = true from h2) Bool.false_ne_true
/-- the end; ys: the defs that make lambdas -/
theorem walk_G {l : PySem.W.OpenLaw} {n k : Nat} {q : Program} {loose : List Str} {XP : (Str → Option Value) → Heap → Prop} {YP : World → Heap → Prop} {d : DefRec} {K : Params → PySem.W.Frag} {x : Str} (ys : List Str)
    (hn : l.most = some n) (hn2 : n ≤ sizeLine) (hdf : d.params.defaults = []) (hr : Room k callerA) (hrec : (ys.all fun y => (recsOf q).any fun e => e.name == y) = true) (hY : ∀ (w : World) (h : Heap), YP w h → (K w.params).In h)
    (F : ∀ (w : World) (mg : Str → Option Value) (fa : Addr) (h : Heap), (K w.params).In h → h.Ns mainGlobals mg → mg d.name = some (.ref fa) → (∀ y ∈ ys, TabOf h mg y) → LawAtG l w (K w.params) k n x mg fa h) :
    PySem.W.WalkO q loose XP YP l.row.toRowW d [] (fun f vs => PySem.call f vs) := by
  refine Att.attach_callB hn hdf fun w s₀ s₁ mg mb fa o pm cd doc a vs ns G Y ho hd hcd hmg hobj hints hlen hbits hg => ?_
  have KX := hY w _ Y
  obtain ⟨fd, cs, sp, hT, nT, C, hb, hsp, hF⟩ := F w mg fa _ KX G.T.g hmg fun y hy => by
    obtain ⟨dL, hm, e⟩ := List.any_eq_true.mp (List.all_eq_true.mp hrec y hy)
    obtain ⟨a', o', fd', c', P', h1, h2, h3, h4, h5, h6⟩ := G.T.tab dL hm
    rw [show dL.name = y from beq_iff_eq.mp e] at h1
    exact ⟨a', o', fd', c', P', h1, h2, h3, h4, PySem.W.CodeHd.of h5 h6, h6.2⟩
  exact law_callY KX G.T.g G.T.b G.T.builtins G.T.nolimit hg C G.T.bmain hT nT hr hF hb hobj hints (Nat.le_trans hlen hn2) fun H hH hS => hsp H a ns hlen hbits hH hS
end XV
set_option Elab.async false
set_option linter.all false
set_option maxRecDepth 100000
set_option maxHeartbeats 4000000
/-! list comprehensions with any number of for's -/
namespace XV
open PySem PySem.Spec PyProof.Rows L2
abbrev TB := Addr → L2.St → Hp → (Hp → Prop) → Prop
/-- what stands behind the tests of a clause reaches what is wanted; the slots of vi may be lost -/
def RunsTo (Y : Cx) (run : Sem Fin → Sem Fin) (tb : L2.St → Hp → (Hp → Prop) → Prop) (vi : List Nat) : Prop := ∀ (pins : List (Addr × Obj)) (s : Shared) (σ : L2.St) (H : Hp) (N : Hp → Prop) (k : Sem Fin) (Qf : Fin → Shared → Prop) (E : Value → Shared → Prop), Inv Y pins σ H s → tb σ H N →
  (∀ (s' : Shared) (σ' : L2.St) (H' : Hp), Inv Y pins σ' H' s' → σ'.length = σ.length → (∀ (j : Nat) v, j ∉ vi → σ[j]? = some (some v) → σ'[j]? = some (some v)) → N H' → wpAny (model Y.prog Y.w) Y.A k Qf E s') → wpAny (model Y.prog Y.w) Y.A (run k) Qf E s
/-- the walk of one clause -/
def tWalk (g : TG) (tt : TT) (tb : L2.St → Hp → (Hp → Prop) → Prop) (vs : List Nat) (σ : L2.St) (J : It) (H : Hp) (Nx : Hp → Prop) : Prop := ∃ W : Nat → Nat → Hp → Prop, (∃ m, W 0 m H) ∧ ∀ i m H, W i m H →
  (J.stop i H ∧ Nx H) ∨ (J.go i H ∧ ∃ N : Hp → Prop, (∀ H', N H' → ∃ m', m' < m ∧ W (i + 1) m' H') ∧ ∀ x H', J.yld i H x H' → g x (wipe σ vs) H' fun σ2 H2 => wipe σ2 vs = wipe σ vs ∧ tt σ2 H2 fun b H3 => if b = true then tb σ2 H3 N else N H3)
/-- a clause's loop, its turn written out -/
def TurnIs (c : Expr) (j : Nat) (p : Pos) (tg : Expr) (ifs : List Expr) (env : Env) (acc : Value) (run : Sem Fin → Sem Fin) : Prop := ∀ it : Value, compTurn c j it acc env = (do
  standAt p
  match ← pyNext it with
  | none => pure (.done .next)
  | some v =>
    letOwnedTupleGo tg it v
    assign tg env v
    let ok ← (forIn ifs true fun c r => if r = true then do let ok ← isTrue c env (eval c env); pure (ForInStep.yield ok) else pure (ForInStep.yield r) : Sem Bool)
    if ok = true then run (again (.compLoop c j it acc env))
    else again (.compLoop c j it acc env))
theorem thnX {Y : Cx} {α : Type} {t : Sem α} {Q Q' : α → Shared → Prop} {E : Value → Shared → Prop} {s : Shared} (hx : Y.xe = fun _ _ => False) (h : wpAny (model Y.prog Y.w) Y.A t Q Y.xe s) (k : ∀ a s, Q a s → Q' a s) : wpAny (model Y.prog Y.w) Y.A t Q' E s := by
  rw [hx] at h
  exact thnF h k
theorem loop_c {Y : Cx} (hc : Y.calm = true) (hx : Y.xe = fun _ _ => False) {elt tg : Expr} {gens : List Comprehension} {scope : Scope} {pos : Pos} {ifs : List Expr} {j : Nat} {p : Pos} {acc : Value} {run : Sem Fin → Sem Fin} {g : TG} {tt : TT} {tb : L2.St → Hp → (Hp → Prop) → Prop} {vs vi : List Nat} {J : It} {fp : List Addr} {it : Addr} {tn : Nat → Heap → Prop}
    (heq : TurnIs (.ListComp elt gens scope pos) j p tg ifs Y.env acc run) (T : Turn Y.prog Y.w Y.K tg J fp it tn) (pg : PG Y tg g) (pt : PTs Y ifs tt) (rb : RunsTo Y run tb vi) (hv : ∀ i ∈ vi, i ∈ vs)
    {pins : List (Addr × Obj)} {σ : L2.St} {H : Hp} {s : Shared} {Nx : Hp → Prop} (I : Inv Y pins (wipe σ vs) H s) (st : tn 0 s.heap) (n0 : ∀ b ∈ fp, H b = none)
    (fo : ∀ (H' : Hp) (σ' : L2.St) (s' : Shared), Inv Y pins σ' H' s' → (∀ b ∈ fp, H' b = none) → ∀ b ∈ fp, FpOk Y pins H' b) (h : tWalk g tt tb vs σ J H Nx) :
    codeAny (model Y.prog Y.w) Y.A (.compLoop (.ListComp elt gens scope pos) j (.ref it) acc Y.env) (fun r s' => match r with
      | .ok _ => ∃ H', Inv Y pins (wipe σ vs) H' s' ∧ Nx H'
      | .error _ => False) s := by
  obtain ⟨W, ⟨m0, w0⟩, turn⟩ := h
  refine codeAny_loop rfl (fun n s' => ∃ i H', Inv Y pins (wipe σ vs) H' s' ∧ tn i s'.heap ∧ (∀ b ∈ fp, H' b = none) ∧ W i n H') (fun n s1 hI => ?_) m0 ⟨0, H, I, st, n0, w0⟩
  obtain ⟨i, H1, I1, st1, n1, w1⟩ := hI
  show wpAny _ Y.A ((compTurn (.ListComp elt gens scope pos) j (.ref it) acc Y.env).onRaise (fun x => do noteFrame x Y.env; theTreesLotGoes x)) _ _ s1
  refine wpAny_noted ?_
  rw [heq]
  refine wpAny_bind (wpAny_standAt (wpAny_bind ?_))
  rcases turn i n H1 w1 with ⟨stop, hn⟩ | ⟨go, N, hN, step⟩
  · refine thnF (T.done Y rfl rfl rfl hc i pins s1 _ H1 (fun _ _ => False) I1 (fo _ _ _ I1 n1) st1 stop) fun r s2 ⟨er, I2⟩ => ?_
    subst er
    exact wpAny_pure ⟨H1, I2, hn⟩
  · refine thnF (T.item Y rfl rfl rfl hc i pins s1 _ H1 (fun _ _ => False) I1 (fo _ _ _ I1 n1) st1 go) fun r s2 ⟨u, er, h2⟩ => ?_
    subst er
    refine wpAny_bind (thnF h2 fun _ s3 ⟨x, H3, I3, r3, y3, st3, n3⟩ => ?_)
    have I3' := I3.pinned (fo _ _ _ I3 n3) (T.obj _ _ st3)
    refine wpAny_bind (thnX hx (pg.run _ s3 _ H3 x u _ I3' r3 (step x H3 y3)) fun _ s4 ⟨σ4, H4, I4, hw, q4⟩ => ?_)
    refine wpAny_bind (thnX hx (pt.run _ s4 σ4 H4 _ I4 q4) fun b s5 ⟨H5, I5, q5⟩ => ?_)
    have fin : ∀ {σ' : L2.St} {s' : Shared} {H' : Hp}, Inv Y (pins ++ pinsAt fp s3.heap) σ' H' s' → σ'.length = σ4.length → (∀ (k : Nat) v, k ∉ vi → σ4[k]? = some (some v) → σ'[k]? = some (some v)) → N H' →
        ∃ m, m < n ∧ ∃ i H', Inv Y pins (wipe σ vs) H' s' ∧ tn i s'.heap ∧ (∀ b ∈ fp, H' b = none) ∧ W i m H' := fun {σ' s' H'} I' hl hk nx => by
      obtain ⟨m', lt, w'⟩ := hN H' nx
      have here : ∀ b ∈ fp, ∀ o, s3.heap.get? b = some o → s'.heap.get? b = some o ∧ H' b = none := fun b hb o e =>
        let z := I'.pin (b, o) (List.mem_append_right _ (List.mem_append_right _ (mem_pinsAt hb e)))
        ⟨z.1, z.2.1⟩
      refine ⟨m', lt, i + 1, H', I'.unpinned.weak (by rw [hl, ← hw, wipe_length]) (fun k v e => ?_), T.keep _ _ _ st3 fun b hb o e => (here b hb o e).1, fun b hb => ?_, w'⟩
      · rw [← hw] at e
        obtain ⟨e1, e2⟩ := wipe_some e
        exact hk k v (fun z => e2 (hv k z)) e1
      · obtain ⟨o, e, _⟩ := T.obj _ _ st3 b hb
        exact (here b hb o e).2
    cases b with
    | false =>
      rw [if_neg Bool.false_ne_true] at q5
      exact wpAny_pure ⟨rfl, fin I5 rfl (fun _ _ _ e => e) q5⟩
    | true =>
      rw [if_pos rfl] at q5
      exact rb _ s5 σ4 H5 N _ _ _ I5 q5 fun s6 σ6 H6 I6 hl hk nx => wpAny_pure ⟨rfl, fin I6 hl hk nx⟩
/-- the last clause: the element is appended -/
def tApp (te : TE) : TB := fun D σ H N => te σ H fun y H7 => ∃ acc, H7 D = some (.lst acc) ∧ acc.length < sizeLine ∧ N (upd H7 D (.lst (acc ++ [y])))
def runApp (elt : Expr) (env : Env) (acc : Value) (k : Sem Fin) : Sem Fin := do
  (do let _ ← call (.builtin "list.append") [acc, ← eval elt env])
  k
theorem runs_app {Y : Cx} (hx : Y.xe = fun _ _ => False) {elt : Expr} {te : TE} {D : Addr} (he : PE Y elt te) : RunsTo Y (runApp elt Y.env (.ref D)) (tApp te D) [] := by
  intro pins s σ H N k Qf E I h fin
  refine wpAny_bind (wpAny_bind (thnX hx (he.run pins s σ H _ I h) fun v s1 ⟨y, H1, I1, r1, acc, hD, hz, nx⟩ => wpAny_bind ?_))
  exact app_ok I1 hD hz r1 fun s2 I2 => wpAny_pure (fin s2 σ _ I2 rfl (fun _ _ _ e => e) nx)
/-- a further clause -/
def tNextFor (wi : TI) (g : TG) (tt : TT) (tb : TB) (vs : List Nat) : TB := fun D σ H N => wi σ H fun J H1 => tWalk g tt (tb D) vs σ J H1 N
def runFor (c iter : Expr) (j : Nat) (env : Env) (acc : Value) (k : Sem Fin) : Sem Fin := do
  let x ← eval iter env
  standAt iter.pos
  let x ← foldedSetIterable iter env x
  let _ ← runOwn (.compStart c j (← holding [x] (pyIter x)) acc env) env
  k
/-- the start of a further clause, told by its loop -/
def StartIs (c : Expr) (j : Nat) : Prop := ∀ (prog : Program) (w : World) (A : Around) (R : Result → Shared → Prop) (s : Shared) (it acc : Value) (env : Env), codeAny (model prog w) A (.compLoop c j it acc env) R s →
  wpAny (model prog w) A (pyIter it) (fun it' s' => codeAny (model prog w) A (.compLoop c j it' acc env) R s') (notedBy (model prog w) A env fun x s' => R (.error x) s') s → codeAny (model prog w) A (.compStart c j it acc env) R s
theorem runs_for {Y : Cx} (hc : Y.calm = true) (hx : Y.xe = fun _ _ => False) {elt iter tg : Expr} {gens : List Comprehension} {scope : Scope} {pos : Pos} {ifs : List Expr} {j : Nat} {p : Pos} {D : Addr} {run : Sem Fin → Sem Fin} {wi : TI} {g : TG} {tt : TT} {tb : TB} {vs vi : List Nat}
    (heq : TurnIs (.ListComp elt gens scope pos) j p tg ifs Y.env (.ref D) run) (hst : StartIs (.ListComp elt gens scope pos) j) (hi : PI Y tg iter wi) (pg : PG Y tg g) (pt : PTs Y ifs tt) (rb : RunsTo Y run (tb D) vi) (hv : ∀ i ∈ vi, i ∈ vs) (hs : ∀ x, foldedSetIterable iter Y.env x = pure x) :
    RunsTo Y (runFor (.ListComp elt gens scope pos) iter j Y.env (.ref D)) (tNextFor wi g tt tb vs D) vs := by
  intro pins s σ H N k Qf E I h fin
  refine wpAny_bind (thnX hx (hi.run pins s σ H _ I h) fun v s1 h1 => ?_)
  refine wpAny_bind (wpAny_standAt (wpAny_bind (wpAny_of_eq (hs v) (wpAny_bind (wpAny_holding (thnX hx h1 fun itv s2 h2 => ?_))))))
  obtain ⟨it, fp, tn, J, H2, rfl, I2, T, st, f2, q⟩ := h2
  have lp := loop_c hc hx heq T pg pt rb hv (I2.weak (wipe_length _ _) fun k v e => (wipe_some e).1) st (fun b hb => (f2 b hb).1) (fun H' σ' s' I' hn b hb => ⟨hn b hb, (f2 b hb).2⟩) q
  refine wpAny_bind (wpAny_runOwn ?_)
  rw [Around.mark_none]
  refine codeAny_mono (hst _ _ _ _ _ _ _ _ lp (T.self Y.A 0 _ _ _ st lp)) fun r s3 hr => ?_
  cases r with
  | error e => exact False.elim hr
  | ok f =>
    obtain ⟨H3, I3, nx⟩ := hr
    have nxt := fin s3 _ H3 I3 (wipe_length _ _) (fun k v hk e => by rw [wipe_out hk]; exact e) nx
    first
      | exact wpAny_bind (wpAny_pure nxt)
      | exact nxt
end XV
set_option Elab.async false
set_option linter.all false
set_option maxRecDepth 100000
set_option maxHeartbeats 4000000
namespace XV
open PySem PySem.Spec PyProof.Rows L2
section
variable {X : Cx}
/-- [elt for tg in iter .. rest]: what the further clauses do is told by tb -/
def tLcN (wi : TI) (g : TG) (tt : TT) (tb : TB) (vs : List Nat) : TE := fun σ H Q => wi σ H fun J H1 => ∀ D, H1 D = none → tWalk g tt (tb D) vs σ J (upd H1 D (.lst [])) fun H' => Q (.ref D) H'
theorem pe_lcN {elt tg iter : Expr} {ifs : List Expr} {rest : List Comprehension} {scope : Scope} {own : List (Str × Nat)} {vi : List Nat} {pos p : Pos} {run : Env → Value → Sem Fin → Sem Fin} {wi : TI} {g : TG} {tt : TT} {tb : TB}
    (hc : X.calm = true) (hN : X.N.Nodup) (hi : PI X tg iter wi) (ok : BlkOk X.N X.env.scope scope own) (hv : ∀ i ∈ vi, i ∈ own.map (·.2))
    (hg : ∀ (s : Shared) (H : Hp) (C : Addr) (cl : List (Str × Addr)) (fp : List Addr), PG (X.blk s H scope (compEnvC scope cl C X.env) fp) tg g) (ht : ∀ (s : Shared) (H : Hp) (C : Addr) (cl : List (Str × Addr)) (fp : List Addr), PTs (X.blk s H scope (compEnvC scope cl C X.env) fp) ifs tt)
    (hb : ∀ (s : Shared) (H : Hp) (C : Addr) (cl : List (Str × Addr)) (fp : List Addr) (D : Addr), RunsTo (X.blk s H scope (compEnvC scope cl C X.env) fp) (run (compEnvC scope cl C X.env) (.ref D)) (tb D) vi)
    (heq : ∀ (env : Env) (acc : Value), TurnIs (.ListComp elt (⟨tg, iter, ifs, 0⟩ :: rest) scope pos) 0 p tg ifs env acc (run env acc)) (hs : ∀ x, foldedSetIterable iter X.env x = pure x := by intro _; rfl) :
    PE X (.ListComp elt (⟨tg, iter, ifs, 0⟩ :: rest) scope pos) (tLcN wi g tt tb (own.map (·.2))) := by
  refine ⟨fun pins s σ H Q I h => ?_⟩
  rw [eval_ListComp]
  have cells : ∀ y ∈ scope.names, y.2 = .free → ∃ c, X.env.cells.lookup y.1 = some c := fun y hy e => (ok.free y hy e).elim (fun k => I.ok.has _ (.inl k)) fun k => I.ok.has _ (.inr k)
  refine wpAny_comprehension_free (use := none) rfl hs (closure_ok cells) ok.kind (fun y hy e => by rw [ok.uniq y hy, e]) (thn (hi.run pins s σ H _ I h) fun xv s1 hx => thn hx fun itv s2 h2 => ?_)
  obtain ⟨it, fp, tn, J, H2, rfl, I2, T, st2, f2, q⟩ := h2
  refine wpAny_newObj_type (newEnv_comp ?_) (by show 0 ≤ sizeLine; decide)
  -- the new list at D
  obtain ⟨D, eD⟩ : ∃ D, D = s2.heap.objs.size := ⟨_, rfl⟩
  have fD : H2 D = none := I2.hok.fresh (Nat.le_of_eq eD.symm)
  have walk := q D fD
  obtain ⟨s3, e3⟩ : ∃ s3 : Shared, s3 = { s2 with heap := s2.heap.push { cls := .type "list", data := .seq ([] : List Value).toArray } } := ⟨_, rfl⟩
  have h3 : s3.heap = s2.heap.push { cls := .type "list", data := .seq ([] : List Value).toArray } := by rw [e3]
  have I3 : Inv X pins σ (upd H2 D (.lst [])) s3 := by
    rw [e3]
    exact I2.laid (t' := s2.toks) (fun b o e => Heap.get?_push_of_some _ e) (Nat.le_of_eq eD.symm) ⟨Nat.zero_le _, [], 0, .nil, by rw [eD]; exact Heap.get?_push_size _ rfl⟩
  have f3 : ∀ b ∈ fp, FpOk X pins (upd H2 D (.lst [])) b ∧ b < s3.heap.objs.size := fun b hb => by
    obtain ⟨o, eo, _⟩ := T.obj _ _ st2 b hb
    have lt := Heap.lt_size eo
    have ne : b ≠ D := fun z => by rw [z, eD] at lt; exact Nat.lt_irrefl _ lt
    exact ⟨⟨by rw [upd_ne ne]; exact (f2 b hb).1, (f2 b hb).2⟩, by rw [h3, Heap.size_push]; exact Nat.lt_succ_of_lt lt⟩
  have st3 : tn 0 s3.heap := T.keep _ _ _ st2 fun b _ o e => by rw [h3]; exact Heap.get?_push_of_some _ e
  have I4 := block_start I3 ok hN f3
  rw [← eD]
  have key : ∀ ce : Env, ce = compEnvC scope (cellsFrom (s3.heap.objs.size + 1) scope.names (cloFrom X.env.cells scope.names [])) s3.heap.objs.size X.env → ∀ s4 : Shared, s4 = { s3 with heap := pushCells (s3.heap.push { cls := .type "dict", data := .dict #[] }) scope.names } →
      codeAny (model X.prog X.w) X.A (.compStart (.ListComp elt (⟨tg, iter, ifs, 0⟩ :: rest) scope pos) 0 (.ref it) (.ref D) ce) (compPost (model X.prog X.w) X.A X.xe none (EP X pins σ Q) (.ref D) s3.heap.objs.size) s4 := by
    intro ce ece s4 e4
    rw [← ece, ← e4] at I4
    have st4 : tn 0 s4.heap := T.keep _ _ _ st3 fun b _ o e => by rw [e4]; exact pushCells_keeps _ _ _ _ (Heap.get?_push_of_some _ e)
    have nfp : ∀ b ∈ fp, (upd H2 D (.lst [])) b = none := fun b hb => (f3 b hb).1.1
    have pg := hg s3 (upd H2 D (.lst [])) s3.heap.objs.size (cellsFrom (s3.heap.objs.size + 1) scope.names (cloFrom X.env.cells scope.names [])) fp
    have pt := ht s3 (upd H2 D (.lst [])) s3.heap.objs.size (cellsFrom (s3.heap.objs.size + 1) scope.names (cloFrom X.env.cells scope.names [])) fp
    have rb := hb s3 (upd H2 D (.lst [])) s3.heap.objs.size (cellsFrom (s3.heap.objs.size + 1) scope.names (cloFrom X.env.cells scope.names [])) fp D
    rw [← ece] at pg pt rb
    have lp := loop_c (Y := X.blk s3 (upd H2 D (.lst [])) scope ce fp) (it := it) hc rfl (heq ce (.ref D)) T pg pt rb hv I4 st4 nfp (fun H' σ' s' I' hn b hb =>
      ⟨hn b hb, (I'.ok.exf b hb).1, I'.ok.exfs b hb, .inl hb, fun x c e => (I'.ok.exf b hb).2 x c e, fun p hp => absurd (show p ∈ ([] : List (Addr × Obj)) ++ [] from hp) (by simp)⟩) walk
    have lp2 : codeAny (model X.prog X.w) X.A (.compLoop (.ListComp elt (⟨tg, iter, ifs, 0⟩ :: rest) scope pos) 0 (.ref it) (.ref D) ce) (compPost (model X.prog X.w) X.A X.xe none (EP X pins σ Q) (.ref D) s3.heap.objs.size) s4 := by
      refine codeAny_mono lp fun r s6 hr => ?_
      cases r with
      | error e => exact False.elim hr
      | ok f =>
        obtain ⟨H6, I6, nx⟩ := hr
        have I7 : Inv X pins σ H6 s6 := I3.call' (ch := fp) I6.os I6.base I6.hok I6.bare fun b hb => ⟨(f3 b hb).1.2.2.2.1, (f3 b hb).1.2.1, (f3 b hb).1.2.2.2.2.1, (f3 b hb).1.2.2.2.2.2⟩
        have cL : ce.locals = s3.heap.objs.size := by rw [ece]; rfl
        have nC : H6 s3.heap.objs.size = none := by
          rw [← cL]
          exact I6.free
        obtain ⟨m, hn, _⟩ := I6.loc
        have hn : s6.heap.Ns s3.heap.objs.size m := by
          rw [← cL]
          exact hn
        refine ⟨m, hn, fun h' sb => ?_⟩
        obtain ⟨f0, f1, f2', f3', f4, f5⟩ := I3.fpOk (Nat.le_refl _) nC
        exact ⟨.ref D, H6, I7.turned (t' := s6.toks) (fun b o hb e => (sb.2 b hb).trans e) f0 f1 f3' f4 f5, rfl, nx⟩
    exact codeAny_compStart_list lp2 (T.self X.A 0 _ _ _ st4 lp2)
  subst e3
  exact key _ rfl _ rfl
end
/-! ### three for's -/
section
variable {elt t0 i0 t1 i1 t2 i2 : Expr} {if0 if1 if2 : List Expr} {scope : Scope} {pos : Pos}
theorem turn3_0 (env : Env) (acc : Value) : TurnIs (.ListComp elt [⟨t0, i0, if0, 0⟩, ⟨t1, i1, if1, 0⟩, ⟨t2, i2, if2, 0⟩] scope pos) 0 i0.pos t0 if0 env acc (runFor (.ListComp elt [⟨t0, i0, if0, 0⟩, ⟨t1, i1, if1, 0⟩, ⟨t2, i2, if2, 0⟩] scope pos) i1 1 env acc) := fun it => by
  rfl
theorem turn3_1 (env : Env) (acc : Value) : TurnIs (.ListComp elt [⟨t0, i0, if0, 0⟩, ⟨t1, i1, if1, 0⟩, ⟨t2, i2, if2, 0⟩] scope pos) 1 i1.pos t1 if1 env acc (runFor (.ListComp elt [⟨t0, i0, if0, 0⟩, ⟨t1, i1, if1, 0⟩, ⟨t2, i2, if2, 0⟩] scope pos) i2 2 env acc) := fun it => by
  rfl
theorem turn3_2 (env : Env) (acc : Value) : TurnIs (.ListComp elt [⟨t0, i0, if0, 0⟩, ⟨t1, i1, if1, 0⟩, ⟨t2, i2, if2, 0⟩] scope pos) 2 i2.pos t2 if2 env acc (runApp elt env acc) := fun it => by
  rfl
theorem start3 {j : Nat} (hj : j = 1 ∨ j = 2) : StartIs (.ListComp elt [⟨t0, i0, if0, 0⟩, ⟨t1, i1, if1, 0⟩, ⟨t2, i2, if2, 0⟩] scope pos) j := by
  intro prog w A R s it acc env h0 h
  refine codeAny_of_tree ?_
  show wpAny _ _ ((compStart (.ListComp elt [⟨t0, i0, if0, 0⟩, ⟨t1, i1, if1, 0⟩, ⟨t2, i2, if2, 0⟩] scope pos) j it acc env).onRaise (fun x => do noteFrame x env; standAt theWindowsPlace)) _ _ s
  refine wpAny_notedAt ?_
  rcases hj with rfl | rfl <;>
  · unfold compStart
    show wpAny _ _ (ask >>= _) _ _ s
    refine wpAny_bind (wpAny_askSetting (wpAny_ite ?_))
    split
    · first
        | exact wpAny_bind (wpAny_pure (wpAny_pure ⟨rfl, h0⟩))
        | exact wpAny_pure ⟨rfl, h0⟩
    · refine wpAny_bind (wpAny_rule ?_)
      first
        | exact wpAny_bind (wpAny_standAt (wpAny_bind (wpAny_mono h (fun it' s' h' => wpAny_pure ⟨rfl, h'⟩) fun _ _ x => x)))
        | (show wpAny _ _ (standAt _ >>= _) _ _ s; exact wpAny_bind (wpAny_standAt (wpAny_bind (wpAny_mono h (fun it' s' h' => wpAny_pure ⟨rfl, h'⟩) fun _ _ x => x))))
end
section
variable {X : Cx}
/-- [elt for t0 in i0 .. for t1 in i1 .. for t2 in i2 ..]; v1: the slots of the second and the third target, v2: of the third -/
theorem pe_lc3 {elt t0 i0 t1 i1 t2 i2 : Expr} {if0 if1 if2 : List Expr} {scope : Scope} {own : List (Str × Nat)} {v1 v2 : List Nat} {pos : Pos} {w0 w1 w2 : TI} {g0 g1 g2 : TG} {c0 c1 c2 : TT} {te : TE}
    (hc : X.calm = true) (hN : X.N.Nodup) (hi : PI X t0 i0 w0) (ok : BlkOk X.N X.env.scope scope own) (hv1 : ∀ i ∈ v1, i ∈ own.map (·.2)) (hv2 : ∀ i ∈ v2, i ∈ v1)
    (h : ∀ (s : Shared) (H : Hp) (C : Addr) (cl : List (Str × Addr)) (fp : List Addr), PG (X.blk s H scope (compEnvC scope cl C X.env) fp) t0 g0 ∧ PTs (X.blk s H scope (compEnvC scope cl C X.env) fp) if0 c0 ∧ PI (X.blk s H scope (compEnvC scope cl C X.env) fp) t1 i1 w1 ∧ PG (X.blk s H scope (compEnvC scope cl C X.env) fp) t1 g1 ∧
      PTs (X.blk s H scope (compEnvC scope cl C X.env) fp) if1 c1 ∧ PI (X.blk s H scope (compEnvC scope cl C X.env) fp) t2 i2 w2 ∧ PG (X.blk s H scope (compEnvC scope cl C X.env) fp) t2 g2 ∧ PTs (X.blk s H scope (compEnvC scope cl C X.env) fp) if2 c2 ∧ PE (X.blk s H scope (compEnvC scope cl C X.env) fp) elt te)
    (hs : ∀ x, foldedSetIterable i0 X.env x = pure x := by intro _; rfl) (hs1 : ∀ env x, foldedSetIterable i1 env x = pure x := by intro _ _; rfl) (hs2 : ∀ env x, foldedSetIterable i2 env x = pure x := by intro _ _; rfl) :
    PE X (.ListComp elt [⟨t0, i0, if0, 0⟩, ⟨t1, i1, if1, 0⟩, ⟨t2, i2, if2, 0⟩] scope pos) (tLcN w0 g0 c0 (tNextFor w1 g1 c1 (tNextFor w2 g2 c2 (tApp te) v2) v1) (own.map (·.2))) :=
  pe_lcN (run := fun env acc => runFor (.ListComp elt [⟨t0, i0, if0, 0⟩, ⟨t1, i1, if1, 0⟩, ⟨t2, i2, if2, 0⟩] scope pos) i1 1 env acc) hc hN hi ok hv1 (fun s H C cl fp => (h s H C cl fp).1) (fun s H C cl fp => (h s H C cl fp).2.1) (fun s H C cl fp D => by
    obtain ⟨_, _, a1, b1, d1, a2, b2, d2, e⟩ := h s H C cl fp
    have inner : RunsTo (X.blk s H scope (compEnvC scope cl C X.env) fp) (runFor (.ListComp elt [⟨t0, i0, if0, 0⟩, ⟨t1, i1, if1, 0⟩, ⟨t2, i2, if2, 0⟩] scope pos) i2 2 (compEnvC scope cl C X.env) (.ref D)) (tNextFor w2 g2 c2 (tApp te) v2 D) v2 :=
      runs_for (Y := X.blk s H scope (compEnvC scope cl C X.env) fp) hc rfl (turn3_2 _ _) (start3 (.inr rfl)) a2 b2 d2 (runs_app rfl e) (fun _ z => absurd z List.not_mem_nil) (hs2 _)
    exact runs_for (Y := X.blk s H scope (compEnvC scope cl C X.env) fp) hc rfl (turn3_1 _ _) (start3 (.inl rfl)) a1 b1 d1 inner hv2 (hs1 _)) (fun env acc => turn3_0 env acc) hs
end
end XV
set_option Elab.async false
set_option linter.all false
set_option maxRecDepth 100000
set_option maxHeartbeats 4000000
/-! sorted of triples (word, int, int), the words "free" and "put" -/
namespace XV
open PySem PySem.Spec PyProof.Rows L2
abbrev K3 := Bool × Int × Int
def wd : Bool → Str
  | false => "free"
  | true => "put"
/-- ahead in the order of tuples -/
def bef (p q : K3) : Bool := decide ((p.1 = false ∧ q.1 = true) ∨ (p.1 = q.1 ∧ (p.2.1 < q.2.1 ∨ (p.2.1 = q.2.1 ∧ p.2.2 < q.2.2))))
theorem wd_lt (b c : Bool) : decide ((wd b).cps.toList < (wd c).cps.toList) = decide (b = false ∧ c = true) := by
  cases b <;> cases c <;> decide +kernel
theorem wd_eq (b c : Bool) : (wd b == wd c) = decide (b = c) := by
  cases b <;> cases c <;> decide +kernel
theorem bef_swo {α : Type} (k : α → K3) : SrtO.Swo fun v u => bef (k v) (k u) := by
  refine ⟨fun x y h => ?_, fun x y z h1 h2 => ?_⟩
  · simp only [bef, decide_eq_true_eq, decide_eq_false_iff_not] at h ⊢
    generalize (k x).1 = b at h ⊢
    generalize (k y).1 = c at h ⊢
    cases b <;> cases c <;> simp at h ⊢ <;> omega
  · simp only [bef, decide_eq_false_iff_not] at h1 h2 ⊢
    generalize (k x).1 = b at h1 h2 ⊢
    generalize (k y).1 = c at h1 h2 ⊢
    generalize (k z).1 = d at h1 h2 ⊢
    cases b <;> cases c <;> cases d <;> simp at h1 h2 ⊢ <;> omega
def IsTri (h : Heap) (v : Value) (k : K3) : Prop := ∃ a o t0 t1 t2 n, v = .ref a ∧ h.get? a = some o ∧ o.cls = .type "tuple" ∧ o.data = .seq #[.str (wd k.1) t0, .int k.2.1 t1, .int k.2.2 t2] n
theorem IsTri.keeps {h h' : Heap} {v : Value} {k : K3} (p : IsTri h v k) (kp : ∀ b o, h.get? b = some o → o.cls = .type "tuple" → h'.get? b = some o) : IsTri h' v k :=
  let ⟨a, o, t0, t1, t2, n, e, ho, hc, hd⟩ := p
  ⟨a, o, t0, t1, t2, n, e, kp _ _ ho hc, hc, hd⟩
theorem tri_firsts {h : Heap} {k : Value → K3} : ∀ {vs : List Value}, (∀ v ∈ vs, IsTri h v (k v)) → ∃ fs : List Value, PySem.W.KatTups h vs fs ∧ fs.length = vs.length ∧ ∀ f ∈ fs, ∃ x t, f = Value.str x t
  | [], _ => ⟨[], .nil, rfl, fun f z => absurd z List.not_mem_nil⟩
  | v :: vs, hp => by
    obtain ⟨fs, a1, a2, a3⟩ := tri_firsts (vs := vs) fun u hu => hp u (List.mem_cons_of_mem _ hu)
    obtain ⟨a, o, t0, t1, t2, n, e, ho, hc, hd⟩ := hp v List.mem_cons_self
    rw [e]
    refine ⟨_ :: fs, .cons ho hc hd rfl a1, congrArg (· + 1) a2, fun f hf => ?_⟩
    rcases List.mem_cons.mp hf with z | z
    · exact ⟨_, _, z⟩
    · exact a3 f z
section
variable {prog : Program} {w : World} {A : Around} {E : Value → Shared → Prop} {s : Shared}
theorem tri_cmp {vs : List Value} {k : Value → K3} (hp : ∀ v ∈ vs, IsTri s.heap v (k v)) : SrtO.Cmp prog w A s (tuples' true) (fun p => p.1 ∈ vs) (SrtO.lt2 fun v u => bef (k v) (k u)) := by
  intro p q hm hm'
  have g1 := hp _ hm
  have g2 := hp _ hm'
  show wpAny (model prog w) A (keyLt' (tuples' true) p.1 q.1) (fun r s' => s' = s ∧ r = bef (k p.1) (k q.1)) (fun _ _ => False) s
  generalize k p.1 = kp at g1 ⊢
  generalize k q.1 = kq at g2 ⊢
  obtain ⟨b, i, j⟩ := kp
  obtain ⟨c, i', j'⟩ := kq
  obtain ⟨a, o, t0, t1, t2, n, e, ho, hc, hd⟩ := g1
  obtain ⟨a', o', u0, u1, u2, n', e', ho', hc', hd'⟩ := g2
  rw [e, e']
  refine PySem.W.kat_lt ho hd ho' hd' ?_
  show PySem.W.KatLex prog w A true (decide (3 < 3)) _ [(.str (wd b) t0, .str (wd c) u0), (.int i t1, .int i' u1), (.int j t2, .int j' u2)] 0 s
  refine PySem.W.kat_cons (SeqAt.EqAt.str_str _ _ _ _ prog w _ _ ?_)
  rw [wd_eq]
  refine PySem.W.kat_go (fun e1 => ?_) (fun e1 => ?_)
  · have eb : b = c := of_decide_eq_true e1
    subst eb
    refine PySem.W.kat_yes (PySem.W.kat_cons (SeqAt.EqAt.int_int _ _ _ _ prog w _ _ ?_))
    refine PySem.W.kat_go (fun e2 => ?_) (fun e2 => ?_)
    · have ei : i = i' := by simpa using e2
      subst ei
      refine PySem.W.kat_yes (PySem.W.kat_cons (SeqAt.EqAt.int_int _ _ _ _ prog w _ _ ?_))
      refine PySem.W.kat_go (fun e3 => ?_) (fun e3 => ?_)
      · have ej : j = j' := by simpa using e3
        subst ej
        refine PySem.W.kat_yes (PySem.W.kat_nil ⟨rfl, ?_⟩)
        show decide (3 < 3) = bef (b, i, j) (b, i, j)
        rw [(bef_swo (fun x : K3 => x)).refl (b, i, j)]
        rfl
      · refine PySem.W.kat_no (PySem.W.kat_one _ _ (PyProof.Rows.lt_int ?_))
        refine (show s = s ∧ decide (j < j') = bef (b, i, j) (b, i, j') from ⟨rfl, ?_⟩)
        unfold bef
        refine decide_eq_decide.mpr ?_
        cases b <;> simp
    · have ei : ¬ i = i' := by simpa using e2
      refine PySem.W.kat_no (PySem.W.kat_one _ _ (PyProof.Rows.lt_int ?_))
      refine (show s = s ∧ decide (i < i') = bef (b, i, j) (b, i', j') from ⟨rfl, ?_⟩)
      unfold bef
      refine decide_eq_decide.mpr ?_
      cases b <;> simp [ei]
  · have eb : ¬ b = c := of_decide_eq_false e1
    refine PySem.W.kat_no (oneLt_str ?_)
    refine ⟨rfl, ?_⟩
    rw [wd_lt]
    unfold bef
    refine decide_eq_decide.mpr ?_
    simp only [eb, false_and, or_false]
theorem tri_sortable {a : Addr} {vs : List Value} {k : Value → K3} (h0 : 0 < vs.length) (hp : ∀ v ∈ vs, IsTri s.heap v (k v)) (ha : ∀ o, s.heap.get? a = some o → o.cls ≠ .type "tuple") : SrtO.SortableO prog w A s a vs fun v u => bef (k v) (k u) := by
  intro h' keep
  have hp' : ∀ v ∈ vs, IsTri h' v (k v) := fun v hm => (hp v hm).keeps fun b o e c => keep b o (fun z => ha o (by rw [← z]; exact e) c) e
  obtain ⟨fs, g1, g2, g3⟩ := tri_firsts hp'
  refine ⟨tuples' true, fun Q E hq => ?_, tri_cmp hp'⟩
  refine PySem.W.kat_kind (T := .type "str") g1 (by omega) (fun f hm => ?_) (by rfl) ?_
  · obtain ⟨x, t, rfl⟩ := g3 f hm
    exact PySem.W.Looks.now
  · rw [show (Value.type "str" != Value.type "tuple") = true from by first | decide +kernel | rfl]
    exact hq
end
/-- sorted(xs), xs a list of such triples: k says which -/
def rSort3 (K : PySem.W.Frag) : List V → Hp → VK → Prop := fun vs H Q => ∃ (a : Addr) (xs : List V) (k : V → K3), vs = [V.ref a] ∧ SqL K H a xs ∧ (∀ x ∈ xs, ∃ t, x = V.ref t ∧ H t = some (.tup [.str (wd (k x).1), .int (k x).2.1, .int (k x).2.2])) ∧
  ∀ ys p, SrtO.Srtd (fun x y => bef (k x) (k y)) ys → ys.Perm xs → H p = none → Q (.ref p) (upd H p (.lst ys))
theorem cr_sort3 {X : Cx} : CallR X (.builtin "sorted") (rSort3 X.K) := by
  intro pins s σ H vs us Q I r h
  obtain ⟨a, xs, k, rfl, hs, hx, q⟩ := h
  obtain ⟨its, rv, hl, hz⟩ := I.list hs
  obtain ⟨u, rfl, ru⟩ := vals1 r
  obtain rfl : u = Value.ref a := ru
  obtain ⟨b1, b2⟩ := refs_back rv fun x m => let ⟨t, e, _⟩ := hx x m; ⟨t, e⟩
  have tri : ∀ v ∈ its, IsTri s.heap v (k (backV v)) := fun v hv => by
    obtain ⟨t, rfl⟩ := b2 v hv
    obtain ⟨t', e, ht⟩ := hx (.ref t) (by rw [b1]; exact List.mem_map.mpr ⟨_, hv, rfl⟩)
    cases e
    obtain ⟨_, its2, r2, o, ho, hc, n, hd⟩ := I.hok _ _ ht
    obtain ⟨u0, us0, rfl, r0, r2⟩ : ∃ u0 us0, its2 = u0 :: us0 ∧ RelV (.str (wd (k (.ref t)).1)) u0 ∧ Vals [.int (k (.ref t)).2.1, .int (k (.ref t)).2.2] us0 := by
      cases r2 with
      | cons a b => exact ⟨_, _, rfl, a, b⟩
    obtain ⟨u1, u2, rfl, ra, rb⟩ := vals2 r2
    obtain ⟨t0, rfl⟩ := r0
    obtain ⟨t1, rfl⟩ := ra
    obtain ⟨tt2, rfl⟩ := rb
    exact ⟨t, o, t0, t1, tt2, n, rfl, ho, hc, hd⟩
  refine SrtO.sorted_ord (bef_swo fun u => k (backV u)) hl.isList (by rw [← rv.length]; exact hz) (fun h2 h₁ a' ha kk => ?_) fun out so st => ?_
  · refine tri_sortable (s := { s with heap := h₁ }) (by omega) (fun v hm => (tri v hm).keeps fun b o e _ => (kk b o e).2) fun o e c => ?_
    have e' : some o = some (seqObj "list" its.toArray 0) := e.symm.trans ha
    cases e'
    exact absurd (Value.type.inj c) (by decide)
  · have o3 : ∀ u ∈ out, ∃ a, u = Value.ref a := fun u hu => b2 u (st.perm.mem_iff.mp hu)
    have pm : (out.map backV).Perm xs := by
      rw [b1]
      exact st.perm.map backV
    obtain ⟨n, hn⟩ := PyProof.Rows.sortedAll_at s.heap its out.toArray
    refine ⟨.ref (s.heap.objs.size + 1), upd H (s.heap.objs.size + 1) (.lst (out.map backV)), I.laid (t' := s.toks) (fun b o e => PyProof.Rows.sortedAll_old e) (Nat.le_succ _) ⟨by rw [pm.length_eq]; exact hz, out, n, vals_back o3, hn⟩, rfl, q _ _ (SrtO.srtd_map so) pm (I.hok.fresh (Nat.le_succ _))⟩
end XV
set_option Elab.async false
set_option linter.all false
set_option maxRecDepth 100000
set_option maxHeartbeats 4000000
/-! set(xs) of a list or a tuple of allI, as a value -/
namespace XV
open PySem PySem.Spec PyProof.Rows L2
/-- a set that has just been made -/
abbrev nso (w : World) : Obj := { cls := .type "set", dict := none, data := .set #[] 0 (.fresh 0 0 (!w.params.followText "set-order")) }
section
variable {P : Program} {w : World} {A : Around} {E : Value → Shared → Prop} {s : Shared}
set_option maxHeartbeats 3200000 in
theorem set_of_ints {l : Addr} {items : Array Value} (ns : List Int) {Q : Value → Shared → Prop} (nh : A.handled = none) (pl : s.heap.IsList l items) (allI : IntsAre items.toList ns) (few : ns.length + 1 < scanBound)
    (fin : ∀ (h' : Heap) (tk c : Nat), SetR w h' s.heap.objs.size (fun j => decide (j ∈ ns)) c → c ≤ ns.length → (∀ b o, s.heap.get? b = some o → h'.get? b = some o) → Q (.ref s.heap.objs.size) { s with heap := h', toks := tk }) :
    wpAny (model P w) A (call (.type "set") [.ref l]) Q E s := by
  have many : items.size = ns.length := (Array.length_toList (xs := items)).symm.trans allI.length
  obtain ⟨cm, tlm, eMro⟩ := F.called_set.mro
  have eMade := F.called_set.made; have eSub := F.called_set.sub
  refine wpAny_call (codeAny_of_tree (?_ : wpAny _ _ (callAny (.type "set") _) _ _ _))
  refine wpAny_pure ⟨Code.quiet_builtin _ (by decide +kernel), codeAny_builtin F.entry_type_call ?_⟩
  rw [Around.under_plain (weight_type_call_type "set" [.ref l] []) rfl]
  have eNt := F.called_set.notType; have eCr := F.called_set.canCreate; have eTc := F.typeCall_set_1 (.ref l)
  repeat (any_goals (first | assumption | wp_step))
  refine codeAny_mono (code_set_led1 (.ref l) (E := E) (Q₁ := fun v t => v = .ref s.heap.objs.size ∧ t = { s with heap := s.heap.push (nso w) }) ⟨rfl, rfl⟩) fun r t hr => ?_
  match r, hr with
  | .error e, hr => exact hr
  | .ok (.ret v), hr =>
    obtain ⟨rfl, rfl⟩ := hr
    have atS : (s.heap.push (nso w)).get? s.heap.objs.size = some (nso w) := Heap.get?_push_size _ rfl
    have tyS : Shared.TypeIs { s with heap := s.heap.push (nso w) } (.ref s.heap.objs.size) "set" := ⟨_, atS, rfl⟩
    have eInit := F.called_set.init.lookup; have eBind := F.called_set.init.bind (.ref s.heap.objs.size)
    repeat (any_goals (first | assumption | wp_step))
    refine codeAny_mono (codeAny_call_builtin (R := wants (fun r t => r = .none ∧ ∃ h' tk c, t = { s with heap := h', toks := tk } ∧ SetR w h' s.heap.objs.size (fun j => decide (j ∈ ns)) c ∧ c ≤ ns.length ∧ (∀ b o, s.heap.get? b = some o → h'.get? b = some o)) E)
      F.called_set.init.plain F.entry_set_init (check_set_init_1 tyS ?_)) fun r2 t2 hr2 => ?_
    · obtain ⟨⟨oc, od, oda, osl⟩, hol, hcl, nl, hdl⟩ := pl
      dsimp only at hcl hdl
      subst hcl hdl
      have lt : l < s.heap.objs.size := Heap.lt_size hol
      have hol1 : (s.heap.push (nso w)).get? l = some { cls := .type "list", dict := od, data := .seq items nl, slots := osl } := Heap.get?_push_of_some _ hol
      have no1 := F.sub_list_set; have no2 := F.sub_list_frozenset
      have no3 : (Value.type "list" == Value.type "dict") = false := by decide
      have pl1 : (s.heap.push (nso w)).IsList l items := ⟨_, hol1, rfl, nl, rfl⟩
      unfold Builtin.«set.__init__» noKeywords Builtin.Frozenset.updateFrom
      generalize ePI : pyIter = PI
      wp_walk
      subst ePI
      refine wpAny_pyIter_list pl1 (wpAny_bind (wpAny_runValue ?_))
      have nh3 : A.in1.in1.in1.handled = none := by simp [nh]
      have sz1 : (s.heap.push (nso w)).objs.size = s.heap.objs.size + 1 := Heap.size_push ..
      have at_ : ∀ (i : Nat) (v : Value), items[i]? = some v → ∃ k t, ns[i]? = some k ∧ v = .int k t := fun i v hv => by
        have lti : i < ns.length := many ▸ (Array.getElem?_eq_some_iff.mp hv).1
        obtain ⟨t, e⟩ := PyProof.Rows.IntsAre.int_at allI i v (Array.getElem?_toList (xs := items) ▸ hv)
        refine ⟨ns[i], t, List.getElem?_eq_getElem lti, e.trans ?_⟩
        rw [List.getD_eq_getElem?_getD, List.getElem?_eq_getElem lti] <;> rfl
      refine set_update_ints ((Walks.list nh3 _ l (by rw [sz1]; exact Nat.ne_of_lt (Nat.lt_succ_of_lt lt)) items).toS) s.heap.objs.size (by rw [sz1]; simp only [List.mem_cons, List.not_mem_nil, or_false, not_or]; exact ⟨Nat.ne_of_lt (Nat.lt_succ_self _), Nat.ne_of_gt lt⟩) ns many few at_ (items.size - 0) 0 _ (by omega) (Nat.zero_le _)
        ⟨⟨_, Heap.get?_push_size _ rfl, rfl, rfl⟩, pl1.push _⟩ ⟨0, Nat.le_refl 0, setR_new_at (Heap.get?_push_of_some _ atS)⟩ fun t c mv lc S' => ?_
      obtain ⟨h', g2, d', tk', os'⟩ := t
      obtain rfl : g2 = s.gens := mv.gens
      obtain rfl : d' = s.drawn := mv.drawn
      obtain rfl : os' = s.os := mv.os
      refine (wpAny_pure ?_ : wpAny _ _ _ _ _ _)
      refine (wpAny_pure ?_ : wpAny _ _ (ret Value.none) _ _ _)
      refine ⟨rfl, h', tk', c, rfl, S', many ▸ lc, fun b o e => ?_⟩
      have ltb : b < s.heap.objs.size := Heap.lt_size e
      exact mv.heap b o (by rw [sz1]; simp only [List.mem_cons, List.not_mem_nil, or_false, not_or]; exact ⟨Nat.ne_of_lt ltb, Nat.ne_of_lt (Nat.lt_succ_of_lt ltb)⟩) (Heap.get?_push_of_some _ (Heap.get?_push_of_some _ e))
    · match r2, hr2 with
      | .error e, hr2 => exact hr2
      | .ok (.ret v2), hr2 =>
        obtain ⟨rfl, h', tk, c, rfl, S', lc, kp⟩ := hr2
        repeat (any_goals (first | assumption | wp_step))
        exact fin _ _ _ S' lc kp
end
/-- set(xs) -/
def rSetI (K : PySem.W.Frag) (w : World) : List V → Hp → VK → Prop := fun vs H Q => ∃ (a : Addr) (ns : List Int), vs = [.ref a] ∧ (SqL K H a (ns.map V.int) ∨ SqT K H a (ns.map V.int)) ∧ ns.length < 1000 ∧
  ∀ p n, H p = none → n ≤ ns.length → Q (.ref p) (upd H p (SetO w p (fun j => decide (j ∈ ns)) n))
theorem cr_setI {X : Cx} (hc : X.calm = true) : CallR X (.type "set") (rSetI X.K X.w) := by
  intro pins s σ H vs us Q I r h
  obtain ⟨a, ns, rfl, hs, hl, q⟩ := h
  obtain ⟨u, rfl, ru⟩ := vals1 r
  obtain rfl : u = Value.ref a := ru
  have fin : ∀ (h' : Heap) (tk c : Nat), SetR X.w h' s.heap.objs.size (fun j => decide (j ∈ ns)) c → c ≤ ns.length → (∀ b o, s.heap.get? b = some o → h'.get? b = some o) → EP X pins σ Q (.ref s.heap.objs.size) { s with heap := h', toks := tk } := fun h' tk c S' lc kp =>
    ⟨.ref s.heap.objs.size, _, I.laid (t' := tk) kp (Nat.le_refl _) (setO_new S'), rfl, q _ c (I.hok.fresh (Nat.le_refl _)) lc⟩
  rcases hs with hs | hs
  · obtain ⟨its, rv, pl, hz⟩ := I.list hs
    exact set_of_ints ns (I.ok.hd hc) pl.isList (by simpa using ints_of_vals rv) (by unfold scanBound; omega) fin
  · obtain ⟨its, rv, pl, hz⟩ := I.tuple hs
    exact call_set_tupI ns (I.ok.hd hc) pl (by simpa using ints_of_vals rv) (by unfold scanBound; omega) fin
end XV
set_option Elab.async false
set_option linter.all false
set_option maxRecDepth 100000
set_option maxHeartbeats 4000000
/-! sum of a tuple of ints -/
namespace XV
open PySem PySem.Spec PyProof.Rows L2
def rSumT (K : PySem.W.Frag) : List V → Hp → VK → Prop := fun vs H Q => ∃ (a : Addr) (ns : List Int), vs = [V.ref a] ∧ SqT K H a (ns.map V.int) ∧ Q (.int ns.sum) H
theorem cr_sumT {X : Cx} (hc : X.calm = true) : CallR X (.builtin "sum") (rSumT X.K) := by
  intro pins s σ H vs us Q I r h
  obtain ⟨a, ns, rfl, hs, q⟩ := h
  obtain ⟨u, rfl, ru⟩ := vals1 r
  obtain rfl : u = Value.ref a := ru
  obtain ⟨its, rv, pl, hz⟩ := I.tuple hs
  have allI : IntsAre its ns := rv.ints
  have pl' : s.heap.IsTuple a its.toArray := pl
  have lt : a < s.heap.objs.size := by
    obtain ⟨_, e, _⟩ := pl'
    exact Heap.lt_size e
  have kp : ∀ {h' : Heap}, (∀ b o, b ∉ [s.heap.objs.size] → (s.heap.push { cls := .type "tuple_iterator", data := .fields #[.ref a, .int 0 0] }).get? b = some o → h'.get? b = some o) → ∀ b o, s.heap.get? b = some o → h'.get? b = some o := fun k b o e =>
    k b o (by simp only [List.mem_cons, List.not_mem_nil, or_false]; exact Nat.ne_of_lt (Heap.lt_size e)) (Heap.get?_push_of_some _ e)
  refine call_sum_walkG (wpAny_pyIter_tuple pl' ⟨s.heap.objs.size, _, _, _, _, _, fun i => ns.getD i 0, rfl, Walks.tuple (A := X.A.in1) (I.ok.hd hc) _ a (Nat.ne_of_lt lt) its.toArray, ⟨⟨_, Heap.get?_push_size _ rfl, rfl, rfl⟩, pl'.push _⟩, fun b hb => ?_, fun i v hv => ?_, fun h' tk t' hk => ?_⟩)
  · show b < (s.heap.push _).objs.size
    rw [Heap.size_push]
    simp only [List.mem_cons, List.not_mem_nil, or_false] at hb
    rcases hb with rfl | rfl
    · exact Nat.lt_succ_self _
    · exact Nat.lt_succ_of_lt lt
  · exact PyProof.Rows.IntsAre.int_at allI i v (by simpa using hv)
  · refine ⟨.int ns.sum, H, I.kept (t' := tk) (kp hk), ⟨t', ?_⟩, q⟩
    have e1 : its.toArray.size = ns.length := by rw [List.size_toArray]; exact allI.length
    have e2 : ∀ n, n ≤ ns.length → preSum (fun i => ns.getD i 0) n = (ns.take n).sum := by
      intro n
      induction n with
      | zero => intro _; simp [preSum]
      | succ n ih =>
        intro hn
        have hlt : n < ns.length := hn
        rw [List.take_add_one, List.getElem?_eq_getElem hlt]
        simp only [preSum, Option.toList_some, List.sum_append, List.sum_cons, List.sum_nil, Int.add_zero]
        rw [ih (Nat.le_of_lt hlt), List.getD_eq_getElem?_getD, List.getElem?_eq_getElem hlt]
        rfl
    rw [e1, e2 _ (Nat.le_refl _), List.take_length]
end XV
set_option Elab.async false
set_option linter.all false
set_option maxRecDepth 100000
set_option maxHeartbeats 4000000
/-! enumerate over a tuple; zip of a tuple and a list -/
namespace PySem
open PyProof.Rows
/-- the record of a fresh enumerate over the iterator at it -/
abbrev enO (it : Addr) : Obj := { cls := .type "enumerate", data := .fields #[.none, .bool false, .ref it, rawInt 0, .none, .none] }
theorem meets_enumB {v : Value} {o : Obj} {H : Heap → Prop} (B : Begins v o H) : Meets (Builtin.«enumerate.__new__» ⟨[.type "enumerate", v], []⟩) (fun _ R s => H s.heap ∧ R (.ok (.ret (.ref (s.heap.push o).objs.size))) { s with heap := (s.heap.push o).push (enO s.heap.objs.size) }) :=
  .of_wp fun prog w A R s ⟨h1, h⟩ => by
    obtain ⟨hp, g, d, tk, os⟩ := s
    have isE := sub_enumerate
    have it1 : ∀ {A' : Around} {E Q : Value → Shared → Prop}, Q (.ref hp.objs.size) ⟨hp.push o, g, d, tk, os⟩ → wpAny (model prog w) A' (pyIter v) Q E ⟨hp, g, d, tk, os⟩ := fun q => B.iter prog w _ _ ⟨hp, g, d, tk, os⟩ _ h1 q
    wp_walk using it1
    refine wpAny_stack_any fun st => wpAny_pure ?_
    split
    · rename_i c _ _ _ _ _
      cases (c == Value.type "enumerate") <;> (wp_walk using it1; exact ⟨_, rfl, h⟩)
    · wp_walk using it1
      exact ⟨_, rfl, h⟩
theorem call_enumB {prog : Program} {w : World} {A : Around} {E : Value → Shared → Prop} {s : Shared} {v : Value} {o : Obj} {H : Heap → Prop} {Q : Value → Shared → Prop} (B : Begins v o H) (h1 : H s.heap)
    (h : ∀ h', IsEnum h' (s.heap.objs.size + 1) s.heap.objs.size 0 .none → h'.get? s.heap.objs.size = some o → (∀ b u, s.heap.get? b = some u → h'.get? b = some u) → Q (.ref (s.heap.objs.size + 1)) { s with heap := h' }) :
    wpAny (model prog w) A (call (.type "enumerate") [v]) Q E s := by
  refine callType_new F.called_enumerate (by decide) (F.typeCall_enumerate_1 _) (F.newCall_enumerate_1 _) (fun obj => F.args_object_init_2 obj _) F.entry_enumerate_new (meets_enumB B) ⟨h1, ?_⟩
  have z1 : (s.heap.push o).objs.size = s.heap.objs.size + 1 := Heap.size_push ..
  have e1 := Heap.get?_push_size (s.heap.push o) (o := enO s.heap.objs.size) rfl
  show _ ∧ _
  rw [z1] at e1 ⊢
  exact ⟨⟨_, e1, rfl⟩, h _ e1 (Heap.get?_push_of_some _ (Heap.get?_push_size _ B.free)) fun b u x => Heap.get?_push_of_some _ (Heap.get?_push_of_some _ x)⟩
end PySem
namespace XV
open PySem PySem.Spec PyProof.Rows L2
/-- the tuple at a, each item in a new pair with its number -/
def IteT (K : PySem.W.Frag) (a : Addr) : It :=
  ⟨fun i H => ∃ (xs : List V) (x : V), SqT K H a xs ∧ xs[i]? = some x, fun i H v H' => ∃ T x, v = .ref T ∧ H T = none ∧ H' = upd H T (.tup [.int (i : Nat), x]) ∧ ∀ xs, SqT K H a xs → xs[i]? = some x, fun i H => ∃ xs : List V, SqT K H a xs ∧ xs.length = i⟩
theorem turn_enumT {P : Program} {w : World} {K : PySem.W.Frag} {elts : List Expr} {kk : Nat} {tpos : Pos} (a e it : Addr) :
    Turn P w K (.Tuple elts kk tpos) (IteT K a) [e, it] e (fun i h => (∃ old, IsEnum h e it ((i : Nat) : Int) old) ∧ h.IsTupleIter it a i ∧ e ≠ it) := by
  have two : ∀ {b : Addr}, b ∈ [e, it] → b = e ∨ b = it := fun hb => by simpa using hb
  refine ⟨List.mem_cons_self, fun i h st b hb => ?_, fun i h h' st k => ?_, ?_, ?_, fun A i s Q E st h => let ⟨⟨_, he⟩, _⟩ := st; wpAny_pyIter_enum he h⟩
  · obtain ⟨⟨old, he⟩, ⟨o, ho, hc, hd⟩, _⟩ := st
    rcases two hb with z | z
    · rw [z]
      exact ⟨_, he, fun v q => nomatch q⟩
    · rw [z]
      exact ⟨o, ho, fun v q => by rw [hd] at q; cases q⟩
  · obtain ⟨⟨old, he⟩, hi, ne⟩ := st
    exact ⟨⟨old, k e List.mem_cons_self _ he⟩, hi.at fun o q => k it (List.mem_cons_of_mem _ List.mem_cons_self) o q, ne⟩
  · intro X hP hw hK hc i pins s σ H E I hf st hg
    subst hP hw hK
    obtain ⟨⟨old, he⟩, hit, ne⟩ := st
    obtain ⟨xs, x, hq, hx⟩ := hg
    obtain ⟨its, rv, p, _⟩ := I.tuple hq
    obtain ⟨u, hu, ru⟩ := rv.get hx
    have p' : s.heap.IsTuple a its.toArray := p
    have ea : a ≠ e := fun z => by
      obtain ⟨o, e1, e2, _⟩ := p'
      rw [z, he] at e1
      cases e1
      exact absurd (Value.type.inj e2) (by decide)
    have ia : a ≠ it := fun z => by
      obtain ⟨o, e1, e2, _⟩ := p'
      obtain ⟨o2, f1, f2, _⟩ := hit
      rw [z, f1] at e1
      cases e1
      rw [f2] at e2
      exact absurd (Value.type.inj e2) (by decide)
    have lte : e < s.heap.objs.size := Heap.lt_size he
    have lti : it < s.heap.objs.size := let ⟨_, q, _⟩ := hit; Heap.lt_size q
    have hi : i < its.toArray.size := by
      have := (List.getElem?_eq_some_iff.mp hu).1
      simpa using this
    have D := Draws.tuple (prog := X.prog) (w := X.w) (A := X.A.in1) (I.ok.hd hc) it a ia its.toArray
    refine wpAny_pyNext_enum_itemD D he ⟨hit, p'⟩ hi ne (by simp only [List.mem_cons, List.not_mem_nil, or_false, not_or]; exact ⟨ne, ea.symm⟩) fun v h1 tk hv ho st1 hT hsz hk => ?_
    obtain rfl : v = u := by
      have hv' : its.toArray[i]? = some v := hv
      rw [List.getElem?_toArray, hu] at hv'
      exact (Option.some.inj hv').symm
    refine ⟨_, rfl, wpAny_letOwnedTupleGo_enum (s := { s with heap := h1, toks := tk + 1 }) ho fun h2 he2 sb => ?_⟩
    have hT2 : h2.get? s.heap.objs.size = some { cls := .type "tuple", data := .seq #[.int i tk, v] } := (sb.2 _ (Nat.ne_of_gt lte)).trans hT
    have I1 : Inv X pins σ (upd H s.heap.objs.size (.tup [.int (i : Nat), x])) { s with heap := h2, toks := tk + 1 } :=
      I.turnedNew (ch := [e, it]) (fun b ob hb q => (sb.2 b (fun z => hb (by simp [z]))).trans (hk b ob (fun z => hb (by simp [z])) (fun z => hb (by simp [z])) q)) hf (Nat.le_refl _)
        ⟨by show 2 ≤ sizeLine; decide, [.int i tk, v], .cons ⟨_, rfl⟩ (.cons ru .nil), ⟨_, hT2, rfl, _, rfl⟩⟩
    refine ⟨.ref s.heap.objs.size, _, I1, rfl, ⟨_, x, rfl, I.hok.fresh (Nat.le_refl _), rfl, fun ys hy => by rw [I.tuple_inj hy hq]; exact hx⟩, ⟨⟨v, ?_⟩, st1.1.at fun o q => (sb.2 it (Ne.symm ne)).trans q, ne⟩, fun b hb => ?_⟩
    · rw [show ((i + 1 : Nat) : Int) = (i : Int) + 1 by omega]
      exact he2
    · have lt : b < s.heap.objs.size := (two hb).elim (fun z => z ▸ lte) fun z => z ▸ lti
      rw [upd_ne (Nat.ne_of_lt lt)]
      exact (hf b hb).1
  · intro X hP hw hK hc i pins s σ H E I hf st hg
    subst hP hw hK
    obtain ⟨⟨old, he⟩, hit, ne⟩ := st
    obtain ⟨xs, hq, hx⟩ := hg
    obtain ⟨its, rv, p, _⟩ := I.tuple hq
    have p' : s.heap.IsTuple a its.toArray := p
    have ia : a ≠ it := fun z => by
      obtain ⟨o, e1, e2, _⟩ := p'
      obtain ⟨o2, f1, f2, _⟩ := hit
      rw [z, f1] at e1
      cases e1
      rw [f2] at e2
      exact absurd (Value.type.inj e2) (by decide)
    obtain ⟨f0, f1, f2, f3, f4, f5⟩ := hf it (List.mem_cons_of_mem _ List.mem_cons_self)
    have es : its.toArray.size = i := by
      rw [List.size_toArray, ← rv.length, hx]
    have D := Draws.tuple (prog := X.prog) (w := X.w) (A := X.A.in1) (I.ok.hd hc) it a ia its.toArray
    exact wpAny_pyNext_enum_endD D he (by rw [es]; exact ⟨hit, p'⟩) fun h' eb => ⟨rfl, I.turned (t' := s.toks) (fun b o hb q => eb b o hb q) f0 f1 f3 f4 f5⟩
def iEnumT (K : PySem.W.Frag) (ta : TA) : TI := fun σ H R => ta σ H fun vs H1 => ∃ a xs, vs = [.ref a] ∧ SqT K H1 a xs ∧ R (IteT K a) H1
theorem pi_enumT {X : Cx} {e : Expr} {ta : TA} {p pos tpos : Pos} {elts : List Expr} {kk : Nat} (hg : Gl X "enumerate") (hm : X.mg "enumerate" = none) (ha : PA X [e] ta) (hs : starEach [e] X.env = [(false, eval e X.env)] := by rfl) :
    PI X (.Tuple elts kk tpos) (.Call (.Name "enumerate" p) [e] [] pos) (iEnumT X.K ta) := by
  refine ⟨fun pins s σ H R I h => ?_⟩
  refine Call_ (ld_blt I hg hm boot_enumerate (PyProof.Rows.callWith_type1 (thn (ha.run pos pins s σ H _ I h) fun us s1 ⟨vs, H1, I1, r1, q1⟩ => ?_) hs rfl))
  obtain ⟨a, xs, rfl, hq, q⟩ := q1
  obtain ⟨u, rfl, ru⟩ := vals1 r1
  obtain rfl : u = Value.ref a := ru
  obtain ⟨its, rv, p', _⟩ := I1.tuple hq
  refine call_enumB (begins_tuple a its.toArray) (show s1.heap.IsTuple a its.toArray from p') fun h' he hit hk => wpAny_pyIter_enum he ?_
  refine ⟨s1.heap.objs.size + 1, [s1.heap.objs.size + 1, s1.heap.objs.size], _, _, H1, rfl, I1.kept (t' := s1.toks) hk, turn_enumT a (s1.heap.objs.size + 1) s1.heap.objs.size, ⟨⟨.none, he⟩, ⟨_, hit, rfl, rfl⟩, Nat.succ_ne_self _⟩, fun b hb => ?_, q⟩
  have le : s1.heap.objs.size ≤ b := by
    have z : b = s1.heap.objs.size + 1 ∨ b = s1.heap.objs.size := by simpa using hb
    exact z.elim (fun z => z ▸ Nat.le_add_right _ _) fun z => z ▸ Nat.le_refl _
  exact I1.fpOk le (I1.hok.fresh le)
theorem walk_enumT {K : PySem.W.Frag} {a : Addr} {xs : List V} : Walk (IteT K a) xs.length (fun H => SqT K H a xs) (YPair (fun i => some (.int (i : Nat))) (fun i => xs[i]?)) :=
  ⟨fun i _ hi q => ⟨xs, xs[i], q, List.getElem?_eq_getElem hi⟩, fun _ q => ⟨xs, q, rfl⟩, fun i H v H' _ q ⟨T, x, h1, h2, h3, h4⟩ => ⟨T, .int (i : Nat), x, h1, h2, h3, rfl, h4 xs q⟩⟩
/-- the tuple at a and the list at b, the items in new pairs -/
def IzTL (K : PySem.W.Frag) (a b : Addr) : It :=
  ⟨fun i H => ∃ (xs ys : List V) (x y : V), SqT K H a xs ∧ SqL K H b ys ∧ xs[i]? = some x ∧ ys[i]? = some y, fun i H v H' => ∃ T x y, v = .ref T ∧ H T = none ∧ H' = upd H T (.tup [x, y]) ∧ (∀ xs, SqT K H a xs → xs[i]? = some x) ∧ ∀ ys, SqL K H b ys → ys[i]? = some y,
    fun i H => ∃ xs ys : List V, SqT K H a xs ∧ SqL K H b ys ∧ i ≤ xs.length ∧ i ≤ ys.length ∧ (i = xs.length ∨ i = ys.length)⟩
theorem turn_zipTL {P : Program} {w : World} {K : PySem.W.Frag} {elts : List Expr} {kk : Nat} {tpos : Pos} {a b z TI TO i1 i2 : Addr} (S : ZipSep2 z TI TO i1 i2 [i1, a] [i2, b]) (ia : a ≠ i1) (ib : b ≠ i2) :
    Turn P w K (.Tuple elts kk tpos) (IzTL K a b) [z, TI, TO, i1, i2] z (fun i h => IsZip h z TI TO .none ∧ IsTupOf2 h TI (.ref i1) (.ref i2) ∧ (∃ x y, IsTupOf2 h TO x y) ∧ h.IsTupleIter i1 a i ∧ h.IsListIter i2 b i) := by
  have five : ∀ {c : Addr}, c ∈ [z, TI, TO, i1, i2] → c = z ∨ c = TI ∨ c = TO ∨ c = i1 ∨ c = i2 := fun hc => by simpa using hc
  refine ⟨List.mem_cons_self, fun i h st c hc => ?_, fun i h h' st k => ?_, ?_, ?_, fun A i s Q E st h => wpAny_pyIter_zip st.1 h⟩
  · obtain ⟨hz, hTI, ⟨x, y, hTO⟩, ⟨o1, e1, _, d1⟩, ⟨o2, e2, _, d2⟩⟩ := st
    rcases five hc with q | q | q | q | q <;> rw [q]
    · exact ⟨_, hz, fun v q => nomatch q⟩
    · exact ⟨_, hTI, fun v q => nomatch q⟩
    · exact ⟨_, hTO, fun v q => nomatch q⟩
    · exact ⟨o1, e1, fun v q => by rw [d1] at q; cases q⟩
    · exact ⟨o2, e2, fun v q => by rw [d2] at q; cases q⟩
  · obtain ⟨hz, hTI, ⟨x, y, hTO⟩, h1, h2⟩ := st
    exact ⟨k z (by simp) _ hz, k TI (by simp) _ hTI, ⟨x, y, k TO (by simp) _ hTO⟩, h1.at fun o q => k i1 (by simp) o q, h2.at fun o q => k i2 (by simp) o q⟩
  · intro X hP hw hK hc i pins s σ H E I hf st hg
    subst hP hw hK
    obtain ⟨hz, hTI, ⟨x0, y0, hTO⟩, h1, h2⟩ := st
    obtain ⟨xs, ys, x, y, hqx, hqy, hx, hy⟩ := hg
    obtain ⟨its, rv, p, _⟩ := I.tuple hqx
    obtain ⟨its2, rv2, p2, _⟩ := I.list hqy
    obtain ⟨u, hu, ru⟩ := rv.get hx
    obtain ⟨u2, hu2, ru2⟩ := rv2.get hy
    have ltz : z < s.heap.objs.size := Heap.lt_size hz
    have hi1 : i < its.toArray.size := by
      have := (List.getElem?_eq_some_iff.mp hu).1
      simpa using this
    have hi2 : i < its2.toArray.size := by
      have := (List.getElem?_eq_some_iff.mp hu2).1
      simpa using this
    have D1 := Draws.tuple (prog := X.prog) (w := X.w) (A := X.A.in1) (I.ok.hd hc) i1 a ia its.toArray
    have D2 := Draws.list (prog := X.prog) (w := X.w) (A := X.A.in1) (I.ok.hd hc) i2 b ib its2.toArray
    refine wpAny_pyNext_zipD2_item S D1 D2 hz hTI hTO ⟨h1, (show s.heap.IsTuple a its.toArray from p)⟩ ⟨h2, p2.isList⟩ hi1 hi2 fun v1 v2 hp tk e1 e2 z' TO' st1 st2 hT hsz hk => ?_
    obtain rfl : v1 = u := by
      have e1' : its.toArray[i]? = some v1 := e1
      rw [List.getElem?_toArray, hu] at e1'
      exact (Option.some.inj e1').symm
    obtain rfl : v2 = u2 := by
      have e2' : its2.toArray[i]? = some v2 := e2
      rw [List.getElem?_toArray, hu2] at e2'
      exact (Option.some.inj e2').symm
    refine ⟨_, rfl, wpAny_letOwnedTupleGo_zip (s := { s with heap := hp, toks := tk }) z' fun hq z'' sb => ?_⟩
    have hT2 : hq.get? s.heap.objs.size = some { cls := .type "tuple", data := .seq #[v1, v2] } := (sb.2 _ (Nat.ne_of_gt ltz)).trans hT
    have I1 : Inv X pins σ (upd H s.heap.objs.size (.tup [x, y])) { s with heap := hq, toks := tk } :=
      I.turnedNew (t' := tk) (ch := [z, TI, TO, i1, i2]) (fun c o hb q => (sb.2 c (fun q' => hb (by simp [q']))).trans (hk c o (fun q' => hb (by simp [q'])) (fun q' => hb (by simp [q'])) (fun q' => hb (by simp [q'])) (fun q' => hb (by simp [q'])) q)) hf (Nat.le_refl _)
        ⟨by show 2 ≤ sizeLine; decide, [v1, v2], .cons ru (.cons ru2 .nil), ⟨_, hT2, rfl, _, rfl⟩⟩
    refine ⟨.ref s.heap.objs.size, _, I1, rfl, ⟨_, x, y, rfl, I.hok.fresh (Nat.le_refl _), rfl, fun l hl => by rw [I.tuple_inj hl hqx]; exact hx, fun l hl => by rw [I.list_inj hl hqy]; exact hy⟩, ⟨z'', ?_, ⟨v1, v2, ?_⟩, ?_, ?_⟩, fun c hcm => ?_⟩
    · exact (sb.2 _ S.TIz).trans (hk _ _ S.TIz S.TITO S.TIi1 S.TIi2 hTI)
    · exact (sb.2 _ S.TOz).trans TO'
    · exact st1.1.at fun o q => (sb.2 _ (Ne.symm S.zi1)).trans q
    · exact st2.1.at fun o q => (sb.2 _ (Ne.symm S.zi2)).trans q
    · have lt : c < s.heap.objs.size := by
        rcases five hcm with q | q | q | q | q <;> rw [q]
        · exact ltz
        · exact Heap.lt_size hTI
        · exact Heap.lt_size hTO
        · obtain ⟨_, e1, _⟩ := h1
          exact Heap.lt_size e1
        · obtain ⟨_, e2, _⟩ := h2
          exact Heap.lt_size e2
      rw [upd_ne (Nat.ne_of_lt lt)]
      exact (hf c hcm).1
  · intro X hP hw hK hc i pins s σ H E I hf st hg
    subst hP hw hK
    obtain ⟨hz, hTI, ⟨x0, y0, hTO⟩, h1, h2⟩ := st
    obtain ⟨xs, ys, hqx, hqy, l1, l2, hend⟩ := hg
    obtain ⟨its, rv, p, _⟩ := I.tuple hqx
    obtain ⟨its2, rv2, p2, _⟩ := I.list hqy
    have s1 : its.toArray.size = xs.length := by rw [List.size_toArray, rv.length]
    have s2 : its2.toArray.size = ys.length := by rw [List.size_toArray, rv2.length]
    have D1 := Draws.tuple (prog := X.prog) (w := X.w) (A := X.A.in1) (I.ok.hd hc) i1 a ia its.toArray
    have D2 := Draws.list (prog := X.prog) (w := X.w) (A := X.A.in1) (I.ok.hd hc) i2 b ib its2.toArray
    exact wpAny_pyNext_zipD2_end S D1 D2 hz hTI hTO ⟨h1, (show s.heap.IsTuple a its.toArray from p)⟩ ⟨h2, p2.isList⟩ (by omega) (by omega) (by omega) fun h' tk hk => ⟨rfl, I.turnedL (t' := tk) (ch := [z, TI, TO, i1, i2]) (fun c o hb q =>
      hk c o (fun q' => hb (by simp [q'])) (fun q' => hb (by simp [q'])) (fun q' => hb (by simp [q'])) (fun q' => hb (by simp [q'])) q) hf⟩
def iZipTL (K : PySem.W.Frag) (ta : TA) : TI := fun σ H R => ta σ H fun vs H1 => ∃ a b xs ys, vs = [.ref a, .ref b] ∧ SqT K H1 a xs ∧ SqL K H1 b ys ∧ R (IzTL K a b) H1
theorem pi_zipTL {X : Cx} {e e2 : Expr} {ta : TA} {p pos tpos : Pos} {elts : List Expr} {kk : Nat} (hg : Gl X "zip") (hm : X.mg "zip" = none) (ha : PA X [e, e2] ta)
    (hs : starEach [e, e2] X.env = (false, eval e X.env) :: starEach [e2] X.env := by rfl) (hpl : (backTo pos (starEach [e2] X.env)).any (·.1) = false := by rfl) :
    PI X (.Tuple elts kk tpos) (.Call (.Name "zip" p) [e, e2] [] pos) (iZipTL X.K ta) := by
  refine ⟨fun pins s σ H R I h => ?_⟩
  refine Call_ (ld_blt I hg hm PyProof.Rows.boot_zip (PyProof.Rows.callWith_type1 (thn (ha.run pos pins s σ H _ I h) fun us s1 ⟨vs, H1, I1, r1, q1⟩ => ?_) hs hpl))
  obtain ⟨a, b, xs, ys, rfl, hqx, hqy, q⟩ := q1
  obtain ⟨u1, u2, rfl, ra, rb⟩ := vals2 r1
  obtain rfl : u1 = Value.ref a := ra
  obtain rfl : u2 = Value.ref b := rb
  obtain ⟨its, rv, p1, _⟩ := I1.tuple hqx
  obtain ⟨its2, rv2, p2, _⟩ := I1.list hqy
  have pa : s1.heap.IsTuple a its.toArray := p1
  have la : a < s1.heap.objs.size := let ⟨_, e, _⟩ := pa; Heap.lt_size e
  have lb : b < s1.heap.objs.size := p2.lt
  refine zip_begins2 (begins_tuple a its.toArray) (begins_list b its2.toArray) pa p2.isList fun h' hz hTI hTO g1 g2 hsz hk => wpAny_pyIter_zip hz ?_
  have S := zip_sep2 (N := s1.heap.objs.size) (fp1 := [a]) (fp2 := [b]) (fun c hc => by rw [List.mem_singleton.mp hc]; exact la) fun c hc => by rw [List.mem_singleton.mp hc]; exact lb
  refine ⟨_, [s1.heap.objs.size + 4, s1.heap.objs.size + 2, s1.heap.objs.size + 3, s1.heap.objs.size, s1.heap.objs.size + 1], _, _, H1, rfl, I1.kept (t' := s1.toks) hk, turn_zipTL S (Nat.ne_of_lt la) (Nat.ne_of_lt (Nat.lt_succ_of_lt lb)), ⟨hz, hTI, ⟨_, _, hTO⟩, ⟨_, g1, rfl, rfl⟩, ⟨_, g2, rfl, rfl⟩⟩, fun c hcm => ?_, q⟩
  have le : s1.heap.objs.size ≤ c := by
    have z : c = s1.heap.objs.size + 4 ∨ c = s1.heap.objs.size + 2 ∨ c = s1.heap.objs.size + 3 ∨ c = s1.heap.objs.size ∨ c = s1.heap.objs.size + 1 := by simpa using hcm
    rcases z with z | z | z | z | z <;> rw [z] <;> first | exact Nat.le_add_right _ _ | exact Nat.le_refl _
  exact I1.fpOk le (I1.hok.fresh le)
theorem walk_zipTL {K : PySem.W.Frag} {a b : Addr} {xs ys : List V} {n : Nat} (e1 : xs.length = n) (e2 : ys.length = n) : Walk (IzTL K a b) n (fun H => SqT K H a xs ∧ SqL K H b ys) (YPair (fun i => xs[i]?) (fun i => ys[i]?)) :=
  ⟨fun i _ hi q => ⟨xs, ys, xs[i]'(by omega), ys[i]'(by omega), q.1, q.2, List.getElem?_eq_getElem _, List.getElem?_eq_getElem _⟩, fun _ q => ⟨xs, ys, q.1, q.2, by omega, by omega, by omega⟩, fun i H v H' _ q ⟨T, x, y, h1, h2, h3, h4, h5⟩ => ⟨T, x, y, h1, h2, h3, h4 xs q.1, h5 ys q.2⟩⟩
end XV
set_option Elab.async false
set_option linter.all false
set_option maxRecDepth 100000
set_option maxHeartbeats 4000000
/-! a tuple times any number -/
namespace XV
open PySem PySem.Spec PyProof.Rows L2
theorem mul_one_ (l : Addr) (items : Array Value) (n : Nat) (dd : Option Addr) (sl : Array (Option Value)) (u : Tok) :
    Meets (Builtin.«tuple.__mul__» ⟨[.ref l, .int 1 u], []⟩) (fun _ R s => s.heap.get? l = some { cls := .type "tuple", dict := dd, data := .seq items n, slots := sl } ∧ R (.ok (.ret (Value.ref l))) s) :=
  .of_wp fun prog w A R s ⟨hl, h⟩ => by
    obtain ⟨hp, g, d, tk, os⟩ := s
    have f1 := AutoSeq1.idx_int
    have c1 : (items.isEmpty || (1 : Int) == 1) = true := by simp
    wp_walk using wpAny_loadPart' hl
    exact ⟨_, rfl, h⟩
theorem mul_nil_ (l : Addr) (items : Array Value) (n : Nat) (dd : Option Addr) (sl : Array (Option Value)) (u : Tok) (ne : items.isEmpty = false) :
    Meets (Builtin.«tuple.__mul__» ⟨[.ref l, .int 0 u], []⟩) (fun _ R s => s.heap.get? l = some { cls := .type "tuple", dict := dd, data := .seq items n, slots := sl } ∧
      R (.ok (.ret (Value.ref s.heap.objs.size))) { s with heap := s.heap.push { cls := Value.type "tuple", data := Data.seq #[] }, toks := s.toks }) :=
  .of_wp fun prog w A R s ⟨hl, h⟩ => by
    obtain ⟨hp, g, d, tk, os⟩ := s
    have f1 := AutoSeq1.idx_int
    have c1 : (items.isEmpty || (0 : Int) == 1) = false := by rw [ne]; rfl
    wp_walk using wpAny_loadPart' hl
    exact ⟨_, rfl, h⟩
def rRepA (K : PySem.W.Frag) : R2 := fun x y H Q => ∃ l k xs, x = .ref l ∧ y = .int k ∧ SqT K H l xs ∧ xs ≠ [] ∧ 0 ≤ k ∧ k ≤ 1000 ∧ xs.length ≤ 1000 ∧ (k = 1 → Q (.ref l) H) ∧ (k ≠ 1 → ∀ p, H p = none → Q (.ref p) (upd H p (.tup (List.replicate k.toNat xs).flatten)))
theorem op_repA {X : Cx} : OpR X (binaryOp .Mult) (rRepA X.K) := by
  intro pins s σ H x y v u Q I rx ry h
  obtain ⟨l, k, xs, rfl, rfl, hT, ne, h1, h2, hz, q1, q2⟩ := h
  by_cases big : 2 ≤ k
  · exact op_repT pins s σ H _ _ v u Q I rx ry ⟨l, k, xs, rfl, rfl, hT, ne, big, h2, hz, q2 (by omega)⟩
  cases rx
  obtain ⟨t, rfl⟩ := ry
  obtain ⟨its, r, ⟨⟨cls, dd, data, sl⟩, ho, hc, n, hd⟩, hs⟩ := I.tuple hT
  dsimp only at hc hd
  subst hc hd
  have nil_ : its.toArray.isEmpty = false := by
    cases its with
    | nil =>
      cases r
      exact absurd rfl ne
    | cons a b => rfl
  by_cases one : k = 1
  · subst one
    exact wpAny_binaryOp_repeat_ref (T := "tuple") (U := "int") (by decide) ⟨_, ho, rfl⟩ (fun s' => typeIs_int s' 1 t) noFill_tuple_mul F.fills_int_mul F.slot_int_rmul repeat_tuple F.slot_int_index.lookup
      (call_meets F.slot_int_rmul (typeIs_int s 1 t) F.entry_int_rmul (F.args_int_rmul_2 _ _) (int_rmul_tuple 1 t l its.toArray n dd sl)
        ⟨ho, rfl, ⟨_, ho, rfl⟩, call_meets F.slot_tuple_mul ⟨_, ho, rfl⟩ F.entry_tuple_mul (F.args_tuple_mul_2 _ _) (mul_one_ l its.toArray n dd sl t) ⟨ho, .ref l, H, I, rfl, q1 rfl⟩⟩)
  · obtain rfl : k = 0 := by omega
    refine wpAny_binaryOp_repeat_ref (T := "tuple") (U := "int") (by decide) ⟨_, ho, rfl⟩ (fun s' => typeIs_int s' 0 t) noFill_tuple_mul F.fills_int_mul F.slot_int_rmul repeat_tuple F.slot_int_index.lookup
      (call_meets F.slot_int_rmul (typeIs_int s 0 t) F.entry_int_rmul (F.args_int_rmul_2 _ _) (int_rmul_tuple 0 t l its.toArray n dd sl)
        ⟨ho, rfl, ⟨_, ho, rfl⟩, call_meets F.slot_tuple_mul ⟨_, ho, rfl⟩ F.entry_tuple_mul (F.args_tuple_mul_2 _ _) (mul_nil_ l its.toArray n dd sl t nil_) ⟨ho, ?_⟩⟩)
    exact ⟨.ref s.heap.objs.size, _, I.laid (t' := s.toks) (o := .tup []) (fun b ob q => Heap.get?_push_of_some _ q) (Nat.le_refl _) ⟨Nat.zero_le _, [], .nil, IsTup.new _ _⟩, rfl, q2 one _ (I.hok.fresh (Nat.le_refl _))⟩
end XV
set_option Elab.async false
set_option linter.all false
set_option maxRecDepth 100000
set_option maxHeartbeats 4000000
/-! tables of a slab -/
namespace SL
open PySem PySem.Spec PyProof.Rows L2 XV
/-! ### counts, rows, tables -/
def CntAt (H : Hp) (x : V) (ns : List Int) : Prop := ∃ c, x = .ref c ∧ H c = some (.tup (ns.map V.int))
abbrev RowsAt (H : Hp) : List V → List (List Int) → Prop := Paired (CntAt H)
def TabAt (H : Hp) (t : V) (rows : List (List Int)) : Prop := ∃ a xs, t = .ref a ∧ H a = some (.tup xs) ∧ RowsAt H xs rows
theorem CntAt.keep {H H' : Hp} {x : V} {ns : List Int} (h : CntAt H x ns) (k : Same H H') : CntAt H' x ns := let ⟨c, e, z⟩ := h; ⟨c, e, k _ _ z⟩
theorem RowsAt.keep {H H' : Hp} (k : Same H H') : ∀ {xs : List V} {rows : List (List Int)}, RowsAt H xs rows → RowsAt H' xs rows
  | _, _, .nil => .nil
  | _, _, .cons a r => .cons (a.keep k) (RowsAt.keep k r)
theorem TabAt.keep {H H' : Hp} {t : V} {rows : List (List Int)} (h : TabAt H t rows) (k : Same H H') : TabAt H' t rows := let ⟨a, xs, e, z, r⟩ := h; ⟨a, xs, e, k _ _ z, RowsAt.keep k r⟩
theorem rows_get {H : Hp} : ∀ {xs : List V} {rows : List (List Int)} {i : Nat} {y : V}, RowsAt H xs rows → xs[i]? = some y → ∃ ns, rows[i]? = some ns ∧ CntAt H y ns
  | _, _, _, _, .nil, h => by simp at h
  | _, _, 0, _, .cons a r, h => by
    simp at h
    subst h
    exact ⟨_, rfl, a⟩
  | _, _, i + 1, y, .cons a r, h => by
    obtain ⟨q, h1, h2⟩ := rows_get (i := i) r (by simpa using h)
    exact ⟨q, by simpa using h1, h2⟩
theorem rows_at {H : Hp} : ∀ {xs : List V} {rows : List (List Int)} {i : Nat} {ns : List Int}, RowsAt H xs rows → rows[i]? = some ns → ∃ y, xs[i]? = some y ∧ CntAt H y ns
  | _, _, _, _, .nil, h => by simp at h
  | _, _, 0, _, .cons a r, h => by
    simp at h
    subst h
    exact ⟨_, rfl, a⟩
  | _, _, i + 1, y, .cons a r, h => by
    obtain ⟨q, h1, h2⟩ := rows_at (i := i) r (by simpa using h)
    exact ⟨q, by simpa using h1, h2⟩
/-- the number of pages, the live bytes -/
def pgs (rows : List (List Int)) : Nat := (rows.map List.length).sum
def lv (ps : List (Int × Int)) (rows : List (List Int)) : Int := ((ps.zip rows).map fun p => p.1.1 * p.2.sum).sum
/-- ints that ascend from lo up to hi at most -/
def asc (hi : Int) : Int → List V → Bool
  | _, [] => true
  | lo, .int i :: ys => (decide (lo ≤ i) && decide (i ≤ hi)) && asc hi i ys
  | _, _ :: _ => false
def cntB (H : Hp) (hi : Int) : V → Bool
  | .ref c => (match H c with
    | some (.tup ys) => asc hi 1 ys
    | _ => false)
  | _ => false
def iV : V → Int
  | .int i => i
  | _ => 0
def cntI (H : Hp) : V → List Int
  | .ref c => (match H c with
    | some (.tup ys) => ys.map iV
    | _ => [])
  | _ => []
/-- the first class whose counts are none -/
def firstBad (H : Hp) (xs : List V) (ps : List (Int × Int)) : Option Nat := (xs.zip ps).findIdx? fun p => !cntB H p.2.2 p.1
def badT (H : Hp) (ps : List (Int × Int)) (L : Int) (t : V) : Option Int := match t with
  | .ref a => (match H a with
    | some (.tup xs) => if xs.length = ps.length then
        (match firstBad H xs ps with
        | some i => some (i : Int)
        | none => if 60 < pgs (xs.map (cntI H)) then some (ps.length : Int) else if L < lv ps (xs.map (cntI H)) then some ((ps.length : Int) + 1) else none)
      else some (-1)
    | _ => some (-1))
  | _ => some (-1)
theorem asc_ints {hi : Int} : ∀ {lo : Int} {ys : List V}, asc hi lo ys = true → ys = (ys.map iV).map V.int
  | _, [], _ => rfl
  | lo, .int i :: ys, h => by
    have h' : ((decide (lo ≤ i) && decide (i ≤ hi)) && asc hi i ys) = true := h
    rw [Bool.and_eq_true] at h'
    have := asc_ints h'.2
    show V.int i :: ys = V.int i :: (ys.map iV).map V.int
    rw [← this]
theorem cntB_at {H : Hp} {hi : Int} {x : V} (h : cntB H hi x = true) : CntAt H x (cntI H x) := by
  cases x with
  | ref c =>
    cases e : H c with
    | none =>
      have h' : (match H c with | some (.tup ys) => asc hi 1 ys | _ => false) = true := h
      rw [e] at h'
      cases h'
    | some o =>
      have h' : (match H c with | some (.tup ys) => asc hi 1 ys | _ => false) = true := h
      rw [e] at h'
      cases o with
      | tup ys =>
        refine ⟨c, rfl, ?_⟩
        have e2 : cntI H (.ref c) = ys.map iV := by
          show (match H c with | some (.tup ys) => ys.map iV | _ => []) = ys.map iV
          rw [e]
        rw [e2, ← asc_ints h', e]
      | _ => cases h'
  | _ => cases h
theorem cntI_of {H : Hp} {x : V} {ns : List Int} (h : CntAt H x ns) : cntI H x = ns := by
  obtain ⟨c, rfl, e⟩ := h
  show (match H c with | some (.tup ys) => ys.map iV | _ => []) = ns
  rw [e]
  show (ns.map V.int).map iV = ns
  rw [List.map_map]
  exact List.map_id'' (fun _ => rfl) ns
theorem rows_of {H : Hp} : ∀ {xs : List V} {rows : List (List Int)}, RowsAt H xs rows → xs.map (cntI H) = rows
  | _, _, .nil => rfl
  | _, _, .cons a r => by rw [List.map_cons, cntI_of a, rows_of r]
theorem rowsAt_of {H : Hp} : ∀ {xs : List V}, (∀ x ∈ xs, CntAt H x (cntI H x)) → RowsAt H xs (xs.map (cntI H))
  | [], _ => .nil
  | x :: xs, h => .cons (h x List.mem_cons_self) (rowsAt_of fun y hy => h y (List.mem_cons_of_mem _ hy))
/-- ascending counts in plain words -/
def Asc (hi : Int) (ns : List Int) : Prop := ns.Pairwise (· ≤ ·) ∧ ∀ n ∈ ns, 1 ≤ n ∧ n ≤ hi
theorem asc_iff {hi : Int} : ∀ {lo : Int} {ns : List Int}, asc hi lo (ns.map V.int) = true ↔ ns.Pairwise (· ≤ ·) ∧ ∀ n ∈ ns, lo ≤ n ∧ n ≤ hi
  | _, [] => by simp [asc]
  | lo, n :: ns => by
    show (((decide (lo ≤ n) && decide (n ≤ hi)) && asc hi n (ns.map V.int)) = true) ↔ _
    rw [Bool.and_eq_true, Bool.and_eq_true, decide_eq_true_eq, decide_eq_true_eq, asc_iff, List.pairwise_cons]
    constructor
    · rintro ⟨⟨h1, h2⟩, h3, h4⟩
      refine ⟨⟨fun m hm => (h4 m hm).1, h3⟩, fun m hm => ?_⟩
      rcases List.mem_cons.mp hm with e | hm
      · rw [e]
        exact ⟨h1, h2⟩
      · have := h4 m hm
        omega
    · rintro ⟨⟨h1, h2⟩, h3⟩
      have z := h3 n List.mem_cons_self
      exact ⟨z, h2, fun m hm => ⟨h1 m hm, (h3 m (List.mem_cons_of_mem _ hm)).2⟩⟩
theorem cntB_iff {H : Hp} {hi : Int} {x : V} {ns : List Int} (h : CntAt H x ns) : cntB H hi x = true ↔ Asc hi ns := by
  obtain ⟨c, rfl, e⟩ := h
  show ((match H c with | some (.tup ys) => asc hi 1 ys | _ => false) = true) ↔ _
  rw [e]
  exact asc_iff
/-- a table of a slab -/
structure TabOk (ps : List (Int × Int)) (L : Int) (rows : List (List Int)) : Prop where
  len : rows.length = ps.length
  cnt : ∀ (i : Nat) (q : Int × Int) (ns : List Int), ps[i]? = some q → rows[i]? = some ns → Asc q.2 ns
  few : pgs rows ≤ 60
  fit : lv ps rows ≤ L
theorem firstBad_none {H : Hp} : ∀ {xs : List V} {ps : List (Int × Int)} {rows : List (List Int)}, RowsAt H xs rows → (∀ (i : Nat) (q : Int × Int) (ns : List Int), ps[i]? = some q → rows[i]? = some ns → Asc q.2 ns) → firstBad H xs ps = none := by
  intro xs ps rows r h
  refine List.findIdx?_eq_none_iff.mpr fun p hp => ?_
  obtain ⟨i, hi⟩ := List.mem_iff_getElem?.mp hp
  rw [List.getElem?_zip_eq_some] at hi
  obtain ⟨ns, h1, h2⟩ := rows_get r hi.1
  rw [(cntB_iff h2).mpr (h i _ _ hi.2 h1)]
  rfl
theorem badT_ok {H : Hp} {ps : List (Int × Int)} {L : Int} {t : V} {rows : List (List Int)} (h : TabAt H t rows) (k : TabOk ps L rows) : badT H ps L t = none := by
  obtain ⟨a, xs, rfl, e, r⟩ := h
  show (match H a with
    | some (.tup xs) => if xs.length = ps.length then
        (match firstBad H xs ps with
        | some i => some (i : Int)
        | none => if 60 < pgs (xs.map (cntI H)) then some (ps.length : Int) else if L < lv ps (xs.map (cntI H)) then some ((ps.length : Int) + 1) else none)
      else some (-1)
    | _ => some (-1)) = none
  rw [e]
  show (if xs.length = ps.length then _ else some (-1)) = none
  rw [if_pos (by rw [Paired.length r, k.len]), firstBad_none r k.cnt, rows_of r]
  show (if 60 < pgs rows then some (ps.length : Int) else if L < lv ps rows then some ((ps.length : Int) + 1) else none) = none
  rw [if_neg (Nat.not_lt.mpr k.few), if_neg (Int.not_lt.mpr k.fit)]
/-- what is known when a value is no bad table -/
theorem badT_none {H : Hp} {ps : List (Int × Int)} {L : Int} {t : V} (h : badT H ps L t = none) : ∃ rows, TabAt H t rows ∧ TabOk ps L rows := by
  cases t with
  | ref a =>
    have h' : (match H a with
      | some (.tup xs) => if xs.length = ps.length then
          (match firstBad H xs ps with
          | some i => some (i : Int)
          | none => if 60 < pgs (xs.map (cntI H)) then some (ps.length : Int) else if L < lv ps (xs.map (cntI H)) then some ((ps.length : Int) + 1) else none)
        else some (-1)
      | _ => some (-1)) = none := h
    cases e : H a with
    | none =>
      rw [e] at h'
      cases h'
    | some o =>
      rw [e] at h'
      cases o with
      | tup xs =>
        have h2 : (if xs.length = ps.length then
          (match firstBad H xs ps with
          | some i => some (i : Int)
          | none => if 60 < pgs (xs.map (cntI H)) then some (ps.length : Int) else if L < lv ps (xs.map (cntI H)) then some ((ps.length : Int) + 1) else none)
        else some (-1)) = none := h'
        by_cases hl : xs.length = ps.length
        · rw [if_pos hl] at h2
          cases hf : firstBad H xs ps with
          | some i =>
            rw [hf] at h2
            cases h2
          | none =>
            rw [hf] at h2
            have h3 : (if 60 < pgs (xs.map (cntI H)) then some (ps.length : Int) else if L < lv ps (xs.map (cntI H)) then some ((ps.length : Int) + 1) else none) = none := h2
            by_cases h60 : 60 < pgs (xs.map (cntI H))
            · rw [if_pos h60] at h3
              cases h3
            · rw [if_neg h60] at h3
              by_cases hL : L < lv ps (xs.map (cntI H))
              · rw [if_pos hL] at h3
                cases h3
              · have good : ∀ (i : Nat) (x : V) (q : Int × Int), xs[i]? = some x → ps[i]? = some q → cntB H q.2 x = true := fun i x q hx hq => by
                  have z := List.findIdx?_eq_none_iff.mp hf (x, q) (List.mem_of_getElem? (by rw [List.getElem?_zip_eq_some]; exact ⟨hx, hq⟩))
                  simpa using z
                have all : ∀ x ∈ xs, CntAt H x (cntI H x) := fun x hx => by
                  obtain ⟨i, hi⟩ := List.mem_iff_getElem?.mp hx
                  have lt := (List.getElem?_eq_some_iff.mp hi).1
                  exact cntB_at (good i x ps[i] hi (List.getElem?_eq_getElem (by omega)))
                have r := rowsAt_of all
                refine ⟨_, ⟨a, xs, rfl, e, r⟩, by rw [List.length_map, hl], fun i q ns hq hn => ?_, Nat.not_lt.mp h60, Int.not_lt.mp hL⟩
                obtain ⟨y, hy, cy⟩ := rows_at r hn
                exact (cntB_iff cy).mp (good i y q hy hq)
        · rw [if_neg hl] at h2
          cases h2
      | _ => cases h'
  | _ => cases h
theorem pi_or {X : Cx} {tg e : Expr} {w1 w2 : TI} (h1 : PI X tg e w1) (h2 : PI X tg e w2) : PI X tg e (fun σ H R => w1 σ H R ∨ w2 σ H R) := ⟨fun pins s σ H R I h => h.elim (h1.run pins s σ H R I) (h2.run pins s σ H R I)⟩
def LenAt (H : Hp) (x : V) (n : Nat) : Prop := ∃ c ys, x = .ref c ∧ H c = some (.tup ys) ∧ ys.length = n
theorem LenAt.keep {H H' : Hp} {x : V} {n : Nat} (h : LenAt H x n) (k : Same H H') : LenAt H' x n := let ⟨c, ys, e, z, l⟩ := h; ⟨c, ys, e, k _ _ z, l⟩
theorem lens_of {H : Hp} : ∀ {xs : List V} {rows : List (List Int)}, RowsAt H xs rows → Paired (LenAt H) xs (rows.map List.length)
  | _, _, .nil => .nil
  | _, _, .cons ⟨c, e, z⟩ r => .cons ⟨c, _, e, z, List.length_map ..⟩ (lens_of r)
theorem natsum : ∀ ls : List Nat, (ls.map fun (n : Nat) => (n : Int)).sum = (ls.sum : Int)
  | [] => rfl
  | n :: ls => by
    rw [List.map_cons, List.sum_cons, natsum ls, List.sum_cons]
    omega
/-! ### rules whose reading names the written part (for comprehensions) -/
def rLenK (K : PySem.W.Frag) : List V → Hp → VK → Prop := fun xs H Q => ∃ p ys, xs = [V.ref p] ∧ (SqL K H p ys ∨ SqT K H p ys) ∧ Q (.int ys.length) H
theorem call_lenK {X : Cx} {K : PySem.W.Frag} (e : X.K = K) : CallR X (.builtin "len") (rLenK K) := by
  subst e
  exact call_len_seq
theorem cr_sumTK {X : Cx} {K : PySem.W.Frag} (e : X.K = K) (hc : X.calm = true) : CallR X (.builtin "sum") (rSumT K) := by
  subst e
  exact cr_sumT hc
theorem badT_tup {H : Hp} {ps : List (Int × Int)} {L : Int} {a : Addr} {xs : List V} (e : H a = some (.tup xs)) : badT H ps L (.ref a) = if xs.length = ps.length then
    (match firstBad H xs ps with
    | some i => some (i : Int)
    | none => if 60 < pgs (xs.map (cntI H)) then some (ps.length : Int) else if L < lv ps (xs.map (cntI H)) then some ((ps.length : Int) + 1) else none)
    else some (-1) := by
  show (match H a with
    | some (.tup xs) => if xs.length = ps.length then
        (match firstBad H xs ps with
        | some i => some (i : Int)
        | none => if 60 < pgs (xs.map (cntI H)) then some (ps.length : Int) else if L < lv ps (xs.map (cntI H)) then some ((ps.length : Int) + 1) else none)
      else some (-1)
    | _ => some (-1)) = _
  rw [e]
theorem badT_no {H : Hp} {ps : List (Int × Int)} {L : Int} {t : V} (h : ∀ a xs, t = .ref a → H a ≠ some (.tup xs)) : badT H ps L t = some (-1) := by
  cases t with
  | ref a =>
    show (match H a with
      | some (.tup xs) => if xs.length = ps.length then
          (match firstBad H xs ps with
          | some i => some (i : Int)
          | none => if 60 < pgs (xs.map (cntI H)) then some (ps.length : Int) else if L < lv ps (xs.map (cntI H)) then some ((ps.length : Int) + 1) else none)
        else some (-1)
      | _ => some (-1)) = _
    cases e : H a with
    | none => rfl
    | some o =>
      cases o with
      | tup xs => exact (h a xs rfl e).elim
      | _ => rfl
  | _ => rfl
theorem cntB_keep {H H' : Hp} {hi : Int} {x : V} (h : Ty H x) (k : Same H H') : cntB H' hi x = cntB H hi x := by
  cases x with
  | ref c =>
    obtain ⟨o, e⟩ := h.here
    show (match H' c with | some (.tup ys) => asc hi 1 ys | _ => false) = (match H c with | some (.tup ys) => asc hi 1 ys | _ => false)
    rw [e, k _ _ e]
  | _ => rfl
theorem firstBad_some {H : Hp} {xs : List V} {ps : List (Int × Int)} {j : Nat} {x : V} {q : Int × Int} (hx : xs[j]? = some x) (hq : ps[j]? = some q) (c : cntB H q.2 x = false) (h : ∀ (i : Nat) y r, i < j → xs[i]? = some y → ps[i]? = some r → cntB H r.2 y = true) : firstBad H xs ps = some j := by
  have z : (xs.zip ps)[j]? = some (x, q) := List.getElem?_zip_eq_some.mpr ⟨hx, hq⟩
  obtain ⟨hj, ez⟩ := List.getElem?_eq_some_iff.mp z
  refine List.findIdx?_eq_some_iff_getElem.mpr ⟨hj, by rw [ez, c]; rfl, fun i hi => ?_⟩
  have hi' : i < (xs.zip ps).length := by omega
  have zi : (xs.zip ps)[i]? = some (xs.zip ps)[i] := List.getElem?_eq_getElem hi'
  obtain ⟨h1, h2⟩ := List.getElem?_zip_eq_some.mp zi
  rw [h i _ _ hi h1 h2]
  simp
/-- what check_table is asked with -/
def TyT (H : Hp) (t : V) : Prop := Ty H t ∧ ∀ (a : Addr) (xs : List V), t = .ref a → H a = some (.tup xs) → xs.length ≤ 1000 ∧ ∀ x ∈ xs, TyI H x
theorem TyT.keep {H H' : Hp} {t : V} (h : TyT H t) (k : Same H H') : TyT H' t := by
  refine ⟨h.1.keep k, fun a xs et e => ?_⟩
  subst et
  obtain ⟨o, eo⟩ := h.1.here
  have z := k _ _ eo
  rw [e] at z
  have z2 := Option.some.inj z
  subst z2
  obtain ⟨h1, h2⟩ := h.2 a xs rfl eo
  exact ⟨h1, fun x hx => (h2 x hx).keep k⟩
theorem TyT.of {H : Hp} {t : V} {rows : List (List Int)} (h : TabAt H t rows) (hl : rows.length ≤ 1000) : TyT H t := by
  obtain ⟨a, xs, rfl, e, r⟩ := h
  refine ⟨⟨_, .tup e⟩, fun b ys eb ez => ?_⟩
  cases eb
  rw [e] at ez
  cases ez
  refine ⟨by rw [Paired.length r]; exact hl, fun x hx => ?_⟩
  obtain ⟨i, hi⟩ := List.mem_iff_getElem?.mp hx
  obtain ⟨ns, _, c, rfl, ec⟩ := rows_get r hi
  refine ⟨⟨_, .tup ec⟩, fun d zs ed ez y hy => ?_⟩
  cases ed
  rw [ec] at ez
  cases ez
  obtain ⟨n, _, rfl⟩ := List.mem_map.mp hy
  exact ⟨_, .int n⟩
/-- the size classes of a slab -/
structure SzOk (ps : List (Int × Int)) : Prop where
  rg : ∀ q ∈ ps, (1 ≤ q.1 ∧ q.1 ≤ 1000) ∧ 1 ≤ q.2 ∧ q.2 ≤ 60
  n1 : 1 ≤ ps.length
  n6 : ps.length ≤ 6
end SL
set_option Elab.async false
set_option linter.all false
set_option maxRecDepth 100000
set_option maxHeartbeats 4000000
namespace K03
open PySem PySem.Spec PyProof.Rows L2 XV SL
abbrev s_check_table : Stmt := topS 19
theorem sc_check_table : FnScope ["slab", "table", "number", "counts"] ["slab", "table"] (defScope s_check_table) := ⟨rfl, rfl, rfl, by decide +kernel, rfl, by decide +kernel, by decide +kernel⟩
abbrev s_are_counts : Stmt := topS 20
theorem sc_are_counts : FnScope ["counts", "slots", "least", "count"] ["counts", "slots"] (defScope s_are_counts) := ⟨rfl, rfl, rfl, by decide +kernel, rfl, by decide +kernel, by decide +kernel⟩
abbrev s_page_total : Stmt := topS 21
theorem sc_page_total : FnScope ["rows", "counts"] ["rows"] (defScope s_page_total) := ⟨rfl, rfl, rfl, by decide +kernel, rfl, by decide +kernel, by decide +kernel⟩
abbrev s_byte_total : Stmt := topS 22
theorem sc_byte_total : FnScope ["slab", "rows", "number", "counts"] ["slab", "rows"] (defScope s_byte_total) := ⟨rfl, rfl, rfl, by decide +kernel, rfl, by decide +kernel, by decide +kernel⟩
abbrev s_empty : Stmt := topS 23
theorem sc_empty : FnScope ["slab"] ["slab"] (defScope s_empty) := ⟨rfl, rfl, rfl, by decide +kernel, rfl, by decide +kernel, by decide +kernel⟩
abbrev s_live : Stmt := topS 24
theorem sc_live : FnScope ["slab", "table"] ["slab", "table"] (defScope s_live) := ⟨rfl, rfl, rfl, by decide +kernel, rfl, by decide +kernel, by decide +kernel⟩
abbrev s_pages : Stmt := topS 25
theorem sc_pages : FnScope ["slab", "table", "counts"] ["slab", "table"] (defScope s_pages) := ⟨rfl, rfl, rfl, by decide +kernel, rfl, by decide +kernel, by decide +kernel⟩
abbrev s_steps : Stmt := topS 26
theorem sc_steps : FnScope ["slab", "table", "held", "word", "number", "counts", "count"] ["slab", "table"] (defScope s_steps) := ⟨rfl, rfl, rfl, by decide +kernel, rfl, by decide +kernel, by decide +kernel⟩
abbrev s_played : Stmt := topS 27
theorem sc_played : FnScope ["slab", "table", "row", "held", "rows", "index", "step", "word", "number", "count"] ["slab", "table", "row"] (defScope s_played) := ⟨rfl, rfl, rfl, by decide +kernel, rfl, by decide +kernel, by decide +kernel⟩
abbrev s_is_step : Stmt := topS 28
theorem sc_is_step : FnScope ["slab", "step", "word", "number", "count"] ["slab", "step"] (defScope s_is_step) := ⟨rfl, rfl, rfl, by decide +kernel, rfl, by decide +kernel, by decide +kernel⟩
abbrev s_is_possible : Stmt := topS 29
theorem sc_is_possible : FnScope ["slab", "rows", "held", "step", "word", "number", "count", "counts"] ["slab", "rows", "held", "step"] (defScope s_is_possible) := ⟨rfl, rfl, rfl, by decide +kernel, rfl, by decide +kernel, by decide +kernel⟩
abbrev s_are_full : Stmt := topS 30
theorem sc_are_full : FnScope ["counts", "slots"] ["counts", "slots"] (defScope s_are_full) := ⟨rfl, rfl, rfl, by decide +kernel, rfl, by decide +kernel, by decide +kernel⟩
abbrev s_byte_change : Stmt := topS 31
theorem sc_byte_change : FnScope ["slab", "step", "word", "number", "count"] ["slab", "step"] (defScope s_byte_change) := ⟨rfl, rfl, rfl, by decide +kernel, rfl, by decide +kernel, by decide +kernel⟩
abbrev s_changed_counts : Stmt := topS 32
theorem sc_changed_counts : FnScope ["counts", "word", "count", "changed", "after"] ["counts", "word", "count"] (defScope s_changed_counts) := ⟨rfl, rfl, rfl, by decide +kernel, rfl, by decide +kernel, by decide +kernel⟩
abbrev s_iNoTable : Stmt := inClass (topS 4) 0
theorem sc_iNoTable : FnScope ["self", "index"] ["self", "index"] (defScope s_iNoTable) := ⟨rfl, rfl, rfl, by decide +kernel, rfl, by decide +kernel, by decide +kernel⟩
structure Bt (mg : Str → Option Value) : Prop extends Bi mg where
  b_sum : mg "sum" = none
  b_sorted : mg "sorted" = none
  b_set : mg "set" = none
  b_str : mg "str" = none
  c_pages : ∃ t, mg "MOST_PAGES" = some (.int 60 t)
section
variable {P : Program} {w : World} {K : PySem.W.Frag} {mg : Str → Option Value} {base : Heap}
theorem ok_iNoTable {C fI : Addr} {fd : FuncData} (F : Fun K "__init__" "NoTable.__init__" s_iNoTable fI fd) (T : XCls K C fI "index") : FnOk P w K mg base CX0 1 fI fd ["self", "index"] (spIni C "index") := by
  refine F.ok sc_iNoTable (fun vs H Q E h => ?_) (fun cdv A outer s H vs Q E hr h => ?_)
  · obtain ⟨a, v, rfl, _⟩ := h
    rfl
  · obtain ⟨a, v, rfl, ha, k⟩ := h
    exact ⟨_, pss_one (ps_ost (pv 0) (pv 1)), _, rfl, _, rfl, a, C, rfl, T.ox, T.noF, .inl ⟨ha, fun dx n ne => k dx n ne⟩⟩
def spCounts : Sp := fun vs H Q _ => ∃ (x : V) (hi : Int), vs = [x, .int hi] ∧ TyI H x ∧ Q (.bl (cntB H hi x)) H
theorem ok_are_counts {f f1 : Addr} {fd d1 : FuncData} (F : Fun K "are_counts" "are_counts" s_are_counts f fd) (B : Bt mg) (G1 : FnOk P w K mg base CX0 1 f1 d1 ["value", "low", "high"] spBetween) (m1 : mg "is_between" = some (.ref f1)) (k1 : PySem.W.keepIn K (.ref f1) = true) (b1 : Binds K d1 ["value", "low", "high"] []) :
    FnOk P w K mg base CX0 2 f fd ["counts", "slots"] spCounts := by
  refine F.ok sc_are_counts (fun vs H Q E h => ?_) (fun cdv A outer s H vs Q E hr h => ?_)
  · obtain ⟨x, hi, rfl, _⟩ := h
    rfl
  · obtain ⟨x, hi, rfl, ⟨⟨t, hk⟩, hI⟩, q⟩ := h
    refine ⟨_, (pss_cons (ps_if (pt_not (pt_val (pe_callB call_isi (by rfl) B.b_isinstance (by decide +kernel) (pa_cons (pv 0) (pa_cons (pe_bltn (v := V.ty "tuple") rfl B.b_tuple (by decide +kernel) rfl) pa_nil))))) (pss_one (ps_ret pe_bl)) pss_nil)
      (pss_cons (ps_set (i := 2) sc_are_counts.nd rfl (Or.inl rfl) pe_int)
      (pss_cons (ps_for PassesOwn.never rfl (pi_tup (pv 0)) (pg_name (i := 3) sc_are_counts.nd rfl (Or.inl rfl))
      (pss_cons (ps_if (pt_not (pt_val (pe_call G1 (hr.mono (by decide)) rfl m1 k1 b1 .nil pass0 (pa_cons (pv 3) (pa_cons (pv 2) (pa_cons (pv 1) pa_nil)))))) (pss_one (ps_ret pe_bl)) pss_nil)
      (pss_one (ps_set (i := 2) sc_are_counts.nd rfl (Or.inl rfl) (pv 3)))))
      (pss_one (ps_ret pe_bl))))), ?_⟩
    refine ⟨x, rfl, x, .ty "tuple", .type t, .type "tuple", _, rfl, .ty _, hk.ty, kit_ty (kb_tuple hk.mem), ?_⟩
    have no : (∀ a ys, x = .ref a → H a ≠ some (.tup ys)) → cntB H hi x = false := fun z => by
      cases x with
      | ref a =>
        show (match H a with | some (.tup ys) => asc hi 1 ys | _ => false) = false
        cases e : H a with
        | none => rfl
        | some o =>
          cases o with
          | tup ys => exact (z a ys rfl e).elim
          | _ => rfl
      | _ => rfl
    cases hk with
    | tup e =>
      rename_i a ys
      have ec : cntB H hi (.ref a) = asc hi 1 ys := by
        show (match H a with | some (.tup ys) => asc hi 1 ys | _ => false) = _
        rw [e]
      rw [ec] at q
      refine ⟨_, rfl, iteF ?_⟩
      refine ⟨.ref a, rfl, a, rfl, ⟨_, SqT.of e⟩, ?_⟩
      refine for_it (walk_tup (K := K) (a := a) (xs := ys))
        (fun j σ H' => ∃ (lo : Int) (v3 : Option V), σ = [some (.ref a), some (.int hi), some (.int lo), v3] ∧ H' = H ∧ asc hi 1 ys = asc hi lo (ys.drop j)) ⟨1, none, rfl, rfl, rfl⟩ (fun _ _ _ _ ⟨_, _, _, z, _⟩ => by rw [z]; exact SqT.of e) ?_ ?_
      · rintro j y σ H1 H2 hj ⟨lo, v3, rfl, rfl, ea⟩ ⟨rfl, hy⟩
        have ty : Ty H2 y := hI a ys rfl e y (List.mem_of_getElem? hy)
        have ed : ys.drop j = y :: ys.drop (j + 1) := by
          rw [List.drop_eq_getElem_cons hj]
          rw [List.getElem?_eq_getElem hj] at hy
          rw [Option.some.inj hy]
        rw [ed] at ea
        refine ⟨y, rfl, .int lo, rfl, .int hi, rfl, y, lo, hi, rfl, ty, _, rfl, ?_⟩
        cases hb : inB y lo hi with
        | false =>
          refine iteT ?_
          have z : asc hi lo (y :: ys.drop (j + 1)) = false := by
            cases y with
            | int i =>
              show ((decide (lo ≤ i) && decide (i ≤ hi)) && _) = false
              rw [show (decide (lo ≤ i) && decide (i ≤ hi)) = false from hb, Bool.false_and]
            | _ => rfl
          rw [ea, z] at q
          exact q
        | true =>
          refine iteF ?_
          obtain ⟨i, rfl⟩ := inB_int hb
          refine ⟨.int i, rfl, i, _, rfl, rfl, ?_⟩
          rw [ea]
          show ((decide (lo ≤ i) && decide (i ≤ hi)) && _) = _
          rw [show (decide (lo ≤ i) && decide (i ≤ hi)) = true from hb, Bool.true_and]
      · rintro σ H1 ⟨lo, v3, rfl, rfl, ea⟩
        rw [List.drop_length] at ea
        rw [ea] at q
        exact q
    | lst e => exact ⟨_, rfl, iteT (by rw [no (fun a ys ex ez => by cases ex; rw [e] at ez; cases ez)] at q; exact q)⟩
    | dict e => exact ⟨_, rfl, iteT (by rw [no (fun a ys ex ez => by cases ex; rw [e] at ez; cases ez)] at q; exact q)⟩
    | _ => exact ⟨_, rfl, iteT (by rw [no (fun a ys ex => by cases ex)] at q; exact q)⟩
/-- rows: a list or a tuple of tuples of so many items -/
def spPT : Sp := fun vs H Q _ => ∃ (a : Addr) (xs : List V) (ls : List Nat), vs = [.ref a] ∧ (H a = some (.lst xs) ∨ H a = some (.tup xs)) ∧ Paired (LenAt H) xs ls ∧ xs.length ≤ 1000 ∧ ∀ H', Same H H' → Q (.int (ls.sum : Int)) H'
theorem ok_page_total {f : Addr} {fd : FuncData} (F : Fun K "page_total" "page_total" s_page_total f fd) (B : Bt mg) : FnOk P w K mg base CX0 1 f fd ["rows"] spPT := by
  refine F.ok sc_page_total (fun vs H Q E h => ?_) (fun cdv A outer s H vs Q E hr h => ?_)
  · obtain ⟨a, xs, ls, rfl, _⟩ := h
    rfl
  · obtain ⟨a, xs, ls, rfl, ha, hp, hl, q⟩ := h
    refine ⟨_, (pss_one (ps_ret (pe_callB (cr_sum rfl) (by rfl) B.b_sum (by decide +kernel) (pa_cons (pe_lc (own := [("counts", 1)]) (g := gName 1) (tt := tYes) (by rfl) sc_page_total.nd (pi_or (pi_list (pv 0)) (pi_tup (pv 0))) (blkOk_by (own := [("counts", 1)]) (N := ["rows", "counts"]) (sc := defScope s_page_total) (by decide +kernel)) (fun _ _ _ _ _ => pg_name (i := 1) sc_page_total.nd rfl (Or.inl rfl)) (fun _ _ _ _ _ => pts_nil) (fun _ _ _ _ _ => (pe_callB (call_lenK (K := K) rfl) (by rfl) B.b_len (by decide +kernel) (pa_cons (pv 1) pa_nil)))) pa_nil)))), ?_⟩
    have e1 := Paired.length hp
    rcases ha with ea | ea
    · refine .inl ⟨.ref a, rfl, a, rfl, ⟨_, SqL.of ea⟩, fun D nD => ?_⟩
      refine lc_it (walk_list (K := K) (a := a) (xs := xs)) (fun i HI => Same H HI ∧ HI D = some (.lst ((ls.take i).map fun (n : Nat) => .int (n : Int)))) ⟨same_upd nD, upd_same⟩ (fun i HI _ z => SqL.of (z.1 _ _ ea)) ?_ ?_
      · rintro i x HI H1 hi ⟨sI, eI⟩ ⟨rfl, hx⟩
        obtain ⟨n, hn, c, ys, rfl, ec, en⟩ := paired_get hp hx
        refine ⟨rfl, ?_⟩
        unfold tYes
        refine iteT ?_
        refine ⟨.ref c, rfl, c, ys, rfl, .inr (SqT.of (sI _ _ ec)), _, eI, small1000 (by rw [List.length_map, List.length_take]; omega), fun b o z => ?_, ?_⟩
        · rw [upd_ne (ne_of_none z nD)]
          exact sI _ _ z
        · rw [upd_same, List.take_add_one, hn, List.map_append, en]
          rfl
      · rintro HI ⟨sI, eI⟩
        rw [List.take_of_length_le (by omega)] at eI
        have e2 : (ls.map fun (n : Nat) => V.int (n : Int)) = (ls.map fun (n : Nat) => (n : Int)).map V.int := by rw [List.map_map]; rfl
        rw [e2] at eI
        refine ⟨D, _, rfl, SqL.of eI, ?_⟩
        rw [natsum]
        exact q _ sI
    · refine .inr ⟨.ref a, rfl, a, rfl, ⟨_, SqT.of ea⟩, fun D nD => ?_⟩
      refine lc_it (walk_tup (K := K) (a := a) (xs := xs)) (fun i HI => Same H HI ∧ HI D = some (.lst ((ls.take i).map fun (n : Nat) => .int (n : Int)))) ⟨same_upd nD, upd_same⟩ (fun i HI _ z => SqT.of (z.1 _ _ ea)) ?_ ?_
      · rintro i x HI H1 hi ⟨sI, eI⟩ ⟨rfl, hx⟩
        obtain ⟨n, hn, c, ys, rfl, ec, en⟩ := paired_get hp hx
        refine ⟨rfl, ?_⟩
        unfold tYes
        refine iteT ?_
        refine ⟨.ref c, rfl, c, ys, rfl, .inr (SqT.of (sI _ _ ec)), _, eI, small1000 (by rw [List.length_map, List.length_take]; omega), fun b o z => ?_, ?_⟩
        · rw [upd_ne (ne_of_none z nD)]
          exact sI _ _ z
        · rw [upd_same, List.take_add_one, hn, List.map_append, en]
          rfl
      · rintro HI ⟨sI, eI⟩
        rw [List.take_of_length_le (by omega)] at eI
        have e2 : (ls.map fun (n : Nat) => V.int (n : Int)) = (ls.map fun (n : Nat) => (n : Int)).map V.int := by rw [List.map_map]; rfl
        rw [e2] at eI
        refine ⟨D, _, rfl, SqL.of eI, ?_⟩
        rw [natsum]
        exact q _ sI

def spBT (C : Addr) : Sp := fun vs H Q _ => ∃ (p l : Addr) (xc : List V) (ps : List (Int × Int)) (L : Int) (a : Addr) (xs : List V) (rows : List (List Int)), vs = [.ref p, .ref a] ∧ SlabAt C H p l xc L ∧ PairsAt H xc ps ∧ (∀ q ∈ ps, 0 ≤ q.1 ∧ q.1 ≤ 1000) ∧ H a = some (.tup xs) ∧ RowsAt H xs rows ∧
  rows.length = ps.length ∧ ps.length ≤ 1000 ∧ ∀ H', Same H H' → Q (.int (lv ps rows)) H'
theorem ok_byte_total {C CN f fb : Addr} {fd db : FuncData} (F : Fun K "byte_total" "byte_total" s_byte_total f fd) (B : Bt mg) (T : SlabC K mg C) (Gb : FnOk P w K mg base (L2N.CX P w) 4 fb db ["self", "number"] (spBytes C CN true)) (bb : Binds K db ["self", "number"] []) (mb : Meth K C "bytes_of" fb) : FnOk P w K mg base CX0 5 f fd ["slab", "rows"] (spBT C) := by
  refine F.ok sc_byte_total (fun vs H Q E h => ?_) (fun cdv A outer s H vs Q E hr h => ?_)
  · obtain ⟨p, l, xc, ps, L, a, xs, rows, rfl, _⟩ := h
    rfl
  · obtain ⟨p, l, xc, ps, L, a, xs, rows, rfl, sl, pr, rg, ea, rw_, hl, h6, q⟩ := h
    refine ⟨_, (pss_one (ps_ret (pe_callB (cr_sum rfl) (by rfl) B.b_sum (by decide +kernel) (pa_cons (pe_lc (own := [("number", 2), ("counts", 3)]) (g := gTup K 2 (gCons (gName 2) (gCons (gName 3) gNil))) (tt := tYes) (by rfl) sc_byte_total.nd (pi_enumT (by rfl) B.b_enumerate (pa_cons (pv 1) pa_nil)) (blkOk_by (own := [("number", 2), ("counts", 3)]) (N := ["slab", "rows", "number", "counts"]) (sc := defScope s_byte_total) (by decide +kernel)) (fun _ _ _ _ _ => pg_tup rfl (pgs_cons (pg_name (i := 2) sc_byte_total.nd rfl (Or.inl rfl)) (pgs_cons (pg_name (i := 3) sc_byte_total.nd rfl (Or.inl rfl)) pgs_nil))) (fun _ _ _ _ _ => pts_nil) (fun _ _ _ _ _ => (pe_op op_mul (pe_meth (pv 0) T.cl mb Gb (hr.mono (by decide)) bb .nil passN (pa_cons (pv 2) pa_nil)) (pe_callB (cr_sumTK (K := K) rfl rfl) (by rfl) B.b_sum (by decide +kernel) (pa_cons (pv 3) pa_nil))))) pa_nil)))), ?_⟩
    have e1 := Paired.length rw_
    refine ⟨.ref a, rfl, a, xs, rfl, SqT.of ea, fun D nD => ?_⟩
    refine lc_it (walk_enumT (K := K) (a := a) (xs := xs)) (fun i HI => Same H HI ∧ HI D = some (.lst ((((ps.zip rows).take i).map fun p => p.1.1 * p.2.sum).map V.int))) ⟨same_upd nD, upd_same⟩ (fun i HI _ z => SqT.of (z.1 _ _ ea)) ?_ ?_
    · rintro i x HI H1 hi ⟨sI, eI⟩ ⟨t, x1, x2, rfl, nt, rfl, g1, g2⟩
      cases g1
      generalize hq : upd HI t _ = H2
      obtain ⟨t2, et⟩ := eqU hq nt
      obtain ⟨ns, hn, cn⟩ := rows_get rw_ g2
      obtain ⟨c, rfl, ec⟩ := (cn.keep sI).keep t2
      have hq' : ps[i]? = some (ps[i]'(by omega)) := List.getElem?_eq_getElem _
      have hz : (ps.zip rows)[i]? = some (ps[i]'(by omega), ns) := List.getElem?_zip_eq_some.mpr ⟨hq', hn⟩
      refine ⟨t, _, rfl, SqT.of et, rfl, _, _, rfl, _, _, rfl, rfl, rfl, ?_⟩
      unfold tYes
      refine iteT ?_
      have s2 := sI.trans t2
      have sl2 := sl.keep s2
      obtain ⟨dx, ob⟩ := sl2.ob
      refine ⟨.ref p, rfl, p, dx, _, rfl, ob, pk_no _ _ (by decide +kernel) (by decide +kernel), _, rfl, p, l, xc, ps, L, _, rfl, sl2, PairsAt.keep s2 pr, ⟨_, .int _⟩, fun j q' ej eq' => ?_, fun z => ?_⟩
      · cases ej
        rw [hq'] at eq'
        cases eq'
        refine ⟨.ref c, rfl, c, ns, rfl, SqT.of ec, _, _, rfl, rfl, .inl ?_, ?_⟩
        · have z := rg _ (List.getElem_mem (by omega : i < ps.length))
          show -(2 ^ 64) < (if true = true then _ else _) ∧ (if true = true then _ else _) < 2 ^ 64
          rw [if_pos rfl]
          omega
        · refine ⟨_, t2 _ _ eI, small1000 (by rw [List.length_map, List.length_map, List.length_take, List.length_zip]; omega), fun b o z => ?_, ?_⟩
          · rw [upd_ne (ne_of_none z nD)]
            exact s2 _ _ z
          · rw [upd_same, List.take_add_one, hz, List.map_append, List.map_append]
            rfl
      · have z2 : (decide ((0 : Int) ≤ (i : Int)) && decide ((i : Int) ≤ (ps.length : Int) - 1)) = false := z
        rw [decide_eq_true (by omega), decide_eq_true (by omega)] at z2
        cases z2
    · rintro HI ⟨sI, eI⟩
      rw [List.take_of_length_le (by rw [List.length_zip]; omega)] at eI
      exact ⟨D, _, rfl, SqL.of eI, q _ sI⟩
structure SF (P : Program) (w : World) (K : PySem.W.Frag) (mg : Str → Option Value) (base : Heap) (C CN fL fl fb fs : Addr) (dL dl db ds : FuncData) : Prop where
  T : SlabC K mg C
  GL : FnOk P w K mg base CX0 1 fL dL ["self"] (spLen C)
  bL : Binds K dL ["self"] []
  le : PySem.W.findIn K (.ref C) "__len__" = some (some (.ref fL))
  lf : PySem.W.isFn K (.ref fL) = true
  Gl : FnOk P w K mg base CX0 1 fl dl ["self"] (spLimit C)
  bl : Binds K dl ["self"] []
  ml : Meth K C "limit" fl
  Gb : FnOk P w K mg base (L2N.CX P w) 4 fb db ["self", "number"] (spBytes C CN true)
  bb : Binds K db ["self", "number"] []
  mb : Meth K C "bytes_of" fb
  Gs : FnOk P w K mg base (L2N.CX P w) 4 fs ds ["self", "number"] (spBytes C CN false)
  bs : Binds K ds ["self", "number"] []
  ms : Meth K C "slots_of" fs
def spCheck (C CT : Addr) : Sp := fun vs H Q E => ∃ (p l : Addr) (xc : List V) (ps : List (Int × Int)) (L : Int) (t : V), vs = [.ref p, t] ∧ SlabAt C H p l xc L ∧ PairsAt H xc ps ∧ SzOk ps ∧ TyT H t ∧
  (∀ i, badT H ps L t = some i → Rz CT "index" (.int i) H E) ∧ (badT H ps L t = none → ∀ H', Same H H' → Q .non H')
theorem ok_check_table {C CN CT fT fL fl fb fs f fA fP fB : Addr} {dT dL dl db ds fd dA dP dB : FuncData} (F : Fun K "check_table" "check_table" s_check_table f fd) (B : Bt mg) (S : SF P w K mg base C CN fL fl fb fs dL dl db ds)
    (XNoTable : XCls K CT fT "index") (INoTable : FnOk P w K mg base CX0 1 fT dT ["self", "index"] (spIni CT "index")) (biNoTable : Binds K dT ["self", "index"] []) (gNoTable : mg "NoTable" = some (.ref CT))
    (GA : FnOk P w K mg base CX0 2 fA dA ["counts", "slots"] spCounts) (mA : mg "are_counts" = some (.ref fA)) (kA : PySem.W.keepIn K (.ref fA) = true) (bA : Binds K dA ["counts", "slots"] [])
    (GP : FnOk P w K mg base CX0 1 fP dP ["rows"] spPT) (mP : mg "page_total" = some (.ref fP)) (kP2 : PySem.W.keepIn K (.ref fP) = true) (bP : Binds K dP ["rows"] [])
    (GB : FnOk P w K mg base CX0 5 fB dB ["slab", "rows"] (spBT C)) (mB : mg "byte_total" = some (.ref fB)) (kB : PySem.W.keepIn K (.ref fB) = true) (bB : Binds K dB ["slab", "rows"] []) :
    FnOk P w K mg base (L2N.CX P w) 6 f fd ["slab", "table"] (spCheck C CT) := by
  obtain ⟨T, GL, bL, le, lf, Gl, bl, ml, Gb, bb, mb, Gs, bs, ms⟩ := S
  obtain ⟨tP, kP⟩ := B.c_pages
  refine F.okXN sc_check_table (fun vs H Q E h => ?_) (fun cdv A outer s H vs Q E hr h => ?_)
  · obtain ⟨p, l, xc, ps, L, t, rfl, _⟩ := h
    rfl
  · obtain ⟨p, l, xc, ps, L, t, rfl, sl, pr, sz, tt, kE, kQ⟩ := h
    refine ⟨_, (pss_cons (ps_if (PW.pt (pw_or (pt_not (pt_val (pe_callB call_isi (by rfl) B.b_isinstance (by decide +kernel) (pa_cons (pv 1) (pa_cons (pe_bltn (v := V.ty "tuple") rfl B.b_tuple (by decide +kernel) rfl) pa_nil))))) (pw_or1 (pt_cmpR op_ne (pe_callB call_len_seq (by rfl) B.b_len (by decide +kernel) (pa_cons (pv 1) pa_nil)) (pe_callB (call_lenI GL le lf bL (hr.mono (by decide))) (by rfl) B.b_len (by decide +kernel) (pa_cons (pv 0) pa_nil)) (nomark _))))) (pss_one (ps_raiseXN rfl (L2N.takes_of rfl rfl rfl rfl) XNoTable INoTable (hr.mono (by decide)) biNoTable rfl gNoTable (pa_cons (pe_un un_neg pe_int) pa_nil))) pss_nil)
      (pss_cons (ps_for (passes_of rfl) rfl (pi_enumT (by rfl) B.b_enumerate (pa_cons (pv 1) pa_nil)) (pg_tup rfl (pgs_cons (pg_name (i := 2) sc_check_table.nd rfl (Or.inl rfl)) (pgs_cons (pg_name (i := 3) sc_check_table.nd rfl (Or.inl rfl)) pgs_nil)))
      (pss_one (ps_if (pt_not (pt_val (pe_call GA (hr.mono (by decide)) rfl mA kA bA .nil pass0 (pa_cons (pv 3) (pa_cons (pe_meth (pv 0) T.cl ms Gs (hr.mono (by decide)) bs .nil (L2N.passes_call (L2N.takes_of rfl rfl rfl rfl) (fun _ _ _ _ h => h)) (pa_cons (pv 2) pa_nil)) pa_nil))))) (pss_one (ps_raiseXN rfl (L2N.takes_of rfl rfl rfl rfl) XNoTable INoTable (hr.mono (by decide)) biNoTable rfl gNoTable (pa_cons (pv 2) pa_nil))) pss_nil)))
      (pss_cons (ps_if (pt_cmpR op_gt (pe_call GP (hr.mono (by decide)) rfl mP kP2 bP .nil pass0 (pa_cons (pv 1) pa_nil)) (pe_glob (v := V.int 60) rfl kP ⟨_, rfl⟩) (nomark _)) (pss_one (ps_raiseXN rfl (L2N.takes_of rfl rfl rfl rfl) XNoTable INoTable (hr.mono (by decide)) biNoTable rfl gNoTable (pa_cons (pe_callB (call_lenI GL le lf bL (hr.mono (by decide))) (by rfl) B.b_len (by decide +kernel) (pa_cons (pv 0) pa_nil)) pa_nil))) pss_nil)
      (pss_one (ps_if (pt_cmpR op_gt (pe_call GB (hr.mono (by decide)) rfl mB kB bB .nil pass0 (pa_cons (pv 0) (pa_cons (pv 1) pa_nil))) (pe_meth0 (pv 0) T.cl ml Gl (hr.mono (by decide)) bl .nil pass0) (nomark _)) (pss_one (ps_raiseXN rfl (L2N.takes_of rfl rfl rfl rfl) XNoTable INoTable (hr.mono (by decide)) biNoTable rfl gNoTable (pa_cons (pe_op op_add (pe_callB (call_lenI GL le lf bL (hr.mono (by decide))) (by rfl) B.b_len (by decide +kernel) (pa_cons (pv 0) pa_nil)) pe_int) pa_nil))) pss_nil))))), ?_⟩
    have e1 := Paired.length pr
    have n6 := sz.n6
    obtain ⟨dx, ob⟩ := sl.ob
    obtain ⟨ty, hk⟩ := tt.1
    refine ⟨t, rfl, t, .ty "tuple", .type ty, .type "tuple", _, rfl, .ty _, hk.ty, kit_ty (kb_tuple hk.mem), _, rfl, ?_⟩
    cases hk with
    | int i => exact iteT (iteT ⟨1, rfl, _, rfl, kE (-1) (badT_no fun a ys ex => by cases ex)⟩)
    | bl b => exact iteT (iteT ⟨1, rfl, _, rfl, kE (-1) (badT_no fun a ys ex => by cases ex)⟩)
    | non => exact iteT (iteT ⟨1, rfl, _, rfl, kE (-1) (badT_no fun a ys ex => by cases ex)⟩)
    | str z => exact iteT (iteT ⟨1, rfl, _, rfl, kE (-1) (badT_no fun a ys ex => by cases ex)⟩)
    | lst e => exact iteT (iteT ⟨1, rfl, _, rfl, kE (-1) (badT_no fun a ys ex ez => by cases ex; rw [e] at ez; cases ez)⟩)
    | dict e => exact iteT (iteT ⟨1, rfl, _, rfl, kE (-1) (badT_no fun a ys ex ez => by cases ex; rw [e] at ez; cases ez)⟩)
    | @tup a xs e =>
      obtain ⟨hl, hI⟩ := tt.2 a xs rfl e
      have hb := badT_tup (ps := ps) (L := L) e
      refine iteF ?_
      refine ⟨.ref a, rfl, a, xs, rfl, .inr (SqT.of e), .ref p, rfl, p, dx, _, rfl, ob, p, l, xc, L, rfl, sl, xc.length, rfl, (by omega), rfl, _, rfl, ?_⟩
      by_cases hxl : xs.length = ps.length
      · rw [if_pos hxl] at hb
        rw [decide_eq_true (show V.int (xs.length : Int) = V.int (xc.length : Int) by rw [hxl, e1])]
        refine iteF ?_
        refine ⟨.ref a, rfl, a, xs, rfl, SqT.of e, for_it (walk_enumT (K := K) (a := a) (xs := xs)) (fun i σ H4 => ∃ y3 y4, σ = [some (.ref p), some (.ref a), y3, y4] ∧ Same H H4 ∧ ∀ (j : Nat) x q, j < i → xs[j]? = some x → ps[j]? = some q → cntB H q.2 x = true) ⟨_, _, rfl, Same.refl _, fun j x q hj => absurd hj (Nat.not_lt_zero j)⟩
          (fun i σ H4 _ ⟨_, _, _, z, _⟩ => SqT.of (z _ _ e)) ?_ ?_⟩
        · rintro j x σ H4 H5 hj ⟨y3, y4, rfl, S4, hs⟩ ⟨T', x1, x2, rfl, nT, rfl, g1, g2⟩
          cases g1
          have g2' : xs[j]? = some x2 := g2
          generalize h6 : upd H4 T' _ = H6
          obtain ⟨t6, e6⟩ := eqU h6 nT
          have S6 := S4.trans t6
          have hx2 := hI x2 (List.mem_of_getElem? g2')
          have hq : ps[j]? = some (ps[j]'(by omega)) := List.getElem?_eq_getElem _
          obtain ⟨dx6, ob6⟩ := (sl.keep S6).ob
          refine ⟨T', _, rfl, SqT.of e6, rfl, _, _, rfl, _, _, rfl, rfl, ?_⟩
          refine ⟨x2, rfl, .ref p, rfl, p, dx6, _, rfl, ob6, pk_no _ _ (by decide +kernel) (by decide +kernel), _, rfl, p, l, xc, ps, L, _, rfl, sl.keep S6, PairsAt.keep S6 pr, ⟨_, .int _⟩, fun i q' ei eq' => ?_, fun z => ?_⟩
          · cases ei
            rw [hq] at eq'
            cases eq'
            refine ⟨x2, _, rfl, hx2.keep S6, _, rfl, ?_⟩
            show if (!(cntB H6 (ps[j]'(by omega)).2 x2)) = true then _ else _
            rw [cntB_keep hx2.1 S6]
            cases c3 : cntB H (ps[j]'(by omega)).2 x2 with
            | false =>
              rw [firstBad_some g2' hq c3 fun i y r hi hy hr' => hs i y r hi hy hr'] at hb
              exact iteT ⟨_, rfl, _, rfl, (kE j hb).keep S6⟩
            | true =>
              refine iteF ⟨_, _, rfl, S6, fun i x q hi hx hq' => ?_⟩
              by_cases ei : i = j
              · subst ei
                rw [g2'] at hx
                cases hx
                rw [hq] at hq'
                cases hq'
                exact c3
              · exact hs i x q (by omega) hx hq'
          · have z2 : (decide ((0 : Int) ≤ (j : Int)) && decide ((j : Int) ≤ (ps.length : Int) - 1)) = false := z
            rw [decide_eq_true (by omega), decide_eq_true (by omega)] at z2
            cases z2
        · rintro σ H4 ⟨y3, y4, rfl, S4, hs⟩
          have fb0 : firstBad H xs ps = none := List.findIdx?_eq_none_iff.mpr fun z hz => by
            obtain ⟨i, hi⟩ := List.mem_iff_getElem?.mp hz
            rw [List.getElem?_zip_eq_some] at hi
            rw [hs i z.1 z.2 (List.getElem?_eq_some_iff.mp hi.1).1 hi.1 hi.2]
            rfl
          rw [fb0] at hb
          have hb : badT H ps L (.ref a) = if 60 < pgs (xs.map (cntI H)) then some (ps.length : Int) else if L < lv ps (xs.map (cntI H)) then some ((ps.length : Int) + 1) else none := hb
          have ra : RowsAt H xs (xs.map (cntI H)) := rowsAt_of fun x hx => by
            obtain ⟨i, hi⟩ := List.mem_iff_getElem?.mp hx
            have lt := (List.getElem?_eq_some_iff.mp hi).1
            exact cntB_at (hs i x (ps[i]'(by omega)) lt hi (List.getElem?_eq_getElem _))
          generalize xs.map (cntI H) = rows at hb ra
          have e2 := Paired.length ra
          refine ⟨.ref a, rfl, a, xs, _, rfl, .inr (S4 _ _ e), lens_of (RowsAt.keep S4 ra), hl, fun H7 S7 => ?_⟩
          have k7 := S4.trans S7
          obtain ⟨dx7, ob7⟩ := (sl.keep k7).ob
          refine ⟨_, 60, rfl, rfl, _, rfl, ?_⟩
          by_cases h60 : 60 < pgs rows
          · rw [if_pos h60] at hb
            rw [decide_eq_true (show (60 : Int) < ((rows.map List.length).sum : Int) by unfold pgs at h60; omega)]
            refine iteT ⟨.ref p, rfl, p, dx7, _, rfl, ob7, p, l, xc, L, rfl, sl.keep k7, xc.length, rfl, (by omega), _, rfl, ?_⟩
            rw [e1]
            exact (kE _ hb).keep k7
          · rw [if_neg h60] at hb
            rw [decide_eq_false (show ¬ (60 : Int) < ((rows.map List.length).sum : Int) by unfold pgs at h60; omega)]
            refine iteF ?_
            refine ⟨.ref p, rfl, .ref a, rfl, p, l, xc, ps, L, a, xs, rows, rfl, sl.keep k7, PairsAt.keep k7 pr, fun q hq => (by have := sz.rg q hq; omega), k7 _ _ e, RowsAt.keep k7 ra, by omega, by omega, fun H8 S8 => ?_⟩
            have k8 := k7.trans S8
            obtain ⟨dx8, ob8⟩ := (sl.keep k8).ob
            refine ⟨.ref p, rfl, p, dx8, _, rfl, ob8, pk_no _ _ (by decide +kernel) (by decide +kernel), p, l, xc, L, rfl, sl.keep k8, _, _, rfl, rfl, _, rfl, ?_⟩
            by_cases hL : L < lv ps rows
            · rw [if_pos hL] at hb
              rw [decide_eq_true hL]
              refine iteT ⟨.ref p, rfl, p, dx8, _, rfl, ob8, p, l, xc, L, rfl, sl.keep k8, xc.length, rfl, (by omega), _, _, rfl, rfl, _, rfl, ?_⟩
              rw [e1]
              exact (kE _ hb).keep k8
            · rw [if_neg hL] at hb
              rw [decide_eq_false hL]
              exact iteF (kQ hb _ k8)
      · rw [if_neg hxl] at hb
        rw [decide_eq_false (show ¬ V.int (xs.length : Int) = V.int (xc.length : Int) from fun z => hxl (by have := V.int.inj z; omega))]
        exact iteT ⟨1, rfl, _, rfl, kE (-1) hb⟩
end
end K03
set_option Elab.async false
set_option linter.all false
set_option maxRecDepth 100000
set_option maxHeartbeats 4000000
namespace K03
open PySem PySem.Spec PyProof.Rows L2 XV SL
section
variable {P : Program} {w : World} {K : PySem.W.Frag} {mg : Str → Option Value} {base : Heap}
/-- a function of a slab and a table: NoTable, or G of the table's rows -/
def spTab (C CT : Addr) (G : List (Int × Int) → Int → List (List Int) → Hp → VK → Prop) : Sp := fun vs H Q E => ∃ (p l : Addr) (xc : List V) (ps : List (Int × Int)) (L : Int) (t : V), vs = [.ref p, t] ∧ SlabAt C H p l xc L ∧ PairsAt H xc ps ∧ SzOk ps ∧ TyT H t ∧
  (∀ i, badT H ps L t = some i → Rz CT "index" (.int i) H E) ∧ ∀ rows, TabAt H t rows → TabOk ps L rows → G ps L rows H Q
def gLive : List (Int × Int) → Int → List (List Int) → Hp → VK → Prop := fun ps _ rows H Q => ∀ H', Same H H' → Q (.int (lv ps rows)) H'
theorem ok_live {C CT f fC fB : Addr} {fd dC dB : FuncData} (F : Fun K "live" "live" s_live f fd)
    (GC : FnOk P w K mg base (L2N.CX P w) 6 fC dC ["slab", "table"] (spCheck C CT)) (mC : mg "check_table" = some (.ref fC)) (kC : PySem.W.keepIn K (.ref fC) = true) (bC : Binds K dC ["slab", "table"] [])
    (GB : FnOk P w K mg base CX0 5 fB dB ["slab", "rows"] (spBT C)) (mB : mg "byte_total" = some (.ref fB)) (kB : PySem.W.keepIn K (.ref fB) = true) (bB : Binds K dB ["slab", "rows"] []) :
    FnOk P w K mg base (L2N.CX P w) 7 f fd ["slab", "table"] (spTab C CT gLive) := by
  refine F.okXN sc_live (fun vs H Q E h => ?_) (fun cdv A outer s H vs Q E hr h => ?_)
  · obtain ⟨p, l, xc, ps, L, t, rfl, _⟩ := h
    rfl
  · obtain ⟨p, l, xc, ps, L, t, rfl, sl, pr, sz, tt, kE, kQ⟩ := h
    refine ⟨_, (pss_cons (ps_expr (pe_call GC (hr.mono (by decide)) rfl mC kC bC .nil (L2N.passes_call (L2N.takes_of rfl rfl rfl rfl) (fun _ _ _ _ h => h)) (pa_cons (pv 0) (pa_cons (pv 1) pa_nil))))
      (pss_one (ps_ret (pe_call GB (hr.mono (by decide)) rfl mB kB bB .nil pass0 (pa_cons (pv 0) (pa_cons (pv 1) pa_nil)))))), ?_⟩
    refine ⟨.ref p, rfl, t, rfl, p, l, xc, ps, L, t, rfl, sl, pr, sz, tt, kE, fun hb H1 S1 => ?_⟩
    obtain ⟨rows, ⟨a, xs, rfl, e, ra⟩, ok⟩ := badT_none hb
    have n6 := sz.n6
    exact ⟨.ref p, rfl, .ref a, rfl, p, l, xc, ps, L, a, xs, rows, rfl, sl.keep S1, PairsAt.keep S1 pr, fun q hq => (by have := sz.rg q hq; omega), S1 _ _ e, RowsAt.keep S1 ra, ok.len, by omega, fun H2 S2 => kQ rows ⟨a, xs, rfl, e, ra⟩ ok H2 (S1.trans S2)⟩
def gPages : List (Int × Int) → Int → List (List Int) → Hp → VK → Prop := fun _ _ rows H Q => ∀ D H', H D = none → Same H H' → H' D = some (.lst ((rows.map List.length).map fun (n : Nat) => .int (n : Int))) → Q (.ref D) H'
theorem ok_pages {C CT f fC : Addr} {fd dC : FuncData} (F : Fun K "pages" "pages" s_pages f fd) (B : Bt mg)
    (GC : FnOk P w K mg base (L2N.CX P w) 6 fC dC ["slab", "table"] (spCheck C CT)) (mC : mg "check_table" = some (.ref fC)) (kC : PySem.W.keepIn K (.ref fC) = true) (bC : Binds K dC ["slab", "table"] []) :
    FnOk P w K mg base (L2N.CX P w) 7 f fd ["slab", "table"] (spTab C CT gPages) := by
  refine F.okXN sc_pages (fun vs H Q E h => ?_) (fun cdv A outer s H vs Q E hr h => ?_)
  · obtain ⟨p, l, xc, ps, L, t, rfl, _⟩ := h
    rfl
  · obtain ⟨p, l, xc, ps, L, t, rfl, sl, pr, sz, tt, kE, kQ⟩ := h
    refine ⟨_, (pss_cons (ps_expr (pe_call GC (hr.mono (by decide)) rfl mC kC bC .nil (L2N.passes_call (L2N.takes_of rfl rfl rfl rfl) (fun _ _ _ _ h => h)) (pa_cons (pv 0) (pa_cons (pv 1) pa_nil))))
      (pss_one (ps_ret (pe_lc (own := [("counts", 2)]) (g := gName 2) (tt := tYes) (by rfl) sc_pages.nd (pi_tup (pv 1)) (blkOk_by (own := [("counts", 2)]) (N := ["slab", "table", "counts"]) (sc := defScope s_pages) (by decide +kernel)) (fun _ _ _ _ _ => pg_name (i := 2) sc_pages.nd rfl (Or.inl rfl)) (fun _ _ _ _ _ => pts_nil) (fun _ _ _ _ _ => (pe_callB (call_lenK (K := K) rfl) (by rfl) B.b_len (by decide +kernel) (pa_cons (pv 2) pa_nil))))))), ?_⟩
    refine ⟨.ref p, rfl, t, rfl, p, l, xc, ps, L, t, rfl, sl, pr, sz, tt, kE, fun hb H1 S1 => ?_⟩
    obtain ⟨rows, ⟨a, xs, rfl, e, ra⟩, ok⟩ := badT_none hb
    have q := kQ rows ⟨a, xs, rfl, e, ra⟩ ok
    have n6 := sz.n6
    have e1 := Paired.length ra
    have e2 := ok.len
    have ea := S1 _ _ e
    refine ⟨.ref a, rfl, a, rfl, ⟨_, SqT.of ea⟩, fun D nD => ?_⟩
    refine lc_it (walk_tup (K := K) (a := a) (xs := xs)) (fun i HI => Same H1 HI ∧ HI D = some (.lst (((rows.map List.length).take i).map fun (n : Nat) => .int (n : Int)))) ⟨same_upd nD, upd_same⟩ (fun i HI _ z => SqT.of (z.1 _ _ ea)) ?_ ?_
    · rintro i x HI H2 hi ⟨sI, eI⟩ ⟨rfl, hx⟩
      obtain ⟨n, hn, c, ys, rfl, ec, en⟩ := paired_get (lens_of ra) hx
      refine ⟨rfl, ?_⟩
      unfold tYes
      refine iteT ?_
      refine ⟨.ref c, rfl, c, ys, rfl, .inr (SqT.of (sI _ _ (S1 _ _ ec))), _, eI, small1000 (by rw [List.length_map, List.length_take, List.length_map]; omega), fun b o z => ?_, ?_⟩
      · rw [upd_ne (ne_of_none z nD)]
        exact sI _ _ z
      · rw [upd_same, List.take_add_one, hn, List.map_append, en]
        rfl
    · rintro HI ⟨sI, eI⟩
      rw [List.take_of_length_le (by rw [List.length_map]; omega)] at eI
      exact q D HI (S1.free nD) (S1.trans sI) eI
def spEmpty (C : Addr) : Sp := fun vs H Q _ => ∃ (p l : Addr) (xc : List V) (L : Int), vs = [.ref p] ∧ SlabAt C H p l xc L ∧ 1 ≤ xc.length ∧ xc.length ≤ 6 ∧ ∀ t H', Same H H' → TabAt H' t (List.replicate xc.length []) → Q t H'
theorem ok_empty {C f fL : Addr} {fd dL : FuncData} (F : Fun K "empty" "empty" s_empty f fd) (B : Bt mg) (T : SlabC K mg C) (GL : FnOk P w K mg base CX0 1 fL dL ["self"] (spLen C)) (bL : Binds K dL ["self"] []) (le : PySem.W.findIn K (.ref C) "__len__" = some (some (.ref fL))) (lf : PySem.W.isFn K (.ref fL) = true) :
    FnOk P w K mg base CX0 3 f fd ["slab"] (spEmpty C) := by
  refine F.ok sc_empty (fun vs H Q E h => ?_) (fun cdv A outer s H vs Q E hr h => ?_)
  · obtain ⟨p, l, xc, L, rfl, _⟩ := h
    rfl
  · obtain ⟨p, l, xc, L, rfl, sl, h1, h6, q⟩ := h
    refine ⟨_, (pss_one (ps_ret (pe_op op_repA (pe_tup (pa_cons (pe_tup pa_nil) pa_nil)) (pe_callB (call_lenI GL le lf bL (hr.mono (by decide))) (by rfl) B.b_len (by decide +kernel) (pa_cons (pv 0) pa_nil))))), ?_⟩
    refine ⟨(by show 0 ≤ sizeLine; decide), fun e0 n0 => ?_⟩
    generalize hq : upd H e0 _ = H1
    obtain ⟨t1, w1⟩ := eqU hq n0
    refine ⟨(by show 1 ≤ sizeLine; decide), fun e1 n1 => ?_⟩
    generalize hq2 : upd H1 e1 _ = H2
    obtain ⟨t2, w2⟩ := eqU hq2 n1
    have s2 := t1.trans t2
    obtain ⟨dx, ob⟩ := (sl.keep s2).ob
    have w1' := t2 _ _ w1
    have rr : ∀ n, RowsAt H2 (List.replicate n (.ref e0)) (List.replicate n []) := fun n => by
      induction n with
      | zero => exact .nil
      | succ n ih => exact .cons ⟨e0, rfl, w1'⟩ ih
    refine ⟨.ref p, rfl, p, dx, _, rfl, ob, p, l, xc, L, rfl, sl.keep s2, xc.length, rfl, (by omega), e1, _, _, rfl, rfl, SqT.of w2, (by simp), (by omega), (by omega), (by show 1 ≤ 1000; decide), fun one => ?_, fun no p' np' => ?_⟩
    · have z : xc.length = 1 := by omega
      refine q _ H2 s2 ⟨e1, [.ref e0], rfl, w2, ?_⟩
      rw [z]
      exact rr 1
    · generalize hq3 : upd H2 p' _ = H3
      obtain ⟨t3, w3⟩ := eqU hq3 np'
      refine q _ H3 (s2.trans t3) ⟨p', _, rfl, w3, RowsAt.keep t3 ?_⟩
      rw [Int.toNat_natCast]
      have z : (List.replicate xc.length ([.ref e0] : List V)).flatten = List.replicate xc.length (.ref e0) := by
        induction xc.length with
        | zero => rfl
        | succ n ih => rw [List.replicate_succ, List.flatten_cons, ih]; rfl
      rw [z]
      exact rr _
end
end K03
set_option Elab.async false
set_option linter.all false
set_option maxRecDepth 100000
set_option maxHeartbeats 4000000
/-! zip of two tuples -/
namespace XV
open PySem PySem.Spec PyProof.Rows L2
/-- the tuples at a and b, the items in new pairs -/
def IzTT (K : PySem.W.Frag) (a b : Addr) : It :=
  ⟨fun i H => ∃ (xs ys : List V) (x y : V), SqT K H a xs ∧ SqT K H b ys ∧ xs[i]? = some x ∧ ys[i]? = some y, fun i H v H' => ∃ T x y, v = .ref T ∧ H T = none ∧ H' = upd H T (.tup [x, y]) ∧ (∀ xs, SqT K H a xs → xs[i]? = some x) ∧ ∀ ys, SqT K H b ys → ys[i]? = some y,
    fun i H => ∃ xs ys : List V, SqT K H a xs ∧ SqT K H b ys ∧ i ≤ xs.length ∧ i ≤ ys.length ∧ (i = xs.length ∨ i = ys.length)⟩
theorem turn_zipTT {P : Program} {w : World} {K : PySem.W.Frag} {elts : List Expr} {kk : Nat} {tpos : Pos} {a b z TI TO i1 i2 : Addr} (S : ZipSep2 z TI TO i1 i2 [i1, a] [i2, b]) (ia : a ≠ i1) (ib : b ≠ i2) :
    Turn P w K (.Tuple elts kk tpos) (IzTT K a b) [z, TI, TO, i1, i2] z (fun i h => IsZip h z TI TO .none ∧ IsTupOf2 h TI (.ref i1) (.ref i2) ∧ (∃ x y, IsTupOf2 h TO x y) ∧ h.IsTupleIter i1 a i ∧ h.IsTupleIter i2 b i) := by
  have five : ∀ {c : Addr}, c ∈ [z, TI, TO, i1, i2] → c = z ∨ c = TI ∨ c = TO ∨ c = i1 ∨ c = i2 := fun hc => by simpa using hc
  refine ⟨List.mem_cons_self, fun i h st c hc => ?_, fun i h h' st k => ?_, ?_, ?_, fun A i s Q E st h => wpAny_pyIter_zip st.1 h⟩
  · obtain ⟨hz, hTI, ⟨x, y, hTO⟩, ⟨o1, e1, _, d1⟩, ⟨o2, e2, _, d2⟩⟩ := st
    rcases five hc with q | q | q | q | q <;> rw [q]
    · exact ⟨_, hz, fun v q => nomatch q⟩
    · exact ⟨_, hTI, fun v q => nomatch q⟩
    · exact ⟨_, hTO, fun v q => nomatch q⟩
    · exact ⟨o1, e1, fun v q => by rw [d1] at q; cases q⟩
    · exact ⟨o2, e2, fun v q => by rw [d2] at q; cases q⟩
  · obtain ⟨hz, hTI, ⟨x, y, hTO⟩, h1, h2⟩ := st
    exact ⟨k z (by simp) _ hz, k TI (by simp) _ hTI, ⟨x, y, k TO (by simp) _ hTO⟩, h1.at fun o q => k i1 (by simp) o q, h2.at fun o q => k i2 (by simp) o q⟩
  · intro X hP hw hK hc i pins s σ H E I hf st hg
    subst hP hw hK
    obtain ⟨hz, hTI, ⟨x0, y0, hTO⟩, h1, h2⟩ := st
    obtain ⟨xs, ys, x, y, hqx, hqy, hx, hy⟩ := hg
    obtain ⟨its, rv, p, _⟩ := I.tuple hqx
    obtain ⟨its2, rv2, p2, _⟩ := I.tuple hqy
    obtain ⟨u, hu, ru⟩ := rv.get hx
    obtain ⟨u2, hu2, ru2⟩ := rv2.get hy
    have ltz : z < s.heap.objs.size := Heap.lt_size hz
    have hi1 : i < its.toArray.size := by
      have := (List.getElem?_eq_some_iff.mp hu).1
      simpa using this
    have hi2 : i < its2.toArray.size := by
      have := (List.getElem?_eq_some_iff.mp hu2).1
      simpa using this
    have D1 := Draws.tuple (prog := X.prog) (w := X.w) (A := X.A.in1) (I.ok.hd hc) i1 a ia its.toArray
    have D2 := Draws.tuple (prog := X.prog) (w := X.w) (A := X.A.in1) (I.ok.hd hc) i2 b ib its2.toArray
    refine wpAny_pyNext_zipD2_item S D1 D2 hz hTI hTO ⟨h1, (show s.heap.IsTuple a its.toArray from p)⟩ ⟨h2, (show s.heap.IsTuple b its2.toArray from p2)⟩ hi1 hi2 fun v1 v2 hp tk e1 e2 z' TO' st1 st2 hT hsz hk => ?_
    obtain rfl : v1 = u := by
      have e1' : its.toArray[i]? = some v1 := e1
      rw [List.getElem?_toArray, hu] at e1'
      exact (Option.some.inj e1').symm
    obtain rfl : v2 = u2 := by
      have e2' : its2.toArray[i]? = some v2 := e2
      rw [List.getElem?_toArray, hu2] at e2'
      exact (Option.some.inj e2').symm
    refine ⟨_, rfl, wpAny_letOwnedTupleGo_zip (s := { s with heap := hp, toks := tk }) z' fun hq z'' sb => ?_⟩
    have hT2 : hq.get? s.heap.objs.size = some { cls := .type "tuple", data := .seq #[v1, v2] } := (sb.2 _ (Nat.ne_of_gt ltz)).trans hT
    have I1 : Inv X pins σ (upd H s.heap.objs.size (.tup [x, y])) { s with heap := hq, toks := tk } :=
      I.turnedNew (t' := tk) (ch := [z, TI, TO, i1, i2]) (fun c o hb q => (sb.2 c (fun q' => hb (by simp [q']))).trans (hk c o (fun q' => hb (by simp [q'])) (fun q' => hb (by simp [q'])) (fun q' => hb (by simp [q'])) (fun q' => hb (by simp [q'])) q)) hf (Nat.le_refl _)
        ⟨by show 2 ≤ sizeLine; decide, [v1, v2], .cons ru (.cons ru2 .nil), ⟨_, hT2, rfl, _, rfl⟩⟩
    refine ⟨.ref s.heap.objs.size, _, I1, rfl, ⟨_, x, y, rfl, I.hok.fresh (Nat.le_refl _), rfl, fun l hl => by rw [I.tuple_inj hl hqx]; exact hx, fun l hl => by rw [I.tuple_inj hl hqy]; exact hy⟩, ⟨z'', ?_, ⟨v1, v2, ?_⟩, ?_, ?_⟩, fun c hcm => ?_⟩
    · exact (sb.2 _ S.TIz).trans (hk _ _ S.TIz S.TITO S.TIi1 S.TIi2 hTI)
    · exact (sb.2 _ S.TOz).trans TO'
    · exact st1.1.at fun o q => (sb.2 _ (Ne.symm S.zi1)).trans q
    · exact st2.1.at fun o q => (sb.2 _ (Ne.symm S.zi2)).trans q
    · have lt : c < s.heap.objs.size := by
        rcases five hcm with q | q | q | q | q <;> rw [q]
        · exact ltz
        · exact Heap.lt_size hTI
        · exact Heap.lt_size hTO
        · obtain ⟨_, e1, _⟩ := h1
          exact Heap.lt_size e1
        · obtain ⟨_, e2, _⟩ := h2
          exact Heap.lt_size e2
      rw [upd_ne (Nat.ne_of_lt lt)]
      exact (hf c hcm).1
  · intro X hP hw hK hc i pins s σ H E I hf st hg
    subst hP hw hK
    obtain ⟨hz, hTI, ⟨x0, y0, hTO⟩, h1, h2⟩ := st
    obtain ⟨xs, ys, hqx, hqy, l1, l2, hend⟩ := hg
    obtain ⟨its, rv, p, _⟩ := I.tuple hqx
    obtain ⟨its2, rv2, p2, _⟩ := I.tuple hqy
    have s1 : its.toArray.size = xs.length := by rw [List.size_toArray, rv.length]
    have s2 : its2.toArray.size = ys.length := by rw [List.size_toArray, rv2.length]
    have D1 := Draws.tuple (prog := X.prog) (w := X.w) (A := X.A.in1) (I.ok.hd hc) i1 a ia its.toArray
    have D2 := Draws.tuple (prog := X.prog) (w := X.w) (A := X.A.in1) (I.ok.hd hc) i2 b ib its2.toArray
    exact wpAny_pyNext_zipD2_end S D1 D2 hz hTI hTO ⟨h1, (show s.heap.IsTuple a its.toArray from p)⟩ ⟨h2, (show s.heap.IsTuple b its2.toArray from p2)⟩ (by omega) (by omega) (by omega) fun h' tk hk => ⟨rfl, I.turnedL (t' := tk) (ch := [z, TI, TO, i1, i2]) (fun c o hb q =>
      hk c o (fun q' => hb (by simp [q'])) (fun q' => hb (by simp [q'])) (fun q' => hb (by simp [q'])) (fun q' => hb (by simp [q'])) q) hf⟩
def iZipTT (K : PySem.W.Frag) (ta : TA) : TI := fun σ H R => ta σ H fun vs H1 => ∃ a b xs ys, vs = [.ref a, .ref b] ∧ SqT K H1 a xs ∧ SqT K H1 b ys ∧ R (IzTT K a b) H1
theorem pi_zipTT {X : Cx} {e e2 : Expr} {ta : TA} {p pos tpos : Pos} {elts : List Expr} {kk : Nat} (hg : Gl X "zip") (hm : X.mg "zip" = none) (ha : PA X [e, e2] ta)
    (hs : starEach [e, e2] X.env = (false, eval e X.env) :: starEach [e2] X.env := by rfl) (hpl : (backTo pos (starEach [e2] X.env)).any (·.1) = false := by rfl) :
    PI X (.Tuple elts kk tpos) (.Call (.Name "zip" p) [e, e2] [] pos) (iZipTT X.K ta) := by
  refine ⟨fun pins s σ H R I h => ?_⟩
  refine Call_ (ld_blt I hg hm PyProof.Rows.boot_zip (PyProof.Rows.callWith_type1 (thn (ha.run pos pins s σ H _ I h) fun us s1 ⟨vs, H1, I1, r1, q1⟩ => ?_) hs hpl))
  obtain ⟨a, b, xs, ys, rfl, hqx, hqy, q⟩ := q1
  obtain ⟨u1, u2, rfl, ra, rb⟩ := vals2 r1
  obtain rfl : u1 = Value.ref a := ra
  obtain rfl : u2 = Value.ref b := rb
  obtain ⟨its, rv, p1, _⟩ := I1.tuple hqx
  obtain ⟨its2, rv2, p2, _⟩ := I1.tuple hqy
  have pa : s1.heap.IsTuple a its.toArray := p1
  have la : a < s1.heap.objs.size := let ⟨_, e, _⟩ := pa; Heap.lt_size e
  have pb : s1.heap.IsTuple b its2.toArray := p2
  have lb : b < s1.heap.objs.size := let ⟨_, e, _⟩ := pb; Heap.lt_size e
  refine zip_begins2 (begins_tuple a its.toArray) (begins_tuple b its2.toArray) pa pb fun h' hz hTI hTO g1 g2 hsz hk => wpAny_pyIter_zip hz ?_
  have S := zip_sep2 (N := s1.heap.objs.size) (fp1 := [a]) (fp2 := [b]) (fun c hc => by rw [List.mem_singleton.mp hc]; exact la) fun c hc => by rw [List.mem_singleton.mp hc]; exact lb
  refine ⟨_, [s1.heap.objs.size + 4, s1.heap.objs.size + 2, s1.heap.objs.size + 3, s1.heap.objs.size, s1.heap.objs.size + 1], _, _, H1, rfl, I1.kept (t' := s1.toks) hk, turn_zipTT S (Nat.ne_of_lt la) (Nat.ne_of_lt (Nat.lt_succ_of_lt lb)), ⟨hz, hTI, ⟨_, _, hTO⟩, ⟨_, g1, rfl, rfl⟩, ⟨_, g2, rfl, rfl⟩⟩, fun c hcm => ?_, q⟩
  have le : s1.heap.objs.size ≤ c := by
    have z : c = s1.heap.objs.size + 4 ∨ c = s1.heap.objs.size + 2 ∨ c = s1.heap.objs.size + 3 ∨ c = s1.heap.objs.size ∨ c = s1.heap.objs.size + 1 := by simpa using hcm
    rcases z with z | z | z | z | z <;> rw [z] <;> first | exact Nat.le_add_right _ _ | exact Nat.le_refl _
  exact I1.fpOk le (I1.hok.fresh le)
theorem walk_zipTT {K : PySem.W.Frag} {a b : Addr} {xs ys : List V} {n : Nat} (e1 : xs.length = n) (e2 : ys.length = n) : Walk (IzTT K a b) n (fun H => SqT K H a xs ∧ SqT K H b ys) (YPair (fun i => xs[i]?) (fun i => ys[i]?)) :=
  ⟨fun i _ hi q => ⟨xs, ys, xs[i]'(by omega), ys[i]'(by omega), q.1, q.2, List.getElem?_eq_getElem _, List.getElem?_eq_getElem _⟩, fun _ q => ⟨xs, ys, q.1, q.2, by omega, by omega, by omega⟩, fun i H v H' _ q ⟨T, x, y, h1, h2, h3, h4, h5⟩ => ⟨T, x, y, h1, h2, h3, h4 xs q.1, h5 ys q.2⟩⟩
end XV
set_option Elab.async false
set_option linter.all false
set_option maxRecDepth 100000
set_option maxHeartbeats 4000000
namespace XV
open PySem PySem.Spec PyProof.Rows L2
theorem passAtN {X : Cx} {W : WX} (tk : L2N.Takes X W) (σ : L2.St) : PassesAt (L2N.CX X.prog X.w) X σ (WE W σ) := fun _ _ _ e s' I c => tk e s' (L2N.XE.of_call I (fun _ _ _ h => h) c)
theorem roomH_mark {k : Nat} {A : Around} (r : Room k A) (h : Option Value) : L2H.RoomH k (A.mark h) := ⟨r.dp, r.un⟩
/-- all keyword-only parameters are written -/
theorem _root_.L2.Fun.kb {K : PySem.W.Frag} {x qual : Str} {st : Stmt} {f : Addr} {fd : FuncData} (F : Fun K x qual st f fd) (n : Nat) {ps ks : List Str}
    (h : ∀ (kV doc pm : Value) (an : Option Addr) (cdv ct : Value) (us ws : List Value), us.length = n → ws.length = ks.length → bindArgs (PySem.W.fnOf x qual (defArgs st) (defBody st) (defScope st) .none kV doc pm an cdv ct) ⟨us, ks.zip ws⟩ = pure (ps.zip (us ++ ws))) :
    KBn K fd ps n ks (fun us ws => us ++ ws) (fun vs zs => vs ++ zs) := by
  obtain ⟨oc, od, kV, doc, pm, an, cdv, ct, osl, rfl, lk, hcd⟩ := F.ex
  exact ⟨fun s us ws X h1 h2 => .of_eq (h kV doc pm an cdv ct us ws h1 h2), fun r1 r2 => r1.append r2⟩
theorem cut_from {xs : List V} {b : Nat} (h : b ≤ xs.length) : cutV xs (some (b : Int)) none = xs.drop b := by
  unfold cutV
  have e1 : HT.sIx xs.length 0 (some (b : Int)) = b := by
    show (if (b : Int) < 0 then ((b : Int) + (xs.length : Int)).toNat else min (b : Int).toNat xs.length) = b
    rw [if_neg (by omega)]
    omega
  have e2 : HT.sIx xs.length xs.length none = xs.length := rfl
  rw [e1, e2, List.take_of_length_le (by rw [List.length_drop]; omega)]
theorem sl_from {K : PySem.W.Frag} {H : Hp} {a : Addr} {xs : List V} {b : Nat} {Q : VK} (e : H a = some (.tup xs)) (h : b ≤ xs.length) (k : ∀ p H1, (∀ q o, H q = some o → H1 q = some o) → H1 p = some (.tup (xs.drop b)) → Q (.ref p) H1) : rSlA K (.ref a) (some (b : Int)) none H Q := by
  refine ⟨a, xs, rfl, SqT.of e, fun hw => ?_, fun hw p np => ?_⟩
  · refine k a H (fun _ _ z => z) ?_
    have e1 : HT.sIx xs.length 0 (some (b : Int)) = b := by
      show (if (b : Int) < 0 then ((b : Int) + (xs.length : Int)).toNat else min (b : Int).toNat xs.length) = b
      rw [if_neg (by omega)]
      omega
    have z : b = 0 := e1.symm.trans hw.1
    rw [z, List.drop_zero]
    exact e
  · rw [cut_from h]
    exact k p _ (fun q o z => by rw [upd_ne (ne_of_none z np)]; exact z) upd_same
theorem sl_fromP {K : PySem.W.Frag} {H : Hp} {σ : L2.St} {a : Addr} {xs : List V} {b : Nat} {Q : VK} (e : H a = some (.tup xs)) (h : b ≤ xs.length) (k : ∀ p H1, (∀ q o, H q = some o → H1 q = some o) → H1 p = some (.tup (xs.drop b)) → Q (.ref p) H1) : tNoPart σ H fun u H3 => rSlA K (.ref a) (some (b : Int)) u H3 Q := sl_from e h k
end XV
namespace K03
open PySem PySem.Spec PyProof.Rows L2 XV SL
abbrev s_pin_table : Stmt := topS 34
theorem sc_pin_table : FnScope ["slab", "pins"] ["slab", "pins"] (defScope s_pin_table) := ⟨rfl, rfl, rfl, by decide +kernel, rfl, by decide +kernel, by decide +kernel⟩
abbrev s_pins_of : Stmt := topS 35
theorem sc_pins_of : FnScope ["slab", "table", "pins", "pinned"] ["slab", "table", "pins"] (defScope s_pins_of) := ⟨rfl, rfl, rfl, by decide +kernel, rfl, by decide +kernel, by decide +kernel⟩
abbrev s_has_pins : Stmt := topS 36
theorem sc_has_pins : FnScope ["table", "pinned", "counts", "least"] ["table", "pinned"] (defScope s_has_pins) := ⟨rfl, rfl, rfl, by decide +kernel, rfl, by decide +kernel, by decide +kernel⟩
abbrev s_has_counts : Stmt := topS 37
theorem sc_has_counts : FnScope ["counts", "least", "beyond", "count", "pin"] ["counts", "least"] (defScope s_has_counts) := ⟨rfl, rfl, rfl, by decide +kernel, rfl, by decide +kernel, by decide +kernel⟩
abbrev s_order_of : Stmt := topS 43
theorem sc_order_of : FnScope ["slab", "table", "pins", "pinned", "costs", "further", "numbers", "index"] ["slab", "table", "pins"] (defScope s_order_of) := ⟨rfl, rfl, rfl, by decide +kernel, rfl, by decide +kernel, by decide +kernel⟩
abbrev s_check_order : Stmt := topS 44
theorem sc_check_order : FnScope ["slab", "table", "answer", "pins", "pinned", "costs", "further", "word", "numbers"] ["slab", "table", "answer", "pins"] (defScope s_check_order) := ⟨rfl, rfl, rfl, by decide +kernel, rfl, by decide +kernel, by decide +kernel⟩
abbrev s_schedule : Stmt := topS 54
theorem sc_schedule : FnScope ["slab", "table", "pins", "word", "numbers", "pinned", "further", "row", "number", "counts", "low", "least", "count"] ["slab", "table", "pins"] (defScope s_schedule) := ⟨rfl, rfl, rfl, by decide +kernel, rfl, by decide +kernel, by decide +kernel⟩
abbrev s_iNoPins : Stmt := inClass (topS 7) 0
theorem sc_iNoPins : FnScope ["self", "pins"] ["self", "pins"] (defScope s_iNoPins) := ⟨rfl, rfl, rfl, by decide +kernel, rfl, by decide +kernel, by decide +kernel⟩
section
variable {P : Program} {w : World} {K : PySem.W.Frag} {mg : Str → Option Value} {base : Heap}
theorem ok_iNoPins {C fI : Addr} {fd : FuncData} (F : Fun K "__init__" "NoPins.__init__" s_iNoPins fI fd) (T : XCls K C fI "pins") : FnOk P w K mg base CX0 1 fI fd ["self", "pins"] (spIni C "pins") := by
  refine F.ok sc_iNoPins (fun vs H Q E h => ?_) (fun cdv A outer s H vs Q E hr h => ?_)
  · obtain ⟨a, v, rfl, _⟩ := h
    rfl
  · obtain ⟨a, v, rfl, ha, k⟩ := h
    exact ⟨_, pss_one (ps_ost (pv 0) (pv 1)), _, rfl, _, rfl, a, C, rfl, T.ox, T.noF, .inl ⟨ha, fun dx n ne => k dx n ne⟩⟩
theorem ok_iNoPinsH {C fI : Addr} {fd : FuncData} (F : Fun K "__init__" "NoPins.__init__" s_iNoPins fI fd) (T : XCls K C fI "pins") : L2H.FnH P w K mg base CX0 1 fI fd ["self", "pins"] (spIni C "pins") := by
  refine F.okHot sc_iNoPins (fun vs H Q E h => ?_) (fun cdv A outer s H vs Q E p hot hr h => ?_)
  · obtain ⟨a, v, rfl, _⟩ := h
    rfl
  · obtain ⟨a, v, rfl, ha, k⟩ := h
    exact ⟨_, pss_one (ps_ost (pv 0) (pv 1)), _, rfl, _, rfl, a, C, rfl, T.ox, T.noF, .inl ⟨ha, fun dx n ne => k dx n ne⟩⟩
def hcB (ns ms : List Int) : Bool := decide (ms.length ≤ ns.length) && (((ns.drop (ns.length - ms.length)).zip ms).map fun p => decide (p.2 ≤ p.1)).all id
def spHC : Sp := fun vs H Q _ => ∃ (x y : V) (ns ms : List Int), vs = [x, y] ∧ CntAt H x ns ∧ CntAt H y ms ∧ ns.length ≤ 900 ∧ ms.length ≤ 900 ∧ ∀ H', Same H H' → Q (.bl (hcB ns ms)) H'
theorem cr_allK {X : Cx} {K : PySem.W.Frag} (e : X.K = K) (hc : X.calm = true) : CallR X (.builtin "all") (rAll K) := by
  subst e
  exact cr_all hc
theorem ok_has_counts {f : Addr} {fd : FuncData} (F : Fun K "has_counts" "has_counts" s_has_counts f fd) (B : Bt mg) (b_zip : mg "zip" = none) (b_all : mg "all" = none) : FnOk P w K mg base CX0 1 f fd ["counts", "least"] spHC := by
  refine F.ok sc_has_counts (fun vs H Q E h => ?_) (fun cdv A outer s H vs Q E hr h => ?_)
  · obtain ⟨x, y, ns, ms, rfl, _⟩ := h
    rfl
  · obtain ⟨x, y, ns, ms, rfl, ⟨c, rfl, ec⟩, ⟨d, rfl, ed⟩, l1, l2, q⟩ := h
    refine ⟨_, (pss_cons (ps_set (i := 2) sc_has_counts.nd rfl (Or.inl rfl) (pe_op op_sub (pe_callB call_len_seq (by rfl) B.b_len (by decide +kernel) (pa_cons (pv 0) pa_nil)) (pe_callB call_len_seq (by rfl) B.b_len (by decide +kernel) (pa_cons (pv 1) pa_nil))))
      (pss_one (ps_ret (pe_and (pe_cmpR op_ge (pv 2) pe_int (nomark _)) (pe_one (pe_callB (cr_allK (K := K) rfl rfl) (by rfl) b_all (by decide +kernel) (pa_cons (pe_lc (own := [("count", 3), ("pin", 4)]) (g := gTup K 2 (gCons (gName 3) (gCons (gName 4) gNil))) (tt := tYes) (by rfl) sc_has_counts.nd (pi_zipTT (by rfl) b_zip (pa_cons (pe_slice sl_tupA (pv 0) (po_some (pv 2)) po_none) (pa_cons (pv 1) pa_nil))) (blkOk_by (own := [("count", 3), ("pin", 4)]) (N := ["counts", "least", "beyond", "count", "pin"]) (sc := defScope s_has_counts) (by decide +kernel)) (fun _ _ _ _ _ => pg_tup rfl (pgs_cons (pg_name (i := 3) sc_has_counts.nd rfl (Or.inl rfl)) (pgs_cons (pg_name (i := 4) sc_has_counts.nd rfl (Or.inl rfl)) pgs_nil))) (fun _ _ _ _ _ => pts_nil) (fun _ _ _ _ _ => (pe_cmpR op_ge (pv 3) (pv 4) (nomark _)))) pa_nil))))))), ?_⟩
    refine ⟨.ref c, rfl, c, _, rfl, .inr (SqT.of ec), .ref d, rfl, d, _, rfl, .inr (SqT.of ed), _, _, rfl, rfl, ?_⟩
    rw [List.length_map, List.length_map]
    refine ⟨_, rfl, _, 0, rfl, rfl, _, rfl, ?_⟩
    by_cases c0 : ms.length ≤ ns.length
    rotate_left
    · rw [decide_eq_false (show ¬ (0 : Int) ≤ (ns.length : Int) - (ms.length : Int) by omega)]
      refine iteF ?_
      have z : hcB ns ms = false := by
        unfold hcB
        rw [decide_eq_false c0, Bool.false_and]
      have z2 := q _ (Same.refl _)
      rw [z] at z2
      exact z2
    rw [decide_eq_true (show (0 : Int) ≤ (ns.length : Int) - (ms.length : Int) by omega)]
    refine iteT ?_
    obtain ⟨b, hb⟩ : ∃ b : Nat, b = ns.length - ms.length := ⟨_, rfl⟩
    have eb : V.int ((ns.length : Int) - (ms.length : Int)) = V.int (b : Int) := by rw [show (ns.length : Int) - (ms.length : Int) = (b : Int) by omega]
    refine ⟨.ref c, rfl, .int (b : Int), congrArg (fun z => some (some z)) eb, (b : Int), rfl, ?_⟩
    refine sl_fromP (K := K) (a := c) (b := b) ec (by rw [List.length_map]; omega) (fun c' H1 S1 ec' => ?_)
    rw [← List.map_drop] at ec'
    have hn : (ns.drop b).length = ms.length := by rw [List.length_drop]; omega
    refine ⟨.ref d, rfl, c', d, _, _, rfl, SqT.of ec', SqT.of (S1 _ _ ed), fun D nD => ?_⟩
    refine lc_it (walk_zipTT (K := K) (a := c') (b := d) (xs := (ns.drop b).map V.int) (ys := ms.map V.int) (n := ms.length) (by rw [List.length_map, hn]) (List.length_map ..)) (fun i HI => Same H1 HI ∧ HI D = some (.lst (((((ns.drop b).zip ms).map fun p => decide (p.2 ≤ p.1)).take i).map V.bl))) ⟨same_upd nD, upd_same⟩ (fun i HI _ z => ⟨SqT.of (z.1 _ _ ec'), SqT.of (z.1 _ _ (S1 _ _ ed))⟩) ?_ ?_
    · rintro i x HI H2 hi ⟨sI, eI⟩ ⟨t, x1, x2, rfl, nt, rfl, g1, g2⟩
      generalize hq : upd HI t _ = H3
      obtain ⟨t3, et⟩ := eqU hq nt
      have g1 : ((ns.drop b).map V.int)[i]? = some x1 := g1
      have g2 : (ms.map V.int)[i]? = some x2 := g2
      rw [List.getElem?_map] at g1 g2
      obtain ⟨i1, f1, rfl⟩ := Option.map_eq_some_iff.mp g1
      obtain ⟨i2, f2, rfl⟩ := Option.map_eq_some_iff.mp g2
      have hz : ((ns.drop b).zip ms)[i]? = some (i1, i2) := List.getElem?_zip_eq_some.mpr ⟨f1, f2⟩
      refine ⟨t, _, rfl, SqT.of et, rfl, _, _, rfl, _, _, rfl, rfl, rfl, ?_⟩
      unfold tYes
      refine iteT ?_
      refine ⟨_, rfl, _, rfl, i1, i2, rfl, rfl, _, t3 _ _ eI, small1000 (by rw [List.length_map, List.length_take, List.length_map, List.length_zip]; omega), fun b o z => ?_, ?_⟩
      · rw [upd_ne (ne_of_none z nD)]
        exact (sI.trans t3) _ _ z
      · rw [upd_same, List.take_add_one, List.getElem?_map, hz, List.map_append]
        rfl
    · rintro HI ⟨sI, eI⟩
      rw [List.take_of_length_le (by rw [List.length_map, List.length_zip]; omega)] at eI
      have z := q _ (Same.trans S1 sI)
      unfold hcB at z
      rw [decide_eq_true c0, Bool.true_and, ← hb] at z
      exact ⟨D, _, rfl, SqL.of eI, z⟩
def hpB (r1 r2 : List (List Int)) : Bool := ((r1.zip r2).map fun p => hcB p.1 p.2).all id
def Short (rows : List (List Int)) : Prop := ∀ ns ∈ rows, ns.length ≤ 900
def spHP : Sp := fun vs H Q _ => ∃ (x y : V) (r1 r2 : List (List Int)), vs = [x, y] ∧ TabAt H x r1 ∧ TabAt H y r2 ∧ r1.length = r2.length ∧ r1.length ≤ 900 ∧ Short r1 ∧ Short r2 ∧ ∀ H', Same H H' → Q (.bl (hpB r1 r2)) H'
theorem ok_has_pins {f fH : Addr} {fd dH : FuncData} (F : Fun K "has_pins" "has_pins" s_has_pins f fd) (B : Bt mg) (b_zip : mg "zip" = none) (b_all : mg "all" = none)
    (GH : FnOk P w K mg base CX0 1 fH dH ["counts", "least"] spHC) (mH : mg "has_counts" = some (.ref fH)) (kH : PySem.W.keepIn K (.ref fH) = true) (bH : Binds K dH ["counts", "least"] []) : FnOk P w K mg base CX0 2 f fd ["table", "pinned"] spHP := by
  refine F.ok sc_has_pins (fun vs H Q E h => ?_) (fun cdv A outer s H vs Q E hr h => ?_)
  · obtain ⟨x, y, r1, r2, rfl, _⟩ := h
    rfl
  · obtain ⟨x, y, r1, r2, rfl, ⟨a, xs, rfl, ea, ra⟩, ⟨b, ys, rfl, eb, rb⟩, hl, h9, s1, s2, q⟩ := h
    have e1 := Paired.length ra
    have e2 := Paired.length rb
    refine ⟨_, (pss_one (ps_ret (pe_callB (cr_allK (K := K) rfl rfl) (by rfl) b_all (by decide +kernel) (pa_cons (pe_lc (own := [("counts", 2), ("least", 3)]) (g := gTup K 2 (gCons (gName 2) (gCons (gName 3) gNil))) (tt := tYes) (by rfl) sc_has_pins.nd (pi_zipTT (by rfl) b_zip (pa_cons (pv 0) (pa_cons (pv 1) pa_nil))) (blkOk_by (own := [("counts", 2), ("least", 3)]) (N := ["table", "pinned", "counts", "least"]) (sc := defScope s_has_pins) (by decide +kernel)) (fun _ _ _ _ _ => pg_tup rfl (pgs_cons (pg_name (i := 2) sc_has_pins.nd rfl (Or.inl rfl)) (pgs_cons (pg_name (i := 3) sc_has_pins.nd rfl (Or.inl rfl)) pgs_nil))) (fun _ _ _ _ _ => pts_nil) (fun _ _ _ _ _ => (pe_call GH (hr.mono (by decide)) rfl mH kH bH .nil pass0 (pa_cons (pv 2) (pa_cons (pv 3) pa_nil))))) pa_nil)))), ?_⟩
    refine ⟨.ref a, rfl, .ref b, rfl, a, b, xs, ys, rfl, SqT.of ea, SqT.of eb, fun D nD => ?_⟩
    refine lc_it (walk_zipTT (K := K) (a := a) (b := b) (xs := xs) (ys := ys) (n := r1.length) (by omega) (by omega)) (fun i HI => Same H HI ∧ HI D = some (.lst ((((r1.zip r2).map fun p => hcB p.1 p.2).take i).map V.bl))) ⟨same_upd nD, upd_same⟩ (fun i HI _ z => ⟨SqT.of (z.1 _ _ ea), SqT.of (z.1 _ _ eb)⟩) ?_ ?_
    · rintro i x HI H2 hi ⟨sI, eI⟩ ⟨t, x1, x2, rfl, nt, rfl, g1, g2⟩
      generalize hq : upd HI t _ = H3
      obtain ⟨t3, et⟩ := eqU hq nt
      obtain ⟨ns, f1, c1⟩ := rows_get ra g1
      obtain ⟨ms, f2, c2⟩ := rows_get rb g2
      have hz : (r1.zip r2)[i]? = some (ns, ms) := List.getElem?_zip_eq_some.mpr ⟨f1, f2⟩
      have s3 := sI.trans t3
      refine ⟨t, _, rfl, SqT.of et, rfl, _, _, rfl, _, _, rfl, rfl, rfl, ?_⟩
      unfold tYes
      refine iteT ?_
      refine ⟨x1, rfl, x2, rfl, x1, x2, ns, ms, rfl, c1.keep s3, c2.keep s3, s1 _ (List.mem_of_getElem? f1), s2 _ (List.mem_of_getElem? f2), fun H4 s4 => ?_⟩
      refine ⟨_, s4 _ _ (t3 _ _ eI), small1000 (by rw [List.length_map, List.length_take, List.length_map, List.length_zip]; omega), fun b o z => ?_, ?_⟩
      · rw [upd_ne (ne_of_none z nD)]
        exact (s3.trans s4) _ _ z
      · rw [upd_same, List.take_add_one, List.getElem?_map, hz, List.map_append]
        rfl
    · rintro HI ⟨sI, eI⟩
      rw [List.take_of_length_le (by rw [List.length_map, List.length_zip]; omega)] at eI
      exact ⟨D, _, rfl, SqL.of eI, q _ sI⟩
/-- the pins as a table: None is the empty one; NoPins -/
def spPinT (C CP : Addr) : Sp := fun vs H Q E => ∃ (p l : Addr) (xc : List V) (ps : List (Int × Int)) (L : Int) (t : V), vs = [.ref p, t] ∧ SlabAt C H p l xc L ∧ PairsAt H xc ps ∧ SzOk ps ∧ TyT H t ∧
  (t = .non → ∀ t' H', Same H H' → TabAt H' t' (List.replicate ps.length []) → Q t' H') ∧
  (t ≠ .non → ∀ i, badT H ps L t = some i → Rz CP "pins" t H E) ∧ (t ≠ .non → badT H ps L t = none → ∀ H', Same H H' → Q t H')
theorem ok_pin_table {C CT CP f fC fE fP : Addr} {fd dC dE dP : FuncData} (F : Fun K "pin_table" "pin_table" s_pin_table f fd) (gT : mg "NoTable" = some (.ref CT)) (eTT : PySem.W.exmOne K (.ref CT) (.ref CT) = some true)
    (GC : FnOk P w K mg base (L2N.CX P w) 6 fC dC ["slab", "table"] (spCheck C CT)) (mC : mg "check_table" = some (.ref fC)) (kC : PySem.W.keepIn K (.ref fC) = true) (bC : Binds K dC ["slab", "table"] [])
    (GE : FnOk P w K mg base CX0 3 fE dE ["slab"] (spEmpty C)) (mE : mg "empty" = some (.ref fE)) (kE : PySem.W.keepIn K (.ref fE) = true) (bE : Binds K dE ["slab"] [])
    (TP : XCls K CP fP "pins") (IP : L2H.FnH P w K mg base CX0 1 fP dP ["self", "pins"] (spIni CP "pins")) (bP : Binds K dP ["self", "pins"] []) (gP : mg "NoPins" = some (.ref CP)) :
    FnOk P w K mg base (L2.CX P w) 7 f fd ["slab", "pins"] (spPinT C CP) := by
  refine F.okX sc_pin_table (fun vs H Q E h => ?_) (fun cdv A outer s H vs Q E hr h => ?_)
  · obtain ⟨p, l, xc, ps, L, t, rfl, _⟩ := h
    rfl
  · obtain ⟨p, l, xc, ps, L, t, rfl, sl, pr, sz, tt, k0, kE', kQ⟩ := h
    have n1 := sz.n1
    have n6 := sz.n6
    have e1 := Paired.length pr
    refine ⟨_, pss_cons (ps_if (pt_cmpR op_isN (pv 1) pe_non (nomark _)) (pss_one (ps_ret (pe_call GE (hr.mono (by decide)) rfl mE kE bE .nil pass0 (pa_cons (pv 0) pa_nil)))) pss_nil)
      (pss_cons (L2H.ps_try_onlyX (c := .ref CT) rfl rfl ⟨rfl, rfl, .inl gT⟩ (L2H.passesAt_of rfl) (takes_of rfl rfl rfl rfl)
        (fun W pn xe tkN tkP _ => pss_one (ps_expr (pe_callS GC (hr.mono (by decide)) rfl mC kC bC (fun σ => passAtN tkN σ) (pa_cons (pv 0) (pa_cons (pv 1) pa_nil)))))
        (fun a oe cls d pn hz hf tkS hot => pss_one (ps_raiseXH hot tkS TP IP (roomH_mark (hr.mono (by decide)) _) bP rfl gP (pa_cons (pv 1) pa_nil))))
      (pss_one (ps_ret (pv 1)))), ?_⟩
    by_cases c : t = .non
    · subst c
      refine ⟨_, rfl, rfl, _, rfl, ?_⟩
      rw [decide_eq_true rfl]
      exact iteT ⟨.ref p, rfl, p, l, xc, L, rfl, sl, by omega, by omega, fun t' H' s' ta => k0 rfl t' H' s' (by rw [← e1]; exact ta)⟩
    · refine ⟨_, rfl, rfl, _, rfl, ?_⟩
      rw [decide_eq_false c]
      refine iteF ⟨.ref p, rfl, t, rfl, p, l, xc, ps, L, t, rfl, sl, pr, sz, tt, fun i hb d H' nd s' ed => ⟨true, eTT, fun _ a na => ⟨t, rfl, t, rfl, (kE' c i hb).keep s'⟩, fun z => Bool.noConfusion z⟩, fun hb H' s' => ⟨t, rfl, kQ c hb H' s'⟩⟩
/-- the pins of a table that are asked with pn: the table t' of the rows prows -/
def PinsAre (H : Hp) (ps : List (Int × Int)) (L : Int) (pn : V) (H' : Hp) (t' : V) (prows : List (List Int)) : Prop := TabAt H' t' prows ∧ TabOk ps L prows ∧ ((pn = .non ∧ prows = List.replicate ps.length []) ∨ (pn ≠ .non ∧ t' = pn ∧ TabAt H pn prows))
def spPinsOf (C CT CP : Addr) : Sp := fun vs H Q E => ∃ (p l : Addr) (xc : List V) (ps : List (Int × Int)) (L : Int) (t pn : V), vs = [.ref p, t, pn] ∧ SlabAt C H p l xc L ∧ PairsAt H xc ps ∧ SzOk ps ∧ 0 ≤ L ∧ TyT H t ∧ TyT H pn ∧
  (∀ i, badT H ps L t = some i → Rz CT "index" (.int i) H E) ∧
  ∀ rows, TabAt H t rows → TabOk ps L rows → (pn ≠ .non → ∀ i, badT H ps L pn = some i → Rz CP "pins" pn H E) ∧
    ∀ prows t' H', Same H H' → PinsAre H ps L pn H' t' prows → (hpB rows prows = false → Rz CP "pins" pn H' E) ∧ (hpB rows prows = true → ∀ H3, Same H' H3 → Q t' H3)
theorem empty_ok {ps : List (Int × Int)} {L : Int} (h : 0 ≤ L) : TabOk ps L (List.replicate ps.length []) := by
  have hs : ∀ (qs : List (Int × Int)) n, ((qs.zip (List.replicate n ([] : List Int))).map fun p => p.1.1 * p.2.sum).sum = 0 := fun qs => by
    induction qs with
    | nil => intro n; rfl
    | cons q qs ih =>
      intro n
      cases n with
      | zero => rfl
      | succ n =>
        rw [List.replicate_succ, List.zip_cons_cons, List.map_cons, List.sum_cons, ih]
        show q.1 * ([] : List Int).sum + 0 = 0
        rw [List.sum_nil, Int.mul_zero]
        rfl
  refine ⟨List.length_replicate, fun i q ns _ hn => ?_, ?_, ?_⟩
  · have e := List.eq_of_mem_replicate (List.mem_of_getElem? hn)
    subst e
    exact ⟨.nil, fun n hn => nomatch hn⟩
  · unfold pgs
    rw [List.map_replicate, List.sum_replicate_nat]
    show ps.length * 0 ≤ 60
    omega
  · show ((ps.zip (List.replicate ps.length [])).map fun p => p.1.1 * p.2.sum).sum ≤ L
    rw [hs]
    exact h
theorem le_sum {n : Nat} : ∀ {l : List Nat}, n ∈ l → n ≤ l.sum
  | m :: l, h => by
    rw [List.sum_cons]
    rcases List.mem_cons.mp h with e | h
    · omega
    · have := le_sum h
      omega
theorem short_of {ps : List (Int × Int)} {L : Int} {rows : List (List Int)} (h : TabOk ps L rows) : Short rows := fun ns hn => by
  have z : ns.length ≤ pgs rows := by
    unfold pgs
    exact le_sum (List.mem_map_of_mem hn)
  have := h.few
  omega
theorem cntI_keep {H H' : Hp} {x : V} (h : Ty H x) (k : Same H H') : cntI H' x = cntI H x := by
  cases x with
  | ref c =>
    obtain ⟨o, e⟩ := h.here
    show (match H' c with | some (.tup ys) => ys.map iV | _ => []) = (match H c with | some (.tup ys) => ys.map iV | _ => [])
    rw [e, k _ _ e]
  | _ => rfl
theorem findIdx_congr2 {α : Type} {p q : α → Bool} : ∀ {xs : List α}, (∀ x ∈ xs, p x = q x) → xs.findIdx? p = xs.findIdx? q
  | [], _ => rfl
  | x :: xs, h => by
    rw [List.findIdx?_cons, List.findIdx?_cons, h x List.mem_cons_self, findIdx_congr2 fun y hy => h y (List.mem_cons_of_mem _ hy)]
theorem badT_keep {H H' : Hp} {ps : List (Int × Int)} {L : Int} {t : V} (h : TyT H t) (k : Same H H') : badT H' ps L t = badT H ps L t := by
  cases t with
  | ref a =>
    obtain ⟨o, e⟩ := h.1.here
    by_cases ht : ∃ xs, o = .tup xs
    · obtain ⟨xs, rfl⟩ := ht
      obtain ⟨_, hI⟩ := h.2 a xs rfl e
      rw [badT_tup e, badT_tup (k _ _ e)]
      have e1 : firstBad H' xs ps = firstBad H xs ps := by
        unfold firstBad
        exact findIdx_congr2 fun q hq => by rw [cntB_keep (hI q.1 (List.of_mem_zip hq).1).1 k]
      have e2 : xs.map (cntI H') = xs.map (cntI H) := List.map_congr_left fun x hx => cntI_keep (hI x hx).1 k
      rw [e1, e2]
    · rw [badT_no (H := H) (t := .ref a) (fun b xs eb ez => by cases eb; rw [e] at ez; cases ez; exact ht ⟨_, rfl⟩), badT_no (H := H') (t := .ref a) (fun b xs eb ez => by cases eb; rw [k _ _ e] at ez; cases ez; exact ht ⟨_, rfl⟩)]
  | _ => rfl
theorem pinT_of {C CP p l : Addr} {H H1 : Hp} {xc : List V} {ps : List (Int × Int)} {L : Int} {pn : V} {Q : VK} {E : XK} (S1 : Same H H1) (sl : SlabAt C H p l xc L) (pr : PairsAt H xc ps) (sz : SzOk ps) (hL : 0 ≤ L) (tp : TyT H pn)
    (k1 : pn ≠ .non → ∀ i, badT H ps L pn = some i → Rz CP "pins" pn H E) (k : ∀ t' prows H2, Same H H2 → PinsAre H ps L pn H2 t' prows → Q t' H2) : spPinT C CP [.ref p, pn] H1 Q E := by
  refine ⟨p, l, xc, ps, L, pn, rfl, sl.keep S1, PairsAt.keep S1 pr, sz, tp.keep S1, fun e t' H2 s2 ta => k t' _ H2 (S1.trans s2) ⟨ta, empty_ok hL, .inl ⟨e, rfl⟩⟩, fun hn i hb => (k1 hn i (by rw [← hb, badT_keep tp S1])).keep S1, fun hn hb H2 s2 => ?_⟩
  rw [badT_keep tp S1] at hb
  obtain ⟨rows, ta, ok⟩ := badT_none hb
  exact k pn rows H2 (S1.trans s2) ⟨ta.keep (S1.trans s2), ok, .inr ⟨hn, rfl, ta⟩⟩
theorem tab_len {H : Hp} {t : V} {r1 r2 : List (List Int)} (a : TabAt H t r1) (b : TabAt H t r2) : r1 = r2 := by
  obtain ⟨x, xs, rfl, e, z⟩ := a
  obtain ⟨y, ys, ey, e2, z2⟩ := b
  cases ey
  rw [e] at e2
  cases e2
  rw [← rows_of z, ← rows_of z2]
theorem ok_pins_of {C CT CP f fC fN fP fI : Addr} {fd dC dN dP dI : FuncData} (F : Fun K "pins_of" "pins_of" s_pins_of f fd) (B : Bt mg)
    (GC : FnOk P w K mg base (L2N.CX P w) 6 fC dC ["slab", "table"] (spCheck C CT)) (mC : mg "check_table" = some (.ref fC)) (kC : PySem.W.keepIn K (.ref fC) = true) (bC : Binds K dC ["slab", "table"] [])
    (GN : FnOk P w K mg base (L2.CX P w) 7 fN dN ["slab", "pins"] (spPinT C CP)) (mN : mg "pin_table" = some (.ref fN)) (kN : PySem.W.keepIn K (.ref fN) = true) (bN : Binds K dN ["slab", "pins"] [])
    (GHP : FnOk P w K mg base CX0 2 fP dP ["table", "pinned"] spHP) (mHP : mg "has_pins" = some (.ref fP)) (kHP : PySem.W.keepIn K (.ref fP) = true) (bHP : Binds K dP ["table", "pinned"] [])
    (XNoPins : XCls K CP fI "pins") (INoPins : FnOk P w K mg base CX0 1 fI dI ["self", "pins"] (spIni CP "pins")) (biNoPins : Binds K dI ["self", "pins"] []) (gNoPins : mg "NoPins" = some (.ref CP)) :
    FnOk P w K mg base (L2.CX P w) 8 f fd ["slab", "table", "pins"] (spPinsOf C CT CP) := by
  refine F.okX sc_pins_of (fun vs H Q E h => ?_) (fun cdv A outer s H vs Q E hr h => ?_)
  · obtain ⟨p, l, xc, ps, L, t, pn, rfl, _⟩ := h
    rfl
  · obtain ⟨p, l, xc, ps, L, t, pn, rfl, sl, pr, sz, hL, tt, tp, kE, kR⟩ := h
    refine ⟨_, (pss_cons (ps_expr (pe_call GC.weakN (hr.mono (by decide)) rfl mC kC bC .nil (passes_call (takes_of rfl rfl rfl rfl) (fun _ _ _ _ h => h)) (pa_cons (pv 0) (pa_cons (pv 1) pa_nil))))
      (pss_cons (ps_set (i := 3) sc_pins_of.nd rfl (Or.inl rfl) (pe_call GN (hr.mono (by decide)) rfl mN kN bN .nil (passes_call (takes_of rfl rfl rfl rfl) (fun _ _ _ _ h => h)) (pa_cons (pv 0) (pa_cons (pv 2) pa_nil))))
      (pss_cons (ps_if (pt_not (pt_val (pe_call GHP (hr.mono (by decide)) rfl mHP kHP bHP .nil pass0 (pa_cons (pv 1) (pa_cons (pv 3) pa_nil))))) (pss_one (ps_raiseX rfl (takes_of rfl rfl rfl rfl) XNoPins INoPins (hr.mono (by decide)) biNoPins rfl gNoPins (pa_cons (pv 2) pa_nil))) pss_nil)
      (pss_one (ps_ret (pv 3)))))), ?_⟩
    refine ⟨.ref p, rfl, t, rfl, p, l, xc, ps, L, t, rfl, sl, pr, sz, tt, kE, fun hb H1 S1 => ?_⟩
    obtain ⟨rows, ta, ok⟩ := badT_none hb
    obtain ⟨k1, k2⟩ := kR rows ta ok
    have n6 := sz.n6
    refine ⟨.ref p, rfl, pn, rfl, pinT_of S1 sl pr sz hL tp k1 fun t' prows H2 S2 pa => ?_⟩
    obtain ⟨q1, q2⟩ := k2 prows t' H2 S2 pa
    have e1 := ok.len
    have e2 := pa.2.1.len
    refine ⟨t, rfl, t', rfl, t, t', rows, prows, rfl, ta.keep S2, pa.1, by omega, by omega, short_of ok, short_of pa.2.1, fun H3 S3 => ⟨_, rfl, ?_⟩⟩
    cases c : hpB rows prows with
    | false => exact iteT ⟨pn, rfl, pn, rfl, (q1 c).keep S3⟩
    | true => exact iteF ⟨t', rfl, q2 c H3 S3⟩
/-- no table is asked with -/
def spNoT (C CT : Addr) (k : Nat) : Sp := fun vs H Q E => ∃ (p l : Addr) (xc : List V) (ps : List (Int × Int)) (L : Int) (t : V) (rest : List V) (i : Int), vs = .ref p :: t :: rest ∧ rest.length = k ∧ SlabAt C H p l xc L ∧ PairsAt H xc ps ∧ SzOk ps ∧ TyT H t ∧ badT H ps L t = some i ∧ Rz CT "index" (.int i) H E
theorem ok_steps {C CT f fV : Addr} {fd dV : FuncData} (F : Fun K "steps" "steps" s_steps f fd)
    (GV : FnOk P w K mg base (L2N.CX P w) 7 fV dV ["slab", "table"] (spTab C CT gLive)) (mV : mg "live" = some (.ref fV)) (kV : PySem.W.keepIn K (.ref fV) = true) (bV : Binds K dV ["slab", "table"] []) :
    FnOk P w K mg base (L2N.CX P w) 8 f fd ["slab", "table"] (spNoT C CT 0) := by
  refine F.okXN sc_steps (fun vs H Q E h => ?_) (fun cdv A outer s H vs Q E hr h => ?_)
  · obtain ⟨p, l, xc, ps, L, t, rest, i, rfl, hk, _⟩ := h
    show rest.length + 2 = _
    rw [hk]
    rfl
  · obtain ⟨p, l, xc, ps, L, t, rest, i, rfl, hk, sl, pr, sz, tt, hb, rz⟩ := h
    have g1 : ∀ i', badT H ps L t = some i' → Rz CT "index" (.int i') H E := fun i' hb' => by
      rw [hb] at hb'
      cases hb'
      exact rz
    have g2 : ∀ rows, TabAt H t rows → TabOk ps L rows → False := fun rows ta ok => by
      rw [badT_ok ta ok] at hb
      cases hb
    match rest, hk with
    | [], _ =>
      refine ⟨_, pss_cons (ps_set (i := 2) sc_steps.nd rfl (Or.inr rfl) (pe_call GV (hr.mono (by decide)) rfl mV kV bV .nil (L2N.passes_call (L2N.takes_of rfl rfl rfl rfl) (fun _ _ _ _ h => h)) (pa_cons (pv 0) (pa_cons (pv 1) pa_nil)))) pss_never, ?_⟩
      exact ⟨.ref p, rfl, t, rfl, p, l, xc, ps, L, t, rfl, sl, pr, sz, tt, g1, fun rows ta ok => (g2 rows ta ok).elim⟩
theorem ok_played {C CT f fV : Addr} {fd dV : FuncData} (F : Fun K "played" "played" s_played f fd)
    (GV : FnOk P w K mg base (L2N.CX P w) 7 fV dV ["slab", "table"] (spTab C CT gLive)) (mV : mg "live" = some (.ref fV)) (kV : PySem.W.keepIn K (.ref fV) = true) (bV : Binds K dV ["slab", "table"] []) :
    FnOk P w K mg base (L2N.CX P w) 8 f fd ["slab", "table", "row"] (spNoT C CT 1) := by
  refine F.okXN sc_played (fun vs H Q E h => ?_) (fun cdv A outer s H vs Q E hr h => ?_)
  · obtain ⟨p, l, xc, ps, L, t, rest, i, rfl, hk, _⟩ := h
    show rest.length + 2 = _
    rw [hk]
    rfl
  · obtain ⟨p, l, xc, ps, L, t, rest, i, rfl, hk, sl, pr, sz, tt, hb, rz⟩ := h
    have g1 : ∀ i', badT H ps L t = some i' → Rz CT "index" (.int i') H E := fun i' hb' => by
      rw [hb] at hb'
      cases hb'
      exact rz
    have g2 : ∀ rows, TabAt H t rows → TabOk ps L rows → False := fun rows ta ok => by
      rw [badT_ok ta ok] at hb
      cases hb
    match rest, hk with
    | [_], _ =>
      refine ⟨_, pss_cons (ps_set (i := 3) sc_played.nd rfl (Or.inl rfl) (pe_call GV (hr.mono (by decide)) rfl mV kV bV .nil (L2N.passes_call (L2N.takes_of rfl rfl rfl rfl) (fun _ _ _ _ h => h)) (pa_cons (pv 0) (pa_cons (pv 1) pa_nil)))) pss_never, ?_⟩
      exact ⟨.ref p, rfl, t, rfl, p, l, xc, ps, L, t, rfl, sl, pr, sz, tt, g1, fun rows ta ok => (g2 rows ta ok).elim⟩
/-- the table doesn't have the pins, or they are none -/
def Lack (ps : List (Int × Int)) (L : Int) (H : Hp) (t pn : V) : Prop := ∃ rows, TabAt H t rows ∧ TabOk ps L rows ∧ pn ≠ .non ∧ ((∃ i, badT H ps L pn = some i) ∨ ∃ prows, TabAt H pn prows ∧ hpB rows prows = false)
theorem Lack.keep {ps : List (Int × Int)} {L : Int} {H H' : Hp} {t pn : V} (h : Lack ps L H t pn) (tp : TyT H pn) (k : Same H H') : Lack ps L H' t pn := by
  obtain ⟨rows, ta, ok, hn, c⟩ := h
  refine ⟨rows, ta.keep k, ok, hn, ?_⟩
  rcases c with ⟨i, e⟩ | ⟨pr, e, z⟩
  · exact .inl ⟨i, by rw [badT_keep tp k, e]⟩
  · exact .inr ⟨pr, e.keep k, z⟩
def spOrd (C CT CP : Addr) (k : Nat) : Sp := fun vs H Q E => ∃ (p l : Addr) (xc : List V) (ps : List (Int × Int)) (L : Int) (t pn : V) (mid : List V), vs = .ref p :: t :: (mid ++ [pn]) ∧ mid.length = k ∧ SlabAt C H p l xc L ∧ PairsAt H xc ps ∧ SzOk ps ∧ 0 ≤ L ∧ TyT H t ∧ TyT H pn ∧
  ((∃ i, badT H ps L t = some i ∧ Rz CT "index" (.int i) H E) ∨ (Lack ps L H t pn ∧ Rz CP "pins" pn H E))
theorem ord_in {C CT CP p l : Addr} {H : Hp} {xc : List V} {ps : List (Int × Int)} {L : Int} {t pn : V} {Q : VK} {E : XK} (sl : SlabAt C H p l xc L) (pr : PairsAt H xc ps) (sz : SzOk ps) (hL : 0 ≤ L) (tt : TyT H t) (tp : TyT H pn)
    (h : (∃ i, badT H ps L t = some i ∧ Rz CT "index" (.int i) H E) ∨ (Lack ps L H t pn ∧ Rz CP "pins" pn H E)) : spPinsOf C CT CP [.ref p, t, pn] H Q E := by
  refine ⟨p, l, xc, ps, L, t, pn, rfl, sl, pr, sz, hL, tt, tp, fun i hb => ?_, fun rows ta ok => ?_⟩
  · rcases h with ⟨i', hb', rz⟩ | ⟨⟨rows, ta, ok, _⟩, _⟩
    · rw [hb] at hb'
      cases hb'
      exact rz
    · rw [badT_ok ta ok] at hb
      cases hb
  · rcases h with ⟨i', hb', rz⟩ | ⟨⟨rows', ta', ok', hn, c⟩, rz⟩
    · rw [badT_ok ta ok] at hb'
      cases hb'
    · have er := tab_len ta ta'
      subst er
      refine ⟨fun _ _ _ => rz, fun prows t' H' S' pa => ⟨fun _ => rz.keep S', fun ht => ?_⟩⟩
      exfalso
      obtain ⟨_, pok, hp⟩ := pa
      rcases hp with ⟨e, _⟩ | ⟨_, _, tp'⟩
      · exact hn e
      · rcases c with ⟨i, hb⟩ | ⟨prows', tp2, hf⟩
        · rw [badT_ok tp' pok] at hb
          cases hb
        · rw [tab_len tp' tp2, hf] at ht
          cases ht
theorem ok_order_of {C CT CP f fO : Addr} {fd dO : FuncData} (F : Fun K "order_of" "order_of" s_order_of f fd)
    (GO : FnOk P w K mg base (L2.CX P w) 8 fO dO ["slab", "table", "pins"] (spPinsOf C CT CP)) (mO : mg "pins_of" = some (.ref fO)) (kO : PySem.W.keepIn K (.ref fO) = true) (bO : Binds K dO ["slab", "table", "pins"] []) :
    FnOk P w K mg base (L2.CX P w) 9 f fd ["slab", "table", "pins"] (spOrd C CT CP 0) := by
  refine F.okX sc_order_of (fun vs H Q E h => ?_) (fun cdv A outer s H vs Q E hr h => ?_)
  · obtain ⟨p, l, xc, ps, L, t, pn, mid, rfl, hk, _⟩ := h
    show (mid ++ [pn]).length + 2 = _
    rw [List.length_append, hk]
    rfl
  · obtain ⟨p, l, xc, ps, L, t, pn, mid, rfl, hk, sl, pr, sz, hL, tt, tp, hc⟩ := h
    match mid, hk with
    | [], _ =>
      refine ⟨_, pss_cons (ps_set (i := 3) sc_order_of.nd rfl (Or.inl rfl) (pe_call GO (hr.mono (by decide)) rfl mO kO bO .nil (passes_call (takes_of rfl rfl rfl rfl) (fun _ _ _ _ h => h)) (pa_cons (pv 0) (pa_cons (pv 1) (pa_cons (pv 2) pa_nil))))) pss_never, ?_⟩
      exact ⟨.ref p, rfl, t, rfl, pn, rfl, ord_in sl pr sz hL tt tp hc⟩
theorem ok_check_order {C CT CP f fO : Addr} {fd dO : FuncData} (F : Fun K "check_order" "check_order" s_check_order f fd)
    (GO : FnOk P w K mg base (L2.CX P w) 8 fO dO ["slab", "table", "pins"] (spPinsOf C CT CP)) (mO : mg "pins_of" = some (.ref fO)) (kO : PySem.W.keepIn K (.ref fO) = true) (bO : Binds K dO ["slab", "table", "pins"] []) :
    FnOk P w K mg base (L2.CX P w) 9 f fd ["slab", "table", "answer", "pins"] (spOrd C CT CP 1) := by
  refine F.okX sc_check_order (fun vs H Q E h => ?_) (fun cdv A outer s H vs Q E hr h => ?_)
  · obtain ⟨p, l, xc, ps, L, t, pn, mid, rfl, hk, _⟩ := h
    show (mid ++ [pn]).length + 2 = _
    rw [List.length_append, hk]
    rfl
  · obtain ⟨p, l, xc, ps, L, t, pn, mid, rfl, hk, sl, pr, sz, hL, tt, tp, hc⟩ := h
    match mid, hk with
    | [_], _ =>
      refine ⟨_, pss_cons (ps_set (i := 4) sc_check_order.nd rfl (Or.inl rfl) (pe_call GO (hr.mono (by decide)) rfl mO kO bO .nil (passes_call (takes_of rfl rfl rfl rfl) (fun _ _ _ _ h => h)) (pa_cons (pv 0) (pa_cons (pv 1) (pa_cons (pv 3) pa_nil))))) pss_never, ?_⟩
      exact ⟨.ref p, rfl, t, rfl, pn, rfl, ord_in sl pr sz hL tt tp hc⟩
theorem ok_schedule {C CT CP f fR : Addr} {fd dR : FuncData} {gR : List Value → List Value → List Value} (F : Fun K "schedule" "schedule" s_schedule f fd)
    (GR : FnOk P w K mg base (L2.CX P w) 9 fR dR ["slab", "table", "pins"] (spOrd C CT CP 0)) (mR : mg "order_of" = some (.ref fR)) (kR : PySem.W.keepIn K (.ref fR) = true) (KR : KBn K dR ["slab", "table", "pins"] 2 ["pins"] gR (fun vs zs => vs ++ zs)) :
    FnOk P w K mg base (L2.CX P w) 10 f fd ["slab", "table", "pins"] (spOrd C CT CP 0) := by
  refine F.okX sc_schedule (fun vs H Q E h => ?_) (fun cdv A outer s H vs Q E hr h => ?_)
  · obtain ⟨p, l, xc, ps, L, t, pn, mid, rfl, hk, _⟩ := h
    show (mid ++ [pn]).length + 2 = _
    rw [List.length_append, hk]
    rfl
  · obtain ⟨p, l, xc, ps, L, t, pn, mid, rfl, hk, sl, pr, sz, hL, tt, tp, hc⟩ := h
    match mid, hk with
    | [], _ =>
      refine ⟨_, pss_cons (ps_asg (pe_callN GR (hr.mono (by decide)) rfl mR kR KR (passes_call (takes_of rfl rfl rfl rfl) (fun _ _ _ _ h => h)) (pa_cons (pv 0) (pa_cons (pv 1) pa_nil)) (pk_cons (pv 2) pk_nil)) (pg_tup rfl (pgs_cons (pg_name (i := 3) sc_schedule.nd rfl (Or.inl rfl)) (pgs_cons (pg_name (i := 4) sc_schedule.nd rfl (Or.inl rfl)) pgs_nil)))) pss_never, ?_⟩
      exact ⟨.ref p, rfl, t, rfl, pn, rfl, rfl, rfl, p, l, xc, ps, L, t, pn, [], rfl, rfl, sl, pr, sz, hL, tt, tp, hc⟩
end
end K03
set_option Elab.async false
set_option linter.all false
set_option maxRecDepth 100000
set_option maxHeartbeats 4000000
namespace XV
open PySem PySem.Spec PyProof.Rows L2
/-- list + list, whatever they are -/
def rCatS (K : PySem.W.Frag) : R2 := fun x y H Q => ∃ l b xs zs, x = .ref l ∧ y = .ref b ∧ SqL K H l xs ∧ SqL K H b zs ∧ xs.length + zs.length ≤ sizeLine ∧ ∀ p, H p = none → Q (.ref p) (upd H p (.lst (xs ++ zs)))
theorem op_catS {X : Cx} : OpR X (binaryOp .Add) (rCatS X.K) := by
  intro pins s σ H x y v u Q I rx ry h
  obtain ⟨l, b, xs, zs, rfl, rfl, hH, hB, hz, q⟩ := h
  cases rx
  cases ry
  obtain ⟨its, r, p1, z1⟩ := I.list hH
  obtain ⟨its2, r2, p2, z2⟩ := I.list hB
  obtain ⟨⟨cls, dd, data, sl⟩, ho, hc, n, hd⟩ := p1.isList
  obtain ⟨⟨cls2, dd2, data2, sl2⟩, ho2, hc2, n2, hd2⟩ := p2.isList
  simp only at hc hd hc2 hd2
  subst hc hd hc2 hd2
  have hl := r.length
  have hl2 := r2.length
  have ea : its.toArray ++ its2.toArray = (its ++ its2).toArray := by simp
  refine concat_meets ⟨_, ho, rfl⟩ ⟨_, ho2, rfl⟩ noFill_list_add seq_list_add PySem.F.slot_list_add PySem.F.entry_list_add (PySem.F.args_list_add_2 _ _) (list_addW l b its.toArray its2.toArray n n2 dd dd2 sl sl2 (by rw [List.size_toArray, List.size_toArray]; omega)) ⟨ho, ho2, ?_⟩
  rw [ea]
  exact ⟨.ref _, _, I.lnew (t' := s.toks) (r.append r2) (by rw [List.length_append]; omega), rfl, q _ I.fresh⟩
end XV
namespace K03
open PySem PySem.Spec PyProof.Rows L2 XV SL
local macro_rules | `(tactic| walk_at "rd") => `(tactic| repeat (first | refine And.intro rfl ?_ | refine And.intro (by assumption) ?_ | refine And.intro (SqL.of upd_same) ?_ | refine And.intro upd_same ?_ | refine And.intro (by first | decide | (dsimp only; decide) | (dsimp only; omega)) ?_ | refine And.intro ⟨by decide, by decide⟩ ?_ | refine And.intro (Or.inl ⟨by omega, by omega⟩) ?_ | refine And.intro (Or.inr ⟨by decide, by decide⟩) ?_ | refine And.intro (Or.inl ⟨by decide, by decide⟩) ?_ | refine Or.inl (Exists.intro _ (And.intro rfl ?_)) | refine Or.inr (Exists.intro _ (And.intro rfl ?_)) | apply Exists.intro))
abbrev s__law_draw : Stmt := topS 59
theorem sc__law_draw : FnScope ["_law_well", "_law_many", "_law_found", "_law_number"] ["_law_well", "_law_many"] (defScope s__law_draw) := ⟨rfl, rfl, rfl, by decide +kernel, rfl, by decide +kernel, by decide +kernel⟩
abbrev s__law_slab : Stmt := topS 60
theorem sc__law_slab : FnScope ["_law_well", "_law_kind", "_law_sorts", "_law_k"] ["_law_well"] (defScope s__law_slab) := ⟨rfl, rfl, rfl, by decide +kernel, rfl, by decide +kernel, by decide +kernel⟩
abbrev s__law_table : Stmt := topS 61
theorem sc__law_table : FnScope ["_law_well", "_law_sorts", "_law_most", "_law_found", "_law_turn", "_law_number", "_law_size", "_law_slots", "_law_count", "_law_one", "_law_counts"] ["_law_well", "_law_sorts", "_law_most"] (defScope s__law_table) := ⟨rfl, rfl, rfl, by decide +kernel, rfl, by decide +kernel, by decide +kernel⟩
abbrev s__law_live : Stmt := topS 62
theorem sc__law_live : FnScope ["_law_sorts", "_law_table_here", "_law_counts", "_law_size", "_law_slots"] ["_law_sorts", "_law_table_here"] (defScope s__law_live) := ⟨rfl, rfl, rfl, by decide +kernel, rfl, by decide +kernel, by decide +kernel⟩
abbrev s__law_whole : Stmt := topS 63
theorem sc__law_whole : FnScope ["_law_value", "_law_high"] ["_law_value", "_law_high"] (defScope s__law_whole) := ⟨rfl, rfl, rfl, by decide +kernel, rfl, by decide +kernel, by decide +kernel⟩
abbrev s__law_bad : Stmt := topS 64
theorem sc__law_bad : FnScope ["_law_sorts", "_law_most", "_law_table_here", "_law_number", "_law_counts", "_law_one"] ["_law_sorts", "_law_most", "_law_table_here"] (defScope s__law_bad) := ⟨rfl, rfl, rfl, by decide +kernel, rfl, by decide +kernel, by decide +kernel⟩
abbrev s__law_raised : Stmt := topS 65
theorem sc__law_raised : FnScope ["_law_ask", "_law_found", "e"] ["_law_ask"] (defScope s__law_raised) := ⟨rfl, rfl, rfl, by decide +kernel, rfl, by decide +kernel, by decide +kernel⟩
abbrev s__law_doors : Stmt := topS 66
theorem sc__law_doors : FnScope ["_law_slab_here", "_law_one", "_law_found"] ["_law_slab_here", "_law_one"] (defScope s__law_doors) := ⟨rfl, rfl, rfl, by decide +kernel, rfl, by decide +kernel, by decide +kernel⟩
abbrev s__law_bent : Stmt := topS 67
theorem sc__law_bent : FnScope ["_law_well", "_law_table_here", "_law_sorts", "_law_at", "_law_counts", "_law_high", "_law_odd"] ["_law_well", "_law_table_here", "_law_sorts"] (defScope s__law_bent) := ⟨rfl, rfl, rfl, by decide +kernel, rfl, by decide +kernel, by decide +kernel⟩
abbrev s__law_pins_right : Stmt := topS 68
theorem sc__law_pins_right : FnScope ["_law_slab_here", "_law_sorts", "_law_most", "_law_table_here", "_law_some", "_law_number", "_law_counts", "_law_later", "_law_nails", "_law_count"] ["_law_slab_here", "_law_sorts", "_law_most", "_law_table_here"] (defScope s__law_pins_right) := ⟨rfl, rfl, rfl, by decide +kernel, rfl, by decide +kernel, by decide +kernel⟩
abbrev s__law_right : Stmt := topS 69
theorem sc__law_right : FnScope ["_law_well", "_law_sorts", "_law_most", "_law_slab_here", "_law_table_here", "_law_bad_here", "_law_one", "_law_due", "_law_same"] ["_law_well"] (defScope s__law_right) := ⟨rfl, rfl, rfl, by decide +kernel, rfl, by decide +kernel, by decide +kernel⟩
abbrev s_law : Stmt := topS 70
theorem sc_law : FnScope ["_law_script", "_law_k", "_law_cell"] ["_law_script"] (defScope s_law) := ⟨rfl, rfl, rfl, by decide +kernel, rfl, by decide +kernel, by decide +kernel⟩
/-- all but l stays -/
def But (l : Addr) (H H' : Hp) : Prop := ∀ b o, H b = some o → b ≠ l → H' b = some o
theorem eqL {H H1 : Hp} {l : Addr} {o : HO} (e : upd H l o = H1) : But l H H1 ∧ H1 l = some o := by
  subst e
  exact ⟨fun b u z n => by rw [upd_ne n]; exact z, upd_same⟩
/-- the list of three numbers that the draws are taken from -/
def Well (H : Hp) (l : Addr) : Prop := ∃ a b c : Int, H l = some (.lst [.int a, .int b, .int c])
/-- the well has turned, all else stays -/
structure St1 (l : Addr) (H H' : Hp) : Prop where
  but : But l H H'
  well : Well H' l
theorem St1.refl {l : Addr} {H : Hp} (h : Well H l) : St1 l H H := ⟨fun _ _ z _ => z, h⟩
theorem St1.trans {l : Addr} {H H1 H2 : Hp} (a : St1 l H H1) (b : St1 l H1 H2) : St1 l H H2 := ⟨fun c o z n => b.but c o (a.but c o z n) n, b.well⟩
theorem St1.same {l : Addr} {H H1 H2 : Hp} (a : St1 l H H1) (s : Same H1 H2) : St1 l H H2 := ⟨fun c o z n => s _ _ (a.but c o z n), let ⟨x, y, z, e⟩ := a.well; ⟨x, y, z, s _ _ e⟩⟩
theorem St1.free {l p : Addr} {H H1 : Hp} (a : St1 l H H1) (hl : Well H l) (h : H1 p = none) : H p = none := by
  cases q : H p with
  | none => rfl
  | some o =>
    by_cases e : p = l
    · obtain ⟨x, y, z, w⟩ := a.well
      rw [e, w] at h
      cases h
    · rw [a.but p o q e] at h
      cases h
theorem well_ne {l b : Addr} {H : Hp} {xs : List V} (hl : Well H l) (h : H b = some (.tup xs)) : b ≠ l := fun e => by
  obtain ⟨x, y, z, w⟩ := hl
  rw [e, w] at h
  cases h
theorem pairs_upd {H : Hp} {s : Addr} {xs ys : List V} (hs : H s = some (.lst xs)) : ∀ {zs : List V} {ps : List (Int × Int)}, PairsAt H zs ps → PairsAt (upd H s (.lst ys)) zs ps
  | _, _, .nil => .nil
  | _, _, .cons ⟨t, e, z⟩ r => .cons ⟨t, e, by rw [upd_ne (fun q => by rw [q, hs] at z; cases z)]; exact z⟩ (pairs_upd hs r)
theorem PairsAt.keepB {l : Addr} {H H' : Hp} (hl : Well H l) (k : But l H H') : ∀ {xs : List V} {ps : List (Int × Int)}, PairsAt H xs ps → PairsAt H' xs ps
  | _, _, .nil => .nil
  | _, _, .cons ⟨t, e, z⟩ r => .cons ⟨t, e, k _ _ z (well_ne hl z)⟩ (PairsAt.keepB hl k r)
def spDraw : Sp := fun vs H Q _ => ∃ (l : Addr) (m : Int), vs = [.ref l, .int m] ∧ Well H l ∧ 0 < m ∧ m < 1073741824 ∧ ∀ n H', 0 ≤ n → n < m → St1 l H H' → Q (.int n) H'
section
variable {P : Program} {w : World} {K : PySem.W.Frag} {mg : Str → Option Value} {base : Heap}
theorem ok_draw {f : Addr} {fd : FuncData} (F : Fun K "_law_draw" "_law_draw" s__law_draw f fd) (B : Bi mg) : FnOk P w K mg base CX0 1 f fd ["_law_well", "_law_many"] spDraw := by
  refine F.ok sc__law_draw (fun vs H Q E h => ?_) (fun cdv A outer s H vs Q E hr h => ?_)
  · obtain ⟨l, m, rfl, _⟩ := h
    rfl
  · obtain ⟨l, m, rfl, ⟨a, b, c, hl⟩, hm, hm2, k0⟩ := h
    have k : ∀ n a' c', 0 ≤ n → n < m → Q (.int n) (upd H l (.lst [.int a', .int b, .int c'])) := fun n a' c' h0 h1 => k0 n _ h0 h1 ⟨(eqL rfl).1, a', b, c', upd_same⟩
    refine ⟨_, (pss_cons (ps_if (pt_cmpR op_gt (pe_ix ix_list (pv 0) pe_int (fun _ _ => rfl)) pe_int (nomark _)) (pss_cons (ps_set (i := 2) sc__law_draw.nd rfl (Or.inl rfl) (pe_op op_mod (pe_callTy call_int1 (by rfl) B.b_int (by decide +kernel) (pa_cons (pe_ix ix_list (pv 0) pe_int (fun _ _ => rfl)) pa_nil)) (pv 1)))
      (pss_cons (ps_asg (pe_op op_fdiv (pe_ix ix_list (pv 0) pe_int (fun _ _ => rfl)) (pv 1)) (pg_sub (pv 0) pe_int set_list))
      (pss_one (ps_ret (pv 2))))) pss_nil)
      (pss_cons (ps_asg (pe_op op_add (pe_ix ix_list (pv 0) pe_int (fun _ _ => rfl)) pe_int) (pg_sub (pv 0) pe_int set_list))
      (pss_cons (ps_set (i := 3) sc__law_draw.nd rfl (Or.inl rfl) (pe_op op_mod (pe_callTy call_int1 (by rfl) B.b_int (by decide +kernel) (pa_cons (pe_op op_mul (pe_op op_add (pe_op op_add (pe_ix ix_list (pv 0) pe_int (fun _ _ => rfl)) (pe_op op_mul pe_int (pe_ix ix_list (pv 0) pe_int (fun _ _ => rfl)))) pe_int) pe_int) pa_nil)) pe_int))
      (pss_cons (ps_set (i := 3) sc__law_draw.nd rfl (Or.inl rfl) (pe_op op_mod (pe_callTy call_int1 (by rfl) B.b_int (by decide +kernel) (pa_cons (pe_op op_mul (pv 3) (pe_op op_add (pe_op op_fdiv (pv 3) pe_int) pe_int)) pa_nil)) pe_int))
      (pss_one (ps_ret (pe_op op_mod (pe_callTy call_int1 (by rfl) B.b_int (by decide +kernel) (pa_cons (pe_op op_mod (pe_callTy call_int1 (by rfl) B.b_int (by decide +kernel) (pa_cons (pe_op op_mul (pv 3) (pe_op op_add (pe_op op_fdiv (pv 3) pe_int) pe_int)) pa_nil)) pe_int) pa_nil)) (pv 1)))))))), ?_⟩
    have hL : SqL K H l [.int a, .int b, .int c] := SqL.of hl
    refine ⟨.ref l, rfl, l, _, 0, .int a, rfl, rfl, hL, rfl, a, 0, rfl, rfl, _, rfl, ite2 (fun e => ?_) (fun e => ?_)⟩
    · refine ⟨.ref l, rfl, l, _, 0, .int a, rfl, rfl, hL, rfl, .inl ⟨a, rfl, .int m, rfl, a, m, rfl, rfl, hm, ?_⟩⟩
      refine ⟨.ref l, rfl, l, _, 0, .int a, rfl, rfl, hL, rfl, .int m, rfl, a, m, rfl, rfl, ⟨hm, hm2⟩, .ref l, rfl, l, _, 0, 0, rfl, rfl, hl, rfl, ?_⟩
      exact ⟨.int (a % m), rfl, k _ _ _ (Int.emod_nonneg _ (by omega)) (Int.emod_lt_of_pos _ hm)⟩
    · walk_at "rd"
      exact k _ _ _ (Int.emod_nonneg _ (by omega)) (Int.emod_lt_of_pos _ hm)
def InR (ps : List (Int × Int)) : Prop := ∀ q ∈ ps, (1 ≤ q.1 ∧ q.1 ≤ 200) ∧ 1 ≤ q.2 ∧ q.2 ≤ 20
/-- the drawn classes at s -/
structure Sorts (H : Hp) (s : Addr) (xs : List V) (ps : List (Int × Int)) : Prop where
  ls : H s = some (.lst xs)
  pr : PairsAt H xs ps
  rg : InR ps
def spSlab : Sp := fun vs H Q _ => ∃ l : Addr, vs = [.ref l] ∧ Well H l ∧ ∀ H' (t s : Addr) (xs : List V) (ps : List (Int × Int)) (L : Int), St1 l H H' → H t = none → H s = none → H' t = some (.tup [.ref s, .int L]) → Sorts H' s xs ps → 1 ≤ ps.length → ps.length ≤ 6 → 6 ≤ L → L ≤ 5100 → Q (.ref t) H'
theorem Paired.snoc {α β : Type} {F : α → β → Prop} {a : α} {b : β} (h : F a b) : ∀ {xs : List α} {ys : List β}, Paired F xs ys → Paired F (xs ++ [a]) (ys ++ [b])
  | _, _, .nil => .cons h .nil
  | _, _, .cons z r => .cons z (Paired.snoc h r)
theorem pick3 {a b c : V} {k : Int} (h0 : 0 ≤ k) (h1 : k < 3) : ∃ v, atI ([a, b, c] : List V) k = some v ∧ (v = a ∨ v = b ∨ v = c) := by
  have hk : k = 0 ∨ k = 1 ∨ k = 2 := by omega
  rcases hk with rfl | rfl | rfl
  · exact ⟨a, rfl, .inl rfl⟩
  · exact ⟨b, rfl, .inr (.inl rfl)⟩
  · exact ⟨c, rfl, .inr (.inr rfl)⟩
theorem ok_slab {f fD : Addr} {fd dD : FuncData} (F : Fun K "_law_slab" "_law_slab" s__law_slab f fd) (B : Bi mg) (b_range : mg "range" = none)
    (G__law_draw : FnOk P w K mg base CX0 1 fD dD ["_law_well", "_law_many"] spDraw) (m__law_draw : mg "_law_draw" = some (.ref fD)) (k__law_draw : PySem.W.keepIn K (.ref fD) = true) (b__law_draw : Binds K dD ["_law_well", "_law_many"] []) : FnOk P w K mg base CX0 2 f fd ["_law_well"] spSlab := by
  refine F.ok sc__law_slab (fun vs H Q E h => ?_) (fun cdv A outer s H vs Q E hr h => ?_)
  · obtain ⟨l, rfl, _⟩ := h
    rfl
  · obtain ⟨l, rfl, hw, q⟩ := h
    refine ⟨_, (pss_cons (ps_set (i := 1) sc__law_slab.nd rfl (Or.inl rfl) (pe_call G__law_draw (hr.mono (by decide)) rfl m__law_draw k__law_draw b__law_draw .nil pass0 (pa_cons (pv 0) (pa_cons pe_int pa_nil))))
      (pss_cons (ps_set (i := 2) sc__law_slab.nd rfl (Or.inl rfl) (pe_lst pa_nil))
      (pss_cons (ps_for PassesOwn.never rfl (pi_range1 (by rfl) b_range (pa_cons (pe_op op_add pe_int (pe_call G__law_draw (hr.mono (by decide)) rfl m__law_draw k__law_draw b__law_draw .nil pass0 (pa_cons (pv 0) (pa_cons (pe_ix ix_list (pe_lst (pa_cons pe_int (pa_cons pe_int (pa_cons pe_int pa_nil)))) (pv 1) (fun _ _ => rfl)) pa_nil)))) pa_nil)) (pg_name (i := 3) sc__law_slab.nd rfl (Or.inl rfl))
      (pss_one (ps_expr (pe_bm PySem.F.plainAttrs_list PySem.F.slot_list_append PySem.F.type_list_append mt_append (pv 2) (pa_cons (pe_tup (pa_cons (pe_op op_add pe_int (pe_call G__law_draw (hr.mono (by decide)) rfl m__law_draw k__law_draw b__law_draw .nil pass0 (pa_cons (pv 0) (pa_cons (pe_ix ix_list (pe_lst (pa_cons pe_int (pa_cons pe_int (pa_cons pe_int pa_nil)))) (pv 1) (fun _ _ => rfl)) pa_nil)))) (pa_cons (pe_op op_add pe_int (pe_call G__law_draw (hr.mono (by decide)) rfl m__law_draw k__law_draw b__law_draw .nil pass0 (pa_cons (pv 0) (pa_cons (pe_ix ix_list (pe_lst (pa_cons pe_int (pa_cons pe_int (pa_cons pe_int pa_nil)))) (pv 1) (fun _ _ => rfl)) pa_nil)))) pa_nil))) pa_nil)))))
      (pss_one (ps_ret (pe_tup (pa_cons (pv 2) (pa_cons (pe_ix ix_list (pe_lst (pa_cons (pe_op op_add pe_int (pe_call G__law_draw (hr.mono (by decide)) rfl m__law_draw k__law_draw b__law_draw .nil pass0 (pa_cons (pv 0) (pa_cons pe_int pa_nil)))) (pa_cons (pe_op op_add pe_int (pe_call G__law_draw (hr.mono (by decide)) rfl m__law_draw k__law_draw b__law_draw .nil pass0 (pa_cons (pv 0) (pa_cons pe_int pa_nil)))) (pa_cons (pe_op op_add pe_int (pe_call G__law_draw (hr.mono (by decide)) rfl m__law_draw k__law_draw b__law_draw .nil pass0 (pa_cons (pv 0) (pa_cons pe_int pa_nil)))) pa_nil)))) (pv 1) (fun _ _ => rfl)) pa_nil)))))))), ?_⟩
    refine ⟨.ref l, rfl, l, 3, rfl, hw, by decide, by decide, fun kd H1 kd0 kd1 S1 => ?_⟩
    refine ⟨(by show 0 ≤ sizeLine; decide), fun s ns => ?_⟩
    generalize h2 : upd H1 s _ = H2
    obtain ⟨t2, e2⟩ := eqU h2 ns
    have S2 := S1.same t2
    -- range(1 + draw(well, [3, 4, 6][kind]))
    refine ⟨.ref l, rfl, (by show 3 ≤ sizeLine; decide), fun p3 n3 => ?_⟩
    generalize h3 : upd H2 p3 _ = H3
    obtain ⟨t3, e3⟩ := eqU h3 n3
    have S3 := S2.same t3
    obtain ⟨v3, hv3, o3⟩ := pick3 (a := .int 3) (b := .int 4) (c := .int 6) kd0 kd1
    obtain ⟨m3, rfl, m30, m31⟩ : ∃ m : Int, v3 = .int m ∧ 3 ≤ m ∧ m ≤ 6 := by
      rcases o3 with rfl | rfl | rfl
      · exact ⟨3, rfl, by decide, by decide⟩
      · exact ⟨4, rfl, by decide, by decide⟩
      · exact ⟨6, rfl, by decide, by decide⟩
    refine ⟨.int kd, rfl, p3, _, kd, .int m3, rfl, rfl, SqL.of e3, hv3, l, m3, rfl, S3.well, by omega, by omega, fun n4 H4 n40 n41 S4' => ?_⟩
    have S4 := S3.trans S4'
    have nsl : s ≠ l := fun e => by
      obtain ⟨x, y, z, w⟩ := S1.well
      rw [e, w] at ns
      cases ns
    have e4 : H4 s = some (.lst []) := S4'.but _ _ (t3 _ _ e2) nsl
    refine ⟨1, n4, rfl, rfl, 1 + n4, rfl, by omega, by omega, for_range (lo := 0) (n := (1 + n4).toNat) (fun i σ H5 => ∃ y3 xs ps, σ = [some (.ref l), some (.int kd), some (.ref s), y3] ∧ St1 l H H5 ∧ Sorts H5 s xs ps ∧ ps.length = i)
      ⟨none, [], [], rfl, S4, ⟨e4, .nil, fun q hq => absurd hq List.not_mem_nil⟩, rfl⟩ ?_ ?_⟩
    · rintro i σ H5 hi ⟨y3, xs, ps, rfl, S5, so, hl⟩
      refine ⟨.ref s, rfl, .inl ⟨rfl, _, SqL.of so.ls⟩, ?_⟩
      refine ⟨.ref l, rfl, (by show 3 ≤ sizeLine; decide), fun p6 n6 => ?_⟩
      generalize h6 : upd H5 p6 _ = H6
      obtain ⟨t6, e6⟩ := eqU h6 n6
      have S6 := S5.same t6
      obtain ⟨v6, hv6, o6⟩ := pick3 (a := .int 4) (b := .int 9) (c := .int 200) kd0 kd1
      obtain ⟨m6, rfl, m60, m61⟩ : ∃ m : Int, v6 = .int m ∧ 1 ≤ m ∧ m ≤ 200 := by
        rcases o6 with rfl | rfl | rfl
        · exact ⟨4, rfl, by decide, by decide⟩
        · exact ⟨9, rfl, by decide, by decide⟩
        · exact ⟨200, rfl, by decide, by decide⟩
      refine ⟨.int kd, rfl, p6, _, kd, .int m6, rfl, rfl, SqL.of e6, hv6, l, m6, rfl, S6.well, by omega, by omega, fun n7 H7 n70 n71 S7' => ?_⟩
      have S7 := S6.trans S7'
      refine ⟨1, n7, rfl, rfl, .ref l, rfl, (by show 3 ≤ sizeLine; decide), fun p8 n8 => ?_⟩
      generalize h8 : upd H7 p8 _ = H8
      obtain ⟨t8, e8⟩ := eqU h8 n8
      have S8 := S7.same t8
      obtain ⟨v8, hv8, o8⟩ := pick3 (a := .int 4) (b := .int 8) (c := .int 20) kd0 kd1
      obtain ⟨m8, rfl, m80, m81⟩ : ∃ m : Int, v8 = .int m ∧ 1 ≤ m ∧ m ≤ 20 := by
        rcases o8 with rfl | rfl | rfl
        · exact ⟨4, rfl, by decide, by decide⟩
        · exact ⟨8, rfl, by decide, by decide⟩
        · exact ⟨20, rfl, by decide, by decide⟩
      refine ⟨.int kd, rfl, p8, _, kd, .int m8, rfl, rfl, SqL.of e8, hv8, l, m8, rfl, S8.well, by omega, by omega, fun n9 H9 n90 n91 S9' => ?_⟩
      have S9 := S8.trans S9'
      refine ⟨1, n9, rfl, rfl, (by show 2 ≤ sizeLine; decide), fun t10 n10 => ?_⟩
      generalize h10 : upd H9 t10 _ = H10
      obtain ⟨t10', e10⟩ := eqU h10 n10
      have S10 := S9.same t10'
      have W5 := S5.well
      have S59 : St1 l H5 H9 := (((St1.refl W5).same t6).trans S7').same t8 |>.trans S9'
      have so9 : H9 s = some (.lst xs) := S59.but _ _ so.ls nsl
      have so10 : H10 s = some (.lst xs) := t10' _ _ so9
      have pr10 : PairsAt H10 xs ps := PairsAt.keep t10' (PairsAt.keepB W5 S59.but so.pr)
      have hxl : xs.length = ps.length := Paired.length so.pr
      refine ⟨s, xs, _, rfl, rfl, so10, small1000 (by omega), ?_⟩
      refine ⟨some (.int (0 + i)), xs ++ [.ref t10], ps ++ [(1 + n7, 1 + n9)], rfl, ⟨fun b o z n => ?_, ?_⟩, ⟨upd_same, ?_, ?_⟩, by rw [List.length_append, hl]; rfl⟩
      · have ns0 : H s = none := S1.free hw ns
        rw [upd_ne (ne_of_none z ns0)]
        exact S10.but b o z n
      · obtain ⟨x, y, z, w⟩ := S10.well
        exact ⟨x, y, z, by rw [upd_ne (Ne.symm nsl)]; exact w⟩
      · have hz : PairAt (upd H10 s (.lst (xs ++ [.ref t10]))) (.ref t10) (1 + n7, 1 + n9) := ⟨t10, rfl, by
          rw [upd_ne (ne_of_none so9 n10).symm]
          exact e10⟩
        exact Paired.snoc hz (pairs_upd so10 pr10)
      · intro q hq
        rcases List.mem_append.mp hq with h | h
        · exact so.rg q h
        · rw [List.mem_singleton.mp h]
          exact ⟨⟨by show 1 ≤ 1 + n7; omega, by show 1 + n7 ≤ 200; omega⟩, by show 1 ≤ 1 + n9; omega, by show 1 + n9 ≤ 20; omega⟩
    · rintro σ H5 ⟨y3, xs, ps, rfl, S5, so, hl⟩
      refine ⟨.ref s, rfl, .ref l, rfl, l, 20, rfl, S5.well, by decide, by decide, fun n11 H11 n110 n111 S11' => ⟨6, n11, rfl, rfl, ?_⟩⟩
      refine ⟨.ref l, rfl, l, 100, rfl, S11'.well, by decide, by decide, fun n12 H12 n120 n121 S12' => ⟨20, n12, rfl, rfl, ?_⟩⟩
      refine ⟨.ref l, rfl, l, 5000, rfl, S12'.well, by decide, by decide, fun n13 H13 n130 n131 S13' => ⟨100, n13, rfl, rfl, ?_⟩⟩
      refine ⟨(by show 3 ≤ sizeLine; decide), fun p14 n14 => ?_⟩
      generalize h14 : upd H13 p14 _ = H14
      obtain ⟨t14, e14⟩ := eqU h14 n14
      have S513 : St1 l H5 H13 := (S11'.trans S12').trans S13'
      have S514 := S513.same t14
      obtain ⟨v14, hv14, o14⟩ := pick3 (a := .int (6 + n11)) (b := .int (20 + n12)) (c := .int (100 + n13)) kd0 kd1
      obtain ⟨L, rfl, L0, L1⟩ : ∃ m : Int, v14 = .int m ∧ 6 ≤ m ∧ m ≤ 5100 := by
        rcases o14 with rfl | rfl | rfl
        · exact ⟨_, rfl, by omega, by omega⟩
        · exact ⟨_, rfl, by omega, by omega⟩
        · exact ⟨_, rfl, by omega, by omega⟩
      refine ⟨.int kd, rfl, p14, _, kd, .int L, rfl, rfl, SqL.of e14, hv14, (by show 2 ≤ sizeLine; decide), fun t15 n15 => ?_⟩
      generalize h15 : upd H14 t15 _ = H15
      obtain ⟨t15', e15⟩ := eqU h15 n15
      have S515 := S514.same t15'
      have so15 : Sorts H15 s xs ps := ⟨S515.but _ _ so.ls nsl, PairsAt.keepB S5.well S515.but so.pr, so.rg⟩
      exact q H15 t15 s xs ps L (S5.trans S515) ((S5.trans S514).free hw n15) (S1.free hw ns) e15 so15 (by omega) (by omega) L0 L1
end
end K03
set_option Elab.async false
set_option linter.all false
set_option maxRecDepth 100000
set_option maxHeartbeats 4000000
/-! sorted of a tuple of ints, any number of them -/
namespace XV
open PySem PySem.Spec PyProof.Rows L2 Srt SrtO
section
variable {prog : Program} {w : World} {A : Around} {E : Value → Shared → Prop} {s : Shared}
theorem collect_tup {l : Addr} {vs : List Value} {Q : List Value → Shared → Prop} (hl : s.heap.IsTuple l vs.toArray)
    (h : Q vs { s with heap := (s.heap.push (seqObj "list" #[] 0)).update s.heap.objs.size (Obj.mapSeq (· ++ vs.toArray)) }) (hsz : vs.length ≤ sizeLine) :
    wpAny (model prog w) A (collect (.ref l)) Q E s := by
  obtain ⟨o, ho, hc, n, hd⟩ := id hl
  unfold collect
  refine wpAny_bind (wpAny_runValue (codeAny_builtin entry_proto_collect' ?_))
  show wpAny _ _ (do again (.builtin "list.__iadd__" ⟨[← newList [], .ref l], []⟩)) _ _ s
  refine wpAny_bind (wpAny_newList (wpAny_pure ⟨Code.quiet_builtin _ (by decide +kernel), codeAny_builtin entry_list_iadd' ?_⟩))
  show wpAny _ _ (Builtin.List.listExtendWith (.ref s.heap.objs.size) (.ref l) (.ref s.heap.objs.size)) _ _ { s with heap := s.heap.push (seqObj "list" #[] 0) }
  unfold Builtin.List.listExtendWith
  have ho' : (s.heap.push (seqObj "list" #[] 0)).get? l = some o := Heap.get?_push_of_some _ ho
  refine wpAny_bind (wpAny_typeOf (T := "tuple") ⟨o, ho', hc⟩ ?_)
  have ht : (Value.type "tuple" == Value.type "tuple") = true := by rfl
  rw [if_pos (by rw [ht]; simp)]
  refine wpAny_bind (listItems_at ho' hd ?_)
  refine wpAny_bind (listItems_at (xs := #[]) (n := 0) (Heap.get?_push_size _ rfl) rfl ?_)
  rw [if_neg (by simp)]
  refine wpAny_bind (listUpdate_at (xs := #[]) (n := 0) (Heap.get?_push_size _ rfl) rfl ?_ (Nat.zero_le _) (by show (#[] ++ vs.toArray).size ≤ sizeLine + 1; simp only [Array.size_append, List.size_toArray, List.length_nil]; omega))
  refine wpAny_pure ?_
  show wpAny (model prog w) A (do
      let o ← load s.heap.objs.size
      match o.data with
      | .seq xs _ => pure xs.toList
      | _ => unsupported "internal:collect") Q E { s with heap := (s.heap.push (seqObj "list" #[] 0)).update s.heap.objs.size (Obj.mapSeq (· ++ vs.toArray)) }
  refine wpAny_bind (wpAny_load (get?_update_seq (Heap.get?_push_size _ rfl) _) ?_)
  show wpAny _ _ (pure ((#[] : Array Value) ++ vs.toArray).toList) Q E _
  rw [show ((#[] : Array Value) ++ vs.toArray).toList = vs by simp]
  exact wpAny_pure h
theorem sorted_ordT {l : Addr} {vs : List Value} {ltv : Value → Value → Bool} {Q : Value → Shared → Prop} (O : Swo ltv) (hl : s.heap.IsTuple l vs.toArray) (hz : vs.length ≤ sizeLine)
    (hS : 2 ≤ vs.length → ∀ (h₁ : Heap) (a : Addr), h₁.get? a = some (seqObj "list" vs.toArray 0) → (∀ b o, s.heap.get? b = some o → b ≠ a ∧ h₁.get? b = some o) → SortableO prog w A.in1.in1 { s with heap := h₁ } a vs ltv)
    (h : ∀ out : List Value, Srtd ltv out → Stb ltv out vs → Q (.ref (s.heap.objs.size + 1)) { s with heap := sortedAll s.heap vs out.toArray }) :
    wpAny (model prog w) A (call (.builtin "sorted") [.ref l]) Q E s := by
  refine Calls.call_function_entry kind_sorted plain_sorted entry_sorted (args_sorted1 _) ?_
  unfold Builtin.«sorted»
  refine wpAny_bind (m := checkCount "sorted" 1 1 _) (wpAny_pure ?_)
  refine wpAny_bind (collect_tup hl ?_ hz)
  refine wpAny_bind (wpAny_newList ?_ hz)
  have hsz : ((s.heap.push (seqObj "list" #[] 0)).update s.heap.objs.size (Obj.mapSeq (· ++ vs.toArray))).objs.size = s.heap.objs.size + 1 := by
    rw [Heap.size_update, size_push']
  have hoL : (((s.heap.push (seqObj "list" #[] 0)).update s.heap.objs.size (Obj.mapSeq (· ++ vs.toArray))).push (seqObj "list" vs.toArray 0)).get? (s.heap.objs.size + 1) = some (seqObj "list" vs.toArray 0) := by
    rw [← hsz]; exact Heap.get?_push_size _ rfl
  have keep : ∀ b o, s.heap.get? b = some o → b ≠ s.heap.objs.size + 1 ∧ (((s.heap.push (seqObj "list" #[] 0)).update s.heap.objs.size (Obj.mapSeq (· ++ vs.toArray))).push (seqObj "list" vs.toArray 0)).get? b = some o := fun b o q => by
    have hlt : b < s.heap.objs.size := Heap.lt_size q
    refine ⟨Nat.ne_of_lt (Nat.lt_succ_of_lt hlt), Heap.get?_push_of_some _ ?_⟩
    rw [Heap.get?_update_ne _ _ _ _ (Nat.ne_of_lt hlt)]
    exact Heap.get?_push_of_some _ q
  show wpAny _ _ _ _ _ { s with heap := ((s.heap.push (seqObj "list" #[] 0)).update s.heap.objs.size (Obj.mapSeq (· ++ vs.toArray))).push (seqObj "list" vs.toArray 0) }
  rw [hsz]
  refine wpAny_bind (wpAny_holding (wpAny_call_entry slot_list_sort ⟨_, hoL, rfl⟩ entry_list_sort (list_sort_ord O hoL hz (fun h2 => hS h2 _ _ hoL keep) fun out hs hb => ⟨_, rfl, ?_⟩) (args_list_sort _)))
  exact wpAny_pure ⟨_, rfl, h out hs hb⟩
end
def rSortedU (K : PySem.W.Frag) : List V → Hp → VK → Prop := fun vs H Q => ∃ (a : Addr) (ns : List Int), vs = [V.ref a] ∧ SqT K H a (ns.map V.int) ∧
  ∀ (ns' : List Int) (p : Addr), ns'.Perm ns → ns'.Pairwise (· ≤ ·) → H p = none → Q (.ref p) (upd H p (.lst (ns'.map V.int)))
theorem cr_sortedU {X : Cx} : CallR X (.builtin "sorted") (rSortedU X.K) := by
  intro pins s σ H vs us Q I r h
  obtain ⟨a, ns, rfl, hs, q⟩ := h
  obtain ⟨u, rfl, ru⟩ := vals1 r
  obtain rfl : u = Value.ref a := ru
  obtain ⟨its, rv, pl, hz⟩ := I.tuple hs
  have pl' : s.heap.IsTuple a its.toArray := pl
  have hi := rv.ints
  refine sorted_ordT SrtO.swo_int pl' (by rw [← rv.length]; exact hz) (fun h2 h₁ a' _ _ => SrtO.ints_sortable hi h2) fun out h1 h2 => ?_
  obtain ⟨k1, k2, k3⟩ := SrtO.ints_out hi h1 h2
  obtain ⟨ep, he'⟩ := PyProof.Rows.sortedAll_at s.heap its out.toArray
  have hlen : ((out.map SrtO.iv).map V.int).length ≤ sizeLine := by
    rw [List.length_map, k2.length_eq]
    rw [List.length_map] at hz
    exact hz
  exact ⟨.ref _, upd H (s.heap.objs.size + 1) (.lst ((out.map SrtO.iv).map V.int)), I.laid (t' := s.toks) (fun _ _ => PyProof.Rows.sortedAll_old) (Nat.le_succ _) ⟨hlen, out, ep, vals_of_ints k1, he'⟩, rfl, q _ _ k2 k3 (I.hok.fresh (Nat.le_succ _))⟩
end XV
set_option Elab.async false
set_option linter.all false
set_option maxRecDepth 100000
set_option maxHeartbeats 4000000
namespace K03
open PySem PySem.Spec PyProof.Rows L2 XV SL
section
variable {P : Program} {w : World} {K : PySem.W.Frag} {mg : Str → Option Value} {base : Heap}
def spWhole : Sp := fun vs H Q _ => ∃ (x : V) (hi : Int), vs = [x, .int hi] ∧ Ty H x ∧ Q (.bl (inB x 1 hi)) H
theorem ok_whole {f : Addr} {fd : FuncData} (F : Fun K "_law_whole" "_law_whole" s__law_whole f fd) (B : Bi mg) : FnOk P w K mg base CX0 1 f fd ["_law_value", "_law_high"] spWhole := by
  refine F.ok sc__law_whole (fun vs H Q E h => ?_) (fun cdv A outer s H vs Q E hr h => ?_)
  · obtain ⟨x, hi, rfl, _⟩ := h
    rfl
  · obtain ⟨x, hi, rfl, ⟨t, hx⟩, q⟩ := h
    refine ⟨_, (pss_one (ps_ret (pe_and (pe_callB call_isi (by rfl) B.b_isinstance (by decide +kernel) (pa_cons (pv 0) (pa_cons (pe_bltn (v := V.ty "int") rfl B.b_int (by decide +kernel) rfl) pa_nil))) (pe_and (pe_not (pe_callB call_isi (by rfl) B.b_isinstance (by decide +kernel) (pa_cons (pv 0) (pa_cons (pe_bltn (v := V.ty "bool") rfl B.b_bool (by decide +kernel) rfl) pa_nil)))) (pe_one (pe_chain op_le op_le pe_int (pv 0) (pv 1))))))), ?_⟩
    refine ⟨x, rfl, x, .ty "int", .type t, .type "int", _, rfl, .ty _, hx.ty, kit_ty (kb_int hx.mem), _, rfl, ?_⟩
    cases hx with
    | int i =>
      refine iteT ?_
      refine ⟨_, rfl, _, .ty "bool", .type "int", .type "bool", _, rfl, .ty _, (K7.int i).ty, kit_ty (kb_bool (K7.int (H := H) i).mem), _, rfl, _, rfl, iteT ?_⟩
      refine ⟨_, rfl, 1, i, rfl, rfl, _, rfl, ?_⟩
      by_cases c : 1 ≤ i
      · have e : inB (.int i) 1 hi = decide (i ≤ hi) := by
          show (decide (1 ≤ i) && decide (i ≤ hi)) = decide (i ≤ hi)
          rw [decide_eq_true c, Bool.true_and]
        rw [e] at q
        rw [decide_eq_true c]
        exact iteT ⟨_, rfl, i, hi, rfl, rfl, q⟩
      · have e : inB (.int i) 1 hi = false := by
          show (decide (1 ≤ i) && decide (i ≤ hi)) = false
          rw [decide_eq_false c, Bool.false_and]
        rw [e] at q
        rw [decide_eq_false c]
        exact iteF q
    | bl b =>
      refine iteT ?_
      exact ⟨_, rfl, _, .ty "bool", .type "bool", .type "bool", _, rfl, .ty _, (K7.bl b).ty, kit_ty (kb_bool (K7.bl (H := H) b).mem), _, rfl, _, rfl, iteF q⟩
    | non => exact iteF q
    | str z => exact iteF q
    | lst e => exact iteF q
    | tup e => exact iteF q
    | dict e => exact iteF q
def spLive : Sp := fun vs H Q _ => ∃ (s a : Addr) (xc xs : List V) (ps : List (Int × Int)) (rows : List (List Int)), vs = [.ref s, .ref a] ∧ H s = some (.lst xc) ∧ PairsAt H xc ps ∧ (∀ q ∈ ps, 0 ≤ q.1 ∧ q.1 ≤ 1000) ∧ H a = some (.tup xs) ∧ RowsAt H xs rows ∧ rows.length = ps.length ∧ ps.length ≤ 900 ∧
  ∀ H', Same H H' → Q (.int (lv ps rows)) H'
theorem ok_lawlive {f : Addr} {fd : FuncData} (F : Fun K "_law_live" "_law_live" s__law_live f fd) (B : Bt mg) (b_zip : mg "zip" = none) : FnOk P w K mg base CX0 1 f fd ["_law_sorts", "_law_table_here"] spLive := by
  refine F.ok sc__law_live (fun vs H Q E h => ?_) (fun cdv A outer s H vs Q E hr h => ?_)
  · obtain ⟨s', a, xc, xs, ps, rows, rfl, _⟩ := h
    rfl
  · obtain ⟨sa, a, xc, xs, ps, rows, rfl, es, pr, rg, ea, ra, hl, h9, q⟩ := h
    refine ⟨_, (pss_one (ps_ret (pe_callB (cr_sum rfl) (by rfl) B.b_sum (by decide +kernel) (pa_cons (pe_lc (own := [("_law_counts", 2), ("_law_size", 3), ("_law_slots", 4)]) (g := gTup K 2 (gCons (gName 2) (gCons (gTup K 2 (gCons (gName 3) (gCons (gName 4) gNil))) gNil))) (tt := tYes) (by rfl) sc__law_live.nd (pi_zipTL (by rfl) b_zip (pa_cons (pv 1) (pa_cons (pv 0) pa_nil))) (blkOk_by (own := [("_law_counts", 2), ("_law_size", 3), ("_law_slots", 4)]) (N := ["_law_sorts", "_law_table_here", "_law_counts", "_law_size", "_law_slots"]) (sc := defScope s__law_live) (by decide +kernel)) (fun _ _ _ _ _ => pg_tup rfl (pgs_cons (pg_name (i := 2) sc__law_live.nd rfl (Or.inl rfl)) (pgs_cons (pg_tup rfl (pgs_cons (pg_name (i := 3) sc__law_live.nd rfl (Or.inl rfl)) (pgs_cons (pg_name (i := 4) sc__law_live.nd rfl (Or.inl rfl)) pgs_nil))) pgs_nil))) (fun _ _ _ _ _ => pts_nil) (fun _ _ _ _ _ => (pe_op op_mul (pe_callB (cr_sumTK (K := K) rfl rfl) (by rfl) B.b_sum (by decide +kernel) (pa_cons (pv 2) pa_nil)) (pv 3)))) pa_nil)))), ?_⟩
    have e1 := Paired.length ra
    have e2 := Paired.length pr
    refine ⟨.ref a, rfl, .ref sa, rfl, a, sa, xs, xc, rfl, SqT.of ea, SqL.of es, fun D nD => ?_⟩
    refine lc_it (walk_zipTL (K := K) (a := a) (b := sa) (xs := xs) (ys := xc) (n := ps.length) (by omega) (by omega)) (fun i HI => Same H HI ∧ HI D = some (.lst ((((ps.zip rows).take i).map fun p => p.1.1 * p.2.sum).map V.int))) ⟨same_upd nD, upd_same⟩ (fun i HI _ z => ⟨SqT.of (z.1 _ _ ea), SqL.of (z.1 _ _ es)⟩) ?_ ?_
    · rintro i x HI H2 hi ⟨sI, eI⟩ ⟨t, x1, x2, rfl, nt, rfl, g1, g2⟩
      generalize hq : upd HI t _ = H3
      obtain ⟨t3, et⟩ := eqU hq nt
      obtain ⟨ns, f1, c1⟩ := rows_get ra g1
      obtain ⟨pq, f2, c2⟩ := pairs_get pr g2
      have s3 := sI.trans t3
      obtain ⟨c, rfl, ec⟩ := c1.keep s3
      obtain ⟨d, rfl, ed⟩ := c2.keep s3
      have hz : (ps.zip rows)[i]? = some (pq, ns) := List.getElem?_zip_eq_some.mpr ⟨f2, f1⟩
      refine ⟨t, _, rfl, SqT.of et, rfl, _, _, rfl, _, _, rfl, d, _, rfl, SqT.of ed, rfl, _, _, rfl, _, _, rfl, rfl, rfl, rfl, ?_⟩
      unfold tYes
      refine iteT ?_
      have z := rg _ (List.mem_of_getElem? f2)
      refine ⟨.ref c, rfl, c, ns, rfl, SqT.of ec, _, rfl, _, pq.1, rfl, rfl, .inr (by omega), ?_⟩
      refine ⟨_, t3 _ _ eI, small1000 (by rw [List.length_map, List.length_map, List.length_take, List.length_zip]; omega), fun b o z => ?_, ?_⟩
      · rw [upd_ne (ne_of_none z nD)]
        exact s3 _ _ z
      · rw [upd_same, List.take_add_one, hz, List.map_append, List.map_append]
        show _ = some (HO.lst (_ ++ [V.int (pq.1 * ns.sum)]))
        rw [Int.mul_comm pq.1 ns.sum]
    · rintro HI ⟨sI, eI⟩
      rw [List.take_of_length_le (by rw [List.length_zip]; omega)] at eI
      exact ⟨D, _, rfl, SqL.of eI, q _ sI⟩
end
end K03
set_option Elab.async false
set_option linter.all false
set_option maxRecDepth 100000
set_option maxHeartbeats 4000000
/-! != of tuples with the same items; of a list and the empty one; lists of ints as data -/
namespace XV
open PySem PySem.Spec PyProof.Rows L2
def rNeT (K : PySem.W.Frag) : R2 := fun x y H Q => ∃ (a b : Addr) (xs : List V), x = .ref a ∧ y = .ref b ∧ SqT K H a xs ∧ SqT K H b xs ∧ (∀ z ∈ xs, flatB z = true ∨ ∃ c, z = .ref c) ∧ Q (.bl false) H
theorem op_neT {X : Cx} (hu : X.A.units < cLine) : OpR X (compareOp .NotEq) (rNeT X.K) := by
  intro pins s σ H x y v u Q I rx ry h
  obtain ⟨a, b, xs, rfl, rfl, ha, hb, hf, q⟩ := h
  cases rx
  cases ry
  obtain ⟨its, r1, p1, z1⟩ := I.tuple ha
  obtain ⟨its2, r2, p2, z2⟩ := I.tuple hb
  have e1 := r1.length
  have e2 := r2.length
  have hsz : its.toArray.size = its2.toArray.size := by
    rw [List.size_toArray, List.size_toArray, ← e1, ← e2]
  have t1 : s.heap.IsTuple a its.toArray := let ⟨o, h1, h2, n, h3⟩ := p1; ⟨o, h1, h2, n, h3⟩
  have t2 : s.heap.IsTuple b its2.toArray := let ⟨o, h1, h2, n, h3⟩ := p2; ⟨o, h1, h2, n, h3⟩
  refine SeqAt.RcNeAt.tuples (e := fun _ => true) t1 t2 hu (fun j h1 h2 => ?_) X.prog X.w _ _ ?_
  · have h1' : j < its.length := by simpa using h1
    have hj : j < xs.length := by omega
    obtain ⟨u1, g1, q1⟩ := r1.get (List.getElem?_eq_getElem hj)
    obtain ⟨u2, g2, q2⟩ := r2.get (List.getElem?_eq_getElem hj)
    have f1 : its.toArray[j] = u1 := by
      have := (List.getElem?_eq_some_iff.mp g1).2
      simpa using this
    have f2 : its2.toArray[j] = u2 := by
      have := (List.getElem?_eq_some_iff.mp g2).2
      simpa using this
    rw [f1, f2]
    rcases hf _ (List.getElem_mem hj) with c | ⟨c, e⟩
    · exact eqAt_same q1 q2 c
    · rw [e] at q1 q2
      cases q1
      cases q2
      exact SeqAt.EqAt.same _
  · have e : (!((List.range (min its.toArray.size its2.toArray.size)).all (fun _ => true) && its.toArray.size == its2.toArray.size)) = false := by
      rw [hsz]
      simp
    rw [e]
    exact ⟨.bl false, H, I, rfl, q⟩
/-- a list and the empty one, asked for a difference -/
def rNeNil (K : PySem.W.Frag) : R2 := fun x y H Q => ∃ (a b : Addr) (xs : List V), x = .ref a ∧ y = .ref b ∧ SqL K H a xs ∧ SqL K H b [] ∧ Q (.bl (!xs.isEmpty)) H
theorem op_neNil {X : Cx} (hu : X.A.units < cLine) : OpR X (compareOp .NotEq) (rNeNil X.K) := by
  intro pins s σ H x y v u Q I rx ry h
  obtain ⟨a, b, xs, rfl, rfl, ha, hb, q⟩ := h
  cases rx
  cases ry
  obtain ⟨its, r1, p1, z1⟩ := I.list ha
  obtain ⟨its2, r2, p2, z2⟩ := I.list hb
  cases r2
  have e1 := r1.length
  by_cases c : xs = []
  · subst c
    cases r1
    refine SeqAt.RcNeAt.lists (e := fun _ => true) p1.isList p2.isList rfl hu (fun j h1 h2 => absurd h1 (by simp)) X.prog X.w _ _ ?_
    exact ⟨.bl false, H, I, rfl, q⟩
  · have z : (!xs.isEmpty) = true := by
      cases xs with
      | nil => exact absurd rfl c
      | cons x xs => rfl
    rw [z] at q
    refine SeqAt.RcNeAt.lists_lengths p1.isList p2.isList ?_ hu X.prog X.w _ _ ?_
    · rw [bne_iff_ne, List.size_toArray, List.size_toArray, ← e1]
      intro e
      exact c (List.length_eq_zero_iff.mp e)
    · exact ⟨.bl true, H, I, rfl, q⟩
end XV
namespace SL
open PySem PySem.Spec PyProof.Rows L2 XV
def dInts (ns : List Int) : List PyData := ns.map PyData.int
theorem dpInts {K : PySem.W.Frag} {H : Hp} : ∀ ns : List Int, DpAll K H (ns.map V.int) (dInts ns)
  | [] => .nil
  | n :: ns => .cons (.int n) (dpInts ns)
theorem dInts_lay : ∀ ns : List Int, PyData.canLayAll0 (dInts ns) = true
  | [] => by simp [dInts, PyData.canLayAll0]
  | n :: ns => by
    have h := dInts_lay ns
    unfold dInts at h ⊢
    simp [PyData.canLayAll0, PyData.canLay0, h]
theorem dInts_depth : ∀ ns : List Int, PyData.depthAll (dInts ns) = 0
  | [] => by simp [dInts, PyData.depthAll]
  | n :: ns => by
    have h := dInts_depth ns
    unfold dInts at h ⊢
    simp [PyData.depthAll, PyData.depth, h]
theorem dInts_shaped (ns : List Int) : SeqAt.shaped (.list (dInts ns)) = true := by
  have h1 := dInts_depth ns
  have h2 : PyData.depth (.list (dInts ns)) ≤ 64 := by
    simp only [PyData.depth]
    omega
  show (PyData.canLay0 (.list (dInts ns)) && decide (PyData.depth (.list (dInts ns)) ≤ 64)) = true
  rw [Bool.and_eq_true]
  exact ⟨by simp only [PyData.canLay0]; exact dInts_lay ns, decide_eq_true h2⟩
theorem dInts_eqvAll : ∀ ns ms : List Int, PyData.eqvAll (dInts ns) (dInts ms) = decide (ns = ms)
  | [], [] => by simp [dInts, PyData.eqvAll]
  | [], _ :: _ => by simp [dInts, PyData.eqvAll]
  | _ :: _, [] => by simp [dInts, PyData.eqvAll]
  | n :: ns, m :: ms => by
    have h := dInts_eqvAll ns ms
    unfold dInts at h ⊢
    simp only [List.map_cons, PyData.eqvAll, PyData.eqv, h]
    by_cases h1 : n = m
    · by_cases h2 : ns = ms
      · subst h1 h2
        simp
      · simp [h1, h2]
    · simp [h1]
theorem dInts_eqv (ns ms : List Int) : PyData.eqv (.list (dInts ns)) (.list (dInts ms)) = decide (ns = ms) := by
  have e : PyData.eqv (.list (dInts ns)) (.list (dInts ms)) = PyData.eqvAll (dInts ns) (dInts ms) := by simp only [PyData.eqv]
  rw [e, dInts_eqvAll]
theorem sorted_eq {ns ms : List Int} (hp : ms.Perm ns) (h1 : ms.Pairwise (· ≤ ·)) : ns = ms ↔ ns.Pairwise (· ≤ ·) :=
  ⟨fun e => by rw [e]; exact h1, fun h2 => (List.Perm.eq_of_pairwise (le := fun a b => a ≤ b) (fun a b _ _ x y => Int.le_antisymm x y) h1 h2 hp).symm⟩
end SL
set_option Elab.async false
set_option linter.all false
set_option maxRecDepth 100000
set_option maxHeartbeats 4000000
namespace K03
open PySem PySem.Spec PyProof.Rows L2 XV SL
section
variable {P : Program} {w : World} {K : PySem.W.Frag} {mg : Str → Option Value} {base : Heap}
theorem ints_all : ∀ {ys : List V}, (∀ u ∈ ys, ∃ n, u = V.int n) → ∃ ns : List Int, ys = ns.map V.int
  | [], _ => ⟨[], rfl⟩
  | y :: ys, h => by
    obtain ⟨n, rfl⟩ := h y List.mem_cons_self
    obtain ⟨ns, rfl⟩ := ints_all fun u hu => h u (List.mem_cons_of_mem _ hu)
    exact ⟨n :: ns, rfl⟩
theorem ix_tupK {X : Cx} {K : PySem.W.Frag} (e : X.K = K) : IxR X (rIxT K) := by
  subst e
  exact ix_tup
theorem ix_listK {X : Cx} {K : PySem.W.Frag} (e : X.K = K) : IxR X (rIxL K) := by
  subst e
  exact ix_list
def badTV (H : Hp) (ps : List (Int × Int)) (L : Int) (t : V) : V := match badT H ps L t with
  | some i => .int i
  | none => .non
def spBad : Sp := fun vs H Q _ => ∃ (s : Addr) (L : Int) (t : V) (xc : List V) (ps : List (Int × Int)), vs = [.ref s, .int L, t] ∧ H s = some (.lst xc) ∧ PairsAt H xc ps ∧ SzOk ps ∧ TyT H t ∧ (∀ (a : Addr) (xs : List V), t = .ref a → H a = some (.tup xs) → ∀ x ∈ xs, ∀ (b : Addr) (ys : List V), x = .ref b → H b = some (.tup ys) → ys.length ≤ 900) ∧ ∀ H', Same H H' → Q (badTV H ps L t) H'
theorem ok_bad {f fW fL : Addr} {fd dW dL : FuncData} (F : Fun K "_law_bad" "_law_bad" s__law_bad f fd) (B : Bt mg)
    (GW : FnOk P w K mg base CX0 1 fW dW ["_law_value", "_law_high"] spWhole) (mW : mg "_law_whole" = some (.ref fW)) (kW : PySem.W.keepIn K (.ref fW) = true) (bW : Binds K dW ["_law_value", "_law_high"] [])
    (GL : FnOk P w K mg base CX0 1 fL dL ["_law_sorts", "_law_table_here"] spLive) (mL : mg "_law_live" = some (.ref fL)) (kL : PySem.W.keepIn K (.ref fL) = true) (bL : Binds K dL ["_law_sorts", "_law_table_here"] []) :
    FnOk P w K mg base CX0 2 f fd ["_law_sorts", "_law_most", "_law_table_here"] spBad := by
  refine F.ok sc__law_bad (fun vs H Q E h => ?_) (fun cdv A outer s H vs Q E hr h => ?_)
  · obtain ⟨sa, L, t, xc, ps, rfl, _⟩ := h
    rfl
  · obtain ⟨sa, L, t, xc, ps, rfl, es, pr, sz, tt, hbig, q0⟩ := h
    have q : ∀ i, badT H ps L t = some i → ∀ H', Same H H' → Q (.int i) H' := fun i e H' s => by
      have z := q0 H' s
      unfold badTV at z
      rw [e] at z
      exact z
    refine ⟨_, (pss_cons (ps_if (PW.pt (pw_or (pt_not (pt_val (pe_callB call_isi (by rfl) B.b_isinstance (by decide +kernel) (pa_cons (pv 2) (pa_cons (pe_bltn (v := V.ty "tuple") rfl B.b_tuple (by decide +kernel) rfl) pa_nil))))) (pw_or1 (pt_cmpR op_ne (pe_callB call_len_seq (by rfl) B.b_len (by decide +kernel) (pa_cons (pv 2) pa_nil)) (pe_callB call_len_seq (by rfl) B.b_len (by decide +kernel) (pa_cons (pv 0) pa_nil)) (nomark _))))) (pss_one (ps_ret (pe_un un_neg pe_int))) pss_nil)
      (pss_cons (ps_for PassesOwn.never rfl (pi_enumT (by rfl) B.b_enumerate (pa_cons (pv 2) pa_nil)) (pg_tup rfl (pgs_cons (pg_name (i := 3) sc__law_bad.nd rfl (Or.inr rfl)) (pgs_cons (pg_name (i := 4) sc__law_bad.nd rfl (Or.inl rfl)) pgs_nil)))
      (pss_cons (ps_if (pt_not (pt_val (pe_callB call_isi (by rfl) B.b_isinstance (by decide +kernel) (pa_cons (pv 4) (pa_cons (pe_bltn (v := V.ty "tuple") rfl B.b_tuple (by decide +kernel) rfl) pa_nil))))) (pss_one (ps_ret (pv 3))) pss_nil)
      (pss_cons (ps_if (pt_cmpR (op_neNil hr.units0) (pe_lc (own := [("_law_one", 5)]) (g := gName 5) (by rfl) sc__law_bad.nd (pi_tup (pv 4)) (blkOk_by (own := [("_law_one", 5)]) (N := ["_law_sorts", "_law_most", "_law_table_here", "_law_number", "_law_counts", "_law_one"]) (sc := defScope s__law_bad) (by decide +kernel)) (fun _ _ _ _ _ => pg_name (i := 5) sc__law_bad.nd rfl (Or.inl rfl)) (fun _ _ _ _ _ => (pts_one (pt_not (pt_val (pe_call GW (hr.mono (by decide)) rfl mW kW bW .nil pass0 (pa_cons (pv 5) (pa_cons (pe_ix (ix_tupK (K := K) rfl) (pe_ix (ix_listK (K := K) rfl) (pv 0) (pv 3) (fun _ _ => rfl)) pe_int (fun _ _ => rfl)) pa_nil))))))) (fun _ _ _ _ _ => (pv 5))) (pe_lst pa_nil) (nomark _)) (pss_one (ps_ret (pv 3))) pss_nil)
      (pss_one (ps_if (pt_cmpR (op_neD hr.units) (pe_callTy call_list_of (by rfl) B.b_list (by decide +kernel) (pa_cons (pv 4) pa_nil)) (pe_callB cr_sortedU (by rfl) B.b_sorted (by decide +kernel) (pa_cons (pv 4) pa_nil)) (nomark _)) (pss_one (ps_ret (pv 3))) pss_nil)))))
      (pss_cons (ps_if (pt_cmpR op_gt (pe_callB (cr_sum rfl) (by rfl) B.b_sum (by decide +kernel) (pa_cons (pe_lc (own := [("_law_counts", 4)]) (g := gName 4) (tt := tYes) (by rfl) sc__law_bad.nd (pi_tup (pv 2)) (blkOk_by (own := [("_law_counts", 4)]) (N := ["_law_sorts", "_law_most", "_law_table_here", "_law_number", "_law_counts", "_law_one"]) (sc := defScope s__law_bad) (by decide +kernel)) (fun _ _ _ _ _ => pg_name (i := 4) sc__law_bad.nd rfl (Or.inl rfl)) (fun _ _ _ _ _ => pts_nil) (fun _ _ _ _ _ => (pe_callB (call_lenK (K := K) rfl) (by rfl) B.b_len (by decide +kernel) (pa_cons (pv 4) pa_nil)))) pa_nil)) pe_int (nomark _)) (pss_one (ps_ret (pe_callB call_len_seq (by rfl) B.b_len (by decide +kernel) (pa_cons (pv 0) pa_nil)))) pss_nil)
      (pss_one (ps_ret (pe_ix ix_list (pe_lst (pa_cons pe_non (pa_cons (pe_op op_add (pe_callB call_len_seq (by rfl) B.b_len (by decide +kernel) (pa_cons (pv 0) pa_nil)) pe_int) pa_nil))) (pe_callTy call_int1 (by rfl) B.b_int (by decide +kernel) (pa_cons (pe_cmpR op_gt (pe_call GL (hr.mono (by decide)) rfl mL kL bL .nil pass0 (pa_cons (pv 0) (pa_cons (pv 2) pa_nil))) (pv 1) (nomark _)) pa_nil)) (fun _ _ => rfl))))))), ?_⟩
    have e1 := Paired.length pr
    have n6 := sz.n6
    obtain ⟨ty, hk⟩ := tt.1
    refine ⟨t, rfl, t, .ty "tuple", .type ty, .type "tuple", _, rfl, .ty _, hk.ty, kit_ty (kb_tuple hk.mem), _, rfl, ?_⟩
    cases hk with
    | int i => exact iteT (iteT ⟨1, rfl, q (-1) (badT_no fun a ys ex => by cases ex) _ (Same.refl _)⟩)
    | bl b => exact iteT (iteT ⟨1, rfl, q (-1) (badT_no fun a ys ex => by cases ex) _ (Same.refl _)⟩)
    | non => exact iteT (iteT ⟨1, rfl, q (-1) (badT_no fun a ys ex => by cases ex) _ (Same.refl _)⟩)
    | str z => exact iteT (iteT ⟨1, rfl, q (-1) (badT_no fun a ys ex => by cases ex) _ (Same.refl _)⟩)
    | lst e => exact iteT (iteT ⟨1, rfl, q (-1) (badT_no fun a ys ex ez => by cases ex; rw [e] at ez; cases ez) _ (Same.refl _)⟩)
    | dict e => exact iteT (iteT ⟨1, rfl, q (-1) (badT_no fun a ys ex ez => by cases ex; rw [e] at ez; cases ez) _ (Same.refl _)⟩)
    | @tup a xs e =>
      obtain ⟨hl, hI⟩ := tt.2 a xs rfl e
      have hb := badT_tup (ps := ps) (L := L) e
      refine iteF ?_
      refine ⟨.ref a, rfl, a, xs, rfl, .inr (SqT.of e), .ref sa, rfl, sa, xc, rfl, .inl (SqL.of es), rfl, _, rfl, ?_⟩
      by_cases hxl : xs.length = ps.length
      rotate_left
      · rw [if_neg hxl] at hb
        rw [decide_eq_false (show ¬ V.int (xs.length : Int) = V.int (xc.length : Int) from fun z => hxl (by have := V.int.inj z; omega))]
        exact iteT ⟨1, rfl, q (-1) hb _ (Same.refl _)⟩
      rw [if_pos hxl] at hb
      rw [decide_eq_true (show V.int (xs.length : Int) = V.int (xc.length : Int) by rw [hxl, e1])]
      refine iteF ?_
      refine ⟨.ref a, rfl, a, xs, rfl, SqT.of e, for_it (walk_enumT (K := K) (a := a) (xs := xs)) (fun i σ H4 => ∃ y3 y4, σ = [some (.ref sa), some (.int L), some (.ref a), y3, y4, none] ∧ Same H H4 ∧ ∀ (j : Nat) x q, j < i → xs[j]? = some x → ps[j]? = some q → cntB H q.2 x = true) ⟨_, _, rfl, Same.refl _, fun j x q hj => absurd hj (Nat.not_lt_zero j)⟩
        (fun i σ H4 _ ⟨_, _, _, z, _⟩ => SqT.of (z _ _ e)) ?_ ?_⟩
      · rintro j x σ H4 H5 hj ⟨y3, y4, rfl, S4, hs⟩ ⟨T', x1, x2, rfl, nT, rfl, g1, g2⟩
        cases g1
        have g2' : xs[j]? = some x2 := g2
        generalize h6 : upd H4 T' _ = H6
        obtain ⟨t6, e6⟩ := eqU h6 nT
        have S6 := S4.trans t6
        have hx2 := hI x2 (List.mem_of_getElem? g2')
        have hq : ps[j]? = some (ps[j]'(by omega)) := List.getElem?_eq_getElem _
        generalize ps[j]'(by omega) = pq at hq
        have ret : cntB H pq.2 x2 = false → ∀ H7, Same H H7 → Q (.int j) H7 := fun c3 H7 S7 => q j (by rw [hb, firstBad_some g2' hq c3 fun i y r hi hy hr' => hs i y r hi hy hr']) H7 S7
        refine ⟨T', _, rfl, SqT.of e6, rfl, _, _, rfl, _, _, rfl, rfl, ?_⟩
        have hx6 := hx2.keep S6
        obtain ⟨⟨ty2, hk2⟩, hi2⟩ := hx6
        have no : (∀ a ys, x2 = .ref a → H6 a ≠ some (.tup ys)) → cntB H pq.2 x2 = false := fun z => by
          rw [← cntB_keep hx2.1 S6]
          cases x2 with
          | ref a =>
            show (match H6 a with | some (.tup ys) => asc pq.2 1 ys | _ => false) = false
            cases e : H6 a with
            | none => rfl
            | some o =>
              cases o with
              | tup ys => exact (z a ys rfl e).elim
              | _ => rfl
          | _ => rfl
        refine ⟨x2, rfl, x2, .ty "tuple", .type ty2, .type "tuple", _, rfl, .ty _, hk2.ty, kit_ty (kb_tuple hk2.mem), _, rfl, ?_⟩
        cases hk2 with
        | lst e => exact iteT ⟨_, rfl, ret (no (fun a ys ex ez => by cases ex; rw [e] at ez; cases ez)) H6 S6⟩
        | dict e => exact iteT ⟨_, rfl, ret (no (fun a ys ex ez => by cases ex; rw [e] at ez; cases ez)) H6 S6⟩
        | @tup a2 ys e2 =>
          refine iteF ?_
          obtain ⟨y, ey⟩ : ∃ y, xc[j]? = some y := ⟨xc[j]'(by omega), List.getElem?_eq_getElem (by omega)⟩
          obtain ⟨tq, rfl, etq⟩ : PairAt H y pq := by
            obtain ⟨q', h1, h2⟩ := pairs_get pr ey
            rw [hq] at h1
            cases h1
            exact h2
          have hy9 := hbig a xs rfl e _ (List.mem_of_getElem? g2') a2
          have eH2 : H a2 = some (.tup ys) := by
            obtain ⟨o, eo⟩ := hx2.1.here
            have z := S6 _ _ eo
            rw [e2] at z
            rw [eo, ← z]
          have hy9 := hbig a xs rfl e _ (List.mem_of_getElem? g2') a2 ys rfl eH2
          have hcB : cntB H pq.2 (.ref a2) = asc pq.2 1 ys := by
            show (match H a2 with | some (.tup ys) => asc pq.2 1 ys | _ => false) = _
            rw [eH2]
          refine ⟨.ref a2, rfl, a2, rfl, ⟨_, SqT.of e2⟩, fun D nD => ?_⟩
          refine lc_it (walk_tup (K := K) (a := a2) (xs := ys)) (fun i HI => Same H6 HI ∧ HI D = some (.lst ((ys.take i).filter fun y => !inB y 1 pq.2))) ⟨same_upd nD, upd_same⟩ (fun i HI _ z => SqT.of (z.1 _ _ e2)) ?_ ?_
          · rintro i x HI H1 hi ⟨sI, eI⟩ ⟨rfl, hx⟩
            have sI6 := S6.trans sI
            have tyx : Ty H1 x := (hi2 a2 ys rfl e2 x (List.mem_of_getElem? hx)).keep sI
            have et : (ys.take (i + 1)).filter (fun y => !inB y 1 pq.2) = (ys.take i).filter (fun y => !inB y 1 pq.2) ++ (if (!inB x 1 pq.2) = true then [x] else []) := by
              rw [List.take_add_one, hx, List.filter_append]
              show _ ++ List.filter _ [x] = _
              rw [List.filter_cons]
              rfl
            refine ⟨rfl, ?_⟩
            refine ⟨x, rfl, .ref sa, rfl, .int j, rfl, sa, xc, j, _, rfl, rfl, SqL.of (sI6 _ _ es), atI_nat ey, tq, _, 1, _, rfl, rfl, SqT.of (sI6 _ _ etq), rfl, x, pq.2, rfl, tyx, _, rfl, ?_⟩
            cases c : inB x 1 pq.2 with
            | true =>
              rw [c] at et
              refine iteF ⟨sI, ?_⟩
              rw [et]
              show H1 D = some (.lst (_ ++ []))
              rw [List.append_nil]
              exact eI
            | false =>
              rw [c] at et
              refine iteT ⟨x, rfl, _, eI, small1000 (by have := List.length_filter_le (fun y => !inB y 1 pq.2) (ys.take i); rw [List.length_take] at this; omega), fun b o z => ?_, ?_⟩
              · rw [upd_ne (ne_of_none z nD)]
                exact sI _ _ z
              · rw [upd_same, et]
                rfl
          · rintro HI ⟨sI, eI⟩
            rw [List.take_of_length_le (Nat.le_refl _)] at eI
            have sI6 := S6.trans sI
            refine ⟨(by show 0 ≤ sizeLine; decide), fun p0 np0 => ?_⟩
            generalize hq0 : upd HI p0 _ = H7
            obtain ⟨t7, e7⟩ := eqU hq0 np0
            have S7 := sI6.trans t7
            refine ⟨D, p0, _, rfl, rfl, SqL.of (t7 _ _ eI), SqL.of e7, _, rfl, ?_⟩
            by_cases hz : ys.filter (fun y => !inB y 1 pq.2) = []
            rotate_left
            · have z : (!(ys.filter (fun y => !inB y 1 pq.2)).isEmpty) = true := by
                cases h : ys.filter (fun y => !inB y 1 pq.2) with
                | nil => exact absurd h hz
                | cons u v => rfl
              rw [z]
              refine iteT ⟨_, rfl, ret ?_ H7 S7⟩
              rw [hcB]
              cases ha : asc pq.2 1 ys with
              | false => rfl
              | true =>
                exfalso
                apply hz
                rw [List.filter_eq_nil_iff]
                intro u hu
                have ei := asc_ints ha
                rw [ei] at ha hu
                obtain ⟨n, hn, rfl⟩ := List.mem_map.mp hu
                have z := (asc_iff.mp ha).2 n hn
                have z2 : inB (.int n) 1 pq.2 = true := by
                  show (decide (1 ≤ n) && decide (n ≤ pq.2)) = true
                  rw [decide_eq_true z.1, decide_eq_true z.2]
                  rfl
                rw [z2]
                exact Bool.false_ne_true
            rw [hz]
            refine iteF ?_
            have hall : ∀ u ∈ ys, inB u 1 pq.2 = true := fun u hu => by
              have z := (List.filter_eq_nil_iff.mp hz) u hu
              cases h : inB u 1 pq.2 with
              | true => rfl
              | false =>
                rw [h] at z
                exact absurd rfl z
            obtain ⟨ns, rfl⟩ : ∃ ns : List Int, ys = ns.map V.int := ints_all fun u hu => inB_int (hall u hu)
            have hrg : ∀ n ∈ ns, 1 ≤ n ∧ n ≤ pq.2 := fun n hn => by
              have z : (decide (1 ≤ n) && decide (n ≤ pq.2)) = true := hall (.int n) (List.mem_map_of_mem hn)
              rw [Bool.and_eq_true, decide_eq_true_eq, decide_eq_true_eq] at z
              exact z
            have e27 := t7 _ _ (sI _ _ e2)
            refine ⟨.ref a2, rfl, a2, _, rfl, .inr (SqT.of e27), fun l1 nl1 => ?_⟩
            generalize hq1 : upd H7 l1 _ = H8
            obtain ⟨t8, e8⟩ := eqU hq1 nl1
            refine ⟨.ref a2, rfl, a2, ns, rfl, SqT.of (t8 _ _ e27), fun ms p2 hpm hps np2 => ?_⟩
            generalize hq2 : upd H8 p2 _ = H9
            obtain ⟨t9, e9⟩ := eqU hq2 np2
            have S9 := (S7.trans t8).trans t9
            refine ⟨_, _, .lst (SqL.of (t9 _ _ e8)) (dpInts ns), .lst (SqL.of e9) (dpInts ms), dInts_shaped ns, dInts_shaped ms, _, rfl, ?_⟩
            rw [dInts_eqv]
            have hiff := sorted_eq hpm hps
            by_cases c : ns = ms
            · rw [decide_eq_true c]
              have hgood : cntB H pq.2 (.ref a2) = true := by
                rw [hcB]
                exact asc_iff.mpr ⟨hiff.mp c, hrg⟩
              refine iteF ⟨_, _, rfl, S9, fun i x q hi hx hq' => ?_⟩
              by_cases ei : i = j
              · subst ei
                rw [g2'] at hx
                cases hx
                rw [hq] at hq'
                cases hq'
                exact hgood
              · exact hs i x q (by omega) hx hq'
            · rw [decide_eq_false c]
              refine iteT ⟨_, rfl, ret ?_ H9 S9⟩
              rw [hcB]
              cases ha : asc pq.2 1 (ns.map V.int) with
              | false => rfl
              | true => exact absurd (hiff.mpr (asc_iff.mp ha).1) c
        | _ => exact iteT ⟨_, rfl, ret (no (fun a ys ex => by cases ex)) H6 S6⟩
      · rintro σ H4 ⟨y3, y4, rfl, S4, hs⟩
        have fb0 : firstBad H xs ps = none := List.findIdx?_eq_none_iff.mpr fun z hz => by
          obtain ⟨i, hi⟩ := List.mem_iff_getElem?.mp hz
          rw [List.getElem?_zip_eq_some] at hi
          rw [hs i z.1 z.2 (List.getElem?_eq_some_iff.mp hi.1).1 hi.1 hi.2]
          rfl
        rw [fb0] at hb
        have hb : badT H ps L (.ref a) = if 60 < pgs (xs.map (cntI H)) then some (ps.length : Int) else if L < lv ps (xs.map (cntI H)) then some ((ps.length : Int) + 1) else none := hb
        have ra : RowsAt H xs (xs.map (cntI H)) := rowsAt_of fun x hx => by
          obtain ⟨i, hi⟩ := List.mem_iff_getElem?.mp hx
          have lt := (List.getElem?_eq_some_iff.mp hi).1
          exact cntB_at (hs i x (ps[i]'(by omega)) lt hi (List.getElem?_eq_getElem _))
        generalize xs.map (cntI H) = rows at hb ra
        have e2 := Paired.length ra
        have ea4 := S4 _ _ e
        have hp := lens_of (RowsAt.keep S4 ra)
        refine ⟨.ref a, rfl, a, rfl, ⟨_, SqT.of ea4⟩, fun D nD => ?_⟩
        refine lc_it (walk_tup (K := K) (a := a) (xs := xs)) (fun i HI => Same H4 HI ∧ HI D = some (.lst (((rows.map List.length).take i).map fun (n : Nat) => .int (n : Int)))) ⟨same_upd nD, upd_same⟩ (fun i HI _ z => SqT.of (z.1 _ _ ea4)) ?_ ?_
        · rintro i x HI H1 hi ⟨sI, eI⟩ ⟨rfl, hx⟩
          obtain ⟨n, hn, c, ys, rfl, ec, en⟩ := paired_get hp hx
          refine ⟨rfl, ?_⟩
          unfold tYes
          refine iteT ?_
          refine ⟨.ref c, rfl, c, ys, rfl, .inr (SqT.of (sI _ _ ec)), _, eI, small1000 (by rw [List.length_map, List.length_take, List.length_map]; omega), fun b o z => ?_, ?_⟩
          · rw [upd_ne (ne_of_none z nD)]
            exact sI _ _ z
          · rw [upd_same, List.take_add_one, hn, List.map_append, en]
            rfl
        · rintro HI ⟨sI, eI⟩
          rw [List.take_of_length_le (by rw [List.length_map]; omega)] at eI
          have e2' : ((rows.map List.length).map fun (n : Nat) => V.int (n : Int)) = ((rows.map List.length).map fun (n : Nat) => (n : Int)).map V.int := by rw [List.map_map (f := fun (n : Nat) => (n : Int))]; rfl
          rw [e2'] at eI
          have SI := S4.trans sI
          refine ⟨D, _, rfl, SqL.of eI, _, 60, rfl, rfl, _, rfl, ?_⟩
          rw [natsum]
          by_cases h60 : 60 < pgs rows
          · rw [if_pos h60] at hb
            rw [decide_eq_true (show (60 : Int) < ((rows.map List.length).sum : Int) by unfold pgs at h60; omega)]
            refine iteT ⟨.ref sa, rfl, sa, xc, rfl, .inl (SqL.of (SI _ _ es)), ?_⟩
            rw [e1]
            exact q _ hb _ SI
          · rw [if_neg h60] at hb
            rw [decide_eq_false (show ¬ (60 : Int) < ((rows.map List.length).sum : Int) by unfold pgs at h60; omega)]
            refine iteF ?_
            refine ⟨.ref sa, rfl, sa, xc, rfl, .inl (SqL.of (SI _ _ es)), _, 1, rfl, rfl, (by show 2 ≤ sizeLine; decide), fun p0 np0 => ?_⟩
            generalize hq0 : upd HI p0 _ = H7
            obtain ⟨t7, e7⟩ := eqU hq0 np0
            have S7 := SI.trans t7
            refine ⟨.ref sa, rfl, .ref a, rfl, sa, a, xc, xs, ps, rows, rfl, S7 _ _ es, PairsAt.keep S7 pr, fun q hq => (by have := sz.rg q hq; omega), S7 _ _ e, RowsAt.keep S7 ra, by omega, by omega, fun H8 S8 => ?_⟩
            have k8 := S7.trans S8
            refine ⟨.int L, rfl, _, L, rfl, rfl, .inr ⟨_, rfl, ?_⟩⟩
            by_cases hL : L < lv ps rows
            · rw [if_pos hL] at hb
              rw [decide_eq_true hL]
              refine ⟨p0, _, 1, _, rfl, rfl, SqL.of (S8 _ _ e7), rfl, ?_⟩
              show Q (V.int ((xc.length : Int) + 1)) H8
              rw [e1]
              exact q _ hb _ k8
            · rw [if_neg hL] at hb
              rw [decide_eq_false hL]
              refine ⟨p0, _, 0, _, rfl, rfl, SqL.of (S8 _ _ e7), rfl, ?_⟩
              have z := q0 _ k8
              unfold badTV at z
              rw [hb] at z
              exact z
end
end K03
set_option Elab.async false
set_option linter.all false
set_option maxRecDepth 100000
set_option maxHeartbeats 4000000
namespace K03
open PySem PySem.Spec PyProof.Rows L2 XV SL
theorem cr_sortedIK {X : Cx} {K : PySem.W.Frag} (e : X.K = K) : CallR X (.builtin "sorted") (rSortedI K) := by
  subst e
  exact cr_sortedI
theorem call_tuple_ofK {X : Cx} {K : PySem.W.Frag} (e : X.K = K) : CallR X (.type "tuple") (fun xs H Q => ∃ p ys, xs = [.ref p] ∧ ((SqL K H p ys ∧ ∀ l, H l = none → Q (.ref l) (upd H l (.tup ys))) ∨ (SqT K H p ys ∧ Q (.ref p) H))) := by
  subst e
  exact call_tuple_of
/-- lists of counts, each in a list of its own -/
def LAt (H : Hp) (x : V) (ns : List Int) : Prop := ∃ b, x = .ref b ∧ H b = some (.lst (ns.map V.int))
theorem lat_get {H : Hp} : ∀ {fs : List V} {rows : List (List Int)} {i : Nat} {y : V}, Paired (LAt H) fs rows → fs[i]? = some y → ∃ ns, rows[i]? = some ns ∧ LAt H y ns
  | _, _, _, _, .nil, h => by simp at h
  | _, _, 0, _, .cons a r, h => by
    simp at h
    subst h
    exact ⟨_, rfl, a⟩
  | _, _, i + 1, y, .cons a r, h => by
    obtain ⟨q, h1, h2⟩ := lat_get (i := i) r (by simpa using h)
    exact ⟨q, by simpa using h1, h2⟩
theorem lat_keep {H H' : Hp} : ∀ {fs : List V} {rows : List (List Int)}, (∀ b o, .ref b ∈ fs → H b = some o → H' b = some o) → Paired (LAt H) fs rows → Paired (LAt H') fs rows
  | _, _, _, .nil => .nil
  | _, _, k, .cons ⟨b, e, z⟩ r => .cons ⟨b, e, k b _ (by rw [e]; exact List.mem_cons_self) z⟩ (lat_keep (fun c o hc => k c o (List.mem_cons_of_mem _ hc)) r)
theorem lat_set {H H' : Hp} {b : Addr} {ms : List Int} (hb : H' b = some (.lst (ms.map V.int))) : ∀ {fs : List V} {rows : List (List Int)} {k : Nat}, fs.Nodup → (∀ c o, .ref c ∈ fs → c ≠ b → H c = some o → H' c = some o) → fs[k]? = some (.ref b) → Paired (LAt H) fs rows → Paired (LAt H') fs (rows.set k ms)
  | _, _, _, _, _, h, .nil => by simp at h
  | _, _, 0, nd, kp, h, .cons ⟨c, e, z⟩ r => by
    simp at h
    subst h
    cases e
    refine .cons ⟨b, rfl, hb⟩ (lat_keep (fun d o hd => kp d o (List.mem_cons_of_mem _ hd) fun e => ?_) r)
    subst e
    exact (List.nodup_cons.mp nd).1 hd
  | _, _, k + 1, nd, kp, h, .cons ⟨c, e, z⟩ r => by
    have h' := List.getElem?_cons_succ ▸ h
    rw [List.set_cons_succ]
    refine .cons ⟨c, e, kp c _ (by rw [e]; exact List.mem_cons_self) (fun ec => ?_) z⟩ (lat_set hb (List.nodup_cons.mp nd).2 (fun d o hd => kp d o (List.mem_cons_of_mem _ hd)) h' r)
    subst ec
    subst e
    exact (List.nodup_cons.mp nd).1 (List.mem_of_getElem? h')
theorem pgs_set : ∀ {rows : List (List Int)} {k : Nat} {ns : List Int} {c : Int}, rows[k]? = some ns → pgs (rows.set k (ns ++ [c])) = pgs rows + 1
  | [], _, _, _, h => by simp at h
  | r :: rows, 0, ns, c, h => by
    simp at h
    subst h
    show ((r ++ [c]).length :: rows.map List.length).sum = (r.length :: rows.map List.length).sum + 1
    rw [List.sum_cons, List.sum_cons, List.length_append]
    show r.length + 1 + _ = _
    omega
  | r :: rows, k + 1, ns, c, h => by
    have ih := pgs_set (rows := rows) (k := k) (c := c) (by simpa using h)
    show (r.length :: (rows.set k (ns ++ [c])).map List.length).sum = (r.length :: rows.map List.length).sum + 1
    rw [List.sum_cons, List.sum_cons]
    unfold pgs at ih
    omega
theorem lv_set : ∀ {ps : List (Int × Int)} {rows : List (List Int)} {k : Nat} {q : Int × Int} {ns : List Int} {c : Int}, ps[k]? = some q → rows[k]? = some ns → lv ps (rows.set k (ns ++ [c])) = lv ps rows + q.1 * c
  | [], _, _, _, _, _, h, _ => by simp at h
  | _ :: _, [], _, _, _, _, _, h => by simp at h
  | p :: ps, r :: rows, 0, q, ns, c, h1, h2 => by
    simp at h1 h2
    subst h1 h2
    show (p.1 * (r ++ [c]).sum :: (ps.zip rows).map fun p => p.1.1 * p.2.sum).sum = (p.1 * r.sum :: (ps.zip rows).map fun p => p.1.1 * p.2.sum).sum + p.1 * c
    rw [List.sum_cons, List.sum_cons, List.sum_append, Int.mul_add]
    show _ + p.1 * (c + 0) + _ = _
    rw [Int.add_zero]
    omega
  | p :: ps, r :: rows, k + 1, q, ns, c, h1, h2 => by
    have ih := lv_set (ps := ps) (rows := rows) (k := k) (q := q) (ns := ns) (c := c) (by simpa using h1) (by simpa using h2)
    show (p.1 * r.sum :: (ps.zip (rows.set k (ns ++ [c]))).map fun p => p.1.1 * p.2.sum).sum = (p.1 * r.sum :: (ps.zip rows).map fun p => p.1.1 * p.2.sum).sum + q.1 * c
    rw [List.sum_cons, List.sum_cons]
    unfold lv at ih
    omega
/-- the same counts in ascending order -/
def Srt1 (rs ns : List Int) : Prop := rs.Perm ns ∧ rs.Pairwise (· ≤ ·)
theorem perm_sum {a b : List Int} (h : a.Perm b) : a.sum = b.sum := by
  induction h with
  | nil => rfl
  | cons x _ ih => rw [List.sum_cons, List.sum_cons, ih]
  | swap x y l =>
    rw [List.sum_cons, List.sum_cons, List.sum_cons, List.sum_cons]
    omega
  | trans _ _ h1 h2 => rw [h1, h2]
theorem pgs_srt : ∀ {rs rows : List (List Int)}, Paired Srt1 rs rows → pgs rs = pgs rows
  | _, _, .nil => rfl
  | _, _, .cons a r => by
    have ih := pgs_srt r
    unfold pgs at ih ⊢
    rw [List.map_cons, List.map_cons, List.sum_cons, List.sum_cons, ih, a.1.length_eq]
theorem lv_srt : ∀ {ps : List (Int × Int)} {rs rows : List (List Int)}, Paired Srt1 rs rows → lv ps rs = lv ps rows
  | [], _, _, _ => rfl
  | _ :: _, _, _, .nil => rfl
  | p :: ps, _, _, .cons a r => by
    have ih := lv_srt (ps := ps) r
    unfold lv at ih ⊢
    rw [List.zip_cons_cons, List.zip_cons_cons, List.map_cons, List.map_cons, List.sum_cons, List.sum_cons, ih, perm_sum a.1]
theorem srt_get : ∀ {rs rows : List (List Int)} {i : Nat} {r : List Int}, Paired Srt1 rs rows → rs[i]? = some r → ∃ ns, rows[i]? = some ns ∧ Srt1 r ns
  | _, _, _, _, .nil, h => by simp at h
  | _, _, 0, _, .cons a r, h => by
    simp at h
    subst h
    exact ⟨_, rfl, a⟩
  | _, _, i + 1, y, .cons a r, h => by
    obtain ⟨q, h1, h2⟩ := srt_get (i := i) r (by simpa using h)
    exact ⟨q, by simpa using h1, h2⟩
/-- the counts of a class: within its slots -/
def InS (ps : List (Int × Int)) (rows : List (List Int)) : Prop := ∀ (i : Nat) (q : Int × Int) (ns : List Int), ps[i]? = some q → rows[i]? = some ns → ∀ n ∈ ns, 1 ≤ n ∧ n ≤ q.2
theorem tab_srt {ps : List (Int × Int)} {L : Int} {rs rows : List (List Int)} (h : Paired Srt1 rs rows) (hl : rows.length = ps.length) (hi : InS ps rows) (h60 : pgs rows ≤ 60) (hL : lv ps rows ≤ L) : TabOk ps L rs := by
  refine ⟨by rw [Paired.length h, hl], fun i q r hq hr => ?_, by rw [pgs_srt h]; exact h60, by rw [lv_srt h]; exact hL⟩
  obtain ⟨ns, h1, h2⟩ := srt_get h hr
  exact ⟨h2.2, fun n hn => hi i q ns hq h1 n (h2.1.mem_iff.mp hn)⟩
theorem PairsAt.keepB' {H H' : Hp} (k : ∀ b xs, H b = some (.tup xs) → H' b = some (.tup xs)) : ∀ {xs : List V} {ps : List (Int × Int)}, PairsAt H xs ps → PairsAt H' xs ps
  | _, _, .nil => .nil
  | _, _, .cons ⟨t, e, z⟩ r => .cons ⟨t, e, k _ _ z⟩ (PairsAt.keepB' k r)
theorem rows_up {H H' : Hp} (k : ∀ b xs, H b = some (.tup xs) → H' b = some (.tup xs)) : ∀ {xs : List V} {rs : List (List Int)}, RowsAt H xs rs → RowsAt H' xs rs
  | _, _, .nil => .nil
  | _, _, .cons ⟨t, e, z⟩ r => .cons ⟨t, e, k _ _ z⟩ (rows_up k r)
/-- the lists of counts as they grow -/
structure TbS (l s f : Addr) (xs : List V) (ps : List (Int × Int)) (L : Int) (H0 H : Hp) (fs : List V) (rows : List (List Int)) (m : Int) : Prop where
  st : St1 l H0 H
  so : Sorts H s xs ps
  lf : H f = some (.lst fs)
  la : Paired (LAt H) fs rows
  nd : fs.Nodup
  nf : ∀ b, V.ref b ∈ fs → H0 b = none ∧ b ≠ f
  f0 : H0 f = none
  len : rows.length = ps.length
  cnt : InS ps rows
  tot : lv ps rows + m = L
  m0 : 0 ≤ m
theorem TbS.f_ne {l s f : Addr} {xs : List V} {ps : List (Int × Int)} {L : Int} {H0 H : Hp} {fs : List V} {rows : List (List Int)} {m : Int} (t : TbS l s f xs ps L H0 H fs rows m) (hw : Well H0 l) : f ≠ l := fun e => by
  obtain ⟨x, y, z, w⟩ := hw
  have := t.f0
  rw [e, w] at this
  cases this
theorem TbS.keep {l s f : Addr} {xs : List V} {ps : List (Int × Int)} {L : Int} {H0 H H' : Hp} {fs : List V} {rows : List (List Int)} {m : Int} (t : TbS l s f xs ps L H0 H fs rows m) (hw : Well H0 l) (ns : s ≠ l) (k : St1 l H H') : TbS l s f xs ps L H0 H' fs rows m :=
  { st := t.st.trans k, so := ⟨k.but _ _ t.so.ls ns, PairsAt.keepB t.st.well k.but t.so.pr, t.so.rg⟩, lf := k.but _ _ t.lf (t.f_ne hw)
    la := lat_keep (fun b o hb z => k.but b o z fun e => by
      obtain ⟨x, y, z', w⟩ := hw
      have := (t.nf b hb).1
      rw [e, w] at this
      cases this) t.la
    nd := t.nd, nf := t.nf, f0 := t.f0, len := t.len, cnt := t.cnt, tot := t.tot, m0 := t.m0 }
theorem TbS.same {l s f : Addr} {xs : List V} {ps : List (Int × Int)} {L : Int} {H0 H H' : Hp} {fs : List V} {rows : List (List Int)} {m : Int} (t : TbS l s f xs ps L H0 H fs rows m) (hw : Well H0 l) (ns : s ≠ l) (k : Same H H') : TbS l s f xs ps L H0 H' fs rows m :=
  t.keep hw ns ⟨fun b o z _ => k b o z, let ⟨x, y, z, e⟩ := t.st.well; ⟨x, y, z, k _ _ e⟩⟩
section
variable {P : Program} {w : World} {K : PySem.W.Frag} {mg : Str → Option Value} {base : Heap}
def spTable : Sp := fun vs H Q _ => ∃ (l s : Addr) (xs : List V) (ps : List (Int × Int)) (L : Int), vs = [.ref l, .ref s, .int L] ∧ Well H l ∧ Sorts H s xs ps ∧ s ≠ l ∧ 1 ≤ ps.length ∧ ps.length ≤ 6 ∧ 0 ≤ L ∧ L ≤ 1000000 ∧
  ∀ (H' : Hp) (t tt : Addr) (rows : List (List Int)) (m : Int), St1 l H H' → H t = none → H' t = some (.tup [.ref tt, .int m]) → TabAt H' (.ref tt) rows → TabOk ps L rows → pgs rows ≤ 15 → Q (.ref t) H'
theorem ok_table {f fD : Addr} {fd dD : FuncData} (F : Fun K "_law_table" "_law_table" s__law_table f fd) (B : Bt mg) (b_range : mg "range" = none)
    (G__law_draw : FnOk P w K mg base CX0 1 fD dD ["_law_well", "_law_many"] spDraw) (m__law_draw : mg "_law_draw" = some (.ref fD)) (k__law_draw : PySem.W.keepIn K (.ref fD) = true) (b__law_draw : Binds K dD ["_law_well", "_law_many"] []) : FnOk P w K mg base CX0 2 f fd ["_law_well", "_law_sorts", "_law_most"] spTable := by
  refine F.ok sc__law_table (fun vs H Q E h => ?_) (fun cdv A outer s H vs Q E hr h => ?_)
  · obtain ⟨l, sa, xs, ps, L, rfl, _⟩ := h
    rfl
  · obtain ⟨l, sa, xs, ps, L, rfl, hw, so, nsl, h1, h6, L0, L1, q⟩ := h
    have exl : xs.length = ps.length := Paired.length so.pr
    refine ⟨_, (pss_cons (ps_setLc (i := 3) (own := [("_law_one", 9)]) (g := gName 9) (tt := tYes) (by rfl) sc__law_table.nd rfl rfl (sw_true rfl rfl rfl (by decide +kernel)) (pi_list (pv 1)) (blkOk_by (own := [("_law_one", 9)]) (N := ["_law_well", "_law_sorts", "_law_most", "_law_found", "_law_turn", "_law_number", "_law_size", "_law_slots", "_law_count", "_law_one", "_law_counts"]) (sc := defScope s__law_table) (by decide +kernel)) (fun _ _ _ _ _ => pg_name (i := 9) sc__law_table.nd rfl (Or.inl rfl)) (fun _ _ _ _ _ => pts_nil) (fun _ _ _ _ _ => (pe_lst pa_nil)))
      (pss_cons (ps_for PassesOwn.never rfl (pi_range1 (by rfl) b_range (pa_cons (pe_call G__law_draw (hr.mono (by decide)) rfl m__law_draw k__law_draw b__law_draw .nil pass0 (pa_cons (pv 0) (pa_cons pe_int pa_nil))) pa_nil)) (pg_name (i := 4) sc__law_table.nd rfl (Or.inl rfl))
      (pss_cons (ps_set (i := 5) sc__law_table.nd rfl (Or.inl rfl) (pe_call G__law_draw (hr.mono (by decide)) rfl m__law_draw k__law_draw b__law_draw .nil pass0 (pa_cons (pv 0) (pa_cons (pe_callB call_len_seq (by rfl) B.b_len (by decide +kernel) (pa_cons (pv 1) pa_nil)) pa_nil))))
      (pss_cons (ps_asg (pe_ix ix_list (pv 1) (pv 5) (fun _ _ => rfl)) (pg_tup rfl (pgs_cons (pg_name (i := 6) sc__law_table.nd rfl (Or.inl rfl)) (pgs_cons (pg_name (i := 7) sc__law_table.nd rfl (Or.inl rfl)) pgs_nil))))
      (pss_cons (ps_set (i := 8) sc__law_table.nd rfl (Or.inl rfl) (pe_ix ix_list (pe_lst (pa_cons pe_int (pa_cons (pe_op op_add pe_int (pe_call G__law_draw (hr.mono (by decide)) rfl m__law_draw k__law_draw b__law_draw .nil pass0 (pa_cons (pv 0) (pa_cons (pv 7) pa_nil)))) (pa_cons (pv 7) pa_nil)))) (pe_call G__law_draw (hr.mono (by decide)) rfl m__law_draw k__law_draw b__law_draw .nil pass0 (pa_cons (pv 0) (pa_cons pe_int pa_nil))) (fun _ _ => rfl)))
      (pss_one (ps_if (pt_cmpR op_le (pe_op op_mul (pv 8) (pv 6)) (pv 2) (nomark _)) (pss_cons (ps_expr (pe_bm PySem.F.plainAttrs_list PySem.F.slot_list_append PySem.F.type_list_append mt_append (pe_ix ix_list (pv 3) (pv 5) (fun _ _ => rfl)) (pa_cons (pv 8) pa_nil)))
      (pss_one (ps_set (i := 2) sc__law_table.nd rfl (Or.inl rfl) (pe_op op_sub (pv 2) (pe_op op_mul (pv 8) (pv 6)))))) pss_nil))))))
      (pss_one (ps_ret (pe_tup (pa_cons (pe_callTy call_tuple_of (by rfl) B.b_tuple (by decide +kernel) (pa_cons (pe_lc (own := [("_law_counts", 10)]) (g := gName 10) (tt := tYes) (by rfl) sc__law_table.nd (pi_list (pv 3)) (blkOk_by (own := [("_law_counts", 10)]) (N := ["_law_well", "_law_sorts", "_law_most", "_law_found", "_law_turn", "_law_number", "_law_size", "_law_slots", "_law_count", "_law_one", "_law_counts"]) (sc := defScope s__law_table) (by decide +kernel)) (fun _ _ _ _ _ => pg_name (i := 10) sc__law_table.nd rfl (Or.inl rfl)) (fun _ _ _ _ _ => pts_nil) (fun _ _ _ _ _ => (pe_callTy (call_tuple_ofK (K := K) rfl) (by rfl) B.b_tuple (by decide +kernel) (pa_cons (pe_callB (cr_sortedIK (K := K) rfl) (by rfl) B.b_sorted (by decide +kernel) (pa_cons (pv 10) pa_nil)) pa_nil)))) pa_nil)) (pa_cons (pv 2) pa_nil))))))), ?_⟩
    refine ⟨.ref sa, rfl, sa, rfl, ⟨_, SqL.of so.ls⟩, fun D nD => ?_⟩
    refine lc_it (walk_list (K := K) (a := sa) (xs := xs)) (fun i HI => Same H HI ∧ ∃ fs, HI D = some (.lst fs) ∧ Paired (LAt HI) fs (List.replicate i []) ∧ fs.Nodup ∧ ∀ b, V.ref b ∈ fs → H b = none ∧ b ≠ D) ⟨same_upd nD, [], upd_same, .nil, .nil, fun b hb => nomatch hb⟩ (fun i HI _ z => SqL.of (z.1 _ _ so.ls)) ?_ ?_
    · rintro i x HI H1 hi ⟨sI, fs, eI, la, nd, nf⟩ ⟨rfl, hx⟩
      refine ⟨rfl, ?_⟩
      unfold tYes
      refine iteT ?_
      refine ⟨(by show 0 ≤ sizeLine; decide), fun p np => ?_⟩
      generalize hq : upd H1 p _ = H2
      obtain ⟨t2, e2⟩ := eqU hq np
      have lfs : fs.length = i := by rw [Paired.length la, List.length_replicate]
      have pD : p ≠ D := (ne_of_none eI np).symm
      have nfp : V.ref p ∉ fs := fun hm => by
        obtain ⟨k, hk⟩ := List.mem_iff_getElem?.mp hm
        obtain ⟨ns, _, b, eb, z⟩ := lat_get la hk
        cases eb
        rw [np] at z
        cases z
      refine ⟨fs, t2 _ _ eI, small1000 (by omega), fun b o z => ?_, fs ++ [.ref p], upd_same, ?_, ?_, ?_⟩
      · rw [upd_ne (ne_of_none z nD)]
        exact t2 _ _ (sI _ _ z)
      · have h2 : ∀ b o, b ≠ D → H2 b = some o → upd H2 D (.lst (fs ++ [.ref p])) b = some o := fun b o hb z => by rw [upd_ne hb]; exact z
        rw [List.replicate_succ', ]
        exact Paired.snoc ⟨p, rfl, h2 p _ pD e2⟩ (lat_keep (fun b o hb z => h2 b o (nf b hb).2 (t2 _ _ z)) la)
      · exact List.nodup_append.mpr ⟨nd, List.nodup_cons.mpr ⟨List.not_mem_nil, .nil⟩, fun a ha b hb e => by
          rw [List.mem_singleton.mp hb] at e
          subst e
          exact nfp ha⟩
      · intro b hb
        rcases List.mem_append.mp hb with hb | hb
        · exact nf b hb
        · cases List.mem_singleton.mp hb
          refine ⟨?_, pD⟩
          cases z : H p with
          | none => rfl
          | some o => rw [sI _ _ z] at np; cases np
    · rintro HI ⟨sI, fs, eI, la, nd, nf⟩
      have WI : Well HI l := let ⟨x, y, z, e⟩ := hw; ⟨x, y, z, sI _ _ e⟩
      have T0 : TbS l sa D xs ps L H HI fs (List.replicate xs.length []) L := {
        st := ⟨fun b o z _ => sI b o z, WI⟩, so := ⟨sI _ _ so.ls, PairsAt.keep sI so.pr, so.rg⟩, lf := eI, la := la, nd := nd, nf := nf, f0 := nD
        len := by rw [List.length_replicate, exl]
        cnt := fun i q ns _ hn n hm => by
          have := List.eq_of_mem_replicate (List.mem_of_getElem? hn)
          subst this
          cases hm
        tot := by
          have hs : ∀ (qs : List (Int × Int)) n, ((qs.zip (List.replicate n ([] : List Int))).map fun p => p.1.1 * p.2.sum).sum = 0 := fun qs => by
            induction qs with
            | nil => intro n; rfl
            | cons q qs ih =>
              intro n
              cases n with
              | zero => rfl
              | succ n =>
                rw [List.replicate_succ, List.zip_cons_cons, List.map_cons, List.sum_cons, ih]
                show q.1 * ([] : List Int).sum + 0 = 0
                rw [List.sum_nil, Int.mul_zero]
                rfl
          unfold lv
          rw [hs, Int.zero_add]
        m0 := L0 }
      have p0 : pgs (List.replicate xs.length ([] : List Int)) = 0 := by
        unfold pgs
        rw [List.map_replicate, List.sum_replicate_nat]
        show xs.length * 0 = 0
        omega
      generalize List.replicate xs.length ([] : List Int) = rows0 at T0 p0
      refine ⟨.ref l, rfl, l, 16, rfl, WI, by decide, by decide, fun n16 H1 n0 n1 S1 => ?_⟩
      refine ⟨n16, rfl, by omega, by omega, for_range (lo := 0) (n := n16.toNat) (fun i σ H5 => ∃ y4 y5 y6 y7 y8 rows m, σ = [some (.ref l), some (.ref sa), some (.int m), some (.ref D), y4, y5, y6, y7, y8, none, none] ∧ TbS l sa D xs ps L H H5 fs rows m ∧ pgs rows ≤ i)
        ⟨_, _, _, _, _, rows0, L, rfl, T0.keep hw nsl S1, by omega⟩ ?_ ?_⟩
      · rintro i σ H5 hi ⟨y4, y5, y6, y7, y8, rows, m, rfl, T5, hp⟩
        have hT5 := T5.st
        refine ⟨.ref l, rfl, .ref sa, rfl, sa, xs, rfl, .inl (SqL.of T5.so.ls), l, _, rfl, hT5.well, by omega, by omega, fun n H6 n0' n1' S6 => ?_⟩
        have T6 := T5.keep hw nsl S6
        obtain ⟨k, rfl⟩ : ∃ k : Nat, n = (k : Int) := ⟨n.toNat, by omega⟩
        have hk : k < ps.length := by omega
        obtain ⟨pq, epq⟩ : ∃ pq, ps[k]? = some pq := ⟨ps[k], List.getElem?_eq_getElem hk⟩
        obtain ⟨y, ey⟩ : ∃ y, xs[k]? = some y := ⟨xs[k]'(by omega), List.getElem?_eq_getElem (by omega)⟩
        obtain ⟨tq, rfl, etq⟩ : PairAt H6 y pq := by
          obtain ⟨q', a1, a2⟩ := pairs_get T6.so.pr ey
          rw [epq] at a1
          cases a1
          exact a2
        have rq := so.rg pq (List.mem_of_getElem? epq)
        refine ⟨.ref sa, rfl, .int k, rfl, sa, xs, k, _, rfl, rfl, SqL.of T6.so.ls, atI_nat ey, tq, _, rfl, SqT.of etq, rfl, _, _, rfl, _, _, rfl, rfl, ?_⟩
        refine ⟨.ref l, rfl, .int pq.2, rfl, l, pq.2, rfl, T6.st.well, by omega, by omega, fun c1 H7 c10 c11 S7 => ?_⟩
        have T7 := T6.keep hw nsl S7
        refine ⟨1, c1, rfl, rfl, .int pq.2, rfl, (by show 3 ≤ sizeLine; decide), fun p8 np8 => ?_⟩
        generalize h8 : upd H7 p8 _ = H8
        obtain ⟨t8, e8⟩ := eqU h8 np8
        have T8 := T7.same hw nsl t8
        refine ⟨.ref l, rfl, l, 3, rfl, T8.st.well, by decide, by decide, fun kd H9 kd0 kd1 S9 => ?_⟩
        have T9 := T8.keep hw nsl S9
        have p8l : p8 ≠ l := fun e => by
          obtain ⟨x, y, z, e'⟩ := T7.st.well
          rw [e, e'] at np8
          cases np8
        obtain ⟨v, hv, o⟩ := pick3 (a := .int 1) (b := .int (1 + c1)) (c := .int pq.2) kd0 kd1
        obtain ⟨c, rfl, hc0, hc1⟩ : ∃ c : Int, v = .int c ∧ 1 ≤ c ∧ c ≤ pq.2 := by
          rcases o with rfl | rfl | rfl
          · exact ⟨1, rfl, by decide, by omega⟩
          · exact ⟨_, rfl, by omega, by omega⟩
          · exact ⟨_, rfl, by omega, by omega⟩
        refine ⟨p8, _, kd, .int c, rfl, rfl, SqL.of (S9.but _ _ e8 p8l), hv, ?_⟩
        refine ⟨.int c, rfl, .int pq.1, rfl, c, pq.1, rfl, rfl, .inl (by omega), .int m, rfl, _, m, rfl, rfl, _, rfl, ?_⟩
        by_cases hle : c * pq.1 ≤ m
        rotate_left
        · rw [decide_eq_false hle]
          exact iteF ⟨_, _, _, _, _, rows, m, rfl, T9, by omega⟩
        rw [decide_eq_true hle]
        refine iteT ?_
        have lfs : fs.length = ps.length := by rw [Paired.length T9.la, T9.len]
        obtain ⟨z, ez⟩ : ∃ z, fs[k]? = some z := ⟨fs[k]'(by omega), List.getElem?_eq_getElem (by omega)⟩
        obtain ⟨ns, ens, b, rfl, eb⟩ := lat_get T9.la ez
        refine ⟨.ref D, rfl, .int k, rfl, D, fs, k, _, rfl, rfl, SqL.of T9.lf, atI_nat ez, ?_⟩
        have bm : V.ref b ∈ fs := List.mem_of_getElem? ez
        have hlen : ns.length ≤ 15 := by
          have z1 : ns.length ≤ pgs rows := by
            unfold pgs
            exact le_sum (List.mem_map_of_mem (List.mem_of_getElem? ens))
          omega
        refine ⟨.inl ⟨rfl, _, SqL.of eb⟩, .int c, rfl, b, _, _, rfl, rfl, eb, small1000 (by rw [List.length_map]; omega), ?_⟩
        generalize h10 : upd H9 b _ = H10
        obtain ⟨b10, e10⟩ := eqL h10
        have bl : b ≠ l := fun e => by
          obtain ⟨x, y, z, w'⟩ := hw
          have := (T9.nf b bm).1
          rw [e, w'] at this
          cases this
        have bs : b ≠ sa := fun e => by
          have := (T9.nf b bm).1
          rw [e, so.ls] at this
          cases this
        have ec : ns.map V.int ++ [V.int c] = (ns ++ [c]).map V.int := by rw [List.map_append]; rfl
        rw [ec] at e10
        have nb : ∀ b' o, H b' = some o → b' ≠ b := fun b' o z e => by
          have := (T9.nf b bm).1
          rw [← e, z] at this
          cases this
        have T10 : TbS l sa D xs ps L H H10 fs (rows.set k (ns ++ [c])) (m - c * pq.1) := {
          st := ⟨fun b' o z n => b10 b' o (T9.st.but b' o z n) (nb b' o z), let ⟨x, y, z, e⟩ := T9.st.well; ⟨x, y, z, b10 _ _ e (Ne.symm bl)⟩⟩
          so := ⟨b10 _ _ T9.so.ls (Ne.symm bs), PairsAt.keepB' (fun b' xs' z => b10 _ _ z fun e => by rw [e, eb] at z; cases z) T9.so.pr, so.rg⟩
          lf := b10 _ _ T9.lf (Ne.symm (T9.nf b bm).2)
          la := lat_set e10 T9.nd (fun c' o hc' hne z => b10 c' o z hne) ez T9.la
          nd := T9.nd, nf := T9.nf, f0 := T9.f0
          len := by rw [List.length_set, T9.len]
          cnt := fun i' q' ns' hq' hn' n' hm' => by
            by_cases ei : i' = k
            · subst ei
              rw [epq] at hq'
              cases hq'
              rw [List.getElem?_set_self (by rw [T9.len]; exact hk)] at hn'
              cases hn'
              rcases List.mem_append.mp hm' with hm' | hm'
              · exact T9.cnt i' _ ns epq ens n' hm'
              · rw [List.mem_singleton.mp hm']
                exact ⟨hc0, hc1⟩
            · rw [List.getElem?_set_ne (fun e => ei e.symm)] at hn'
              exact T9.cnt i' q' ns' hq' hn' n' hm'
          tot := by
            rw [lv_set epq ens, Int.mul_comm c]
            have := T9.tot
            omega
          m0 := by omega }
        have hp10 : pgs (rows.set k (ns ++ [c])) ≤ i + 1 := by
          rw [pgs_set ens]
          omega
        exact ⟨.int m, rfl, .int c, rfl, .int pq.1, rfl, c, pq.1, rfl, rfl, .inl (by omega), m, _, rfl, rfl, _, _, _, _, _, _, _, rfl, T10, hp10⟩
      · rintro σ H5 ⟨y4, y5, y6, y7, y8, rows, m, rfl, T5, hp⟩
        have W5 := T5.st.well
        have lfs : fs.length = rows.length := Paired.length T5.la
        refine ⟨.ref D, rfl, D, rfl, ⟨_, SqL.of T5.lf⟩, fun D2 nD2 => ?_⟩
        refine lc_it (walk_list (K := K) (a := D) (xs := fs)) (fun i HI => Same H5 HI ∧ ∃ acc rs, HI D2 = some (.lst acc) ∧ RowsAt HI acc rs ∧ Paired Srt1 rs (rows.take i)) ⟨same_upd nD2, [], [], upd_same, .nil, .nil⟩ (fun i HI _ z => SqL.of (z.1 _ _ T5.lf)) ?_ ?_
        · rintro i x HI H1 hi ⟨sI, acc, rs, eI, ra, sr⟩ ⟨rfl, hx⟩
          obtain ⟨ns, ens, b, rfl, eb⟩ := lat_get T5.la hx
          refine ⟨rfl, ?_⟩
          unfold tYes
          refine iteT ?_
          refine ⟨.ref b, rfl, b, ns, rfl, SqL.of (sI _ _ eb), fun ms p hpm hps np => ?_⟩
          generalize hq2 : upd H1 p _ = H2
          obtain ⟨t2, e2⟩ := eqU hq2 np
          refine ⟨p, _, rfl, .inl ⟨SqL.of e2, fun t nt => ?_⟩⟩
          generalize hq3 : upd H2 t _ = H3
          obtain ⟨t3, e3⟩ := eqU hq3 nt
          have s13 := t2.trans t3
          have eD3 := s13 _ _ eI
          have la' : acc.length = i := by
            rw [Paired.length ra, Paired.length sr, List.length_take]
            omega
          have tD : t ≠ D2 := (ne_of_none (t2 _ _ eI) nt).symm
          have up : ∀ b' o, b' ≠ D2 → H3 b' = some o → upd H3 D2 (.lst (acc ++ [.ref t])) b' = some o := fun b' o hb z => by rw [upd_ne hb]; exact z
          refine ⟨acc, eD3, small1000 (by have := exl; have := T5.len; omega), fun b' o z => ?_, acc ++ [.ref t], rs ++ [ms], upd_same, ?_, ?_⟩
          · rw [upd_ne (ne_of_none z nD2)]
            exact s13 _ _ (sI _ _ z)
          · exact Paired.snoc ⟨t, rfl, up t _ tD e3⟩ (rows_up (fun b' xs' z => up b' _ (fun e => by rw [e, eI] at z; cases z) (s13 _ _ z)) ra)
          · rw [List.take_add_one, ens]
            exact Paired.snoc ⟨hpm, hps⟩ sr
        · rintro HI ⟨sI, acc, rs, eI, ra, sr⟩
          rw [List.take_of_length_le (by omega)] at sr
          refine ⟨D2, _, rfl, .inl ⟨SqL.of eI, fun tt ntt => ?_⟩⟩
          generalize hq2 : upd HI tt _ = H2
          obtain ⟨t2, e2⟩ := eqU hq2 ntt
          refine ⟨.int m, rfl, (by show 2 ≤ sizeLine; decide), fun t nt => ?_⟩
          generalize hq3 : upd H2 t _ = H3
          obtain ⟨t3, e3⟩ := eqU hq3 nt
          have s53 := (sI.trans t2).trans t3
          have tot := T5.tot
          have m0 := T5.m0
          have st3 := T5.st.same s53
          exact q H3 t tt rs m st3 ((T5.st.same (sI.trans t2)).free hw nt) e3 ⟨tt, acc, rfl, t3 _ _ e2, RowsAt.keep (t2.trans t3) ra⟩ (tab_srt sr T5.len T5.cnt (by omega) (by omega)) (by rw [pgs_srt sr]; omega)
end
end K03
set_option Elab.async false
set_option linter.all false
set_option maxRecDepth 100000
set_option maxHeartbeats 4000000
/-! the text of a value of any of the kinds that a law hands around -/
namespace XV
open PySem PySem.Spec PyProof.Rows L2
/-- a value's text -/
inductive Txt1 (K : PySem.W.Frag) (H : Hp) : V → Str → Prop
  | int {i : Int} : i.natAbs.log2 < 1920 → Txt1 K H (.int i) (toString i)
  | non : Txt1 K H .non "None"
  | bl {b : Bool} : Txt1 K H (.bl b) (if b then "True" else "False")
  | str {x : Str} : (reprText x).length ≤ sizeLine → Txt1 K H (.str x) (reprText x)
  | dat {a : Addr} {d : PyData} : Dp K H (.ref a) d → d.showable = true → d.hasDict = false → d.depth ≤ 64 → d.shown.length ≤ sizeLine → Txt1 K H (.ref a) d.shown
  | edic {a : Addr} : H a = some (.dK []) → Txt1 K H (.ref a) (PyData.shown (.dict []))
def rRepr1 (K : PySem.W.Frag) : List V → Hp → VK → Prop := fun xs H Q => ∃ x z, xs = [x] ∧ Txt1 K H x z ∧ Q (.str z) H
theorem call_repr1 {X : Cx} (hg : X.A.guards = some []) (hu : X.A.units + 66 < cLine) : CallR X (.builtin "repr") (rRepr1 X.K) := by
  intro pins s σ H xs us Q I r h
  obtain ⟨x, z, rfl, hx, q⟩ := h
  obtain ⟨u, rfl, rx⟩ := vals1 r
  cases hx with
  | int hz =>
    obtain ⟨t, rfl⟩ := rx
    exact PySem.P.repr_of_int hz ⟨.str _, H, I.tok _, ⟨_, rfl⟩, q⟩
  | non =>
    obtain rfl : u = Value.none := rx
    exact PySem.P.repr_of_none ⟨.str _, H, I.tok _, ⟨_, rfl⟩, q⟩
  | bl =>
    rename_i b
    obtain rfl : u = Value.bool b := rx
    exact PySem.P.repr_of_bool ⟨.str _, H, I.tok _, ⟨_, rfl⟩, q⟩
  | str hz =>
    obtain ⟨t, rfl⟩ := rx
    exact PySem.P.repr_of_str ⟨.str _, H, I.tok _, ⟨_, rfl⟩, q⟩ hz
  | @dat a d hd h1 h2 h3 h4 =>
    obtain ⟨as, rd⟩ := Dp.reads I d _ _ hd rx
    obtain rfl : u = Value.ref a := rx
    exact repr_of_reads' rd h1 (PyData.noDict_hsm h2) hg (by omega) (fun _ _ e => e) (fun h' u tk hk => ⟨.str d.shown, H, I.kept (t' := tk) hk, ⟨_, rfl⟩, q⟩) h4
  | @edic a e =>
    obtain rfl : u = Value.ref a := rx
    obtain ⟨_, y, vs, r, o, es, ep, e1, ex, e2, ko, pr, nd⟩ := I.hok a _ e
    cases r
    have he : es.toList = [] := by
      generalize es.toList = l at pr
      cases pr
      rfl
    have rd : Reads s.heap (.ref a) (.dict []) (a :: [] ++ []) := .dict e1 ex.1 e2 (by rw [he]; exact .nil) (by rw [he]; exact .nil)
    refine repr_of_reads' rd (by simp [PyData.showable, PyData.showableKv]) (fun _ hm => ?_) hg (by simp [PyData.depth, PyData.depthKv]; omega) (fun _ _ e => e) (fun h' u tk hk => ⟨.str _, H, I.kept (t' := tk) hk, ⟨_, rfl⟩, q⟩) (by show (PyData.shown (.dict [])).length ≤ sizeLine; simp only [PyData.shown, PyData.shownKv]; decide +kernel)
    have z : sysModules = a := by simpa using hm
    rw [← z] at y
    cases y
theorem Txt1.keep {K : PySem.W.Frag} {H H' : Hp} {x : V} {z : Str} (h : Txt1 K H x z) (k : Same H H') (kd : ∀ {v d}, Dp K H v d → Dp K H' v d) : Txt1 K H' x z := by
  cases h with
  | int h => exact .int h
  | non => exact .non
  | bl => exact .bl
  | str h => exact .str h
  | dat h1 h2 h3 h4 h5 => exact .dat (kd h1) h2 h3 h4 h5
  | edic e => exact .edic (k _ _ e)
end XV
set_option Elab.async false
set_option linter.all false
set_option maxRecDepth 100000
set_option maxHeartbeats 4000000
/-! values of a bent table: what is known of them whatever is made beside; their texts -/
namespace SL
open PySem PySem.Spec PyProof.Rows L2 XV LamX
/-- all but l and the tables of code objects stays -/
def Keeps (l : Addr) (H H' : Hp) : Prop := ∀ b o, H b = some o → b ≠ l → (∀ q, o ≠ .tbl q) → H' b = some o
theorem Keeps.refl {l : Addr} {H : Hp} : Keeps l H H := fun _ _ z _ _ => z
theorem Keeps.trans {l : Addr} {H H1 H2 : Hp} (a : Keeps l H H1) (b : Keeps l H1 H2) : Keeps l H H2 := fun c o z n t => b c o (a c o z n t) n t
theorem Keeps.same {l : Addr} {H H' : Hp} (k : Same H H') : Keeps l H H' := fun b o z _ _ => k b o z
theorem Keeps.ext {l : Addr} {H H' : Hp} (k : ExtN H H') : Keeps l H H' := fun b o z _ t => k b o z t
/-! ### lengths of texts -/
theorem textFrom_le : ∀ (ts : List Str) (k : Nat) (acc : Str), (textFrom k acc ts).length ≤ acc.length + piled ts
  | [], k, acc => by
    show acc.length ≤ acc.length + piled []
    omega
  | t :: r, k, acc => by
    have h := textFrom_le r (k + 1) (acc ++ (if k > 0 then ", " else "" : String) ++ t)
    have e : (acc ++ (if k > 0 then ", " else "" : String) ++ t).length = acc.length + (if k > 0 then 2 else 0) + t.length := by
      rw [strLen_append, strLen_append]
      split <;> rfl
    rw [e] at h
    show (textFrom (k + 1) (acc ++ (if k > 0 then ", " else "" : String) ++ t) r).length ≤ _
    rw [piled_cons]
    have : (if k > 0 then 2 else 0) ≤ 2 := by split <;> omega
    omega
theorem listText_le (ts : List Str) : (listText ts).length ≤ 2 + piled ts := by
  unfold listText
  rw [strLen_append]
  have h := textFrom_le ts 0 "["
  have e1 : ((("[" : String) : Str)).length = 1 := rfl
  have e2 : ((("]" : String) : Str)).length = 1 := rfl
  omega
theorem tupleText_le (ts : List Str) : (tupleText ts).length ≤ 3 + piled ts := by
  unfold tupleText
  rw [strLen_append, strLen_append]
  have e1 : ((("(" : String) : Str)).length = 1 := rfl
  have e3 : (((if ts.length == 1 then ",)" else ")" : String) : Str)).length ≤ 2 := by split <;> decide
  by_cases c : ts = []
  · subst c
    have z : (Str.join ", " ([] : List Str)).length = 0 := rfl
    omega
  · have h := join_length_add ts c
    omega
theorem piled_le {m : Nat} : ∀ {ts : List Str}, (∀ t ∈ ts, t.length ≤ m) → piled ts ≤ ts.length * (m + 2)
  | [], _ => by
    show piled [] ≤ _
    exact Nat.zero_le _
  | t :: r, h => by
    have ih := piled_le (ts := r) fun u hu => h u (List.mem_cons_of_mem _ hu)
    have h1 := h t List.mem_cons_self
    rw [piled_cons, List.length_cons, Nat.succ_mul]
    omega
/-! ### values with data that stays -/
def DatOf (K : PySem.W.Frag) (l : Addr) (H : Hp) (x : V) (n m : Nat) : Prop := ∃ d : PyData, (∀ H', Keeps l H H' → Dp K H' x d) ∧ d.showable = true ∧ d.hasDict = false ∧ d.depth ≤ n ∧ d.shown.length ≤ m
theorem all_dat {K : PySem.W.Frag} {l : Addr} {H : Hp} {n m : Nat} : ∀ {xs : List V}, (∀ y ∈ xs, DatOf K l H y n m) → ∃ ds : List PyData, (∀ H', Keeps l H H' → DpAll K H' xs ds) ∧ PyData.showableAll ds = true ∧ PyData.hasDictAll ds = false ∧ PyData.depthAll ds ≤ n ∧ (∀ t ∈ PyData.shownAll ds, t.length ≤ m) ∧ (PyData.shownAll ds).length = xs.length
  | [], _ => ⟨[], fun _ _ => .nil, by simp [PyData.showableAll], by simp [PyData.hasDictAll], by simp [PyData.depthAll], fun t ht => by simp [PyData.shownAll] at ht, by simp [PyData.shownAll]⟩
  | x :: xs, h => by
    obtain ⟨ds, a1, a2, a3, a4, a5, a6⟩ := all_dat (xs := xs) fun y hy => h y (List.mem_cons_of_mem _ hy)
    obtain ⟨d, b1, b2, b3, b4, b5⟩ := h x List.mem_cons_self
    refine ⟨d :: ds, fun H' k => .cons (b1 H' k) (a1 H' k), by simp [PyData.showableAll, a2, b2], by simp [PyData.hasDictAll, a3, b3], by simp only [PyData.depthAll]; omega, fun t ht => ?_, by simp [PyData.shownAll, a6]⟩
    simp only [PyData.shownAll] at ht
    rcases List.mem_cons.mp ht with e | ht
    · rw [e]
      exact b5
    · exact a5 t ht
theorem dat_seq {K : PySem.W.Frag} {l b : Addr} {H : Hp} {xs : List V} {n m c : Nat} (hb : b ≠ l) (e : H b = some (.tup xs) ∨ H b = some (.lst xs)) (h : ∀ y ∈ xs, DatOf K l H y n m) (hc : xs.length ≤ c) : DatOf K l H (.ref b) (n + 1) (3 + c * (m + 2)) := by
  obtain ⟨ds, a1, a2, a3, a4, a5, a6⟩ := all_dat h
  have hp := piled_le a5
  have hm : (PyData.shownAll ds).length * (m + 2) ≤ c * (m + 2) := Nat.mul_le_mul_right _ (by omega)
  rcases e with e | e
  · refine ⟨.tuple ds, fun H' k => .tup (SqT.of (k b _ e hb fun q z => by cases z)) (a1 H' k), by simpa [PyData.showable] using a2, by simpa [PyData.hasDict] using a3, by simp only [PyData.depth]; omega, ?_⟩
    simp only [PyData.shown]
    have := tupleText_le (PyData.shownAll ds)
    omega
  · refine ⟨.list ds, fun H' k => .lst (SqL.of (k b _ e hb fun q z => by cases z)) (a1 H' k), by simpa [PyData.showable] using a2, by simpa [PyData.hasDict] using a3, by simp only [PyData.depth]; omega, ?_⟩
    simp only [PyData.shown]
    have := listText_le (PyData.shownAll ds)
    omega
/-! ### flat values, items, tables -/
def BF (x : V) : Prop := (∃ i, x = .int i ∧ i.natAbs.log2 < 1920) ∨ (∃ b, x = .bl b) ∨ x = .non ∨ x = .str "1"
theorem small_log {i : Int} (h1 : -1000000000 ≤ i) (h2 : i ≤ 1000000000) : i.natAbs.log2 < 1920 := by
  by_cases c : i.natAbs = 0
  · rw [c]
    decide
  · refine (Nat.log2_lt c).mpr (Nat.lt_of_lt_of_le (m := 2 ^ 30) (by omega) (Nat.pow_le_pow_right (by decide) (by decide)))
theorem BF.int {i : Int} (h1 : -1000000000 ≤ i) (h2 : i ≤ 1000000000) : BF (.int i) := .inl ⟨i, rfl, small_log h1 h2⟩
theorem BF.ty {H : Hp} {x : V} (h : BF x) : Ty H x := by
  rcases h with ⟨i, rfl, _⟩ | ⟨b, rfl⟩ | rfl | rfl
  · exact ⟨_, .int i⟩
  · exact ⟨_, .bl b⟩
  · exact ⟨_, .non⟩
  · exact ⟨_, .str _⟩
theorem BF.dat {K : PySem.W.Frag} {l : Addr} {H : Hp} {x : V} (h : BF x) : DatOf K l H x 0 1999 := by
  rcases h with ⟨i, rfl, hi⟩ | ⟨b, rfl⟩ | rfl | rfl
  · refine ⟨.int i, fun _ _ => .int i, by simpa [PyData.showable] using hi, by simp [PyData.hasDict], by simp [PyData.depth], ?_⟩
    simp only [PyData.shown]
    show (Str.ofString (toString i)).length ≤ 1999
    rw [PySem.ofString_length]
    have := int_text_length_le (k := 1920) (by decide) hi
    omega
  · refine ⟨.bool b, fun _ _ => .bl b, by simp [PyData.showable], by simp [PyData.hasDict], by simp [PyData.depth], ?_⟩
    simp only [PyData.shown]
    cases b <;> decide
  · exact ⟨.none, fun _ _ => .non, by simp [PyData.showable], by simp [PyData.hasDict], by simp [PyData.depth], by simp only [PyData.shown]; decide⟩
  · exact ⟨.str "1", fun _ _ => .str _, by simp [PyData.showable], by simp [PyData.hasDict], by simp [PyData.depth], by simp only [PyData.shown]; decide +kernel⟩
def BV (l : Addr) (H : Hp) (x : V) : Prop := BF x ∨ ∃ b, x = .ref b ∧ b ≠ l ∧ H b = some (.lst [.int 1])
def BI (l : Addr) (H : Hp) (x : V) : Prop := BF x ∨ ∃ b xs, x = .ref b ∧ b ≠ l ∧ (H b = some (.tup xs) ∨ H b = some (.lst xs)) ∧ xs.length ≤ 90 ∧ ∀ y ∈ xs, BV l H y
def BT (l : Addr) (H : Hp) (x : V) : Prop := ∃ b xs, x = .ref b ∧ b ≠ l ∧ (H b = some (.tup xs) ∨ H b = some (.lst xs)) ∧ xs.length ≤ 8 ∧ ∀ y ∈ xs, BI l H y
def BO (l : Addr) (H : Hp) (x : V) : Prop := x = .non ∨ (∃ b, x = .ref b ∧ b ≠ l ∧ H b = some (.dK [])) ∨ BT l H x
theorem BV.keep {l : Addr} {H H' : Hp} {x : V} (h : BV l H x) (k : Keeps l H H') : BV l H' x := by
  rcases h with h | ⟨b, e, n, z⟩
  · exact .inl h
  · exact .inr ⟨b, e, n, k b _ z n fun q z => by cases z⟩
theorem seq_keep {l b : Addr} {H H' : Hp} {xs : List V} (k : Keeps l H H') (n : b ≠ l) (h : H b = some (.tup xs) ∨ H b = some (.lst xs)) : H' b = some (.tup xs) ∨ H' b = some (.lst xs) :=
  h.elim (fun z => .inl (k b _ z n fun q z => by cases z)) fun z => .inr (k b _ z n fun q z => by cases z)
theorem BI.keep {l : Addr} {H H' : Hp} {x : V} (h : BI l H x) (k : Keeps l H H') : BI l H' x := by
  rcases h with h | ⟨b, xs, e, n, z, hl, hy⟩
  · exact .inl h
  · exact .inr ⟨b, xs, e, n, seq_keep k n z, hl, fun y h => (hy y h).keep k⟩
theorem BT.keep {l : Addr} {H H' : Hp} {x : V} (h : BT l H x) (k : Keeps l H H') : BT l H' x := by
  obtain ⟨b, xs, e, n, z, hl, hy⟩ := h
  exact ⟨b, xs, e, n, seq_keep k n z, hl, fun y h => (hy y h).keep k⟩
theorem BO.keep {l : Addr} {H H' : Hp} {x : V} (h : BO l H x) (k : Keeps l H H') : BO l H' x := by
  rcases h with h | ⟨b, e, n, z⟩ | h
  · exact .inl h
  · exact .inr (.inl ⟨b, e, n, k b _ z n fun q z => by cases z⟩)
  · exact .inr (.inr (h.keep k))
theorem BV.ty {l : Addr} {H : Hp} {x : V} (h : BV l H x) : Ty H x := by
  rcases h with h | ⟨b, rfl, n, z⟩
  · exact h.ty
  · exact ⟨_, .lst z⟩
theorem BI.ty {l : Addr} {H : Hp} {x : V} (h : BI l H x) : TyI H x := by
  rcases h with h | ⟨b, xs, rfl, n, z, hl, hy⟩
  · refine ⟨h.ty, fun a xs e => ?_⟩
    rcases h with ⟨i, rfl, _⟩ | ⟨b, rfl⟩ | rfl | rfl <;> cases e
  · rcases z with z | z
    · refine ⟨⟨_, .tup z⟩, fun a ys e ez y hm => ?_⟩
      cases e
      rw [z] at ez
      cases ez
      exact (hy y hm).ty
    · refine ⟨⟨_, .lst z⟩, fun a ys e ez y hm => ?_⟩
      cases e
      rw [z] at ez
      cases ez
theorem BO.ty {l : Addr} {H : Hp} {x : V} (h : BO l H x) : TyT H x := by
  rcases h with rfl | ⟨b, rfl, n, z⟩ | ⟨b, xs, rfl, n, z, hl, hy⟩
  · exact ⟨⟨_, .non⟩, fun a xs e => nomatch e⟩
  · refine ⟨⟨_, .dict z⟩, fun a xs e ez => ?_⟩
    cases e
    rw [z] at ez
    cases ez
  · rcases z with z | z
    · refine ⟨⟨_, .tup z⟩, fun a ys e ez => ?_⟩
      cases e
      rw [z] at ez
      cases ez
      exact ⟨by omega, fun y hm => (hy y hm).ty⟩
    · refine ⟨⟨_, .lst z⟩, fun a ys e ez => ?_⟩
      cases e
      rw [z] at ez
      cases ez
theorem BO.big {l : Addr} {H : Hp} {t : V} (h : BO l H t) : ∀ (a : Addr) (xs : List V), t = .ref a → H a = some (.tup xs) → ∀ x ∈ xs, ∀ (b : Addr) (ys : List V), x = .ref b → H b = some (.tup ys) → ys.length ≤ 900 := by
  intro a xs e ez x hx b ys eb ey
  rcases h with rfl | ⟨c, rfl, n, z⟩ | ⟨c, zs, rfl, n, z, hl, hy⟩
  · cases e
  · cases e
    rw [z] at ez
    cases ez
  · cases e
    rcases z with z | z
    · rw [z] at ez
      cases ez
      rcases hy x hx with hf | ⟨d, ws, ed, _, zd, hd, _⟩
      · subst eb
        rcases hf with ⟨i, e, _⟩ | ⟨b, e⟩ | e | e <;> cases e
      · rw [eb] at ed
        cases ed
        rcases zd with zd | zd
        · rw [ey] at zd
          cases zd
          omega
        · rw [ey] at zd
          cases zd
    · rw [z] at ez
      cases ez
theorem BV.dat {K : PySem.W.Frag} {l : Addr} {H : Hp} {x : V} (h : BV l H x) : DatOf K l H x 1 2004 := by
  rcases h with h | ⟨b, rfl, n, z⟩
  · obtain ⟨d, a1, a2, a3, a4, a5⟩ := h.dat (K := K) (l := l) (H := H)
    exact ⟨d, a1, a2, a3, by omega, by omega⟩
  · refine dat_seq (c := 1) (m := 1999) n (.inr z) (fun y hy => ?_) (Nat.le_refl _)
    rw [List.mem_singleton.mp hy]
    exact (BF.int (by decide) (by decide)).dat
theorem BI.dat {K : PySem.W.Frag} {l : Addr} {H : Hp} {x : V} (h : BI l H x) : DatOf K l H x 2 180543 := by
  rcases h with h | ⟨b, xs, rfl, n, z, hl, hy⟩
  · obtain ⟨d, a1, a2, a3, a4, a5⟩ := h.dat (K := K) (l := l) (H := H)
    exact ⟨d, a1, a2, a3, by omega, by omega⟩
  · exact dat_seq (c := 90) (m := 2004) n z (fun y h => (hy y h).dat) hl
/-- the text of such a value, now and later -/
theorem BO.txt {K : PySem.W.Frag} {l : Addr} {H : Hp} {x : V} (h : BO l H x) : ∃ z, ∀ H', Keeps l H H' → Txt1 K H' x z := by
  rcases h with rfl | ⟨b, rfl, n, z⟩ | ⟨b, xs, rfl, n, z, hl, hy⟩
  · exact ⟨_, fun _ _ => .non⟩
  · exact ⟨_, fun H' k => .edic (k b _ z n fun q z => by cases z)⟩
  · obtain ⟨d, a1, a2, a3, a4, a5⟩ := dat_seq (K := K) (c := 8) (m := 180543) n z (fun y h => (hy y h).dat) hl
    exact ⟨_, fun H' k => .dat (a1 H' k) a2 a3 (by omega) (Nat.le_trans a5 (by rw [sizeLine_eq]; omega))⟩
end SL
namespace XV
open PySem PySem.Spec PyProof.Rows L2 SL
/-- t + u, whatever they are -/
theorem catA_of {K : PySem.W.Frag} {H : Hp} {a b : Addr} {xs ys : List V} {Q : VK} (ea : H a = some (.tup xs)) (eb : H b = some (.tup ys)) (hl : xs.length + ys.length ≤ 100000) (k : ∀ p H1, Same H H1 → H1 p = some (.tup (xs ++ ys)) → Q (.ref p) H1) : rCatA K (.ref a) (.ref b) H Q := by
  refine ⟨a, b, xs, ys, rfl, rfl, SqT.of ea, SqT.of eb, by rw [sizeLine_eq]; omega, fun hx => ?_, fun hx hy => ?_, fun hx hy p np => ?_⟩
  · subst hx
    exact k b H (Same.refl _) eb
  · subst hy
    exact k a H (Same.refl _) (by rw [List.append_nil]; exact ea)
  · exact k p _ (same_upd np) upd_same
/-- t[lo:hi] -/
theorem slA_of {K : PySem.W.Frag} {H : Hp} {a : Addr} {xs : List V} {lo hi : Option Int} {Q : VK} (e : H a = some (.tup xs)) (k : ∀ p H1, Same H H1 → H1 p = some (.tup (cutV xs lo hi)) → Q (.ref p) H1) : rSlA K (.ref a) lo hi H Q := by
  refine ⟨a, xs, rfl, SqT.of e, fun hw => k a H (Same.refl _) ?_, fun hw p np => k p _ (same_upd np) upd_same⟩
  unfold cutV
  rw [hw.1, hw.2, List.drop_zero, List.take_of_length_le (by omega)]
  exact e
end XV
set_option Elab.async false
set_option linter.all false
set_option maxRecDepth 100000
set_option maxHeartbeats 4000000
/-! a tuple the other way round -/
namespace XV
open PySem PySem.Spec PyProof.Rows L2
theorem places_rev (n : Nat) : Builtin.Slice.slicePlaces ((n : Int) - 1) (-1) (-1) = n := by
  unfold Builtin.Slice.slicePlaces
  have h1 : ¬ ((-1 : Int) > 0) := by omega
  simp only [h1, if_false]
  split
  · have e : -(-1 : Int) = 1 := rfl
    rw [e, Int.ediv_one]
    omega
  · omega
theorem adjust_rev (n : Nat) : Builtin.Slice.sliceAdjust none none (-1) (n : Int) = ((n : Int) - 1, -1) := by
  unfold Builtin.Slice.sliceAdjust
  have h1 : (-1 : Int) < 0 := by omega
  simp only [h1, if_true]
theorem fm_map {α β : Type} {f : α → Option β} {g : α → β} : ∀ {l : List α}, (∀ m ∈ l, f m = some (g m)) → l.filterMap f = l.map g
  | [], _ => rfl
  | a :: l, h => by
    rw [List.filterMap_cons, h a List.mem_cons_self, fm_map fun m hm => h m (List.mem_cons_of_mem _ hm), List.map_cons]
theorem pick_rev (xs : Array Value) : ((List.range xs.size).filterMap fun (m : Nat) => xs[(((xs.size : Int) - 1) + (m : Int) * (-1)).toNat]?).toArray = xs.toList.reverse.toArray := by
  have e : ∀ (l : List Value), ((List.range l.length).filterMap fun (m : Nat) => l[(((l.length : Int) - 1) + (m : Int) * (-1)).toNat]?) = l.reverse := by
    intro l
    apply List.ext_getElem?
    intro i
    have h1 : ((List.range l.length).filterMap fun (m : Nat) => l[(((l.length : Int) - 1) + (m : Int) * (-1)).toNat]?) = (List.range l.length).map fun m => l.getD (l.length - 1 - m) .none := by
      refine fm_map fun m hm => ?_
      have lt := List.mem_range.mp hm
      have z : (((l.length : Int) - 1) + (m : Int) * (-1)).toNat = l.length - 1 - m := by omega
      rw [z, List.getElem?_eq_getElem (by omega), List.getD_eq_getElem?_getD, List.getElem?_eq_getElem (by omega)]
      rfl
    rw [h1]
    by_cases hi : i < l.length
    · rw [List.getElem?_map, List.getElem?_range hi, List.getElem?_reverse hi]
      rw [List.getElem?_eq_getElem (by omega)]
      simp only [Option.map]
      rw [List.getD_eq_getElem?_getD, List.getElem?_eq_getElem (by omega)]
      rfl
    · rw [List.getElem?_eq_none (by simp; omega), List.getElem?_eq_none (by simp; omega)]
  have e2 := e xs.toList
  simp only [Array.length_toList, Array.getElem?_toList] at e2
  rw [e2]
section
variable {prog : Program} {w : World} {A : Around} {E : Value → Shared → Prop} {s : Shared}
theorem getItem_tuple_rev {t sl : Addr} {items : Array Value} {vs : Value} {Q : Value → Shared → Prop} (ht : IsTup s.heap t items) (hs : s.heap.IsSliceOf sl .none .none vs) (ps : IsPart vs (some (-1)))
    (h : Q (.ref s.heap.objs.size) { s with heap := s.heap.push { cls := .type "tuple", data := .seq items.toList.reverse.toArray } })
    (hsz : items.size ≤ sizeLine) : wpAny (model prog w) A (getItem (.ref t) (.ref sl)) Q E s := by
  have htake : sizeOk (.seq items.toList.reverse.toArray) := by
    show items.toList.reverse.toArray.size ≤ sizeLine
    rw [List.size_toArray, List.length_reverse, Array.length_toList]
    exact hsz
  obtain ⟨os, hos, hcs, hds⟩ := id hs
  have hTs : s.TypeIs (.ref sl) "slice" := ⟨os, hos, hcs⟩
  unfold getItem
  try with_reducible refine wpAny_holding ?_
  first | refine wpAny_bind (wpAny_pure ?_) | skip
  refine wpAny_bind (wpAny_sequenceKey ht.typeIs (by decide) ?_)
  refine wpAny_bind (wpAny_callSpecial?_slot (name := Str.ofString "__getitem__") ht.typeIs PyProof.Rows.slot_tuple_getitem
    (wpAny_call_entry PyProof.Rows.slot_tuple_getitem ht.typeIs entry_tuple_getitem ?_ (args_tuple_getitem _ _)))
  show wpAny _ _ (Builtin.Tuple.tupleItemsOf (.ref t) >>= _) _ _ s
  refine wpAny_bind (tupleItemsOf_ ht ?_)
  refine wpAny_bind (wpAny_typeOf hTs ?_)
  rw [if_pos (by decide)]
  have ap : ∀ {A' : Around} {E' : Value → Shared → Prop} {Q' : Int × Int × Nat → Shared → Prop}, Q' ((items.size : Int) - 1, -1, items.size) s → wpAny (model prog w) A' (Builtin.Slice.sliceApplied (.ref sl) (pure (items.size : Int))) Q' E' s := fun {A' E' Q'} hq => by
    unfold Builtin.Slice.sliceApplied Builtin.Slice.sliceFields
    refine wpAny_bind (wpAny_bind (wpAny_field hos hds (x := .none) rfl (wpAny_bind (wpAny_field hos hds (x := .none) rfl (wpAny_bind (wpAny_field hos hds (x := vs) rfl (wpAny_pure ?_)))))))
    refine wpAny_bind (HT.slicePart_ ps ?_)
    show wpAny _ _ (if ((-1 : Int) == 0) = true then _ else _) _ _ s
    rw [if_neg (by decide)]
    refine wpAny_bind (slicePart_none (wpAny_bind (slicePart_none (wpAny_bind (wpAny_pure ?_)))))
    show wpAny _ _ (match Builtin.Slice.sliceAdjust none none (-1) (items.size : Int) with | (lo, hi) => pure (lo, (-1 : Int), Builtin.Slice.slicePlaces lo hi (-1))) _ _ s
    rw [adjust_rev]
    show wpAny _ _ (pure ((items.size : Int) - 1, (-1 : Int), Builtin.Slice.slicePlaces ((items.size : Int) - 1) (-1) (-1))) _ _ s
    rw [places_rev]
    exact wpAny_pure hq
  refine wpAny_bind (ap ?_)
  have hno : ¬ ((((items.size : Int) - 1) == 0 && (-1 : Int) == 1 && items.size == items.size) = true) := by
    intro q
    rw [Bool.and_eq_true, Bool.and_eq_true] at q
    exact absurd q.1.2 (by decide)
  show wpAny _ _ (if (((items.size : Int) - 1) == 0 && (-1 : Int) == 1 && items.size == items.size) = true then _ else _) _ _ s
  rw [if_neg hno, pick_rev]
  first
    | exact wpAny_bind (m := Builtin.Tuple.tupleExact _) (wpAny_newObj_type (wpAny_pure ⟨_, rfl, wpAny_pure h⟩) htake)
    | exact wpAny_bind (m := Builtin.Tuple.tupleExact _) (wpAny_newObj_type (wpAny_bind (wpAny_pure (wpAny_pure ⟨_, rfl, wpAny_pure h⟩))) htake)
    | exact wpAny_bind (wpAny_bind (m := Builtin.Tuple.tupleExact _) (wpAny_newObj_type (wpAny_pure (wpAny_pure ⟨_, rfl, wpAny_pure h⟩)) htake))
    | exact wpAny_bind (wpAny_bind (m := Builtin.Tuple.tupleExact _) (wpAny_newObj_type (wpAny_pure ⟨_, rfl, wpAny_pure h⟩) htake))
end
def tRevT (K : PySem.W.Frag) (te : TE) : TE := fun σ H Q => te σ H fun x H1 => ∃ a xs, x = .ref a ∧ SqT K H1 a xs ∧ ∀ p, H1 p = none → Q (.ref p) (upd H1 p (.tup xs.reverse))
section
variable {X : Cx}
theorem pe_revT {e : Expr} {te : TE} {k : Nat} {p1 p2 p3 pos : Pos} (he : PE X e te) : PE X (.Subscript e (.Slice none none (some (.UnaryOp .USub (.Constant (.int 1) k p1) p2)) p3) pos) (tRevT X.K te) := by
  refine ⟨fun pins s σ H Q I h => ?_⟩
  refine Subscript_ (thn (he.run pins s σ H _ I h) fun v s1 ⟨x, H1, I1, r1, q1⟩ => ?_)
  obtain ⟨a, xs, ex, hx, q⟩ := q1
  subst ex
  cases r1
  have hst : PO X (some (.UnaryOp .USub (.Constant (.int 1) k p1) p2)) (tPart (tUn (rU fun i => .int (-i)) (tC (.int 1)))) := po_some (pe_un un_neg pe_int)
  refine wpAny_Slice (thn (po_none.run pins s1 σ H1 (fun o H2 => o = none ∧ H2 = H1) I1 ⟨rfl, rfl⟩) fun vl s2 ⟨l, H2, I2, pl, el, e2⟩ => ?_)
  subst el e2
  refine thn (po_none.run pins s2 σ H2 (fun o H3 => o = none ∧ H3 = H2) I2 ⟨rfl, rfl⟩) fun vu s3 ⟨u, H3, I3, pu, eu, e3⟩ => ?_
  subst eu e3
  refine thn (hst.run pins s3 σ H3 (fun o H4 => o = some (-1) ∧ H4 = H3) I3 ⟨1, rfl, -1, rfl, rfl, rfl⟩) fun vs s4 ⟨o, H4, I4, ps, eo, e4⟩ => ?_
  subst eo e4
  cases pl
  cases pu
  have I5 : Inv X pins σ H4 { s4 with heap := s4.heap.push { cls := .type "slice", data := .fields #[.none, .none, vs] } } := I4.kept (t' := s4.toks) fun b ob q => Heap.get?_push_of_some _ q
  obtain ⟨its, r, ht, hz⟩ := I5.tuple hx
  have hlen := r.length
  show wpAny (model X.prog X.w) X.A (subscriptTail e (.Slice none none (some (.UnaryOp .USub (.Constant (.int 1) k p1) p2)) p3) (.ref a) (.ref s4.heap.objs.size)) (EP X pins σ Q) X.xe { s4 with heap := s4.heap.push { cls := .type "slice", data := .fields #[.none, .none, vs] } }
  refine tail_any (ops := [.ref a, .ref s4.heap.objs.size]) ht.typeIs (PyProof.Rows.slot_tuple_getitem.lookup) ?_ (by with_unfolding_all rfl)
  refine getItem_tuple_rev ht (Heap.IsSliceOf.new _ .none .none vs) ps ?_ (by rw [List.size_toArray]; omega)
  refine ⟨.ref _, _, I5.laid (t' := s4.toks) (o := .tup xs.reverse) (fun b ob q => Heap.get?_push_of_some _ q) (Nat.le_refl _) ?_, rfl, q _ (I5.hok.fresh (Nat.le_refl _))⟩
  exact ⟨by rw [List.length_reverse]; exact hz, _, r.reverse, IsTup.new _ _⟩
end
end XV
set_option Elab.async false
set_option linter.all false
set_option maxRecDepth 100000
set_option maxHeartbeats 4000000
namespace K03
open PySem PySem.Spec PyProof.Rows L2 XV SL LamX
section
variable {P : Program} {w : World} {K : PySem.W.Frag} {mg : Str → Option Value} {base : Heap}
theorem rep_flat {n : Int} {x : V} : (List.replicate n.toNat [x]).flatten = List.replicate n.toNat x := by
  induction n.toNat with
  | zero => rfl
  | succ n ih => rw [List.replicate_succ, List.flatten_cons, ih]; rfl
theorem bv_app {l : Addr} {H : Hp} {a b : List V} (h1 : ∀ y ∈ a, BV l H y) (h2 : ∀ y ∈ b, BV l H y) : ∀ y ∈ a ++ b, BV l H y := fun y hy => (List.mem_append.mp hy).elim (h1 y) (h2 y)
theorem bv_one {l : Addr} {H : Hp} {x : V} (h : BV l H x) : ∀ y ∈ [x], BV l H y := fun y hy => by rw [List.mem_singleton.mp hy]; exact h
theorem bv_rep {l : Addr} {H : Hp} {x : V} {n : Nat} (h : BV l H x) : ∀ y ∈ List.replicate n x, BV l H y := fun y hy => by rw [List.eq_of_mem_replicate hy]; exact h
theorem bv_rev {l : Addr} {H : Hp} {a : List V} (h : ∀ y ∈ a, BV l H y) : ∀ y ∈ a.reverse, BV l H y := fun y hy => h y (List.mem_reverse.mp hy)
theorem pickAll2 {xs : List V} {k : Int} {R : V → Prop} (h : ∀ x ∈ xs, R x) (h0 : 0 ≤ k) (h1 : k < xs.length) : ∃ v, atI xs k = some v ∧ R v := by
  have hk : k.toNat < xs.length := by omega
  have e : k = ((k.toNat : Nat) : Int) := by omega
  have z : atI xs ((k.toNat : Nat) : Int) = some xs[k.toNat] := atI_nat (List.getElem?_eq_getElem hk)
  rw [← e] at z
  exact ⟨_, z, h _ (List.getElem_mem hk)⟩
theorem cut_to {xs : List V} {b : Nat} (h : b ≤ xs.length) : cutV xs none (some (b : Int)) = xs.take b := by
  unfold cutV
  have e1 : HT.sIx xs.length xs.length (some (b : Int)) = b := by
    show (if (b : Int) < 0 then ((b : Int) + (xs.length : Int)).toNat else min (b : Int).toNat xs.length) = b
    rw [if_neg (by omega)]
    omega
  have e2 : HT.sIx xs.length 0 none = 0 := rfl
  rw [e1, e2, List.drop_zero, Nat.sub_zero]
theorem slA_fromP {K : PySem.W.Frag} {H : Hp} {σ : L2.St} {a : Addr} {xs : List V} {lo : Option Int} {Q : VK} (e : H a = some (.tup xs)) (k : ∀ p H1, Same H H1 → H1 p = some (.tup (cutV xs lo none)) → Q (.ref p) H1) : tNoPart σ H fun u H3 => rSlA K (.ref a) lo u H3 Q := slA_of e k
theorem Keeps.st1 {l : Addr} {H H' : Hp} (k : St1 l H H') : Keeps l H H' := fun b o z n _ => k.but b o z n
def spBent : Sp := fun vs H Q _ => ∃ (l t s : Addr) (ys xs : List V) (rows : List (List Int)) (ps : List (Int × Int)), vs = [.ref l, .ref t, .ref s] ∧ Well H l ∧ H t = some (.tup ys) ∧ RowsAt H ys rows ∧ rows.length = ps.length ∧ (∀ ns ∈ rows, ns.length ≤ 15 ∧ ∀ n ∈ ns, 1 ≤ n ∧ n ≤ 60) ∧ Sorts H s xs ps ∧ s ≠ l ∧ 1 ≤ ps.length ∧ ps.length ≤ 6 ∧
  ∀ (H' : Hp) (b : Addr) (zs : List V), St1 l H H' → b ≠ l → H' b = some (.tup zs) → BT l H' (.ref b) → Q (.ref b) H'
theorem ok_bent {f fD : Addr} {fd dD : FuncData} (F : Fun K "_law_bent" "_law_bent" s__law_bent f fd) (B : Bi mg)
    (G__law_draw : FnOk P w K mg base CX0 1 fD dD ["_law_well", "_law_many"] spDraw) (m__law_draw : mg "_law_draw" = some (.ref fD)) (k__law_draw : PySem.W.keepIn K (.ref fD) = true) (b__law_draw : Binds K dD ["_law_well", "_law_many"] []) : FnOk P w K mg base CX0 2 f fd ["_law_well", "_law_table_here", "_law_sorts"] spBent := by
  refine F.ok sc__law_bent (fun vs H Q E h => ?_) (fun cdv A outer s H vs Q E hr h => ?_)
  · obtain ⟨l, t, sa, ys, xs, rows, ps, rfl, _⟩ := h
    rfl
  · obtain ⟨l, t, sa, ys, xs, rows, ps, rfl, hw, et, ra, hl, hrow, so, nsl, h1, h6, q⟩ := h
    have exl : xs.length = ps.length := Paired.length so.pr
    have eyl : ys.length = rows.length := Paired.length ra
    have ntl : t ≠ l := well_ne hw et
    refine ⟨_, (pss_cons (ps_set (i := 3) sc__law_bent.nd rfl (Or.inl rfl) (pe_call G__law_draw (hr.mono (by decide)) rfl m__law_draw k__law_draw b__law_draw .nil pass0 (pa_cons (pv 0) (pa_cons (pe_callB call_len_seq (by rfl) B.b_len (by decide +kernel) (pa_cons (pv 1) pa_nil)) pa_nil))))
      (pss_cons (ps_set (i := 4) sc__law_bent.nd rfl (Or.inl rfl) (pe_ix ix_tup (pv 1) (pv 3) (fun _ _ => rfl)))
      (pss_cons (ps_set (i := 5) sc__law_bent.nd rfl (Or.inl rfl) (pe_ix ix_tup (pe_ix ix_list (pv 2) (pv 3) (fun _ _ => rfl)) pe_int (fun _ _ => rfl)))
      (pss_cons (ps_set (i := 6) sc__law_bent.nd rfl (Or.inl rfl) (pe_lst (pa_cons (pe_op op_catA (pv 4) (pe_tup (pa_cons (pe_op op_add (pv 5) pe_int) pa_nil))) (pa_cons (pe_op op_catA (pv 4) (pe_tup (pa_cons pe_int pa_nil))) (pa_cons (pe_op op_catA (pv 4) (pe_tup (pa_cons pe_bl pa_nil))) (pa_cons (pe_op op_catA (pe_op op_catA (pe_tup (pa_cons (pv 5) pa_nil)) (pv 4)) (pe_tup (pa_cons pe_int pa_nil))) (pa_cons (pe_callTy call_list_of (by rfl) B.b_list (by decide +kernel) (pa_cons (pv 4) pa_nil)) (pa_cons pe_non pa_nil))))))))
      (pss_cons (ps_set (i := 6) sc__law_bent.nd rfl (Or.inl rfl) (pe_op op_catS (pv 6) (pe_lst (pa_cons (pe_op op_catA (pv 4) (pe_tup (pa_cons pe_str pa_nil))) pa_nil))))
      (pss_cons (ps_set (i := 6) sc__law_bent.nd rfl (Or.inl rfl) (pe_op op_catS (pv 6) (pe_lst (pa_cons (pe_op op_repA (pe_tup (pa_cons pe_int pa_nil)) pe_int) (pa_cons (pe_op op_catA (pv 4) (pe_op op_repA (pe_tup (pa_cons (pv 5) pa_nil)) pe_int)) (pa_cons (pe_tup (pa_cons pe_non pa_nil)) (pa_cons (pe_op op_catA (pe_revT (pv 4)) (pe_tup (pa_cons pe_int pa_nil))) (pa_cons (pe_op op_catA (pv 4) (pe_tup (pa_cons (pe_lst (pa_cons pe_int pa_nil)) pa_nil))) (pa_cons (pe_un un_neg pe_int) (pa_cons (pe_op op_repA (pe_tup (pa_cons (pv 5) pa_nil)) pe_int) pa_nil))))))))))
      (pss_one (ps_ret (pe_op op_catA (pe_op op_catA (pe_slice sl_tupA (pv 1) po_none (po_some (pv 3))) (pe_tup (pa_cons (pe_ix ix_list (pv 6) (pe_call G__law_draw (hr.mono (by decide)) rfl m__law_draw k__law_draw b__law_draw .nil pass0 (pa_cons (pv 0) (pa_cons pe_int pa_nil))) (fun _ _ => rfl)) pa_nil))) (pe_slice sl_tupA (pv 1) (po_some (pe_op op_add (pv 3) pe_int)) po_none)))))))))), ?_⟩
    refine ⟨.ref l, rfl, .ref t, rfl, t, ys, rfl, .inr (SqT.of et), l, _, rfl, hw, by omega, by omega, fun n H1 n0 n1 S1 => ?_⟩
    obtain ⟨k, rfl⟩ : ∃ k : Nat, n = (k : Int) := ⟨n.toNat, by omega⟩
    have hk : k < ps.length := by omega
    obtain ⟨pq, epq⟩ : ∃ pq, ps[k]? = some pq := ⟨ps[k], List.getElem?_eq_getElem hk⟩
    obtain ⟨x, ex⟩ : ∃ x, xs[k]? = some x := ⟨xs[k]'(by omega), List.getElem?_eq_getElem (by omega)⟩
    obtain ⟨y, ey⟩ : ∃ y, ys[k]? = some y := ⟨ys[k]'(by omega), List.getElem?_eq_getElem (by omega)⟩
    obtain ⟨tq, rfl, etq⟩ : PairAt H x pq := by
      obtain ⟨q', a1, a2⟩ := pairs_get so.pr ex
      rw [epq] at a1
      cases a1
      exact a2
    obtain ⟨ns, ens, c, rfl, ec⟩ := rows_get ra ey
    obtain ⟨nl, nrg⟩ := hrow ns (List.mem_of_getElem? ens)
    have rq := so.rg pq (List.mem_of_getElem? epq)
    have ncl : c ≠ l := well_ne hw ec
    have ntq : tq ≠ l := well_ne hw etq
    have et1 := S1.but _ _ et ntl
    have ec1 := S1.but _ _ ec ncl
    refine ⟨.ref t, rfl, .int k, rfl, t, ys, k, _, rfl, rfl, SqT.of et1, atI_nat ey, ?_⟩
    refine ⟨.ref sa, rfl, .int k, rfl, sa, xs, k, _, rfl, rfl, SqL.of (S1.but _ _ so.ls nsl), atI_nat ex, tq, _, 1, _, rfl, rfl, SqT.of (S1.but _ _ etq ntq), rfl, ?_⟩
    have hbf : ∀ y ∈ ns.map V.int, BF y := fun y hy => by
      obtain ⟨n, hn, rfl⟩ := List.mem_map.mp hy
      have := nrg n hn
      exact BF.int (by omega) (by omega)
    refine ⟨.ref c, rfl, .int pq.2, rfl, pq.2, 1, rfl, rfl, (by show 1 ≤ sizeLine; decide), fun a1 na1 => ?_⟩
    generalize hhA1 : upd H1 a1 _ = A1
    obtain ⟨sA1, e_a1⟩ := eqU hhA1 na1
    have preA1 := sA1
    refine catA_of (preA1 _ _ ec1) e_a1 (by simp only [List.length_append, List.length_cons, List.length_nil, List.length_map, List.length_reverse]; omega) (fun i1 A2 sA2 e_i1 => ?_)
    have preA2 := preA1.trans sA2
    refine ⟨.ref c, rfl, (by show 1 ≤ sizeLine; decide), fun a2 na2 => ?_⟩
    generalize hhA3 : upd A2 a2 _ = A3
    obtain ⟨sA3, e_a2⟩ := eqU hhA3 na2
    have preA3 := preA2.trans sA3
    refine catA_of (preA3 _ _ ec1) e_a2 (by simp only [List.length_append, List.length_cons, List.length_nil, List.length_map, List.length_reverse]; omega) (fun i2 A4 sA4 e_i2 => ?_)
    have preA4 := preA3.trans sA4
    refine ⟨.ref c, rfl, (by show 1 ≤ sizeLine; decide), fun a3 na3 => ?_⟩
    generalize hhA5 : upd A4 a3 _ = A5
    obtain ⟨sA5, e_a3⟩ := eqU hhA5 na3
    have preA5 := preA4.trans sA5
    refine catA_of (preA5 _ _ ec1) e_a3 (by simp only [List.length_append, List.length_cons, List.length_nil, List.length_map, List.length_reverse]; omega) (fun i3 A6 sA6 e_i3 => ?_)
    have preA6 := preA5.trans sA6
    refine ⟨.int pq.2, rfl, (by show 1 ≤ sizeLine; decide), fun a4 na4 => ?_⟩
    generalize hhA7 : upd A6 a4 _ = A7
    obtain ⟨sA7, e_a4⟩ := eqU hhA7 na4
    have preA7 := preA6.trans sA7
    refine ⟨.ref c, rfl, ?_⟩
    refine catA_of e_a4 (preA7 _ _ ec1) (by simp only [List.length_append, List.length_cons, List.length_nil, List.length_map, List.length_reverse]; omega) (fun a5 A8 sA8 e_a5 => ?_)
    have preA8 := preA7.trans sA8
    refine ⟨(by show 1 ≤ sizeLine; decide), fun a6 na6 => ?_⟩
    generalize hhA9 : upd A8 a6 _ = A9
    obtain ⟨sA9, e_a6⟩ := eqU hhA9 na6
    have preA9 := preA8.trans sA9
    refine catA_of (sA9 _ _ e_a5) e_a6 (by simp only [List.length_append, List.length_cons, List.length_nil, List.length_map, List.length_reverse]; omega) (fun i4 A10 sA10 e_i4 => ?_)
    have preA10 := preA9.trans sA10
    refine ⟨.ref c, rfl, c, _, rfl, .inr (SqT.of (preA10 _ _ ec1)), fun i5 ni5 => ?_⟩
    generalize hhA11 : upd A10 i5 _ = A11
    obtain ⟨sA11, e_i5⟩ := eqU hhA11 ni5
    have preA11 := preA10.trans sA11
    refine ⟨(by show 6 ≤ sizeLine; decide), fun o1 no1 => ?_⟩
    generalize hhA12 : upd A11 o1 _ = A12
    obtain ⟨sA12, e_o1⟩ := eqU hhA12 no1
    have preA12 := preA11.trans sA12
    refine ⟨.ref o1, rfl, .ref c, rfl, (by show 1 ≤ sizeLine; decide), fun a7 na7 => ?_⟩
    generalize hhA13 : upd A12 a7 _ = A13
    obtain ⟨sA13, e_a7⟩ := eqU hhA13 na7
    have preA13 := preA12.trans sA13
    refine catA_of (preA13 _ _ ec1) e_a7 (by simp only [List.length_append, List.length_cons, List.length_nil, List.length_map, List.length_reverse]; omega) (fun i7 A14 sA14 e_i7 => ?_)
    have preA14 := preA13.trans sA14
    refine ⟨(by show 1 ≤ sizeLine; decide), fun l1 nl1 => ?_⟩
    generalize hhA15 : upd A14 l1 _ = A15
    obtain ⟨sA15, e_l1⟩ := eqU hhA15 nl1
    have preA15 := preA14.trans sA15
    refine ⟨o1, l1, _, _, rfl, rfl, SqL.of ((Same.trans (Same.trans sA13 sA14) sA15) _ _ e_o1), SqL.of e_l1, (by simp only [List.length_append, List.length_cons, List.length_nil]; rw [sizeLine_eq]; omega), fun o2 no2 => ?_⟩
    generalize hhA16 : upd A15 o2 _ = A16
    obtain ⟨sA16, e_o2⟩ := eqU hhA16 no2
    have preA16 := preA15.trans sA16
    refine ⟨.ref o2, rfl, (by show 1 ≤ sizeLine; decide), fun a8 na8 => ?_⟩
    generalize hhA17 : upd A16 a8 _ = A17
    obtain ⟨sA17, e_a8⟩ := eqU hhA17 na8
    have preA17 := preA16.trans sA17
    refine ⟨a8, 61, _, rfl, rfl, SqT.of e_a8, (by simp), (by decide), (by decide), (by show 1 ≤ 1000; decide), (fun e => absurd e (by decide)), fun _ i8 ni8 => ?_⟩
    generalize hhA18 : upd A17 i8 _ = A18
    obtain ⟨sA18, e_i8⟩ := eqU hhA18 ni8
    have preA18 := preA17.trans sA18
    rw [rep_flat] at e_i8
    refine ⟨.ref c, rfl, .int pq.2, rfl, (by show 1 ≤ sizeLine; decide), fun a9 na9 => ?_⟩
    generalize hhA19 : upd A18 a9 _ = A19
    obtain ⟨sA19, e_a9⟩ := eqU hhA19 na9
    have preA19 := preA18.trans sA19
    refine ⟨a9, 60, _, rfl, rfl, SqT.of e_a9, (by simp), (by decide), (by decide), (by show 1 ≤ 1000; decide), (fun e => absurd e (by decide)), fun _ a10 na10 => ?_⟩
    generalize hhA20 : upd A19 a10 _ = A20
    obtain ⟨sA20, e_a10⟩ := eqU hhA20 na10
    have preA20 := preA19.trans sA20
    rw [rep_flat] at e_a10
    refine catA_of (preA20 _ _ ec1) e_a10 (by simp only [List.length_append, List.length_cons, List.length_nil, List.length_map, List.length_replicate]; omega) (fun i9 A21 sA21 e_i9 => ?_)
    have preA21 := preA20.trans sA21
    refine ⟨(by show 1 ≤ sizeLine; decide), fun i10 ni10 => ?_⟩
    generalize hhA22 : upd A21 i10 _ = A22
    obtain ⟨sA22, e_i10⟩ := eqU hhA22 ni10
    have preA22 := preA21.trans sA22
    refine ⟨.ref c, rfl, c, _, rfl, SqT.of (preA22 _ _ ec1), fun a11 na11 => ?_⟩
    generalize hhA23 : upd A22 a11 _ = A23
    obtain ⟨sA23, e_a11⟩ := eqU hhA23 na11
    have preA23 := preA22.trans sA23
    refine ⟨(by show 1 ≤ sizeLine; decide), fun a12 na12 => ?_⟩
    generalize hhA24 : upd A23 a12 _ = A24
    obtain ⟨sA24, e_a12⟩ := eqU hhA24 na12
    have preA24 := preA23.trans sA24
    refine catA_of (sA24 _ _ e_a11) e_a12 (by simp only [List.length_append, List.length_cons, List.length_nil, List.length_map, List.length_reverse]; omega) (fun i11 A25 sA25 e_i11 => ?_)
    have preA25 := preA24.trans sA25
    refine ⟨.ref c, rfl, (by show 1 ≤ sizeLine; decide), fun b13 nb13 => ?_⟩
    generalize hhA26 : upd A25 b13 _ = A26
    obtain ⟨sA26, e_b13⟩ := eqU hhA26 nb13
    have preA26 := preA25.trans sA26
    refine ⟨(by show 1 ≤ sizeLine; decide), fun a13 na13 => ?_⟩
    generalize hhA27 : upd A26 a13 _ = A27
    obtain ⟨sA27, e_a13⟩ := eqU hhA27 na13
    have preA27 := preA26.trans sA27
    refine catA_of (preA27 _ _ ec1) e_a13 (by simp only [List.length_append, List.length_cons, List.length_nil, List.length_map, List.length_reverse]; omega) (fun i12 A28 sA28 e_i12 => ?_)
    have preA28 := preA27.trans sA28
    refine ⟨1, rfl, .int pq.2, rfl, (by show 1 ≤ sizeLine; decide), fun a14 na14 => ?_⟩
    generalize hhA29 : upd A28 a14 _ = A29
    obtain ⟨sA29, e_a14⟩ := eqU hhA29 na14
    have preA29 := preA28.trans sA29
    refine ⟨a14, 50, _, rfl, rfl, SqT.of e_a14, (by simp), (by decide), (by decide), (by show 1 ≤ 1000; decide), (fun e => absurd e (by decide)), fun _ i14 ni14 => ?_⟩
    generalize hhA30 : upd A29 i14 _ = A30
    obtain ⟨sA30, e_i14⟩ := eqU hhA30 ni14
    have preA30 := preA29.trans sA30
    rw [rep_flat] at e_i14
    refine ⟨(by show 7 ≤ sizeLine; decide), fun l2 nl2 => ?_⟩
    generalize hhA31 : upd A30 l2 _ = A31
    obtain ⟨sA31, e_l2⟩ := eqU hhA31 nl2
    have preA31 := preA30.trans sA31
    refine ⟨o2, l2, _, _, rfl, rfl, SqL.of ((Same.trans (Same.trans (Same.trans (Same.trans (Same.trans (Same.trans (Same.trans (Same.trans (Same.trans (Same.trans (Same.trans (Same.trans (Same.trans (Same.trans sA17 sA18) sA19) sA20) sA21) sA22) sA23) sA24) sA25) sA26) sA27) sA28) sA29) sA30) sA31) _ _ e_o2), SqL.of e_l2, (by simp only [List.length_append, List.length_cons, List.length_nil]; rw [sizeLine_eq]; omega), fun o3 no3 => ?_⟩
    generalize hhA32 : upd A31 o3 _ = A32
    obtain ⟨sA32, e_o3⟩ := eqU hhA32 no3
    have preA32 := preA31.trans sA32
    have pN : Same H1 A32 := preA32
    have W0 : Well A32 l := let ⟨x, y, z, e⟩ := S1.well; ⟨x, y, z, pN _ _ e⟩
    have mk : ∀ {p : Addr} {zs : List V}, A32 p = some (.tup zs) → zs.length ≤ 90 → (∀ y ∈ zs, BV l A32 y) → BI l A32 (.ref p) := fun {p zs} e hl hy => .inr ⟨p, zs, rfl, well_ne W0 e, .inl e, hl, hy⟩
    have hb13 : BV l A32 (.ref b13) := .inr ⟨b13, rfl, (fun ee => by obtain ⟨x, y, z, w'⟩ := S1.well; have w2 := preA25 _ _ w'; rw [ee, w2] at nb13; cases nb13), ((Same.trans (Same.trans (Same.trans (Same.trans (Same.trans sA27 sA28) sA29) sA30) sA31) sA32) _ _ e_b13)⟩
    have hB : ∀ y ∈ ns.map V.int, BV l A32 y := fun y hy => .inl (hbf y hy)
    have I_i1 : BI l A32 (.ref i1) := mk ((Same.trans (Same.trans (Same.trans (Same.trans (Same.trans (Same.trans (Same.trans (Same.trans (Same.trans (Same.trans (Same.trans (Same.trans (Same.trans (Same.trans (Same.trans (Same.trans (Same.trans (Same.trans (Same.trans (Same.trans (Same.trans (Same.trans (Same.trans (Same.trans (Same.trans (Same.trans (Same.trans (Same.trans (Same.trans sA3 sA4) sA5) sA6) sA7) sA8) sA9) sA10) sA11) sA12) sA13) sA14) sA15) sA16) sA17) sA18) sA19) sA20) sA21) sA22) sA23) sA24) sA25) sA26) sA27) sA28) sA29) sA30) sA31) sA32) _ _ e_i1) (by simp only [List.length_append, List.length_cons, List.length_nil, List.length_map, List.length_reverse, List.length_replicate]; first | omega | decide) (bv_app hB (bv_one (.inl (BF.int (by omega) (by omega)))))
    have I_i2 : BI l A32 (.ref i2) := mk ((Same.trans (Same.trans (Same.trans (Same.trans (Same.trans (Same.trans (Same.trans (Same.trans (Same.trans (Same.trans (Same.trans (Same.trans (Same.trans (Same.trans (Same.trans (Same.trans (Same.trans (Same.trans (Same.trans (Same.trans (Same.trans (Same.trans (Same.trans (Same.trans (Same.trans (Same.trans (Same.trans sA5 sA6) sA7) sA8) sA9) sA10) sA11) sA12) sA13) sA14) sA15) sA16) sA17) sA18) sA19) sA20) sA21) sA22) sA23) sA24) sA25) sA26) sA27) sA28) sA29) sA30) sA31) sA32) _ _ e_i2) (by simp only [List.length_append, List.length_cons, List.length_nil, List.length_map, List.length_reverse, List.length_replicate]; first | omega | decide) (bv_app hB (bv_one (.inl (BF.int (by decide) (by decide)))))
    have I_i3 : BI l A32 (.ref i3) := mk ((Same.trans (Same.trans (Same.trans (Same.trans (Same.trans (Same.trans (Same.trans (Same.trans (Same.trans (Same.trans (Same.trans (Same.trans (Same.trans (Same.trans (Same.trans (Same.trans (Same.trans (Same.trans (Same.trans (Same.trans (Same.trans (Same.trans (Same.trans (Same.trans (Same.trans sA7 sA8) sA9) sA10) sA11) sA12) sA13) sA14) sA15) sA16) sA17) sA18) sA19) sA20) sA21) sA22) sA23) sA24) sA25) sA26) sA27) sA28) sA29) sA30) sA31) sA32) _ _ e_i3) (by simp only [List.length_append, List.length_cons, List.length_nil, List.length_map, List.length_reverse, List.length_replicate]; first | omega | decide) (bv_app hB (bv_one (.inl (.inr (.inl ⟨_, rfl⟩)))))
    have I_i4 : BI l A32 (.ref i4) := mk ((Same.trans (Same.trans (Same.trans (Same.trans (Same.trans (Same.trans (Same.trans (Same.trans (Same.trans (Same.trans (Same.trans (Same.trans (Same.trans (Same.trans (Same.trans (Same.trans (Same.trans (Same.trans (Same.trans (Same.trans (Same.trans sA11 sA12) sA13) sA14) sA15) sA16) sA17) sA18) sA19) sA20) sA21) sA22) sA23) sA24) sA25) sA26) sA27) sA28) sA29) sA30) sA31) sA32) _ _ e_i4) (by simp only [List.length_append, List.length_cons, List.length_nil, List.length_map, List.length_reverse, List.length_replicate]; first | omega | decide) (bv_app (bv_app (bv_one (.inl (BF.int (by omega) (by omega)))) hB) (bv_one (.inl (BF.int (by decide) (by decide)))))
    have I_i7 : BI l A32 (.ref i7) := mk ((Same.trans (Same.trans (Same.trans (Same.trans (Same.trans (Same.trans (Same.trans (Same.trans (Same.trans (Same.trans (Same.trans (Same.trans (Same.trans (Same.trans (Same.trans (Same.trans (Same.trans sA15 sA16) sA17) sA18) sA19) sA20) sA21) sA22) sA23) sA24) sA25) sA26) sA27) sA28) sA29) sA30) sA31) sA32) _ _ e_i7) (by simp only [List.length_append, List.length_cons, List.length_nil, List.length_map, List.length_reverse, List.length_replicate]; first | omega | decide) (bv_app hB (bv_one (.inl (.inr (.inr (.inr rfl))))))
    have I_i8 : BI l A32 (.ref i8) := mk ((Same.trans (Same.trans (Same.trans (Same.trans (Same.trans (Same.trans (Same.trans (Same.trans (Same.trans (Same.trans (Same.trans (Same.trans (Same.trans sA19 sA20) sA21) sA22) sA23) sA24) sA25) sA26) sA27) sA28) sA29) sA30) sA31) sA32) _ _ e_i8) (by simp only [List.length_append, List.length_cons, List.length_nil, List.length_map, List.length_reverse, List.length_replicate]; first | omega | decide) (bv_rep (.inl (BF.int (by decide) (by decide))))
    have I_i9 : BI l A32 (.ref i9) := mk ((Same.trans (Same.trans (Same.trans (Same.trans (Same.trans (Same.trans (Same.trans (Same.trans (Same.trans (Same.trans sA22 sA23) sA24) sA25) sA26) sA27) sA28) sA29) sA30) sA31) sA32) _ _ e_i9) (by simp only [List.length_append, List.length_cons, List.length_nil, List.length_map, List.length_reverse, List.length_replicate]; first | omega | decide) (bv_app hB (bv_rep (.inl (BF.int (by omega) (by omega)))))
    have I_i10 : BI l A32 (.ref i10) := mk ((Same.trans (Same.trans (Same.trans (Same.trans (Same.trans (Same.trans (Same.trans (Same.trans (Same.trans sA23 sA24) sA25) sA26) sA27) sA28) sA29) sA30) sA31) sA32) _ _ e_i10) (by simp only [List.length_append, List.length_cons, List.length_nil, List.length_map, List.length_reverse, List.length_replicate]; first | omega | decide) (bv_one (.inl (.inr (.inr (.inl rfl)))))
    have I_i11 : BI l A32 (.ref i11) := mk ((Same.trans (Same.trans (Same.trans (Same.trans (Same.trans (Same.trans sA26 sA27) sA28) sA29) sA30) sA31) sA32) _ _ e_i11) (by simp only [List.length_append, List.length_cons, List.length_nil, List.length_map, List.length_reverse, List.length_replicate]; first | omega | decide) (bv_app (bv_rev hB) (bv_one (.inl (BF.int (by decide) (by decide)))))
    have I_i12 : BI l A32 (.ref i12) := mk ((Same.trans (Same.trans (Same.trans sA29 sA30) sA31) sA32) _ _ e_i12) (by simp only [List.length_append, List.length_cons, List.length_nil, List.length_map, List.length_reverse, List.length_replicate]; first | omega | decide) (bv_app hB (bv_one hb13))
    have I_i14 : BI l A32 (.ref i14) := mk ((Same.trans sA31 sA32) _ _ e_i14) (by simp only [List.length_append, List.length_cons, List.length_nil, List.length_map, List.length_reverse, List.length_replicate]; first | omega | decide) (bv_rep (.inl (BF.int (by omega) (by omega))))
    have I_i5 : BI l A32 (.ref i5) := .inr ⟨i5, _, rfl, (fun ee => by obtain ⟨x, y, z, w'⟩ := S1.well; have w2 := preA10 _ _ w'; rw [ee, w2] at ni5; cases ni5), .inr ((Same.trans (Same.trans (Same.trans (Same.trans (Same.trans (Same.trans (Same.trans (Same.trans (Same.trans (Same.trans (Same.trans (Same.trans (Same.trans (Same.trans (Same.trans (Same.trans (Same.trans (Same.trans (Same.trans (Same.trans sA12 sA13) sA14) sA15) sA16) sA17) sA18) sA19) sA20) sA21) sA22) sA23) sA24) sA25) sA26) sA27) sA28) sA29) sA30) sA31) sA32) _ _ e_i5), (by rw [List.length_map]; omega), hB⟩
    have IF : ∀ {x : V}, BF x → BI l A32 x := fun h => .inl h
    have hall : ∀ x ∈ (([.ref i1, .ref i2, .ref i3, .ref i4, .ref i5, .non] ++ [.ref i7] ++ [.ref i8, .ref i9, .ref i10, .ref i11, .ref i12, .int (-1), .ref i14] : List V)), BI l A32 x := by
      intro x hx
      simp only [List.mem_append, List.mem_cons, List.not_mem_nil, or_false] at hx
      rcases hx with ((rfl | rfl | rfl | rfl | rfl | rfl) | rfl) | (rfl | rfl | rfl | rfl | rfl | rfl | rfl)
      all_goals first | assumption | exact .inl (.inr (.inr (.inl rfl))) | exact .inl (BF.int (by decide) (by decide))
    clear I_i1 I_i2 I_i3 I_i4 I_i5 I_i7 I_i8 I_i9 I_i10 I_i11 I_i12 I_i14
    have eo3 := e_o3
    have HN := pN
    refine ⟨.ref t, rfl, .int k, rfl, k, rfl, ?_⟩
    have et9 := pN _ _ et1
    refine slA_of et9 fun u1 G1 sg1 eu1 => ?_
    rw [cut_to (by omega)] at eu1
    have pG1 := pN.trans sg1
    refine ⟨.ref o3, rfl, .ref l, rfl, l, 14, rfl, (let ⟨x, y, z, e⟩ := S1.well; ⟨x, y, z, pG1 _ _ e⟩), by decide, by decide, fun n14 G2 m0 m1 Sd => ?_⟩
    have o3l : o3 ≠ l := (fun ee => by obtain ⟨x, y, z, w'⟩ := S1.well; have w2 := preA31 _ _ w'; rw [ee, w2] at no3; cases no3)
    have eo3G := Sd.but _ _ (sg1 _ _ eo3) o3l
    obtain ⟨v, hv, Iv⟩ := pickAll2 (R := fun x => BI l A32 x) hall m0 (by simpa using m1)
    refine ⟨o3, _, n14, v, rfl, rfl, SqL.of eo3G, hv, ?_⟩
    refine ⟨(by show 1 ≤ sizeLine; decide), fun u2 nu2 => ?_⟩
    generalize hg3 : upd G2 u2 _ = G3
    obtain ⟨sg3, eu2⟩ := eqU hg3 nu2
    have SG2 : St1 l H1 G2 := ⟨fun b o z n => Sd.but b o (pG1 _ _ z) n, Sd.well⟩
    have u1l : u1 ≠ l := well_ne (let ⟨x, y, z, e⟩ := S1.well; ⟨x, y, z, pG1 _ _ e⟩) eu1
    refine catA_of (sg3 _ _ (Sd.but _ _ eu1 u1l)) eu2 (by simp only [List.length_cons, List.length_nil, List.length_take]; omega) (fun u3 G4 sg4 eu3 => ?_)
    have et4 := sg4 _ _ (sg3 _ _ (SG2.but _ _ et1 ntl))
    refine ⟨.ref t, rfl, .int k, rfl, k, 1, rfl, rfl, _, rfl, ?_⟩
    refine slA_fromP (lo := some ((k : Int) + 1)) et4 fun u4 G5 sg5 eu4 => ?_
    rw [show (k : Int) + 1 = ((k + 1 : Nat) : Int) by omega, cut_from (by omega)] at eu4
    refine catA_of (sg5 _ _ eu3) eu4 (by simp only [List.length_append, List.length_cons, List.length_nil, List.length_take, List.length_drop]; omega) (fun u5 G6 sg6 eu5 => ?_)
    have SG6 : St1 l H1 G6 := ((SG2.same sg3).same sg4).same (sg5.trans sg6)
    have kA : Keeps l A32 G6 := (Keeps.same sg1).trans ((Keeps.st1 Sd).trans (Keeps.same (sg3.trans (sg4.trans (sg5.trans sg6)))))
    have u5l : u5 ≠ l := well_ne SG6.well eu5
    have hys : ∀ y ∈ ys, BI l G6 y := fun y hy => by
      obtain ⟨i, hi⟩ := List.mem_iff_getElem?.mp hy
      obtain ⟨ms, ems, c2, rfl, ec2⟩ := rows_get ra hi
      obtain ⟨ml, mrg⟩ := hrow ms (List.mem_of_getElem? ems)
      have nc2 : c2 ≠ l := well_ne hw ec2
      refine .inr ⟨c2, _, rfl, nc2, .inl (SG6.but _ _ (S1.but _ _ ec2 nc2) nc2), (by rw [List.length_map]; omega), fun z hz => .inl ?_⟩
      obtain ⟨n, hn, rfl⟩ := List.mem_map.mp hz
      have := mrg n hn
      exact BF.int (by omega) (by omega)
    refine q G6 u5 _ (S1.trans SG6) u5l eu5 ⟨u5, _, rfl, u5l, .inl eu5, (by simp only [List.length_append, List.length_cons, List.length_nil, List.length_take, List.length_drop]; omega), fun y hy => ?_⟩
    rcases List.mem_append.mp hy with hy | hy
    · rcases List.mem_append.mp hy with hy | hy
      · exact hys y (List.mem_of_mem_take hy)
      · rw [List.mem_singleton.mp hy]
        exact Iv.keep kA
    · exact hys y (List.mem_of_mem_drop hy)
end
end K03
set_option Elab.async false
set_option linter.all false
set_option maxRecDepth 100000
set_option maxHeartbeats 4000000
namespace K03
open PySem PySem.Spec PyProof.Rows L2 XV SL LamX
theorem K7.keepN {H H' : Hp} {x : V} {t : String} (h : K7 H x t) (k : ExtN H H') : K7 H' x t := by
  cases h with
  | int i => exact .int i
  | bl b => exact .bl b
  | non => exact .non
  | str z => exact .str z
  | lst e => exact .lst (k _ _ e fun q z => by cases z)
  | tup e => exact .tup (k _ _ e fun q z => by cases z)
  | dict e => exact .dict (k _ _ e fun q z => by cases z)
theorem Ty.keepN {H H' : Hp} {x : V} (h : Ty H x) (k : ExtN H H') : Ty H' x := let ⟨t, z⟩ := h; ⟨t, K7.keepN z k⟩
theorem Ty.plain {H : Hp} {a : Addr} (h : Ty H (.ref a)) : ∃ o, H a = some o ∧ ∀ q, o ≠ .tbl q := by
  obtain ⟨t, z⟩ := h
  cases z with
  | lst e => exact ⟨_, e, fun q z => by cases z⟩
  | tup e => exact ⟨_, e, fun q z => by cases z⟩
  | dict e => exact ⟨_, e, fun q z => by cases z⟩
theorem TyI.keepN {H H' : Hp} {x : V} (h : TyI H x) (k : ExtN H H') : TyI H' x := by
  refine ⟨Ty.keepN h.1 k, fun a xs ex e y hy => ?_⟩
  subst ex
  obtain ⟨o, eo, n⟩ := Ty.plain h.1
  have z := k _ _ eo n
  rw [e] at z
  have z2 := Option.some.inj z
  subst z2
  exact Ty.keepN (h.2 a xs rfl eo y hy) k
theorem scB_keepN {H H' : Hp} {x : V} (h : Ty H x) (k : ExtN H H') : scB H' x = scB H x := by
  cases x with
  | ref a =>
    obtain ⟨o, e, n⟩ := Ty.plain h
    show (match H' a with | some (.tup [y, z]) => inB y 1 1000 && inB z 1 60 | _ => false) = (match H a with | some (.tup [y, z]) => inB y 1 1000 && inB z 1 60 | _ => false)
    rw [e, k _ _ e n]
  | _ => rfl
/-- what may be asked for a slab's classes -/
def Okc (H : Hp) (cls : V) : Prop := Ty H cls ∧ ∀ (a : Addr) (xs : List V), cls = .ref a → H a = some (.lst xs) → xs.length ≤ 1000 ∧ ∀ x ∈ xs, TyI H x
theorem Okc.keepN {H H' : Hp} {cls : V} (h : Okc H cls) (k : ExtN H H') : Okc H' cls := by
  refine ⟨Ty.keepN h.1 k, fun a xs ea e => ?_⟩
  subst ea
  obtain ⟨o, eo, n⟩ := Ty.plain h.1
  have z := k _ _ eo n
  rw [e] at z
  have z2 := Option.some.inj z
  subst z2
  obtain ⟨h1, h2⟩ := h.2 a xs rfl eo
  exact ⟨h1, fun x hx => TyI.keepN (h2 x hx) k⟩
theorem findIdx_congr {α : Type} {p q : α → Bool} : ∀ {xs : List α}, (∀ x ∈ xs, p x = q x) → xs.findIdx? p = xs.findIdx? q
  | [], _ => rfl
  | x :: xs, h => by
    rw [List.findIdx?_cons, List.findIdx?_cons, h x List.mem_cons_self, findIdx_congr fun y hy => h y (List.mem_cons_of_mem _ hy)]
theorem badI_keepN {H H' : Hp} {cls lim : V} (h : Okc H cls) (k : ExtN H H') : badI H' cls lim = badI H cls lim := by
  cases cls with
  | ref a =>
    obtain ⟨o, e, n⟩ := Ty.plain h.1
    have e' := k _ _ e n
    unfold badI
    simp only [e, e']
    cases o with
    | lst xs =>
      have z : badL H' xs = badL H xs := by
        unfold badL
        rw [findIdx_congr fun x hx => by rw [scB_keepN ((h.2 a xs rfl e).2 x hx).1 k]]
      simp only [z]
    | _ => rfl
  | _ => rfl
theorem init_any {C CS x dx : Addr} {H1 : Hp} {cls lim : V} {Q1 : Hp → Prop} {E : XK} (nx : H1 x = none) (ndx : H1 dx = none) (hc : Okc H1 cls) (hl : Ty H1 lim)
    (kE : ∀ i, badI H1 cls lim = some i → Rz CS "index" (.int i) H1 E)
    (kQ : badI H1 cls lim = none → ∀ (a : Addr) (xs : List V) (L : Int) (l : Addr) (H2 : Hp), cls = .ref a → lim = .int L → H1 a = some (.lst xs) → H1 l = none → l ≠ x → Same H1 H2 → SlabAt C H2 x l xs L → Q1 H2) :
    spInit C CS (.ref x :: ([cls, lim] ++ [])) (upd (upd H1 dx (.own x)) x (.ins C dx [])) (fun v H2 => v = .non ∧ Q1 H2) E := by
  have S0 : Same H1 (upd (upd H1 dx (.own x)) x (.ins C dx [])) := fun b o e => by
    rw [upd_ne (ne_of_none e nx), upd_ne (ne_of_none e ndx)]
    exact e
  have hc' := hc.keepN (ExtN.of S0)
  refine ⟨x, dx, cls, lim, rfl, upd_same, hc'.1, hl.keep S0, hc'.2, fun i e => (kE i (by rw [badI_keepN hc (ExtN.of S0)] at e; exact e)).keep S0, fun a xs L e ec el ea l H' nl hk sl => ⟨rfl, ?_⟩⟩
  rw [badI_keepN hc (ExtN.of S0)] at e
  have ea' : H1 a = some (.lst xs) := by
    subst ec
    obtain ⟨o, eo, _⟩ := Ty.plain hc.1
    have z := S0 _ _ eo
    rw [ea] at z
    rw [eo, ← z]
  refine kQ e a xs L l H' ec el ea' (S0.free nl) (fun z => ?_) (fun b o z => hk b o (S0 b o z) (ne_of_none z nx)) sl
  rw [z, upd_same] at nl
  cases nl
/-! ### what stands throughout -/
structure Ctx (C : Addr) (T : List (Addr × Str)) (l s p lp : Addr) (xs : List V) (ps : List (Int × Int)) (L : Int) (H0 H : Hp) : Prop where
  R : ∀ b o, H0 b = some o → b ≠ l → (∀ q, o ≠ .tbl q) → H b = some o
  W : Well H l
  ls : H s = some (.lst xs)
  pr : PairsAt H xs ps
  sl : SlabAt C H p lp xs L
  tb : Tabs T H
  n1 : s ≠ l
  n2 : lp ≠ l
theorem tabs_but {T : List (Addr × Str)} {l : Addr} {H H' : Hp} {ys : List V} (h : Tabs T H) (hl : H l = some (.lst ys)) (k : But l H H') : Tabs T H' := fun p hp => by
  obtain ⟨ps, h1, h2, h3⟩ := h p hp
  refine ⟨ps, k _ _ h1 (fun e => by rw [e, hl] at h1; cases h1), h2, fun pos cv hc => ?_⟩
  obtain ⟨c, e1, e2⟩ := h3 pos cv hc
  exact ⟨c, e1, k _ _ e2 (fun e => by rw [e, hl] at e2; cases e2)⟩
section
variable {C : Addr} {T : List (Addr × Str)} {l s p lp : Addr} {xs : List V} {ps : List (Int × Int)} {L : Int} {H0 H H' : Hp}
theorem PairsAt.keepN (k : ExtN H H') : ∀ {xs : List V} {ps : List (Int × Int)}, PairsAt H xs ps → PairsAt H' xs ps
  | _, _, .nil => .nil
  | _, _, .cons ⟨t, e, z⟩ r => .cons ⟨t, e, k _ _ z fun q y => by cases y⟩ (PairsAt.keepN k r)
theorem Ctx.ext (c : Ctx C T l s p lp xs ps L H0 H) (k : ExtN H H') (t : Tabs T H') : Ctx C T l s p lp xs ps L H0 H' where
  R := fun b o e n z => k _ _ (c.R b o e n z) z
  W := let ⟨x, y, z, e⟩ := c.W; ⟨x, y, z, k _ _ e fun q z => by cases z⟩
  ls := k _ _ c.ls fun q z => by cases z
  pr := PairsAt.keepN k c.pr
  sl := ⟨let ⟨dx, e⟩ := c.sl.ob; ⟨dx, k _ _ e fun q z => by cases z⟩, k _ _ c.sl.ls fun q z => by cases z⟩
  tb := t
  n1 := c.n1
  n2 := c.n2
theorem Ctx.same (c : Ctx C T l s p lp xs ps L H0 H) (k : Same H H') : Ctx C T l s p lp xs ps L H0 H' := c.ext (ExtN.of k) (c.tb.ext k)
theorem Ctx.st1 (c : Ctx C T l s p lp xs ps L H0 H) (k : St1 l H H') : Ctx C T l s p lp xs ps L H0 H' where
  R := fun b o e n z => k.but _ _ (c.R b o e n z) n
  W := k.well
  ls := k.but _ _ c.ls c.n1
  pr := PairsAt.keepB c.W k.but c.pr
  sl := ⟨let ⟨dx, e⟩ := c.sl.ob; ⟨dx, k.but _ _ e fun q => by
      obtain ⟨x, y, z, w⟩ := c.W
      rw [q, w] at e
      cases e⟩, k.but _ _ c.sl.ls c.n2⟩
  tb := let ⟨x, y, z, e⟩ := c.W; tabs_but c.tb e k.but
  n1 := c.n1
  n2 := c.n2
/-- a list of one's own is written -/
theorem Ctx.own (c : Ctx C T l s p lp xs ps L H0 H) {a : Addr} {ys : List V} (ha : H a = some (.lst ys)) (h0 : H0 a = none) (na : a ≠ l) (ns : a ≠ s) (np : a ≠ lp) (k : But a H H') : Ctx C T l s p lp xs ps L H0 H' where
  R := fun b o e n z => k _ _ (c.R b o e n z) fun q => by rw [q, h0] at e; cases e
  W := let ⟨x, y, z, e⟩ := c.W; ⟨x, y, z, k _ _ e na.symm⟩
  ls := k _ _ c.ls ns.symm
  pr := by
    have go : ∀ {zs : List V} {qs : List (Int × Int)}, PairsAt H zs qs → PairsAt H' zs qs := by
      intro zs qs h
      induction h with
      | nil => exact .nil
      | cons h _ ih =>
        obtain ⟨t, e, z⟩ := h
        exact .cons ⟨t, e, k _ _ z fun q => by rw [q, ha] at z; cases z⟩ ih
    exact go c.pr
  sl := ⟨let ⟨dx, e⟩ := c.sl.ob; ⟨dx, k _ _ e fun q => by rw [q, ha] at e; cases e⟩, k _ _ c.sl.ls np.symm⟩
  tb := tabs_but c.tb ha k
  n1 := c.n1
  n2 := c.n2
end
theorem pairs_tyI {H : Hp} : ∀ {xs : List V} {ps : List (Int × Int)}, PairsAt H xs ps → ∀ x ∈ xs, TyI H x
  | _, _, .nil, x, hx => absurd hx List.not_mem_nil
  | _, _, .cons ⟨t, e, z⟩ r, x, hx => by
    rcases List.mem_cons.mp hx with h | h
    · subst h
      subst e
      refine ⟨⟨_, .tup z⟩, fun a ys ea ez y hy => ?_⟩
      cases ea
      rw [z] at ez
      cases ez
      simp only [List.mem_cons, List.not_mem_nil, or_false] at hy
      rcases hy with rfl | rfl
      · exact ⟨_, .int _⟩
      · exact ⟨_, .int _⟩
    · exact pairs_tyI r x h
/-- good pairs: from 1 to 1000 and from 1 to 60 -/
def Good (ps : List (Int × Int)) : Prop := ∀ q ∈ ps, (1 ≤ q.1 ∧ q.1 ≤ 1000) ∧ 1 ≤ q.2 ∧ q.2 ≤ 60
theorem pairs_sc {H : Hp} : ∀ {xs : List V} {ps : List (Int × Int)}, PairsAt H xs ps → Good ps → ∀ x ∈ xs, scB H x = true
  | _, _, .nil, _, x, hx => absurd hx List.not_mem_nil
  | _, q :: ps, .cons ⟨t, e, z⟩ r, g, x, hx => by
    rcases List.mem_cons.mp hx with h | h
    · subst h
      subst e
      obtain ⟨⟨h1, h2⟩, h3, h4⟩ := g q List.mem_cons_self
      show (match H t with | some (.tup [y, z]) => inB y 1 1000 && inB z 1 60 | _ => false) = true
      rw [z]
      show ((decide (1 ≤ q.1) && decide (q.1 ≤ 1000)) && (decide (1 ≤ q.2) && decide (q.2 ≤ 60))) = true
      simp [h1, h2, h3, h4]
    · exact pairs_sc r (fun y hy => g y (List.mem_cons_of_mem _ hy)) x h
theorem good_bad {H : Hp} {a : Addr} {xs : List V} {ps : List (Int × Int)} {L : Int} (ha : H a = some (.lst xs)) (pr : PairsAt H xs ps) (g : Good ps) (h1 : 1 ≤ ps.length) (h6 : ps.length ≤ 6) (l0 : 0 ≤ L) (l1 : L ≤ 1000000) : badI H (.ref a) (.int L) = none := by
  have e : xs.length = ps.length := Paired.length pr
  have n1 : (decide (1 ≤ xs.length) && decide (xs.length ≤ 6)) = true := by
    rw [e]
    simp [h1, h6]
  have n2 : inB (.int L) 0 1000000 = true := by
    show (decide (0 ≤ L) && decide (L ≤ 1000000)) = true
    simp [l0, l1]
  have n3 : badL H xs = none := badL_none fun i y hy => pairs_sc pr g y (List.mem_of_getElem? hy)
  show (match H a with | some (.lst xs) => if (decide (1 ≤ xs.length) && decide (xs.length ≤ 6)) = true then (if inB (.int L) 0 1000000 = true then badL H xs else some (-1)) else some (-1) | _ => some (-1)) = none
  rw [ha]
  show (if (decide (1 ≤ xs.length) && decide (xs.length ≤ 6)) = true then (if inB (.int L) 0 1000000 = true then badL H xs else some (-1)) else some (-1)) = none
  rw [if_pos n1, if_pos n2, n3]
theorem okc_pairs {H : Hp} {a : Addr} {xs : List V} {ps : List (Int × Int)} (ha : H a = some (.lst xs)) (pr : PairsAt H xs ps) (h6 : ps.length ≤ 1000) : Okc H (.ref a) :=
  ⟨⟨_, .lst ha⟩, fun b ys eb ez => by
    cases eb
    rw [ha] at ez
    cases ez
    exact ⟨by rw [Paired.length pr]; exact h6, pairs_tyI pr⟩⟩
/-- Slab(a, M) of good pairs -/
theorem make_ok {C CS x dx a : Addr} {H1 : Hp} {xs : List V} {ps : List (Int × Int)} {M : Int} {Q1 : Hp → Prop} {E : XK} (nx : H1 x = none) (ndx : H1 dx = none) (ha : H1 a = some (.lst xs)) (pr : PairsAt H1 xs ps) (g : Good ps) (h1 : 1 ≤ ps.length) (h6 : ps.length ≤ 6) (l0 : 0 ≤ M) (l1 : M ≤ 1000000)
    (kQ : ∀ (l : Addr) (H2 : Hp), H1 l = none → l ≠ x → Same H1 H2 → SlabAt C H2 x l xs M → Q1 H2) :
    spInit C CS (.ref x :: ([.ref a, .int M] ++ [])) (upd (upd H1 dx (.own x)) x (.ins C dx [])) (fun v H2 => v = .non ∧ Q1 H2) E := by
  refine init_any nx ndx (okc_pairs ha pr (by omega)) ⟨_, .int M⟩ (fun i e => by rw [good_bad ha pr g h1 h6 l0 l1] at e; cases e) (fun _ a' xs' L' lp H4 ea eL exs nlp nlpp t4 sl => ?_)
  cases ea
  cases eL
  rw [ha] at exs
  cases exs
  exact kQ lp H4 nlp nlpp t4 sl
theorem eq_slab {K : PySem.W.Frag} {mg : Str → Option Value} {C p l p' l' : Addr} {H : Hp} {xs xs' : List V} {ps ps' : List (Int × Int)} {L L' : Int} {neg : Bool} {Q : VK} (T : SlabC K mg C) (s1 : SlabAt C H p l xs L) (pr : PairsAt H xs ps) (hn : ps.length ≤ 1000) (s2 : SlabAt C H p' l' xs' L') (pr' : PairsAt H xs' ps') (hn' : ps'.length ≤ 1000)
    (b : Bool) (hb : ((decide (ps = ps') && decide (L = L')) ^^ neg) = b) (q : Q (.bl b) H) : rEqI K C (spEqS C) neg (.ref p) (.ref p') H Q := by
  obtain ⟨dx, ob⟩ := s1.ob
  obtain ⟨dx', ob'⟩ := s2.ob
  exact ⟨p, dx, _, .ref C, rfl, ob, T.ty ob', T.fC, p, l, xs, ps, L, .ref p', rfl, s1, pr, hn, .inr ⟨p', l', xs', ps', L', rfl, s2, pr', hn', _, rfl, by rw [hb]; exact q⟩⟩
theorem eq_tupS {K : PySem.W.Frag} {mg : Str → Option Value} {C p l t : Addr} {H : Hp} {xs zs : List V} {ps : List (Int × Int)} {L : Int} {neg : Bool} {Q : VK} (T : SlabC K mg C) (s1 : SlabAt C H p l xs L) (pr : PairsAt H xs ps) (hn : ps.length ≤ 1000) (et : H t = some (.tup zs))
    (b : Bool) (hb : (false ^^ neg) = b) (q : Q (.bl b) H) : rEqI K C (spEqS C) neg (.ref p) (.ref t) H Q := by
  obtain ⟨dx, ob⟩ := s1.ob
  exact ⟨p, dx, _, .type "tuple", rfl, ob, (K7.tup et).ty, T.fT, p, l, xs, ps, L, .ref t, rfl, s1, pr, hn, .inl ⟨t, zs, rfl, et, _, rfl, by rw [hb]; exact q⟩⟩
/-- a list written that holds none of the pairs -/
theorem pairs_put {H : Hp} {D : Addr} {ys zs : List V} (e : H D = some (.lst ys)) : ∀ {xs : List V} {ps : List (Int × Int)}, PairsAt H xs ps → PairsAt (upd H D (.lst zs)) xs ps
  | _, _, .nil => .nil
  | _, _, .cons ⟨t, ex, z⟩ r => .cons ⟨t, ex, by rw [upd_ne (fun y => by rw [y, e] at z; cases z)]; exact z⟩ (pairs_put e r)
theorem cut_take {xs : List V} {i : Nat} (h : i ≤ xs.length) : cutV xs none (some (i : Int)) = xs.take i := by
  unfold cutV
  rw [HT.sIx_none, HT.sIx_nat]
  simp only [List.drop_zero, Nat.sub_zero]
  congr 1
  omega
theorem cut_drop {xs : List V} {i : Nat} {k : Int} (e : k = (i : Int)) (h : i ≤ xs.length) : cutV xs (some k) none = xs.drop i := by
  subst e
  unfold cutV
  rw [HT.sIx_none, HT.sIx_nat]
  have e : min i xs.length = i := by omega
  rw [e, List.take_of_length_le (by rw [List.length_drop]; exact Nat.le_refl _)]
theorem pairs_take {H : Hp} : ∀ {xs : List V} {ps : List (Int × Int)} (i : Nat), PairsAt H xs ps → PairsAt H (xs.take i) (ps.take i)
  | _, _, _, .nil => by simpa using Paired.nil
  | _, _, 0, _ => .nil
  | _, _, i + 1, .cons h r => .cons h (pairs_take i r)
theorem pairs_drop {H : Hp} : ∀ {xs : List V} {ps : List (Int × Int)} (i : Nat), PairsAt H xs ps → PairsAt H (xs.drop i) (ps.drop i)
  | _, _, _, .nil => by simpa using Paired.nil
  | _, _, 0, h => h
  | _, _, i + 1, .cons _ r => pairs_drop i r
theorem pairs_app {H : Hp} : ∀ {xs : List V} {ps : List (Int × Int)} {ys : List V} {qs : List (Int × Int)}, PairsAt H xs ps → PairsAt H ys qs → PairsAt H (xs ++ ys) (ps ++ qs)
  | _, _, _, _, .nil, h => h
  | _, _, _, _, .cons h r, z => .cons h (pairs_app r z)
theorem pairs_rev {H : Hp} : ∀ {xs : List V} {ps : List (Int × Int)}, PairsAt H xs ps → PairsAt H xs.reverse ps.reverse
  | _, _, .nil => .nil
  | _, _, .cons h r => by
    rw [List.reverse_cons, List.reverse_cons]
    exact pairs_app (pairs_rev r) (.cons h .nil)
theorem put_ne {ps : List (Int × Int)} {i : Nat} {q r : Int × Int} (e : ps[i]? = some q) (n : r ≠ q) : ps ≠ ps.take i ++ [r] ++ ps.drop (i + 1) := fun z => by
  have hi : i < ps.length := (List.getElem?_eq_some_iff.mp e).1
  have h : (ps.take i ++ [r] ++ ps.drop (i + 1))[i]? = some r := by
    rw [List.append_assoc, List.getElem?_append_right (by rw [List.length_take]; omega)]
    have : i - (ps.take i).length = 0 := by rw [List.length_take]; omega
    rw [this]
    rfl
  rw [← z, e] at h
  exact n (Option.some.inj h).symm
theorem put_good {ps : List (Int × Int)} {i : Nat} {r : Int × Int} (g : Good ps) (hr : (1 ≤ r.1 ∧ r.1 ≤ 1000) ∧ 1 ≤ r.2 ∧ r.2 ≤ 60) : Good (ps.take i ++ [r] ++ ps.drop (i + 1)) := fun q hq => by
  rcases List.mem_append.mp hq with h | h
  · rcases List.mem_append.mp h with h | h
    · exact g q (List.mem_of_mem_take h)
    · rw [List.mem_singleton.mp h]
      exact hr
  · exact g q (List.mem_of_mem_drop h)
theorem put_len {ps : List (Int × Int)} {i : Nat} {r : Int × Int} (hi : i < ps.length) : (ps.take i ++ [r] ++ ps.drop (i + 1)).length = ps.length := by
  simp only [List.length_append, List.length_take, List.length_drop, List.length_cons, List.length_nil]
  omega
/-- two ways meet -/
theorem meet {G : Prop} {R : Hp → Prop} (C : Hp → Prop) (h : (∀ HM, R HM → C HM) → G) (h2 : ∀ HM, R HM → C HM) : G := h h2
end K03
set_option Elab.async false
set_option linter.all false
set_option maxRecDepth 100000
set_option maxHeartbeats 8000000
namespace K03
open PySem PySem.Spec PyProof.Rows L2 XV SL LamX
/-- what the two classes of errors tell the clauses -/
structure Two (K : PySem.W.Frag) (mg : Str → Option Value) (CS CN : Addr) : Prop where
  gS : mg "NoTable" = some (.ref CS)
  gN : mg "NoPins" = some (.ref CN)
  ss : PySem.W.exmOne K (.ref CS) (.ref CS) = some true
  ns : PySem.W.exmOne K (.ref CN) (.ref CS) = some false
  nn : PySem.W.exmOne K (.ref CN) (.ref CN) = some true
  fS : XfC K CS
  fN : XfC K CN
  nS : PySem.W.findIn K (.ref CS) "index" = some none
  nN : PySem.W.findIn K (.ref CN) "pins" = some none
/-- what leaves is told -/
def Told (CS CN : Addr) (Q : VK) : XK := fun cls d H' =>
  (∃ (v : V) (dd : Addr), cls = .ref CS ∧ d = some dd ∧ H' dd = some (.xd [("index", v)]) ∧ ∀ p H'', H' p = none → Same H' H'' → H'' p = some (.tup [.str "table", v]) → Q (.ref p) H'') ∨
    ∃ (v : V) (dd : Addr), cls = .ref CN ∧ d = some dd ∧ H' dd = some (.xd [("pins", v)]) ∧ ∀ p H'', H' p = none → Same H' H'' → H'' p = some (.tup [.str "pins", v]) → Q (.ref p) H''
def TRz (CS CN : Addr) : (XK → Hp → VK → Prop) → Hp → VK → Prop := fun tl H Q => tl (Told CS CN Q) H (fun _ H' => Q .non H')
theorem raised_gives {X : Cx} {g : Addr} {cdg : Value} {q : Str} {CS CN : Addr} (T : Two X.K X.mg CS CN) :
    GivesToS X ["_law_ask", "_law_found", "e"] "_law_raised" (defScope s__law_raised) g cdg (defBody s__law_raised) "_law_ask" q (TRz CS CN) := by
  intro f c' s H Q tl act hc h
  refine ⟨_, pss_cons (ps_set (i := 1) sc__law_raised.nd rfl (Or.inl rfl) pe_non) (pss_cons (ps_try_manyAs (i := 2) (n := "e")
      (tb := fun W D σ H => ∃ Ech : XK, (∀ cls d H', Ech cls d H' → W cls d σ H') ∧ σ[0]? = some (some (.ref f)) ∧ H c' = some (CodeO c' q) ∧ tl Ech H (fun _ H1 => D.nx σ H1)) (Wout := fun _ _ _ _ => False)
      rfl rfl sc__law_raised.nd rfl rfl L2.takes0 (fun W pn xe tk _ => ?_)
      (.cons (c := .ref CS) ⟨rfl, rfl, .inl T.gS⟩ (fun a oe cls d pn hz hf => pss_one (ps_set (i := 1) sc__law_raised.nd rfl (Or.inl rfl) (pe_tup (pa_cons pe_str (pa_cons (L2.pe_xf T.fS T.nS hz hf (pv 2)) pa_nil)))))
        (.cons (c := .ref CN) ⟨rfl, rfl, .inl T.gN⟩ (fun a oe cls d pn hz hf => pss_one (ps_set (i := 1) sc__law_raised.nd rfl (Or.inl rfl) (pe_tup (pa_cons pe_str (pa_cons (L2.pe_xf T.fN T.nN hz hf (pv 2)) pa_nil))))) .nil)))
      (pss_one (ps_ret (pv 1)))), ?_⟩
  · refine ⟨fun pins s' σ H' D I h' => ?_⟩
    obtain ⟨Ech, hW, h1, h2, h3⟩ := h'
    exact (pss_one (ps_expr (act W pn xe (fun _ => Ech) _ _ tk))).run pins s' σ H' D I ⟨h1, h2, hW, h3⟩
  · refine ⟨Told CS CN Q, fun cls d H' ht => ?_, rfl, hc, ?_⟩
    · rcases ht with ⟨v, dd, rfl, rfl, e, k⟩ | ⟨v, dd, rfl, rfl, e, k⟩
      · refine ⟨true, T.ss, fun _ a na => ?_, fun z => Bool.noConfusion z⟩
        refine ⟨.ref a, rfl, rfl, rfl, dd, _, v, rfl, e, rfl, (by show 2 ≤ sizeLine; decide), fun p np => ?_⟩
        exact ⟨_, rfl, k p _ np (same_upd np) upd_same⟩
      · refine ⟨false, T.ns, fun z => Bool.noConfusion z, fun _ => ⟨true, T.nn, fun _ a na => ?_, fun z => Bool.noConfusion z⟩⟩
        refine ⟨.ref a, rfl, rfl, rfl, dd, _, v, rfl, e, rfl, (by show 2 ≤ sizeLine; decide), fun p np => ?_⟩
        exact ⟨_, rfl, k p _ np (same_upd np) upd_same⟩
    · have e : (fun (_ : V) (H1 : Hp) => ∃ v, ([some (.ref f), some .non, none] : L2.St)[1]? = some (some v) ∧ Q v H1) = fun _ H' => Q .non H' := by
        funext _ H1
        exact propext ⟨fun ⟨v, ev, z⟩ => by cases ev; exact z, fun z => ⟨_, rfl, z⟩⟩
      show tl (Told CS CN Q) H (fun (_ : V) (H1 : Hp) => ∃ v, ([some (.ref f), some .non, none] : L2.St)[1]? = some (some v) ∧ Q v H1)
      rw [e]
      exact h

/-- all but the tables of code objects -/
theorem TyT.keepN {H H' : Hp} {t : V} (h : TyT H t) (k : ExtN H H') : TyT H' t := by
  refine ⟨Ty.keepN h.1 k, fun a xs et e => ?_⟩
  subst et
  obtain ⟨o, eo, n⟩ := Ty.plain h.1
  have z := k _ _ eo n
  rw [e] at z
  have z2 := Option.some.inj z
  subst z2
  obtain ⟨h1, h2⟩ := h.2 a xs rfl eo
  exact ⟨h1, fun x hx => TyI.keepN (h2 x hx) k⟩
theorem cntB_keepN {H H' : Hp} {hi : Int} {x : V} (h : Ty H x) (k : ExtN H H') : cntB H' hi x = cntB H hi x := by
  cases x with
  | ref c =>
    obtain ⟨o, e, n⟩ := Ty.plain h
    show (match H' c with | some (.tup ys) => asc hi 1 ys | _ => false) = (match H c with | some (.tup ys) => asc hi 1 ys | _ => false)
    rw [e, k _ _ e n]
  | _ => rfl
theorem cntI_keepN {H H' : Hp} {x : V} (h : Ty H x) (k : ExtN H H') : cntI H' x = cntI H x := by
  cases x with
  | ref c =>
    obtain ⟨o, e, n⟩ := Ty.plain h
    show (match H' c with | some (.tup ys) => ys.map iV | _ => []) = (match H c with | some (.tup ys) => ys.map iV | _ => [])
    rw [e, k _ _ e n]
  | _ => rfl
theorem badT_keepN {H H' : Hp} {ps : List (Int × Int)} {L : Int} {t : V} (h : TyT H t) (k : ExtN H H') : badT H' ps L t = badT H ps L t := by
  cases t with
  | ref a =>
    obtain ⟨o, e, n⟩ := Ty.plain h.1
    by_cases ht : ∃ xs, o = .tup xs
    · obtain ⟨xs, rfl⟩ := ht
      obtain ⟨_, hI⟩ := h.2 a xs rfl e
      rw [badT_tup e, badT_tup (k _ _ e n)]
      have e1 : firstBad H' xs ps = firstBad H xs ps := by
        unfold firstBad
        exact findIdx_congr2 fun q hq => by rw [cntB_keepN (hI q.1 (List.of_mem_zip hq).1).1 k]
      have e2 : xs.map (cntI H') = xs.map (cntI H) := List.map_congr_left fun x hx => cntI_keepN (hI x hx).1 k
      rw [e1, e2]
    · rw [badT_no (H := H) (t := .ref a) (fun b xs eb ez => by cases eb; rw [e] at ez; cases ez; exact ht ⟨_, rfl⟩), badT_no (H := H') (t := .ref a) (fun b xs eb ez => by cases eb; rw [k _ _ e n] at ez; cases ez; exact ht ⟨_, rfl⟩)]
  | _ => rfl
theorem SlabAt.keepN {C : Addr} {H H' : Hp} {p l : Addr} {xs : List V} {L : Int} (h : SlabAt C H p l xs L) (k : ExtN H H') : SlabAt C H' p l xs L :=
  ⟨let ⟨dx, e⟩ := h.ob; ⟨dx, k _ _ e fun q z => by cases z⟩, k _ _ h.ls fun q z => by cases z⟩
/-- a slab, and what is no table of it -/
structure Asked (C : Addr) (H : Hp) (p l : Addr) (xc : List V) (ps : List (Int × Int)) (L : Int) (t : V) (i : Int) : Prop where
  sl : SlabAt C H p l xc L
  pr : PairsAt H xc ps
  sz : SzOk ps
  L0 : 0 ≤ L
  tt : TyT H t
  hb : badT H ps L t = some i
theorem Asked.ext {C : Addr} {H H' : Hp} {p l : Addr} {xc : List V} {ps : List (Int × Int)} {L : Int} {t : V} {i : Int} (a : Asked C H p l xc ps L t i) (k : ExtN H H') : Asked C H' p l xc ps L t i :=
  ⟨SlabAt.keepN a.sl k, PairsAt.keepN k a.pr, a.sz, a.L0, TyT.keepN a.tt k, by rw [badT_keepN a.tt k]; exact a.hb⟩
theorem Asked.only {C : Addr} {H : Hp} {p l : Addr} {xc : List V} {ps : List (Int × Int)} {L : Int} {t : V} {i j : Int} (a : Asked C H p l xc ps L t i) (h : badT H ps L t = some j) : j = i := by
  rw [a.hb] at h
  exact (Option.some.inj h).symm
theorem Asked.not {C : Addr} {H : Hp} {p l : Addr} {xc : List V} {ps : List (Int × Int)} {L : Int} {t : V} {i : Int} (a : Asked C H p l xc ps L t i) {rows : List (List Int)} (h1 : TabAt H t rows) (h2 : TabOk ps L rows) : False := by
  have := a.hb
  rw [badT_ok h1 h2] at this
  cases this
/-- the list of what the doors raised so far -/
structure DS (T : List (Addr × Str)) (H Hk : Hp) (fd : Addr) (zs : List V) (i : Int) (n : Nat) : Prop where
  x : ExtN H Hk
  tb : Tabs T Hk
  ls : Hk fd = some (.lst zs)
  it : ∀ z ∈ zs, ∃ a, z = .ref a ∧ Hk a = some (.tup [.str "table", .int i])
  f0 : ∀ o, H fd = some o → (∀ q, o ≠ .tbl q) → False
  n : zs.length = n
theorem DS.step {T : List (Addr × Str)} {H Hk HL HR HT HF : Hp} {fd pt : Addr} {zs : List V} {i : Int} {n : Nat} (s : DS T H Hk fd zs i n) (xL : ExtN Hk HL) (TL : Tabs T HL) (tr : Same HL HR) (tt : Same HR HT) (ept : HT pt = some (.tup [.str "table", .int i])) (hF : upd HT fd (.lst (zs ++ [.ref pt])) = HF) : DS T H HF fd (zs ++ [.ref pt]) i (n + 1) := by
  obtain ⟨bF, eF⟩ := eqL hF
  have lT : HT fd = some (.lst zs) := tt _ _ (tr _ _ (xL _ _ s.ls fun q z => by cases z))
  refine ⟨fun b o z nt => bF b o (tt _ _ (tr _ _ (xL _ _ (s.x _ _ z nt) nt))) (fun e => by subst e; exact s.f0 o z nt), tabs_but ((TL.ext tr).ext tt) lT bF, eF, fun z hz => ?_, s.f0, by rw [List.length_append, s.n]; rfl⟩
  rcases List.mem_append.mp hz with hz | hz
  · obtain ⟨a, rfl, e⟩ := s.it z hz
    refine ⟨a, rfl, bF _ _ (tt _ _ (tr _ _ (xL _ _ e fun q z => by cases z))) fun ea => ?_⟩
    rw [ea, s.ls] at e
    cases e
  · refine ⟨pt, List.mem_singleton.mp hz, bF _ _ ept fun ea => ?_⟩
    rw [ea, lT] at ept
    cases ept
structure AD where
  C : Addr
  CS : Addr
  CT : Addr
  CP : Addr
  fI : Addr
  dI : FuncData
  fC : Addr
  dC : FuncData
  fV : Addr
  dV : FuncData
  fP : Addr
  dP : FuncData
  fS : Addr
  dS : FuncData
  fY : Addr
  dY : FuncData
  fO : Addr
  dO : FuncData
  fK : Addr
  dK : FuncData
  fH : Addr
  dH : FuncData
  fd : Addr
  dd : FuncData
  fs : Addr
  ds : FuncData
  ft : Addr
  dt : FuncData
  fb : Addr
  db : FuncData
  fn : Addr
  dn : FuncData
  gO : List Value → List Value → List Value
  gK : List Value → List Value → List Value
  gH : List Value → List Value → List Value
  fR : Addr
structure RF (P : Program) (w : World) (K : PySem.W.Frag) (mg : Str → Option Value) (base : Heap) (A : AD) : Prop where
  B : Bi mg
  b_range : mg "range" = none
  b_min : mg "min" = none
  b_repr : mg "repr" = none
  b_sorted : mg "sorted" = none
  SC : SlabC K mg A.C
  MK : Mk K A.C A.fI
  GI : FnOk P w K mg base (L2.CX P w) 4 A.fI A.dI ["self", "classes", "limit"] (spInit A.C A.CS)
  bI : Binds K A.dI ["self", "classes", "limit"] []
  T2 : Two K mg A.CT A.CP
  GC : FnOk P w K mg base (L2N.CX P w) 6 A.fC A.dC ["slab", "table"] (spCheck A.C A.CT)
  mC : mg "check_table" = some (.ref A.fC)
  kC : PySem.W.keepIn K (.ref A.fC) = true
  bC : Binds K A.dC ["slab", "table"] []
  GV : FnOk P w K mg base (L2N.CX P w) 7 A.fV A.dV ["slab", "table"] (spTab A.C A.CT gLive)
  mV : mg "live" = some (.ref A.fV)
  kV : PySem.W.keepIn K (.ref A.fV) = true
  bV : Binds K A.dV ["slab", "table"] []
  GP : FnOk P w K mg base (L2N.CX P w) 7 A.fP A.dP ["slab", "table"] (spTab A.C A.CT gPages)
  mP : mg "pages" = some (.ref A.fP)
  kP : PySem.W.keepIn K (.ref A.fP) = true
  bP : Binds K A.dP ["slab", "table"] []
  GS : FnOk P w K mg base (L2N.CX P w) 8 A.fS A.dS ["slab", "table"] (spNoT A.C A.CT 0)
  mS : mg "steps" = some (.ref A.fS)
  kS : PySem.W.keepIn K (.ref A.fS) = true
  bS : Binds K A.dS ["slab", "table"] []
  GY : FnOk P w K mg base (L2N.CX P w) 8 A.fY A.dY ["slab", "table", "row"] (spNoT A.C A.CT 1)
  mY : mg "played" = some (.ref A.fY)
  kY : PySem.W.keepIn K (.ref A.fY) = true
  bY : Binds K A.dY ["slab", "table", "row"] []
  GO : FnOk P w K mg base (L2.CX P w) 9 A.fO A.dO ["slab", "table", "pins"] (spOrd A.C A.CT A.CP 0)
  mO : mg "order_of" = some (.ref A.fO)
  kO : PySem.W.keepIn K (.ref A.fO) = true
  KO : KBn K A.dO ["slab", "table", "pins"] 2 ["pins"] A.gO (fun vs zs => vs ++ zs)
  GK : FnOk P w K mg base (L2.CX P w) 9 A.fK A.dK ["slab", "table", "answer", "pins"] (spOrd A.C A.CT A.CP 1)
  mK : mg "check_order" = some (.ref A.fK)
  kK : PySem.W.keepIn K (.ref A.fK) = true
  KK : KBn K A.dK ["slab", "table", "answer", "pins"] 3 ["pins"] A.gK (fun vs zs => vs ++ zs)
  GH : FnOk P w K mg base (L2.CX P w) 10 A.fH A.dH ["slab", "table", "pins"] (spOrd A.C A.CT A.CP 0)
  mH : mg "schedule" = some (.ref A.fH)
  kH : PySem.W.keepIn K (.ref A.fH) = true
  KH : KBn K A.dH ["slab", "table", "pins"] 2 ["pins"] A.gH (fun vs zs => vs ++ zs)
  Gd : FnOk P w K mg base CX0 1 A.fd A.dd ["_law_well", "_law_many"] spDraw
  md : mg "_law_draw" = some (.ref A.fd)
  kd : PySem.W.keepIn K (.ref A.fd) = true
  bd : Binds K A.dd ["_law_well", "_law_many"] []
  Gs : FnOk P w K mg base CX0 2 A.fs A.ds ["_law_well"] spSlab
  ms : mg "_law_slab" = some (.ref A.fs)
  ks : PySem.W.keepIn K (.ref A.fs) = true
  bs : Binds K A.ds ["_law_well"] []
  Gt : FnOk P w K mg base CX0 2 A.ft A.dt ["_law_well", "_law_sorts", "_law_most"] spTable
  mt : mg "_law_table" = some (.ref A.ft)
  kt : PySem.W.keepIn K (.ref A.ft) = true
  bt : Binds K A.dt ["_law_well", "_law_sorts", "_law_most"] []
  Gb : FnOk P w K mg base CX0 2 A.fb A.db ["_law_sorts", "_law_most", "_law_table_here"] spBad
  mb : mg "_law_bad" = some (.ref A.fb)
  kb : PySem.W.keepIn K (.ref A.fb) = true
  bb : Binds K A.db ["_law_sorts", "_law_most", "_law_table_here"] []
  Gn : FnOk P w K mg base CX0 2 A.fn A.dn ["_law_well", "_law_table_here", "_law_sorts"] spBent
  mn : mg "_law_bent" = some (.ref A.fn)
  kn : PySem.W.keepIn K (.ref A.fn) = true
  bn : Binds K A.dn ["_law_well", "_law_table_here", "_law_sorts"] []
  mR : mg "_law_raised" = some (.ref A.fR)
  kR : PySem.W.keepIn K (.ref A.fR) = true
  lR : ∃ (oc : Value) (od : Option Addr) (kV doc pm : Value) (an : Option Addr) (cdv ct : Value) (osl : Array (Option Value)), K.lookup A.fR = some ⟨oc, od, .func (PySem.W.fnOf "_law_raised" "_law_raised" (defArgs s__law_raised) (defBody s__law_raised) (defScope s__law_raised) .none kV doc pm an cdv ct), osl⟩ ∧
    PySem.W.codeIn K cdv "_law_raised" = true
/-- what a door raises: the list of what all eight raised -/
def spDoors (C : Addr) (T : List (Addr × Str)) : Sp := fun vs H Q _ => ∃ (p l : Addr) (xc : List V) (ps : List (Int × Int)) (L : Int) (t : V) (i : Int), vs = [.ref p, t] ∧ Asked C H p l xc ps L t i ∧ Tabs T H ∧
  ∀ (fd : Addr) (H' : Hp) (zs : List V), ExtN H H' → Tabs T H' → (∀ o, H fd = some o → (∀ q, o ≠ .tbl q) → False) → H' fd = some (.lst zs) → (∀ z ∈ zs, ∃ a, z = .ref a ∧ H' a = some (.tup [.str "table", .int i])) → zs.length = 8 → Q (.ref fd) H'
theorem free_ext {H HT : Hp} {p : Addr} (x : ExtN H HT) (n : HT p = none) : ∀ o, H p = some o → (∀ q, o ≠ .tbl q) → False := fun o z nt => by
  have := x _ _ z nt
  rw [n] at this
  cases this
section
variable {P : Program} {w : World} {K : PySem.W.Frag} {mg : Str → Option Value} {base : Heap}
theorem ok_doors {A : AD} {T : List (Addr × Str)} {f c PT : Addr} {oc : Value} {od an : Option Addr} {kV doc pm ct : Value} {osl : Array (Option Value)} (R : RF P w K mg base A)
    (lk : K.lookup f = some ⟨oc, od, .func (PySem.W.fnOf "_law_doors" "_law_doors" (defArgs s__law_doors) (defBody s__law_doors) (defScope s__law_doors) .none kV doc pm an (.ref c) ct), osl⟩) (hcd : PySem.W.codeIn K (.ref c) "_law_doors" = true)
    (TB : TabB base mg c PT) (hmT : (PT, (("_law_doors" : Str) ++ (".<locals>." : Str)) ++ ("<lambda>" : Str)) ∈ T) (huT : ∀ p ∈ T, p.1 = PT → p.2 = (("_law_doors" : Str) ++ (".<locals>." : Str)) ++ ("<lambda>" : Str)) :
    FnOk P w K mg base CX0 14 f (PySem.W.fnOf "_law_doors" "_law_doors" (defArgs s__law_doors) (defBody s__law_doors) (defScope s__law_doors) .none kV doc pm an (.ref c) ct) ["_law_slab_here", "_law_one"] (spDoors A.C T) := by
  have B := R.B
  obtain ⟨ocR, odR, kVR, docR, pmR, anR, cdvR, ctR, oslR, lkR, hcR⟩ := R.lR
  have bR : Binds K (PySem.W.fnOf "_law_raised" "_law_raised" (defArgs s__law_raised) (defBody s__law_raised) (defScope s__law_raised) .none kVR docR pmR anR cdvR ctR) ["_law_ask"] [] := Binds.all fun us hl => match us, hl with | [_], _ => rfl
  refine fn_of lk hcd sc__law_doors (fun vs H Q E h => ?_) (fun Ar outer s H vs Q E hr h => ?_)
  · obtain ⟨p, l, xc, ps, L, t, i, rfl, _⟩ := h
    rfl
  · obtain ⟨p, l, xc, ps, L, t, i, rfl, aT, hT, q⟩ := h
    have X0 : ∀ {u : TS}, PSs (cxOf CX0 P w K mg base ["_law_slab_here", "_law_one", "_law_found"] "_law_doors" (defScope s__law_doors) f (.ref c) Ar outer s H E).nox (defBody s__law_doors) u → u { nx := fun _ H' => Q .non H', rt := Q } (L2.start ["_law_slab_here", "_law_one", "_law_found"] [.ref p, t]) H →
      ∃ u, PSs (cxOf CX0 P w K mg base ["_law_slab_here", "_law_one", "_law_found"] "_law_doors" (defScope s__law_doors) f (.ref c) Ar outer s H E) (defBody s__law_doors) u ∧ u { nx := fun _ H' => Q .non H', rt := Q } (L2.start ["_law_slab_here", "_law_one", "_law_found"] [.ref p, t]) H := fun a b => ⟨_, a.nox, b⟩
    refine X0 ((pss_cons (ps_set (i := 2) sc__law_doors.nd rfl (Or.inl rfl) (pe_lst (pa_cons (pe_lamcallS (T := T) (k := 11) rfl R.mR R.kR lkR hcR bR sc__law_raised rfl (Or.inl rfl) (raised_gives R.T2) TB rfl hmT huT (hr.mono (by decide)) (lamS_by (sc := defScope s__law_doors) (by decide +kernel)) rfl (fun _ _ _ _ _ => rfl) (fun A outer s H E f c' hr2 => (pe_call R.GC.weakN (hr2.mono (by decide)) rfl R.mC R.kC R.bC .nil (passes_call (takes_of rfl rfl rfl rfl) (fun _ _ _ _ h => h)) (pa_cons (pv 0) (pa_cons (pv 1) pa_nil))))) pa_nil)))
      (pss_cons (ps_expr (pe_bm PySem.F.plainAttrs_list PySem.F.slot_list_append PySem.F.type_list_append mt_append (pv 2) (pa_cons (pe_lamcallS (T := T) (k := 11) rfl R.mR R.kR lkR hcR bR sc__law_raised rfl (Or.inl rfl) (raised_gives R.T2) TB rfl hmT huT (hr.mono (by decide)) (lamS_by (sc := defScope s__law_doors) (by decide +kernel)) rfl (fun _ _ _ _ _ => rfl) (fun A outer s H E f c' hr2 => (pe_call R.GV.weakN (hr2.mono (by decide)) rfl R.mV R.kV R.bV .nil (passes_call (takes_of rfl rfl rfl rfl) (fun _ _ _ _ h => h)) (pa_cons (pv 0) (pa_cons (pv 1) pa_nil))))) pa_nil)))
      (pss_cons (ps_expr (pe_bm PySem.F.plainAttrs_list PySem.F.slot_list_append PySem.F.type_list_append mt_append (pv 2) (pa_cons (pe_lamcallS (T := T) (k := 11) rfl R.mR R.kR lkR hcR bR sc__law_raised rfl (Or.inl rfl) (raised_gives R.T2) TB rfl hmT huT (hr.mono (by decide)) (lamS_by (sc := defScope s__law_doors) (by decide +kernel)) rfl (fun _ _ _ _ _ => rfl) (fun A outer s H E f c' hr2 => (pe_call R.GP.weakN (hr2.mono (by decide)) rfl R.mP R.kP R.bP .nil (passes_call (takes_of rfl rfl rfl rfl) (fun _ _ _ _ h => h)) (pa_cons (pv 0) (pa_cons (pv 1) pa_nil))))) pa_nil)))
      (pss_cons (ps_expr (pe_bm PySem.F.plainAttrs_list PySem.F.slot_list_append PySem.F.type_list_append mt_append (pv 2) (pa_cons (pe_lamcallS (T := T) (k := 11) rfl R.mR R.kR lkR hcR bR sc__law_raised rfl (Or.inl rfl) (raised_gives R.T2) TB rfl hmT huT (hr.mono (by decide)) (lamS_by (sc := defScope s__law_doors) (by decide +kernel)) rfl (fun _ _ _ _ _ => rfl) (fun A outer s H E f c' hr2 => (pe_call R.GS.weakN (hr2.mono (by decide)) rfl R.mS R.kS R.bS .nil (passes_call (takes_of rfl rfl rfl rfl) (fun _ _ _ _ h => h)) (pa_cons (pv 0) (pa_cons (pv 1) pa_nil))))) pa_nil)))
      (pss_cons (ps_expr (pe_bm PySem.F.plainAttrs_list PySem.F.slot_list_append PySem.F.type_list_append mt_append (pv 2) (pa_cons (pe_lamcallS (T := T) (k := 11) rfl R.mR R.kR lkR hcR bR sc__law_raised rfl (Or.inl rfl) (raised_gives R.T2) TB rfl hmT huT (hr.mono (by decide)) (lamS_by (sc := defScope s__law_doors) (by decide +kernel)) rfl (fun _ _ _ _ _ => rfl) (fun A outer s H E f c' hr2 => (pe_call R.GY.weakN (hr2.mono (by decide)) rfl R.mY R.kY R.bY .nil (passes_call (takes_of rfl rfl rfl rfl) (fun _ _ _ _ h => h)) (pa_cons (pv 0) (pa_cons (pv 1) (pa_cons pe_non pa_nil)))))) pa_nil)))
      (pss_cons (ps_expr (pe_bm PySem.F.plainAttrs_list PySem.F.slot_list_append PySem.F.type_list_append mt_append (pv 2) (pa_cons (pe_lamcallS (T := T) (k := 11) rfl R.mR R.kR lkR hcR bR sc__law_raised rfl (Or.inl rfl) (raised_gives R.T2) TB rfl hmT huT (hr.mono (by decide)) (lamS_by (sc := defScope s__law_doors) (by decide +kernel)) rfl (fun _ _ _ _ _ => rfl) (fun A outer s H E f c' hr2 => (pe_callN R.GO (hr2.mono (by decide)) rfl R.mO R.kO R.KO (passes_call (takes_of rfl rfl rfl rfl) (fun _ _ _ _ h => h)) (pa_cons (pv 0) (pa_cons (pv 1) pa_nil)) (pk_cons pe_str pk_nil)))) pa_nil)))
      (pss_cons (ps_expr (pe_bm PySem.F.plainAttrs_list PySem.F.slot_list_append PySem.F.type_list_append mt_append (pv 2) (pa_cons (pe_lamcallS (T := T) (k := 11) rfl R.mR R.kR lkR hcR bR sc__law_raised rfl (Or.inl rfl) (raised_gives R.T2) TB rfl hmT huT (hr.mono (by decide)) (lamS_by (sc := defScope s__law_doors) (by decide +kernel)) rfl (fun _ _ _ _ _ => rfl) (fun A outer s H E f c' hr2 => (pe_callN R.GK (hr2.mono (by decide)) rfl R.mK R.kK R.KK (passes_call (takes_of rfl rfl rfl rfl) (fun _ _ _ _ h => h)) (pa_cons (pv 0) (pa_cons (pv 1) (pa_cons pe_non pa_nil))) (pk_cons pe_str pk_nil)))) pa_nil)))
      (pss_cons (ps_expr (pe_bm PySem.F.plainAttrs_list PySem.F.slot_list_append PySem.F.type_list_append mt_append (pv 2) (pa_cons (pe_lamcallS (T := T) (k := 11) rfl R.mR R.kR lkR hcR bR sc__law_raised rfl (Or.inl rfl) (raised_gives R.T2) TB rfl hmT huT (hr.mono (by decide)) (lamS_by (sc := defScope s__law_doors) (by decide +kernel)) rfl (fun _ _ _ _ _ => rfl) (fun A outer s H E f c' hr2 => (pe_callN R.GH (hr2.mono (by decide)) rfl R.mH R.kH R.KH (passes_call (takes_of rfl rfl rfl rfl) (fun _ _ _ _ h => h)) (pa_cons (pv 0) (pa_cons (pv 1) pa_nil)) (pk_cons pe_str pk_nil)))) pa_nil)))
      (pss_one (ps_ret (pv 2)))))))))))) ?_
    refine ⟨hT, fun HL xL TL => ?_⟩
    have aL := aT.ext ((ExtN.refl _).trans xL)
    refine ⟨.ref p, rfl, t, rfl, p, l, xc, ps, L, t, rfl, aL.sl, aL.pr, aL.sz, aL.tt, fun i' hb' d HR nd tr ed => .inl ⟨.int i', d, rfl, rfl, ed, fun pt HT npt tt ept => ?_⟩, fun hb' => ?_⟩
    rotate_left
    · rw [aL.hb] at hb'
      cases hb'
    cases aL.only hb'
    refine ⟨(by show 1 ≤ sizeLine; decide), fun fd nfd => ?_⟩
    generalize hF1 : upd HT fd _ = D1
    obtain ⟨tF, eF⟩ := eqU hF1 nfd
    have S1 : DS T H D1 fd [.ref pt] i 1 := ⟨xL.trans (ExtN.of (tr.trans (tt.trans tF))), ((TL.ext tr).ext tt).ext tF, eF, fun z hz => ⟨pt, List.mem_singleton.mp hz, tF _ _ ept⟩, free_ext (xL.trans (ExtN.of (tr.trans tt))) nfd, rfl⟩
    generalize hz1 : [V.ref pt] = zs1 at S1
    clear aL TL xL tr tt ept ed nd npt
    refine ⟨.ref fd, rfl, .inl ⟨rfl, _, SqL.of S1.ls⟩, S1.tb, fun HL xL TL => ?_⟩
    have aL := aT.ext (S1.x.trans xL)
    refine ⟨.ref p, rfl, t, rfl, p, l, xc, ps, L, t, rfl, aL.sl, aL.pr, aL.sz, aL.tt, fun i' hb' d HR nd tr ed => .inl ⟨.int i', d, rfl, rfl, ed, fun pt HT npt tt ept => ?_⟩, fun rows ta ok => (aL.not ta ok).elim⟩
    cases aL.only hb'
    refine ⟨fd, zs1, _, rfl, rfl, tt _ _ (tr _ _ (xL _ _ S1.ls fun q z => by cases z)), small1000 (by have := S1.n; omega), ?_⟩
    generalize hF2 : upd HT fd _ = D2
    have S2 := S1.step xL TL tr tt ept hF2
    generalize hz2 : zs1 ++ [V.ref pt] = zs2 at S2
    clear aL TL xL tr tt ept ed nd npt
    refine ⟨.ref fd, rfl, .inl ⟨rfl, _, SqL.of S2.ls⟩, S2.tb, fun HL xL TL => ?_⟩
    have aL := aT.ext (S2.x.trans xL)
    refine ⟨.ref p, rfl, t, rfl, p, l, xc, ps, L, t, rfl, aL.sl, aL.pr, aL.sz, aL.tt, fun i' hb' d HR nd tr ed => .inl ⟨.int i', d, rfl, rfl, ed, fun pt HT npt tt ept => ?_⟩, fun rows ta ok => (aL.not ta ok).elim⟩
    cases aL.only hb'
    refine ⟨fd, zs2, _, rfl, rfl, tt _ _ (tr _ _ (xL _ _ S2.ls fun q z => by cases z)), small1000 (by have := S2.n; omega), ?_⟩
    generalize hF3 : upd HT fd _ = D3
    have S3 := S2.step xL TL tr tt ept hF3
    generalize hz3 : zs2 ++ [V.ref pt] = zs3 at S3
    clear aL TL xL tr tt ept ed nd npt
    refine ⟨.ref fd, rfl, .inl ⟨rfl, _, SqL.of S3.ls⟩, S3.tb, fun HL xL TL => ?_⟩
    have aL := aT.ext (S3.x.trans xL)
    refine ⟨.ref p, rfl, t, rfl, p, l, xc, ps, L, t, [], i, rfl, rfl, aL.sl, aL.pr, aL.sz, aL.tt, aL.hb, fun d HR nd tr ed => .inl ⟨.int i, d, rfl, rfl, ed, fun pt HT npt tt ept => ?_⟩⟩
    refine ⟨fd, zs3, _, rfl, rfl, tt _ _ (tr _ _ (xL _ _ S3.ls fun q z => by cases z)), small1000 (by have := S3.n; omega), ?_⟩
    generalize hF4 : upd HT fd _ = D4
    have S4 := S3.step xL TL tr tt ept hF4
    generalize hz4 : zs3 ++ [V.ref pt] = zs4 at S4
    clear aL TL xL tr tt ept ed nd npt
    refine ⟨.ref fd, rfl, .inl ⟨rfl, _, SqL.of S4.ls⟩, S4.tb, fun HL xL TL => ?_⟩
    have aL := aT.ext (S4.x.trans xL)
    refine ⟨.ref p, rfl, t, rfl, p, l, xc, ps, L, t, [.non], i, rfl, rfl, aL.sl, aL.pr, aL.sz, aL.tt, aL.hb, fun d HR nd tr ed => .inl ⟨.int i, d, rfl, rfl, ed, fun pt HT npt tt ept => ?_⟩⟩
    refine ⟨fd, zs4, _, rfl, rfl, tt _ _ (tr _ _ (xL _ _ S4.ls fun q z => by cases z)), small1000 (by have := S4.n; omega), ?_⟩
    generalize hF5 : upd HT fd _ = D5
    have S5 := S4.step xL TL tr tt ept hF5
    generalize hz5 : zs4 ++ [V.ref pt] = zs5 at S5
    clear aL TL xL tr tt ept ed nd npt
    refine ⟨.ref fd, rfl, .inl ⟨rfl, _, SqL.of S5.ls⟩, S5.tb, fun HL xL TL => ?_⟩
    have aL := aT.ext (S5.x.trans xL)
    refine ⟨.ref p, rfl, t, rfl, rfl, rfl, p, l, xc, ps, L, t, .str "x", [], rfl, rfl, aL.sl, aL.pr, aL.sz, aL.L0, aL.tt, ⟨⟨_, .str _⟩, fun a xs e => nomatch e⟩, .inl ⟨i, aL.hb, fun d HR nd tr ed => .inl ⟨.int i, d, rfl, rfl, ed, fun pt HT npt tt ept => ?_⟩⟩⟩
    refine ⟨fd, zs5, _, rfl, rfl, tt _ _ (tr _ _ (xL _ _ S5.ls fun q z => by cases z)), small1000 (by have := S5.n; omega), ?_⟩
    generalize hF6 : upd HT fd _ = D6
    have S6 := S5.step xL TL tr tt ept hF6
    generalize hz6 : zs5 ++ [V.ref pt] = zs6 at S6
    clear aL TL xL tr tt ept ed nd npt
    refine ⟨.ref fd, rfl, .inl ⟨rfl, _, SqL.of S6.ls⟩, S6.tb, fun HL xL TL => ?_⟩
    have aL := aT.ext (S6.x.trans xL)
    refine ⟨.ref p, rfl, t, rfl, rfl, rfl, p, l, xc, ps, L, t, .str "x", [.non], rfl, rfl, aL.sl, aL.pr, aL.sz, aL.L0, aL.tt, ⟨⟨_, .str _⟩, fun a xs e => nomatch e⟩, .inl ⟨i, aL.hb, fun d HR nd tr ed => .inl ⟨.int i, d, rfl, rfl, ed, fun pt HT npt tt ept => ?_⟩⟩⟩
    refine ⟨fd, zs6, _, rfl, rfl, tt _ _ (tr _ _ (xL _ _ S6.ls fun q z => by cases z)), small1000 (by have := S6.n; omega), ?_⟩
    generalize hF7 : upd HT fd _ = D7
    have S7 := S6.step xL TL tr tt ept hF7
    generalize hz7 : zs6 ++ [V.ref pt] = zs7 at S7
    clear aL TL xL tr tt ept ed nd npt
    refine ⟨.ref fd, rfl, .inl ⟨rfl, _, SqL.of S7.ls⟩, S7.tb, fun HL xL TL => ?_⟩
    have aL := aT.ext (S7.x.trans xL)
    refine ⟨.ref p, rfl, t, rfl, rfl, rfl, p, l, xc, ps, L, t, .str "x", [], rfl, rfl, aL.sl, aL.pr, aL.sz, aL.L0, aL.tt, ⟨⟨_, .str _⟩, fun a xs e => nomatch e⟩, .inl ⟨i, aL.hb, fun d HR nd tr ed => .inl ⟨.int i, d, rfl, rfl, ed, fun pt HT npt tt ept => ?_⟩⟩⟩
    refine ⟨fd, zs7, _, rfl, rfl, tt _ _ (tr _ _ (xL _ _ S7.ls fun q z => by cases z)), small1000 (by have := S7.n; omega), ?_⟩
    generalize hF8 : upd HT fd _ = D8
    have S8 := S7.step xL TL tr tt ept hF8
    generalize hz8 : zs7 ++ [V.ref pt] = zs8 at S8
    clear aL TL xL tr tt ept ed nd npt
    exact ⟨.ref fd, rfl, q fd D8 zs8 S8.x S8.tb S8.f0 S8.ls S8.it S8.n⟩
end
end K03
set_option Elab.async false
set_option linter.all false
set_option maxRecDepth 100000
set_option maxHeartbeats 4000000
/-! tables as data -/
namespace SL
open PySem PySem.Spec PyProof.Rows L2 XV
def dTup (ns : List Int) : PyData := .tuple (dInts ns)
def dRows (rows : List (List Int)) : PyData := .tuple (rows.map dTup)
theorem dpTups {K : PySem.W.Frag} {H : Hp} : ∀ {xs : List V} {rows : List (List Int)}, RowsAt H xs rows → DpAll K H xs (rows.map dTup)
  | _, _, .nil => .nil
  | _, _, .cons ⟨c, e, z⟩ r => by
    subst e
    exact .cons (.tup (SqT.of z) (dpInts _)) (dpTups r)
theorem dpRows {K : PySem.W.Frag} {H : Hp} {t : V} {rows : List (List Int)} (h : TabAt H t rows) : Dp K H t (dRows rows) := by
  obtain ⟨a, xs, rfl, e, r⟩ := h
  exact .tup (SqT.of e) (dpTups r)
theorem dTups_lay : ∀ rows : List (List Int), PyData.canLayAll0 (rows.map dTup) = true
  | [] => by simp [PyData.canLayAll0]
  | ns :: rows => by
    have h := dTups_lay rows
    have h1 := dInts_lay ns
    simp [PyData.canLayAll0, dTup, PyData.canLay0, h, h1]
theorem dTups_depth : ∀ rows : List (List Int), PyData.depthAll (rows.map dTup) ≤ 1
  | [] => by simp [PyData.depthAll]
  | ns :: rows => by
    have h := dTups_depth rows
    have h1 := dInts_depth ns
    simp only [List.map_cons, PyData.depthAll, dTup, PyData.depth]
    omega
theorem dRows_shaped (rows : List (List Int)) : SeqAt.shaped (dRows rows) = true := by
  have h1 := dTups_depth rows
  have h2 : PyData.depth (dRows rows) ≤ 64 := by
    simp only [dRows, PyData.depth]
    omega
  show (PyData.canLay0 (dRows rows) && decide (PyData.depth (dRows rows) ≤ 64)) = true
  rw [Bool.and_eq_true]
  exact ⟨by simp only [dRows, PyData.canLay0]; exact dTups_lay rows, decide_eq_true h2⟩
theorem dTup_eqv (ns ms : List Int) : PyData.eqv (dTup ns) (dTup ms) = decide (ns = ms) := by
  have e : PyData.eqv (dTup ns) (dTup ms) = PyData.eqvAll (dInts ns) (dInts ms) := by simp only [dTup, PyData.eqv]
  rw [e, dInts_eqvAll]
theorem dTups_eqvAll : ∀ rs qs : List (List Int), PyData.eqvAll (rs.map dTup) (qs.map dTup) = decide (rs = qs)
  | [], [] => by simp [PyData.eqvAll]
  | [], _ :: _ => by simp [PyData.eqvAll]
  | _ :: _, [] => by simp [PyData.eqvAll]
  | p :: ps, q :: qs => by
    have h := dTups_eqvAll ps qs
    simp only [List.map_cons, PyData.eqvAll, dTup_eqv, h]
    by_cases h1 : p = q
    · by_cases h2 : ps = qs
      · subst h1 h2
        simp
      · simp [h1, h2]
    · simp [h1]
theorem dRows_eqv (rs qs : List (List Int)) : PyData.eqv (dRows rs) (dRows qs) = decide (rs = qs) := by
  have e : PyData.eqv (dRows rs) (dRows qs) = PyData.eqvAll (rs.map dTup) (qs.map dTup) := by simp only [dRows, PyData.eqv]
  rw [e, dTups_eqvAll]
end SL
set_option Elab.async false
set_option linter.all false
set_option maxRecDepth 100000
set_option maxHeartbeats 8000000
namespace K03
open PySem PySem.Spec PyProof.Rows L2 XV SL LamX
theorem hcB_more {ns ms : List Int} (h : ns.length < ms.length) : hcB ns ms = false := by
  unfold hcB
  rw [decide_eq_false (by omega), Bool.false_and]
theorem hcB_up {ns ms : List Int} {j : Nat} {a b : Int} (e : ms.length = ns.length) (ha : ns[j]? = some a) (hb : ms[j]? = some b) (h : a < b) : hcB ns ms = false := by
  unfold hcB
  rw [e, Nat.sub_self, List.drop_zero]
  cases c : ((ns.zip ms).map fun p => decide (p.2 ≤ p.1)).all id with
  | false => rw [Bool.and_false]
  | true =>
    exfalso
    have hz : (ns.zip ms)[j]? = some (a, b) := List.getElem?_zip_eq_some.mpr ⟨ha, hb⟩
    have z := List.all_eq_true.mp c _ (List.mem_map_of_mem (List.mem_of_getElem? hz))
    have z2 : decide (b ≤ a) = true := z
    rw [decide_eq_true_eq] at z2
    omega
theorem hpB_at {r1 r2 : List (List Int)} {k : Nat} {ns ms : List Int} (h1 : r1[k]? = some ns) (h2 : r2[k]? = some ms) (h : hcB ns ms = false) : hpB r1 r2 = false := by
  unfold hpB
  cases c : ((r1.zip r2).map fun p => hcB p.1 p.2).all id with
  | false => rfl
  | true =>
    exfalso
    have hz : (r1.zip r2)[k]? = some (ns, ms) := List.getElem?_zip_eq_some.mpr ⟨h1, h2⟩
    have z := List.all_eq_true.mp c _ (List.mem_map_of_mem (List.mem_of_getElem? hz))
    have z2 : hcB ns ms = true := z
    rw [h] at z2
    cases z2
def up1 (hi n : Int) : Int := if hi < n + 1 then hi else n + 1
theorem put_self {rows : List (List Int)} {k : Nat} {ns : List Int} (h : rows[k]? = some ns) : rows.take k ++ [ns] ++ rows.drop (k + 1) = rows := by
  obtain ⟨hk, e⟩ := List.getElem?_eq_some_iff.mp h
  rw [List.append_assoc]
  show rows.take k ++ ns :: rows.drop (k + 1) = rows
  rw [← e, ← List.drop_eq_getElem_cons hk, List.take_append_drop]
theorem put_at {rows : List (List Int)} {k : Nat} {ms : List Int} (hk : k < rows.length) : (rows.take k ++ [ms] ++ rows.drop (k + 1))[k]? = some ms := by
  have hl : (rows.take k).length = k := by rw [List.length_take]; omega
  rw [List.append_assoc, List.getElem?_append_right (by omega), hl, Nat.sub_self]
  rfl
/-- a later list of counts: one more, or each one up -/
def Later (hi : Int) (ns ls : List Int) : Prop := ls.length = ns.length + 1 ∨ ls = ns.map (up1 hi)
theorem later_lack {hi : Int} {rows : List (List Int)} {k : Nat} {ns ls ms : List Int} (hk : rows[k]? = some ns) (ha : Asc hi ns) (hl : Later hi ns ls) (hp : ms.Perm ls) (hs : ms.Pairwise (· ≤ ·)) (hne : rows.take k ++ [ms] ++ rows.drop (k + 1) ≠ rows) : hpB rows (rows.take k ++ [ms] ++ rows.drop (k + 1)) = false := by
  have hk' := (List.getElem?_eq_some_iff.mp hk).1
  refine hpB_at hk (put_at hk') ?_
  rcases hl with hl | hl
  · exact hcB_more (by rw [hp.length_eq, hl]; omega)
  · subst hl
    have mono : (ns.map (up1 hi)).Pairwise (· ≤ ·) := by
      rw [List.pairwise_map]
      refine ha.1.imp fun {a b} h => ?_
      unfold up1
      split <;> split <;> omega
    have e : ns.map (up1 hi) = ms := (sorted_eq hp hs).mpr mono
    by_cases c : ∀ n ∈ ns, up1 hi n = n
    · exfalso
      apply hne
      have e2 : ms = ns := by
        rw [← e]
        exact (List.map_congr_left c).trans (List.map_id'' (fun _ => rfl) ns)
      rw [e2]
      exact put_self hk
    · have c' : ∃ n, n ∈ ns ∧ up1 hi n ≠ n := by
        apply Classical.byContradiction
        intro h
        apply c
        intro n hn
        apply Classical.byContradiction
        intro h2
        exact h ⟨n, hn, h2⟩
      obtain ⟨n, hn, hd⟩ := c'
      obtain ⟨j, hj⟩ := List.mem_iff_getElem?.mp hn
      have r := ha.2 n hn
      refine hcB_up (j := j) (a := n) (b := up1 hi n) (by rw [← e, List.length_map]) hj (by rw [← e, List.getElem?_map, hj]; rfl) ?_
      unfold up1 at hd ⊢
      split at hd <;> split <;> omega
theorem repA_of {K : PySem.W.Frag} {H : Hp} {u : Addr} {x : V} {n : Nat} {Q : VK} (e : H u = some (.tup [x])) (h : n ≤ 1000) (k : ∀ p H1, Same H H1 → H1 p = some (.tup (List.replicate n x)) → Q (.ref p) H1) : rRepA K (.ref u) (.int (n : Int)) H Q := by
  refine ⟨u, n, [x], rfl, rfl, SqT.of e, by simp, by omega, by omega, (by show 1 ≤ 1000; decide), fun one => ?_, fun no p np => ?_⟩
  · have z : n = 1 := by omega
    refine k u H (Same.refl _) ?_
    rw [z]
    exact e
  · rw [rep_flat, Int.toNat_natCast]
    exact k p _ (same_upd np) upd_same
theorem rows_take {H : Hp} : ∀ {xs : List V} {rs : List (List Int)} (i : Nat), RowsAt H xs rs → RowsAt H (xs.take i) (rs.take i)
  | _, _, _, .nil => by simpa using Paired.nil
  | _, _, 0, _ => .nil
  | _, _, i + 1, .cons h r => .cons h (rows_take i r)
theorem rows_drop {H : Hp} : ∀ {xs : List V} {rs : List (List Int)} (i : Nat), RowsAt H xs rs → RowsAt H (xs.drop i) (rs.drop i)
  | _, _, _, .nil => by simpa using Paired.nil
  | _, _, 0, h => h
  | _, _, i + 1, .cons _ r => rows_drop i r
theorem rows_app {H : Hp} : ∀ {xs : List V} {rs : List (List Int)} {ys : List V} {qs : List (List Int)}, RowsAt H xs rs → RowsAt H ys qs → RowsAt H (xs ++ ys) (rs ++ qs)
  | _, _, _, _, .nil, h => h
  | _, _, _, _, .cons h r, z => .cons h (rows_app r z)
/-- pins that are none, or that the table doesn't have: whatever is made beside -/
def PinBad (C : Addr) (ps : List (Int × Int)) (L : Int) (t : V) (s0 : Addr) (H : Hp) (x : V) : Prop := (flatB x = true ∨ ∃ c, x = .ref c) ∧ ∀ H', Keeps s0 H H' → Lack ps L H' t x ∧ TyT H' x
theorem PinBad.keep {C : Addr} {ps : List (Int × Int)} {L : Int} {t : V} {s0 : Addr} {H H' : Hp} {x : V} (h : PinBad C ps L t s0 H x) (k : Keeps s0 H H') : PinBad C ps L t s0 H' x := ⟨h.1, fun H2 k2 => h.2 H2 (k.trans k2)⟩
theorem keeps_but {l : Addr} {H H' : Hp} (k : But l H H') : Keeps l H H' := fun b o z n _ => k b o z n
theorem rows_keeps {l : Addr} {H H' : Hp} (k : Keeps l H H') : ∀ {xs : List V} {rows : List (List Int)}, (∀ b, V.ref b ∈ xs → b ≠ l) → RowsAt H xs rows → RowsAt H' xs rows
  | _, _, _, .nil => .nil
  | _, _, n, .cons ⟨c, e, z⟩ r => .cons ⟨c, e, k _ _ z (n c (by rw [e]; exact List.mem_cons_self)) fun q y => by cases y⟩ (rows_keeps k (fun b hb => n b (List.mem_cons_of_mem _ hb)) r)
/-- the list of such pins as it grows -/
structure PS (C : Addr) (ps : List (Int × Int)) (L : Int) (t : V) (H Hk : Hp) (s0 : Addr) (zs : List V) : Prop where
  same : Same H Hk
  ls : Hk s0 = some (.lst zs)
  it : ∀ z ∈ zs, PinBad C ps L t s0 Hk z
theorem PS.step {C : Addr} {ps : List (Int × Int)} {L : Int} {t : V} {H Hk H' : Hp} {s0 : Addr} {zs : List V} (s : PS C ps L t H Hk s0 zs) (k : Same Hk H') : PS C ps L t H H' s0 zs := ⟨s.same.trans k, k _ _ s.ls, fun z hz => (s.it z hz).keep (Keeps.same k)⟩
theorem PS.put {C : Addr} {ps : List (Int × Int)} {L : Int} {t : V} {H Hk : Hp} {s0 : Addr} {zs : List V} {x : V} (s : PS C ps L t H Hk s0 zs) (f0 : H s0 = none) (hx : PinBad C ps L t s0 Hk x) : PS C ps L t H (upd Hk s0 (.lst (zs ++ [x]))) s0 (zs ++ [x]) := by
  have kb : But s0 Hk (upd Hk s0 (.lst (zs ++ [x]))) := fun b o z n => by rw [upd_ne n]; exact z
  refine ⟨fun b o z => kb b o (s.same b o z) (fun e => by rw [e, f0] at z; cases z), upd_same, fun z hz => ?_⟩
  rcases List.mem_append.mp hz with hz | hz
  · exact (s.it z hz).keep (keeps_but kb)
  · rw [List.mem_singleton.mp hz]
    exact hx.keep (keeps_but kb)
section
variable {P : Program} {w : World} {K : PySem.W.Frag} {mg : Str → Option Value} {base : Heap}
def spPR (C : Addr) (T : List (Addr × Str)) : Sp := fun vs H Q _ => ∃ (p lp s a : Addr) (xs ys : List V) (ps : List (Int × Int)) (L : Int) (rows : List (List Int)), vs = [.ref p, .ref s, .int L, .ref a] ∧ SlabAt C H p lp xs L ∧ PairsAt H xs ps ∧ SzOk ps ∧ 0 ≤ L ∧ H s = some (.lst xs) ∧ H a = some (.tup ys) ∧ RowsAt H ys rows ∧ TabOk ps L rows ∧ Tabs T H ∧
  ∀ H', ExtN H H' → Tabs T H' → Q (.bl true) H'
theorem ok_pins_right {A : AD} {T : List (Addr × Str)} {f c PT : Addr} {oc : Value} {od an : Option Addr} {kV doc pm ct : Value} {osl : Array (Option Value)} (R : RF P w K mg base A)
    (lk : K.lookup f = some ⟨oc, od, .func (PySem.W.fnOf "_law_pins_right" "_law_pins_right" (defArgs s__law_pins_right) (defBody s__law_pins_right) (defScope s__law_pins_right) .none kV doc pm an (.ref c) ct), osl⟩) (hcd : PySem.W.codeIn K (.ref c) "_law_pins_right" = true)
    (TB : TabB base mg c PT) (hmT : (PT, (("_law_pins_right" : Str) ++ (".<locals>." : Str)) ++ ("<lambda>" : Str)) ∈ T) (huT : ∀ p ∈ T, p.1 = PT → p.2 = (("_law_pins_right" : Str) ++ (".<locals>." : Str)) ++ ("<lambda>" : Str)) :
    FnOk P w K mg base CX0 14 f (PySem.W.fnOf "_law_pins_right" "_law_pins_right" (defArgs s__law_pins_right) (defBody s__law_pins_right) (defScope s__law_pins_right) .none kV doc pm an (.ref c) ct) ["_law_slab_here", "_law_sorts", "_law_most", "_law_table_here"] (spPR A.C T) := by
  have B := R.B
  obtain ⟨ocR, odR, kVR, docR, pmR, anR, cdvR, ctR, oslR, lkR, hcR⟩ := R.lR
  have bR : Binds K (PySem.W.fnOf "_law_raised" "_law_raised" (defArgs s__law_raised) (defBody s__law_raised) (defScope s__law_raised) .none kVR docR pmR anR cdvR ctR) ["_law_ask"] [] := Binds.all fun us hl => match us, hl with | [_], _ => rfl
  refine fn_of lk hcd sc__law_pins_right (fun vs H Q E h => ?_) (fun Ar outer s_ H vs Q E hr h => ?_)
  · obtain ⟨p, lp, s, a, xs, ys, ps, L, rows, rfl, _⟩ := h
    rfl
  · obtain ⟨p, lp, s, a, xs, ys, ps, L, rows, rfl, sl, pr, sz, hL, es, ea, ra, ok, hT, q⟩ := h
    have X0 : ∀ {u : TS}, PSs (cxOf CX0 P w K mg base ["_law_slab_here", "_law_sorts", "_law_most", "_law_table_here", "_law_some", "_law_number", "_law_counts", "_law_later", "_law_nails", "_law_count"] "_law_pins_right" (defScope s__law_pins_right) f (.ref c) Ar outer s_ H E).nox (defBody s__law_pins_right) u → u { nx := fun _ H' => Q .non H', rt := Q } (L2.start ["_law_slab_here", "_law_sorts", "_law_most", "_law_table_here", "_law_some", "_law_number", "_law_counts", "_law_later", "_law_nails", "_law_count"] [.ref p, .ref s, .int L, .ref a]) H →
      ∃ u, PSs (cxOf CX0 P w K mg base ["_law_slab_here", "_law_sorts", "_law_most", "_law_table_here", "_law_some", "_law_number", "_law_counts", "_law_later", "_law_nails", "_law_count"] "_law_pins_right" (defScope s__law_pins_right) f (.ref c) Ar outer s_ H E) (defBody s__law_pins_right) u ∧ u { nx := fun _ H' => Q .non H', rt := Q } (L2.start ["_law_slab_here", "_law_sorts", "_law_most", "_law_table_here", "_law_some", "_law_number", "_law_counts", "_law_later", "_law_nails", "_law_count"] [.ref p, .ref s, .int L, .ref a]) H := fun a b => ⟨_, a.nox, b⟩
    have exl := Paired.length pr
    have eyl := Paired.length ra
    have n1 := sz.n1
    have n6 := sz.n6
    have olen := ok.len
    refine X0 ((pss_cons (ps_set (i := 4) sc__law_pins_right.nd rfl (Or.inl rfl) (pe_lst (pa_cons pe_str (pa_cons pe_int (pa_cons (pe_callTy call_list_of (by rfl) B.b_list (by decide +kernel) (pa_cons (pv 3) pa_nil)) (pa_cons (pe_op op_catA (pv 3) (pe_tup (pa_cons (pe_tup pa_nil) pa_nil))) (pa_cons (pe_op op_repA (pe_tup (pa_cons (pe_tup (pa_cons pe_int pa_nil)) pa_nil)) (pe_callB call_len_seq (by rfl) B.b_len (by decide +kernel) (pa_cons (pv 1) pa_nil))) (pa_cons pe_dnewK (pa_cons (pe_lst pa_nil) (pa_cons (pe_tup pa_nil) pa_nil))))))))))
      (pss_cons (ps_for PassesOwn.never rfl (pi_enumT (by rfl) B.b_enumerate (pa_cons (pv 3) pa_nil)) (pg_tup rfl (pgs_cons (pg_name (i := 5) sc__law_pins_right.nd rfl (Or.inr rfl)) (pgs_cons (pg_name (i := 6) sc__law_pins_right.nd rfl (Or.inl rfl)) pgs_nil)))
      (pss_one (ps_for PassesOwn.never rfl (pi_list (pe_lst (pa_cons (pe_op op_catA (pv 6) (pe_tup (pa_cons pe_int pa_nil))) (pa_cons (pe_op op_catA (pe_tup (pa_cons pe_int pa_nil)) (pv 6)) (pa_cons (pe_callTy call_tuple_of (by rfl) B.b_tuple (by decide +kernel) (pa_cons (pe_lc (own := [("_law_count", 9)]) (g := gName 9) (tt := tYes) (by rfl) sc__law_pins_right.nd (pi_tup (pv 6)) (blkOk_by (own := [("_law_count", 9)]) (N := ["_law_slab_here", "_law_sorts", "_law_most", "_law_table_here", "_law_some", "_law_number", "_law_counts", "_law_later", "_law_nails", "_law_count"]) (sc := defScope s__law_pins_right) (by decide +kernel)) (fun _ _ _ _ _ => pg_name (i := 9) sc__law_pins_right.nd rfl (Or.inl rfl)) (fun _ _ _ _ _ => pts_nil) (fun _ _ _ _ _ => (pe_callB (call_min2 rfl) (by rfl) R.b_min (by decide +kernel) (pa_cons (pe_op op_add (pv 9) pe_int) (pa_cons (pe_ix (ix_tupK (K := K) rfl) (pe_ix (ix_listK (K := K) rfl) (pv 1) (pv 5) (fun _ _ => rfl)) pe_int (fun _ _ => rfl)) pa_nil))))) pa_nil)) pa_nil))))) (pg_name (i := 7) sc__law_pins_right.nd rfl (Or.inl rfl))
      (pss_cons (ps_set (i := 8) sc__law_pins_right.nd rfl (Or.inr rfl) (pe_op op_catA (pe_op op_catA (pe_slice sl_tupA (pv 3) po_none (po_some (pv 5))) (pe_tup (pa_cons (pe_callTy call_tuple_of (by rfl) B.b_tuple (by decide +kernel) (pa_cons (pe_callB cr_sortedU (by rfl) R.b_sorted (by decide +kernel) (pa_cons (pv 7) pa_nil)) pa_nil)) pa_nil))) (pe_slice sl_tupA (pv 3) (po_some (pe_op op_add (pv 5) pe_int)) po_none)))
      (pss_one (ps_if (pt_cmpR (op_neD hr.units) (pv 8) (pv 3) (nomark _)) (pss_one (ps_expr (pe_bm PySem.F.plainAttrs_list PySem.F.slot_list_append PySem.F.type_list_append mt_append (pv 4) (pa_cons (pv 8) pa_nil)))) pss_nil))))))
      (pss_cons (ps_for PassesOwn.never rfl (pi_list (pv 4)) (pg_name (i := 8) sc__law_pins_right.nd rfl (Or.inr rfl))
      (pss_cons (ps_if (pt_cmpR (op_neT hr.units0) (pe_lamcallS (T := T) (k := 11) rfl R.mR R.kR lkR hcR bR sc__law_raised rfl (Or.inl rfl) (raised_gives R.T2) TB rfl hmT huT (hr.mono (by decide)) (lamS_by (sc := defScope s__law_pins_right) (by decide +kernel)) rfl (fun _ _ _ _ _ => rfl) (fun A outer s H E f c' hr2 => (pe_callN R.GO (hr2.mono (by decide)) rfl R.mO R.kO R.KO (passes_call (takes_of rfl rfl rfl rfl) (fun _ _ _ _ h => h)) (pa_cons (pv 0) (pa_cons (pv 3) pa_nil)) (pk_cons (pv 8) pk_nil)))) (pe_tup (pa_cons pe_str (pa_cons (pv 8) pa_nil))) (nomark _)) (pss_one (ps_ret pe_bl)) pss_nil)
      (pss_cons (ps_if (pt_cmpR (op_neT hr.units0) (pe_lamcallS (T := T) (k := 11) rfl R.mR R.kR lkR hcR bR sc__law_raised rfl (Or.inl rfl) (raised_gives R.T2) TB rfl hmT huT (hr.mono (by decide)) (lamS_by (sc := defScope s__law_pins_right) (by decide +kernel)) rfl (fun _ _ _ _ _ => rfl) (fun A outer s H E f c' hr2 => (pe_callN R.GK (hr2.mono (by decide)) rfl R.mK R.kK R.KK (passes_call (takes_of rfl rfl rfl rfl) (fun _ _ _ _ h => h)) (pa_cons (pv 0) (pa_cons (pv 3) (pa_cons pe_int pa_nil))) (pk_cons (pv 8) pk_nil)))) (pe_tup (pa_cons pe_str (pa_cons (pv 8) pa_nil))) (nomark _)) (pss_one (ps_ret pe_bl)) pss_nil)
      (pss_one (ps_if (pt_cmpR (op_neT hr.units0) (pe_lamcallS (T := T) (k := 11) rfl R.mR R.kR lkR hcR bR sc__law_raised rfl (Or.inl rfl) (raised_gives R.T2) TB rfl hmT huT (hr.mono (by decide)) (lamS_by (sc := defScope s__law_pins_right) (by decide +kernel)) rfl (fun _ _ _ _ _ => rfl) (fun A outer s H E f c' hr2 => (pe_callN R.GH (hr2.mono (by decide)) rfl R.mH R.kH R.KH (passes_call (takes_of rfl rfl rfl rfl) (fun _ _ _ _ h => h)) (pa_cons (pv 0) (pa_cons (pv 3) pa_nil)) (pk_cons (pv 8) pk_nil)))) (pe_tup (pa_cons pe_str (pa_cons (pv 8) pa_nil))) (nomark _)) (pss_one (ps_ret pe_bl)) pss_nil)))))
      (pss_one (ps_ret pe_bl)))))) ?_
    refine ⟨.ref a, rfl, a, ys, rfl, .inr (SqT.of ea), fun p1 np1 => ?_⟩
    generalize hhA1 : upd H p1 _ = A1
    obtain ⟨sA1, e_p1⟩ := eqU hhA1 np1
    have preA1 := sA1
    refine ⟨.ref a, rfl, (by show 0 ≤ sizeLine; decide), fun u1 nu1 => ?_⟩
    generalize hhA2 : upd A1 u1 _ = A2
    obtain ⟨sA2, e_u1⟩ := eqU hhA2 nu1
    have preA2 := preA1.trans sA2
    refine ⟨(by show 1 ≤ sizeLine; decide), fun u2 nu2 => ?_⟩
    generalize hhA3 : upd A2 u2 _ = A3
    obtain ⟨sA3, e_u2⟩ := eqU hhA3 nu2
    have preA3 := preA2.trans sA3
    refine catA_of (preA3 _ _ ea) e_u2 (by simp only [List.length_cons, List.length_nil]; omega) (fun p2 A4 sA4 e_p2 => ?_)
    have preA4 := preA3.trans sA4
    refine ⟨(by show 1 ≤ sizeLine; decide), fun u3 nu3 => ?_⟩
    generalize hhA5 : upd A4 u3 _ = A5
    obtain ⟨sA5, e_u3⟩ := eqU hhA5 nu3
    have preA5 := preA4.trans sA5
    refine ⟨(by show 1 ≤ sizeLine; decide), fun u4 nu4 => ?_⟩
    generalize hhA6 : upd A5 u4 _ = A6
    obtain ⟨sA6, e_u4⟩ := eqU hhA6 nu4
    have preA6 := preA5.trans sA6
    refine ⟨.ref s, rfl, s, xs, rfl, .inl (SqL.of (preA6 _ _ es)), ?_⟩
    refine repA_of e_u4 (by omega) (fun p3 A7 sA7 e_p3 => ?_)
    have preA7 := preA6.trans sA7
    refine fun d1 nd1 => ?_
    generalize hhA8 : upd A7 d1 _ = A8
    obtain ⟨sA8, e_d1⟩ := eqU hhA8 nd1
    have preA8 := preA7.trans sA8
    refine ⟨(by show 0 ≤ sizeLine; decide), fun l1 nl1 => ?_⟩
    generalize hhA9 : upd A8 l1 _ = A9
    obtain ⟨sA9, e_l1⟩ := eqU hhA9 nl1
    have preA9 := preA8.trans sA9
    refine ⟨(by show 0 ≤ sizeLine; decide), fun v1 nv1 => ?_⟩
    generalize hhA10 : upd A9 v1 _ = A10
    obtain ⟨sA10, e_v1⟩ := eqU hhA10 nv1
    have preA10 := preA9.trans sA10
    refine ⟨(by show 8 ≤ sizeLine; decide), fun s0 ns0 => ?_⟩
    generalize hhA11 : upd A10 s0 _ = A11
    obtain ⟨sA11, e_s0⟩ := eqU hhA11 ns0
    have preA11 := preA10.trans sA11
    have f0 : H s0 = none := preA10.free ns0
    have als : s0 ≠ a := (ne_of_none (preA10 _ _ ea) ns0).symm
    have kt : ∀ H', Keeps s0 A11 H' → TabAt H' (.ref a) rows := fun H' k => ⟨a, ys, rfl, k _ _ (preA11 _ _ ea) (Ne.symm als) (fun q z => by cases z), rows_keeps k (fun b hb e0 => by
          obtain ⟨i, hi⟩ := List.mem_iff_getElem?.mp hb
          obtain ⟨ns, _, c, ec, z⟩ := rows_get ra hi
          cases ec
          rw [e0, f0] at z
          cases z) (RowsAt.keep preA11 ra)⟩
    have bad1 : ∀ {x : V}, (flatB x = true ∨ ∃ c, x = .ref c) → x ≠ .non → (∀ H', Keeps s0 A11 H' → badT H' ps L x = some (-1) ∧ TyT H' x) → PinBad A.C ps L (.ref a) s0 A11 x := fun {x} h1 h2 h3 => ⟨h1, fun H' k => ⟨⟨rows, kt H' k, ok, h2, .inl ⟨_, (h3 H' k).1⟩⟩, (h3 H' k).2⟩⟩
    have I1 : PinBad A.C ps L (.ref a) s0 A11 (.str "x") := bad1 (.inl rfl) (fun z => nomatch z) fun H' k => ⟨badT_no (fun a ys ex => nomatch ex), ⟨⟨_, .str _⟩, fun a xs e => nomatch e⟩⟩
    have I2 : PinBad A.C ps L (.ref a) s0 A11 (.int 0) := bad1 (.inl rfl) (fun z => nomatch z) fun H' k => ⟨badT_no (fun a ys ex => nomatch ex), ⟨⟨_, .int _⟩, fun a xs e => nomatch e⟩⟩
    have I3 : PinBad A.C ps L (.ref a) s0 A11 (.ref p1) := bad1 (.inr ⟨_, rfl⟩) (fun z => nomatch z) fun H' k => by
          have z := k _ _ ((Same.trans (Same.trans (Same.trans (Same.trans (Same.trans (Same.trans (Same.trans (Same.trans (Same.trans sA2 sA3) sA4) sA5) sA6) sA7) sA8) sA9) sA10) sA11) _ _ e_p1) (fun e0 => (ne_of_none ((((Same.trans (Same.trans (Same.trans (Same.trans (Same.trans (Same.trans (Same.trans (Same.trans sA2 sA3) sA4) sA5) sA6) sA7) sA8) sA9) sA10)) _ _ e_p1)) ns0) e0) (fun q z => by cases z)
          exact ⟨badT_no (fun b zs eb ez => by cases eb; rw [z] at ez; cases ez), ⟨⟨_, .lst z⟩, fun b zs eb ez => by cases eb; rw [z] at ez; cases ez⟩⟩
    have hyT : ∀ H', Keeps s0 A11 H' → ∀ y ∈ ys, TyI H' y := fun H' k y hy => (TyT.of (kt H' k) (by have := ok.len; omega)).2 a ys rfl (k _ _ (preA11 _ _ ea) (Ne.symm als) fun q z => by cases z) |>.2 y hy
    have I4 : PinBad A.C ps L (.ref a) s0 A11 (.ref p2) := bad1 (.inr ⟨_, rfl⟩) (fun z => nomatch z) fun H' k => by
          have z := k _ _ ((Same.trans (Same.trans (Same.trans (Same.trans (Same.trans (Same.trans sA5 sA6) sA7) sA8) sA9) sA10) sA11) _ _ e_p2) (fun e0 => (ne_of_none ((((Same.trans (Same.trans (Same.trans (Same.trans (Same.trans sA5 sA6) sA7) sA8) sA9) sA10)) _ _ e_p2)) ns0) e0) (fun q z => by cases z)
          refine ⟨?_, ⟨⟨_, .tup z⟩, fun b zs eb ez => ?_⟩⟩
          · rw [badT_tup z, if_neg (by rw [List.length_append]; have := Paired.length ra; have := ok.len; simp only [List.length_cons, List.length_nil]; omega)]
          · cases eb
            rw [z] at ez
            cases ez
            refine ⟨by rw [List.length_append]; have := Paired.length ra; have := ok.len; simp only [List.length_cons, List.length_nil]; omega, fun x hx => ?_⟩
            rcases List.mem_append.mp hx with hx | hx
            · exact hyT H' k x hx
            · rw [List.mem_singleton.mp hx]
              have z2 := k _ _ ((Same.trans (Same.trans (Same.trans (Same.trans (Same.trans (Same.trans (Same.trans (Same.trans sA3 sA4) sA5) sA6) sA7) sA8) sA9) sA10) sA11) _ _ e_u1) (fun e0 => (ne_of_none ((((Same.trans (Same.trans (Same.trans (Same.trans (Same.trans (Same.trans (Same.trans sA3 sA4) sA5) sA6) sA7) sA8) sA9) sA10)) _ _ e_u1)) ns0) e0) (fun q z => by cases z)
              exact ⟨⟨_, .tup z2⟩, fun b zs eb ez y hy => by cases eb; rw [z2] at ez; cases ez; cases hy⟩
    have I5 : PinBad A.C ps L (.ref a) s0 A11 (.ref p3) := ⟨.inr ⟨_, rfl⟩, fun H' k => by
          have z := k _ _ ((Same.trans (Same.trans (Same.trans sA8 sA9) sA10) sA11) _ _ e_p3) (fun e0 => (ne_of_none ((((Same.trans (Same.trans sA8 sA9) sA10)) _ _ e_p3)) ns0) e0) (fun q z => by cases z)
          have z2 := k _ _ ((Same.trans (Same.trans (Same.trans (Same.trans (Same.trans sA6 sA7) sA8) sA9) sA10) sA11) _ _ e_u3) (fun e0 => (ne_of_none ((((Same.trans (Same.trans (Same.trans (Same.trans sA6 sA7) sA8) sA9) sA10)) _ _ e_u3)) ns0) e0) (fun q z => by cases z)
          have hty : TyT H' (.ref p3) := ⟨⟨_, .tup z⟩, fun b zs eb ez => by
            cases eb
            rw [z] at ez
            cases ez
            refine ⟨by rw [List.length_replicate]; omega, fun x hx => ?_⟩
            rw [List.eq_of_mem_replicate hx]
            exact ⟨⟨_, .tup z2⟩, fun b zs eb ez y hy => by
              cases eb
              rw [z2] at ez
              cases ez
              rw [List.mem_singleton.mp hy]
              exact ⟨_, .int _⟩⟩⟩
          refine ⟨⟨rows, kt H' k, ok, fun z => (nomatch z), .inl ?_⟩, hty⟩
          cases hb : badT H' ps L (.ref p3) with
          | some i => exact ⟨i, rfl⟩
          | none =>
            exfalso
            obtain ⟨r2, t2, o2⟩ := badT_none hb
            obtain ⟨b, zs, eb, ez, rz⟩ := t2
            cases eb
            rw [z] at ez
            cases ez
            have hx0 : (List.replicate xs.length (V.ref u3))[0]? = some (.ref u3) := by
              rw [List.getElem?_replicate, if_pos (by omega)]
            obtain ⟨ns, en, c, ec, zc⟩ := rows_get rz hx0
            cases ec
            rw [z2] at zc
            have q0 : ps[0]? = some (ps[0]'(by omega)) := List.getElem?_eq_getElem _
            have asc := o2.cnt 0 _ ns q0 en
            cases ns with
            | nil => cases zc
            | cons n ns =>
              have z3 := HO.tup.inj (Option.some.inj zc)
              have z4 : n = 0 := (V.int.inj (List.cons.inj z3).1).symm
              have := (asc.2 n List.mem_cons_self).1
              omega⟩
    have I6 : PinBad A.C ps L (.ref a) s0 A11 (.ref d1) := bad1 (.inr ⟨_, rfl⟩) (fun z => nomatch z) fun H' k => by
          have z := k _ _ ((Same.trans (Same.trans sA9 sA10) sA11) _ _ e_d1) (fun e0 => (ne_of_none ((((Same.trans sA9 sA10)) _ _ e_d1)) ns0) e0) (fun q z => by cases z)
          exact ⟨badT_no (fun b zs eb ez => by cases eb; rw [z] at ez; cases ez), ⟨⟨_, .dict z⟩, fun b zs eb ez => by cases eb; rw [z] at ez; cases ez⟩⟩
    have I7 : PinBad A.C ps L (.ref a) s0 A11 (.ref l1) := bad1 (.inr ⟨_, rfl⟩) (fun z => nomatch z) fun H' k => by
          have z := k _ _ ((Same.trans sA10 sA11) _ _ e_l1) (fun e0 => (ne_of_none (((sA10) _ _ e_l1)) ns0) e0) (fun q z => by cases z)
          exact ⟨badT_no (fun b zs eb ez => by cases eb; rw [z] at ez; cases ez), ⟨⟨_, .lst z⟩, fun b zs eb ez => by cases eb; rw [z] at ez; cases ez⟩⟩
    have I8 : PinBad A.C ps L (.ref a) s0 A11 (.ref v1) := bad1 (.inr ⟨_, rfl⟩) (fun z => nomatch z) fun H' k => by
          have z := k _ _ (sA11 _ _ e_v1) (fun e0 => (ne_of_none (e_v1) ns0) e0) (fun q z => by cases z)
          refine ⟨?_, ⟨⟨_, .tup z⟩, fun b zs eb ez => ?_⟩⟩
          · rw [badT_tup z, if_neg (by show ¬ 0 = ps.length; omega)]
          · cases eb
            rw [z] at ez
            cases ez
            exact ⟨Nat.zero_le _, fun x hx => nomatch hx⟩
    have P0 : PS A.C ps L (.ref a) H A11 s0 [.str "x", .int 0, .ref p1, .ref p2, .ref p3, .ref d1, .ref l1, .ref v1] := ⟨preA11, e_s0, fun z hz => by
          simp only [List.mem_cons, List.not_mem_nil, or_false] at hz
          rcases hz with rfl | rfl | rfl | rfl | rfl | rfl | rfl | rfl <;> assumption⟩
    have hl8 : ([.str "x", .int 0, .ref p1, .ref p2, .ref p3, .ref d1, .ref l1, .ref v1] : List V).length = 8 := rfl
    generalize ([.str "x", .int 0, .ref p1, .ref p2, .ref p3, .ref d1, .ref l1, .ref v1] : List V) = zs0 at P0 hl8
    clear I1 I2 I3 I4 I5 I6 I7 I8 bad1 hyT
    have kt9 := kt; clear kt
    have pre9 := preA11
    generalize hH9 : A11 = H9 at P0 kt9 pre9
    refine ⟨.ref a, rfl, a, ys, rfl, SqT.of (pre9 _ _ ea), for_it (walk_enumT (K := K) (a := a) (xs := ys)) (fun i σ H4 => ∃ y5 y6 y7 y8 zs, σ = [some (.ref p), some (.ref s), some (.int L), some (.ref a), some (.ref s0), y5, y6, y7, y8, none] ∧ PS A.C ps L (.ref a) H H4 s0 zs ∧ zs.length ≤ 8 + 3 * i)
      ⟨_, _, _, _, zs0, rfl, P0, by omega⟩ (fun i σ H4 _ ⟨_, _, _, _, _, _, z, _⟩ => SqT.of (z.same _ _ ea)) ?_ ?_⟩
    · rintro k x σ H4 H5 hk ⟨y5, y6, y7, y8, zs, rfl, P4, hz4⟩ ⟨T', x1, x2, rfl, nT, rfl, g1, g2⟩
      cases g1
      have g2' : ys[k]? = some x2 := g2
      generalize h6 : upd H4 T' _ = H6
      obtain ⟨t6, e6⟩ := eqU h6 nT
      have P6 := P4.step t6
      have hkp : k < ps.length := by omega
      obtain ⟨pq, epq⟩ : ∃ pq, ps[k]? = some pq := ⟨ps[k], List.getElem?_eq_getElem hkp⟩
      obtain ⟨xx, exx⟩ : ∃ x, xs[k]? = some x := ⟨xs[k]'(by omega), List.getElem?_eq_getElem (by omega)⟩
      obtain ⟨tq, rfl, etq⟩ : PairAt H xx pq := by
        obtain ⟨q', a1, a2⟩ := pairs_get pr exx
        rw [epq] at a1
        cases a1
        exact a2
      obtain ⟨ns, ens, c, rfl, ec⟩ := rows_get ra g2'
      have hasc := ok.cnt k pq ns epq ens
      have hns : ns.length ≤ 60 := by
        have := le_sum (List.mem_map_of_mem (f := List.length) (List.mem_of_getElem? ens))
        have := ok.few
        unfold pgs at this
        omega
      refine ⟨T', _, rfl, SqT.of e6, rfl, _, _, rfl, _, _, rfl, rfl, ?_⟩
      -- the three later ones
      refine ⟨.ref c, rfl, (by show 1 ≤ sizeLine; decide), fun b1 nb1 => ?_⟩
      generalize hh7 : upd H6 b1 _ = H7
      obtain ⟨t7, eb1⟩ := eqU hh7 nb1
      refine catA_of (t7 _ _ (P6.same _ _ ec)) eb1 (by simp only [List.length_map, List.length_cons, List.length_nil]; omega) (fun l1' H8 t8 el1 => ?_)
      refine ⟨(by show 1 ≤ sizeLine; decide), fun b2 nb2 => ?_⟩
      generalize hh9 : upd H8 b2 _ = H10
      obtain ⟨t9, eb2⟩ := eqU hh9 nb2
      have P10 := P6.step (t7.trans (t8.trans t9))
      refine ⟨.ref c, rfl, ?_⟩
      refine catA_of eb2 (P10.same _ _ ec) (by simp only [List.length_map, List.length_cons, List.length_nil]; omega) (fun l2' H11 t10 el2 => ?_)
      have P11 := P10.step t10
      have ec11 := P11.same _ _ ec
      refine ⟨.ref c, rfl, c, rfl, ⟨_, SqT.of ec11⟩, fun D nD => ?_⟩
      refine lc_it (walk_tup (K := K) (a := c) (xs := ns.map V.int)) (fun i HI => Same H11 HI ∧ HI D = some (.lst (((ns.map (up1 pq.2)).take i).map V.int))) ⟨same_upd nD, upd_same⟩ (fun i HI _ z => SqT.of (z.1 _ _ ec11)) ?_ ?_
      · rintro i x HI H1 hi ⟨sI, eI⟩ ⟨rfl, hx⟩
        rw [List.getElem?_map] at hx
        obtain ⟨n, hn, rfl⟩ := Option.map_eq_some_iff.mp hx
        have sF := P11.same.trans sI
        refine ⟨rfl, ?_⟩
        unfold tYes
        refine iteT ?_
        refine ⟨.int n, rfl, n, 1, rfl, rfl, .ref s, rfl, .int k, rfl, s, xs, k, _, rfl, rfl, SqL.of (sF _ _ es), atI_nat exx, tq, _, 1, _, rfl, rfl, SqT.of (sF _ _ etq), rfl, n + 1, pq.2, rfl, _, eI, small1000 (by rw [List.length_map, List.length_take, List.length_map]; omega), fun b o z => ?_, ?_⟩
        · rw [upd_ne (ne_of_none z nD)]
          exact sI _ _ z
        · rw [upd_same, List.take_add_one, List.getElem?_map, hn, List.map_append]
          rfl
      · rintro HI ⟨sI, eI⟩
        rw [List.take_of_length_le (by rw [List.length_map, List.length_map]; omega)] at eI
        refine ⟨D, _, rfl, .inl ⟨SqL.of eI, fun l3' nl3 => ?_⟩⟩
        generalize hh12 : upd HI l3' _ = H12
        obtain ⟨t12, el3⟩ := eqU hh12 nl3
        refine ⟨(by show 3 ≤ sizeLine; decide), fun lt nlt => ?_⟩
        generalize hh13 : upd H12 lt _ = H13
        obtain ⟨t13, elt⟩ := eqU hh13 nlt
        have P13 := P11.step (sI.trans (t12.trans t13))
        have ltn : lt ≠ s0 := fun e0 => by
          have z := (P11.step (sI.trans t12)).ls
          rw [e0, z] at nlt
          cases nlt
        have el1F := t13 _ _ (t12 _ _ (sI _ _ (t10 _ _ (t9 _ _ el1))))
        have el2F := t13 _ _ (t12 _ _ (sI _ _ el2))
        have el3F := t13 _ _ el3
        have tupne : ∀ {HX : Hp} {b : Addr} {ws : List V}, PS A.C ps L (.ref a) H HX s0 zs → HX b = some (.tup ws) → b ≠ s0 := fun {HX b ws} pX e e0 => by
          have z := pX.ls
          rw [← e0, e] at z
          cases z
        have n1' := tupne P13 el1F
        have n2' := tupne P13 el2F
        have n3' := tupne P13 el3F
        refine ⟨lt, rfl, ⟨_, SqL.of elt⟩, ?_⟩
        refine for_list (xs := [.ref l1', .ref l2', .ref l3']) (fun j σ HN => ∃ y7 y8 zs', σ = [some (.ref p), some (.ref s), some (.int L), some (.ref a), some (.ref s0), some (.int k), some (.ref c), y7, y8, none] ∧ PS A.C ps L (.ref a) H HN s0 zs' ∧ zs'.length ≤ 8 + 3 * k + j ∧ But s0 H13 HN) ⟨_, _, zs, rfl, P13, by omega, fun _ _ z _ => z⟩ (fun j σ HN _ ⟨_, _, _, _, _, _, z⟩ => SqL.of (z _ _ elt ltn)) ?_ ?_
        · rintro j x σ HN hj ⟨y7', y8', zs', rfl, PN, hzN, bN⟩
          have hj3 : j < 3 := (List.getElem?_eq_some_iff.mp hj).1
          obtain ⟨lj, ls, rfl, elj, hlater⟩ : ∃ lj ls, x = .ref lj ∧ HN lj = some (.tup (ls.map V.int)) ∧ Later pq.2 ns ls := by
            match j, hj with
            | 0, hj =>
              cases hj
              exact ⟨l1', ns ++ [1], rfl, by rw [List.map_append]; exact bN _ _ el1F n1', .inl (by rw [List.length_append]; rfl)⟩
            | 1, hj =>
              cases hj
              exact ⟨l2', [1] ++ ns, rfl, by rw [List.map_append]; exact bN _ _ el2F n2', .inl (by rw [List.length_append, List.length_cons, List.length_nil]; omega)⟩
            | 2, hj =>
              cases hj
              exact ⟨l3', ns.map (up1 pq.2), rfl, bN _ _ el3F n3', .inr rfl⟩
          have hls : ls.length ≤ 61 := by
            rcases hlater with h | h
            · omega
            · rw [h, List.length_map]
              omega
          refine ⟨.ref a, rfl, .int k, rfl, k, rfl, ?_⟩
          refine slA_of (PN.same _ _ ea) fun w1 G1 sg1 ew1 => ?_
          rw [cut_to (by omega)] at ew1
          refine ⟨.ref lj, rfl, lj, ls, rfl, SqT.of (sg1 _ _ elj), fun ms w2 hpm hps nw2 => ?_⟩
          generalize hg2 : upd G1 w2 _ = G2
          obtain ⟨sg2, ew2⟩ := eqU hg2 nw2
          refine ⟨w2, _, rfl, .inl ⟨SqL.of ew2, fun w3 nw3 => ?_⟩⟩
          generalize hg3 : upd G2 w3 _ = G3
          obtain ⟨sg3, ew3⟩ := eqU hg3 nw3
          refine ⟨(by show 1 ≤ sizeLine; decide), fun w4 nw4 => ?_⟩
          generalize hg4 : upd G3 w4 _ = G4
          obtain ⟨sg4, ew4⟩ := eqU hg4 nw4
          refine catA_of (sg4 _ _ (sg3 _ _ (sg2 _ _ ew1))) ew4 (by simp only [List.length_cons, List.length_nil, List.length_take]; omega) (fun w5 G5 sg5 ew5 => ?_)
          have sgA := sg1.trans (sg2.trans (sg3.trans (sg4.trans sg5)))
          refine ⟨.ref a, rfl, .int k, rfl, k, 1, rfl, rfl, _, rfl, ?_⟩
          refine slA_fromP (lo := some ((k : Int) + 1)) (sgA _ _ (PN.same _ _ ea)) fun w6 G6 sg6 ew6 => ?_
          rw [show (k : Int) + 1 = ((k + 1 : Nat) : Int) by omega, cut_from (by omega)] at ew6
          refine catA_of (sg6 _ _ ew5) ew6 (by simp only [List.length_append, List.length_cons, List.length_nil, List.length_take, List.length_drop]; omega) (fun nl G7 sg7 enl => ?_)
          have sgF := sgA.trans (sg6.trans sg7)
          have PF := PN.step sgF
          have taF : TabAt G7 (.ref a) rows := ⟨a, ys, rfl, PF.same _ _ ea, RowsAt.keep PF.same ra⟩
          have rF : RowsAt G7 (ys.take k ++ [.ref w3] ++ ys.drop (k + 1)) (rows.take k ++ [ms] ++ rows.drop (k + 1)) := rows_app (rows_app (rows_take k (RowsAt.keep PF.same ra)) (.cons ⟨w3, rfl, sg7 _ _ (sg6 _ _ (sg5 _ _ (sg4 _ _ ew3)))⟩ .nil)) (rows_drop (k + 1) (RowsAt.keep PF.same ra))
          have tnF : TabAt G7 (.ref nl) (rows.take k ++ [ms] ++ rows.drop (k + 1)) := ⟨nl, _, rfl, enl, rF⟩
          refine ⟨.ref nl, rfl, .ref a, rfl, dRows _, dRows _, dpRows tnF, dpRows taF, dRows_shaped _, dRows_shaped _, _, rfl, ?_⟩
          rw [dRows_eqv]
          by_cases cne : rows.take k ++ [ms] ++ rows.drop (k + 1) = rows
          · rw [decide_eq_true cne]
            exact iteF ⟨_, _, zs', rfl, PF, by omega, fun b o z n => sgF _ _ (bN b o z n)⟩
          · rw [decide_eq_false cne]
            refine iteT ?_
            have hlk := later_lack ens hasc hlater hpm hps cne
            have nls : ∀ b, V.ref b ∈ (ys.take k ++ [.ref w3] ++ ys.drop (k + 1)) → b ≠ s0 := fun b hb e0 => by
              obtain ⟨i, hi⟩ := List.mem_iff_getElem?.mp hb
              obtain ⟨u, _, c', ec', zc⟩ := rows_get rF hi
              cases ec'
              rw [e0, PF.ls] at zc
              cases zc
            have nla : ∀ b, V.ref b ∈ ys → b ≠ s0 := fun b hb e0 => by
              obtain ⟨i, hi⟩ := List.mem_iff_getElem?.mp hb
              obtain ⟨u, _, c', ec', zc⟩ := rows_get ra hi
              cases ec'
              rw [e0, f0] at zc
              cases zc
            have nnl : nl ≠ s0 := fun e0 => by
              have z := PF.ls
              rw [← e0, enl] at z
              cases z
            have rl : (rows.take k ++ [ms] ++ rows.drop (k + 1)).length ≤ 1000 := by simp only [List.length_append, List.length_cons, List.length_nil, List.length_take, List.length_drop]; omega
            have hbad : PinBad A.C ps L (.ref a) s0 G7 (.ref nl) := ⟨.inr ⟨_, rfl⟩, fun H' k' => by
              have tn' : TabAt H' (.ref nl) (rows.take k ++ [ms] ++ rows.drop (k + 1)) := ⟨nl, _, rfl, k' _ _ enl nnl (fun q z => by cases z), rows_keeps k' nls rF⟩
              exact ⟨⟨rows, ⟨a, ys, rfl, k' _ _ (PF.same _ _ ea) (Ne.symm als) (fun q z => by cases z), rows_keeps k' nla (RowsAt.keep PF.same ra)⟩, ok, fun z => (nomatch z), .inr ⟨_, tn', hlk⟩⟩, TyT.of tn' rl⟩⟩
            have PP := PF.put f0 hbad
            refine ⟨.ref s0, rfl, .inl ⟨rfl, _, SqL.of PF.ls⟩, .ref nl, rfl, s0, zs', _, rfl, rfl, PF.ls, small1000 (by omega), ?_⟩
            refine ⟨_, _, _, rfl, PP, by rw [List.length_append, List.length_cons, List.length_nil]; omega, fun b o z n => ?_⟩
            rw [upd_ne n]
            exact sgF _ _ (bN b o z n)
        · rintro σ HN ⟨y7', y8', zs', rfl, PN, hzN, bN⟩
          refine ⟨_, _, _, _, zs', rfl, PN, ?_⟩
          have : [V.ref l1', V.ref l2', V.ref l3'].length = 3 := rfl
          omega
    · rintro σ H5 ⟨y5, y6, y7, y8, zs, rfl, P5, hz5⟩
      have k5 : ExtN H H5 := ExtN.of P5.same
      have T5 : Tabs T H5 := hT.ext P5.same
      have tyt : TyT H (.ref a) := TyT.of ⟨a, ys, rfl, ea, ra⟩ (by omega)
      refine ⟨.ref s0, rfl, s0, rfl, ⟨_, SqL.of P5.ls⟩, ?_⟩
      refine for_list (xs := zs) (fun j σ HN => ∃ y8', σ = [some (.ref p), some (.ref s), some (.int L), some (.ref a), some (.ref s0), y5, y6, y7, y8', none] ∧ ExtN H5 HN ∧ Tabs T HN) ⟨_, rfl, ExtN.refl _, T5⟩ (fun j σ HN _ ⟨_, _, z, _⟩ => SqL.of (z _ _ P5.ls fun q y => by cases y)) ?_ ?_
      · rintro j x σ HN hj ⟨y8', rfl, x1, t1⟩
        have hpb := P5.it x (List.mem_of_getElem? hj)
        refine ⟨t1, fun HL1 xL1 TL1 => ?_⟩
        have kL1 : ExtN H5 HL1 := x1.trans xL1
        obtain ⟨lk1, tp1⟩ := hpb.2 HL1 (Keeps.ext kL1)
        have kH1 := k5.trans kL1
        have ta1 : TyT HL1 (.ref a) := TyT.keepN tyt kH1
        refine ⟨.ref p, rfl, .ref a, rfl, x, rfl, rfl, rfl, p, lp, xs, ps, L, .ref a, x, [], rfl, rfl, SlabAt.keepN sl kH1, PairsAt.keepN kH1 pr, sz, hL, ta1, tp1, .inr ⟨lk1, fun d HR1 nd tr1 ed => .inr ⟨x, d, rfl, rfl, ed, fun pt1 HT1 npt tt1 ept1 => ?_⟩⟩⟩
        refine ⟨x, rfl, (by show 2 ≤ sizeLine; decide), fun py1 npy => ?_⟩
        generalize hy1 : upd HT1 py1 _ = HY1
        obtain ⟨uy1, epy1⟩ := eqU hy1 npy
        have S1 := tr1.trans (tt1.trans uy1)
        have x2 : ExtN H5 HY1 := kL1.trans (ExtN.of S1)
        have t2 : Tabs T HY1 := TL1.ext S1
        refine ⟨pt1, py1, _, rfl, rfl, SqT.of (uy1 _ _ ept1), SqT.of epy1, fun z hz => ?_, _, rfl, iteF ?_⟩
        · simp only [List.mem_cons, List.not_mem_nil, or_false] at hz
          rcases hz with rfl | rfl
          · exact .inl rfl
          · exact hpb.1
        refine ⟨t2, fun HL2 xL2 TL2 => ?_⟩
        have kL2 : ExtN H5 HL2 := x2.trans xL2
        obtain ⟨lk2, tp2⟩ := hpb.2 HL2 (Keeps.ext kL2)
        have kH2 := k5.trans kL2
        have ta2 : TyT HL2 (.ref a) := TyT.keepN tyt kH2
        refine ⟨.ref p, rfl, .ref a, rfl, x, rfl, rfl, rfl, p, lp, xs, ps, L, .ref a, x, [.int 0], rfl, rfl, SlabAt.keepN sl kH2, PairsAt.keepN kH2 pr, sz, hL, ta2, tp2, .inr ⟨lk2, fun d HR2 nd tr2 ed => .inr ⟨x, d, rfl, rfl, ed, fun pt2 HT2 npt tt2 ept2 => ?_⟩⟩⟩
        refine ⟨x, rfl, (by show 2 ≤ sizeLine; decide), fun py2 npy => ?_⟩
        generalize hy2 : upd HT2 py2 _ = HY2
        obtain ⟨uy2, epy2⟩ := eqU hy2 npy
        have S2 := tr2.trans (tt2.trans uy2)
        have x3 : ExtN H5 HY2 := kL2.trans (ExtN.of S2)
        have t3 : Tabs T HY2 := TL2.ext S2
        refine ⟨pt2, py2, _, rfl, rfl, SqT.of (uy2 _ _ ept2), SqT.of epy2, fun z hz => ?_, _, rfl, iteF ?_⟩
        · simp only [List.mem_cons, List.not_mem_nil, or_false] at hz
          rcases hz with rfl | rfl
          · exact .inl rfl
          · exact hpb.1
        refine ⟨t3, fun HL3 xL3 TL3 => ?_⟩
        have kL3 : ExtN H5 HL3 := x3.trans xL3
        obtain ⟨lk3, tp3⟩ := hpb.2 HL3 (Keeps.ext kL3)
        have kH3 := k5.trans kL3
        have ta3 : TyT HL3 (.ref a) := TyT.keepN tyt kH3
        refine ⟨.ref p, rfl, .ref a, rfl, x, rfl, rfl, rfl, p, lp, xs, ps, L, .ref a, x, [], rfl, rfl, SlabAt.keepN sl kH3, PairsAt.keepN kH3 pr, sz, hL, ta3, tp3, .inr ⟨lk3, fun d HR3 nd tr3 ed => .inr ⟨x, d, rfl, rfl, ed, fun pt3 HT3 npt tt3 ept3 => ?_⟩⟩⟩
        refine ⟨x, rfl, (by show 2 ≤ sizeLine; decide), fun py3 npy => ?_⟩
        generalize hy3 : upd HT3 py3 _ = HY3
        obtain ⟨uy3, epy3⟩ := eqU hy3 npy
        have S3 := tr3.trans (tt3.trans uy3)
        have x4 : ExtN H5 HY3 := kL3.trans (ExtN.of S3)
        have t4 : Tabs T HY3 := TL3.ext S3
        refine ⟨pt3, py3, _, rfl, rfl, SqT.of (uy3 _ _ ept3), SqT.of epy3, fun z hz => ?_, _, rfl, iteF ?_⟩
        · simp only [List.mem_cons, List.not_mem_nil, or_false] at hz
          rcases hz with rfl | rfl
          · exact .inl rfl
          · exact hpb.1
        exact ⟨_, rfl, x4, t4⟩
      · rintro σ HN ⟨y8', rfl, x1, t1⟩
        exact q HN (k5.trans x1) t1

end
end K03
set_option Elab.async false
set_option linter.all false
set_option maxRecDepth 100000
set_option maxHeartbeats 8000000
namespace K03
open PySem PySem.Spec PyProof.Rows L2 XV SL LamX
theorem room66 {k : Nat} {A : Around} (r : Room k A) : A.units + 66 < cLine := by
  have := r.un
  omega
theorem tab_st1 {l : Addr} {H H' : Hp} {t : V} {rows : List (List Int)} (hw : Well H l) (h : TabAt H t rows) (k : But l H H') : TabAt H' t rows := by
  obtain ⟨a, xs, rfl, e, r⟩ := h
  refine ⟨a, xs, rfl, k _ _ e (well_ne hw e), rows_keeps (keeps_but k) (fun b hb => ?_) r⟩
  obtain ⟨i, hi⟩ := List.mem_iff_getElem?.mp hb
  obtain ⟨ns, _, c, ec, z⟩ := rows_get r hi
  cases ec
  exact well_ne hw z
theorem tab_ext {H H' : Hp} {t : V} {rows : List (List Int)} (h : TabAt H t rows) (k : ExtN H H') : TabAt H' t rows := by
  obtain ⟨a, xs, rfl, e, r⟩ := h
  have go : ∀ {zs : List V} {qs : List (List Int)}, RowsAt H zs qs → RowsAt H' zs qs := by
    intro zs qs h
    induction h with
    | nil => exact .nil
    | cons h _ ih =>
      obtain ⟨t, e, z⟩ := h
      exact .cons ⟨t, e, k _ _ z fun q y => by cases y⟩ ih
  exact ⟨a, xs, rfl, k _ _ e (fun q y => by cases y), go r⟩
def dEight (i : Int) : PyData := .list (List.replicate 8 (.tuple [.str "table", .int i]))
theorem dEight_shaped (i : Int) : SeqAt.shaped (dEight i) = true := by
  show (PyData.canLay0 (dEight i) && decide (PyData.depth (dEight i) ≤ 64)) = true
  rw [Bool.and_eq_true]
  refine ⟨?_, decide_eq_true ?_⟩
  · simp only [dEight, List.replicate, PyData.canLay0, PyData.canLayAll0, Bool.and_true]
    decide +kernel
  · simp [dEight, List.replicate, PyData.depth, PyData.depthAll]
theorem dp_rep {K : PySem.W.Frag} {H : Hp} {d : PyData} : ∀ {zs : List V}, (∀ z ∈ zs, Dp K H z d) → DpAll K H zs (List.replicate zs.length d)
  | [], _ => .nil
  | z :: zs, h => .cons (h z List.mem_cons_self) (dp_rep fun y hy => h y (List.mem_cons_of_mem _ hy))
theorem dp_eight {K : PySem.W.Frag} {H : Hp} {a : Addr} {zs : List V} {i : Int} (e : H a = some (.lst zs)) (n : zs.length = 8) (h : ∀ z ∈ zs, ∃ b, z = .ref b ∧ H b = some (.tup [.str "table", .int i])) : Dp K H (.ref a) (dEight i) := by
  unfold dEight
  rw [← n]
  refine .lst (SqL.of e) (dp_rep fun z hz => ?_)
  obtain ⟨b, rfl, eb⟩ := h z hz
  exact .tup (SqT.of eb) (.cons (.str _) (.cons (.int _) .nil))
def spRight (T : List (Addr × Str)) : Sp := fun vs H Q _ => ∃ l : Addr, vs = [.ref l] ∧ Well H l ∧ Tabs T H ∧ ∀ H', (∀ b o, H b = some o → b ≠ l → (∀ q, o ≠ .tbl q) → H' b = some o) → Tabs T H' → Q (.bl true) H'
section
variable {P : Program} {w : World} {K : PySem.W.Frag} {mg : Str → Option Value} {base : Heap}
theorem ok_right {A : AD} {T : List (Addr × Str)} {f fD fP : Addr} {fd dD dP : FuncData} (F : Fun K "_law_right" "_law_right" s__law_right f fd) (R : RF P w K mg base A)
    (GD : FnOk P w K mg base CX0 14 fD dD ["_law_slab_here", "_law_one"] (spDoors A.C T)) (mD : mg "_law_doors" = some (.ref fD)) (kD : PySem.W.keepIn K (.ref fD) = true) (bD : Binds K dD ["_law_slab_here", "_law_one"] [])
    (GPR : FnOk P w K mg base CX0 14 fP dP ["_law_slab_here", "_law_sorts", "_law_most", "_law_table_here"] (spPR A.C T)) (mPR : mg "_law_pins_right" = some (.ref fP)) (kPR : PySem.W.keepIn K (.ref fP) = true) (bPR : Binds K dP ["_law_slab_here", "_law_sorts", "_law_most", "_law_table_here"] []) :
    FnG P w K mg base CX0 15 f fd ["_law_well"] (spRight T) := by
  have B := R.B
  refine XV.Fun.okG F sc__law_right (fun vs H Q E h => ?_) (fun cdv Ar outer s_ H vs Q E hgd hr h => ?_)
  · obtain ⟨l, rfl, _⟩ := h
    rfl
  · obtain ⟨l, rfl, hw, hT, k⟩ := h
    refine ⟨_, (pss_cons (ps_asg (pe_call R.Gs (hr.mono (by decide)) rfl R.ms R.ks R.bs .nil pass0 (pa_cons (pv 0) pa_nil)) (pg_tup rfl (pgs_cons (pg_name (i := 1) sc__law_right.nd rfl (Or.inl rfl)) (pgs_cons (pg_name (i := 2) sc__law_right.nd rfl (Or.inl rfl)) pgs_nil))))
      (pss_cons (ps_set (i := 3) sc__law_right.nd rfl (Or.inl rfl) (pe_make R.MK R.GI (hr.mono (by decide)) rfl R.SC.gC R.bI .nil passL (pa_cons (pv 1) (pa_cons (pv 2) pa_nil))))
      (pss_cons (ps_set (i := 4) sc__law_right.nd rfl (Or.inl rfl) (pe_ix ix_tup (pe_call R.Gt (hr.mono (by decide)) rfl R.mt R.kt R.bt .nil pass0 (pa_cons (pv 0) (pa_cons (pv 1) (pa_cons (pv 2) pa_nil)))) pe_int (fun _ _ => rfl)))
      (pss_cons (ps_set (i := 5) sc__law_right.nd rfl (Or.inl rfl) (pe_call R.Gn (hr.mono (by decide)) rfl R.mn R.kn R.bn .nil pass0 (pa_cons (pv 0) (pa_cons (pv 4) (pa_cons (pv 1) pa_nil)))))
      (pss_cons (ps_for PassesOwn.never rfl (pi_list (pe_lst (pa_cons (pv 5) (pa_cons (pe_call R.Gn (hr.mono (by decide)) rfl R.mn R.kn R.bn .nil pass0 (pa_cons (pv 0) (pa_cons (pv 4) (pa_cons (pv 1) pa_nil)))) (pa_cons (pe_callTy call_list_of (by rfl) B.b_list (by decide +kernel) (pa_cons (pv 4) pa_nil)) (pa_cons pe_non (pa_cons pe_dnewK (pa_cons (pe_op op_catA (pv 4) (pe_tup (pa_cons (pe_tup pa_nil) pa_nil))) (pa_cons (pe_slice sl_tupA (pv 4) (po_some pe_int) po_none) pa_nil))))))))) (pg_name (i := 6) sc__law_right.nd rfl (Or.inl rfl))
      (pss_cons (ps_set (i := 7) sc__law_right.nd rfl (Or.inl rfl) (pe_call R.Gb (hr.mono (by decide)) rfl R.mb R.kb R.bb .nil pass0 (pa_cons (pv 1) (pa_cons (pv 2) (pa_cons (pv 6) pa_nil)))))
      (pss_cons (ps_set (i := 8) sc__law_right.nd rfl (Or.inl rfl) (pe_callB (call_repr1 hgd (room66 hr)) (by rfl) R.b_repr (by decide +kernel) (pa_cons (pv 6) pa_nil)))
      (pss_one (ps_if (pt_cmpR op_notN (pv 7) pe_non (nomark _)) (pss_one (ps_if (PW.pt (pw_or (pt_cmpR (op_neD hr.units) (pe_call GD (hr.mono (by decide)) rfl mD kD bD .nil pass0 (pa_cons (pv 3) (pa_cons (pv 6) pa_nil))) (pe_op op_rep (pe_lst (pa_cons (pe_tup (pa_cons pe_str (pa_cons (pv 7) pa_nil))) pa_nil)) pe_int) (nomark _)) (pw_or1 (pt_cmpR op_ne (pe_callB (call_repr1 hgd (room66 hr)) (by rfl) R.b_repr (by decide +kernel) (pa_cons (pv 6) pa_nil)) (pv 8) (nomark _))))) (pss_one (ps_ret pe_bl)) pss_nil)) pss_nil)))))
      (pss_one (ps_ret (pe_call GPR (hr.mono (by decide)) rfl mPR kPR bPR .nil pass0 (pa_cons (pv 3) (pa_cons (pv 1) (pa_cons (pv 2) (pa_cons (pv 4) pa_nil)))))))))))), ?_⟩
    refine ⟨.ref l, rfl, l, rfl, hw, fun H1 t s xs ps L S1 nt0 ns0 et so h1 h6 l6 l51 => ?_⟩
    refine ⟨t, _, rfl, SqT.of et, rfl, _, _, rfl, _, _, rfl, rfl, ?_⟩
    have good : Good ps := fun q hq => by
      have z := so.rg q hq
      omega
    have sz : SzOk ps := ⟨good, h1, h6⟩
    have hxl : xs.length = ps.length := Paired.length so.pr
    have nwl : ∀ {b : Addr} {H' : Hp}, Well H' l → H' b = none → b ≠ l := fun {b H'} hw n e => by
      obtain ⟨x, y, z, q⟩ := hw
      rw [e, q] at n
      cases n
    refine ⟨.ref s, rfl, .int L, rfl, fun p dx np ndx npd => make_ok np ndx so.ls so.pr good h1 h6 (by omega) (by omega) (fun lp H4 nlp nlpp t4 sl => ?_)⟩
    have c4 : Ctx A.C T l s p lp xs ps L H H4 := {
      R := fun b o e n z => t4 _ _ (S1.but b o e n)
      W := let ⟨x, y, z, e⟩ := S1.well; ⟨x, y, z, t4 _ _ e⟩
      ls := t4 _ _ so.ls
      pr := PairsAt.keep t4 so.pr
      sl := sl
      tb := by
        obtain ⟨x, y, z, e⟩ := hw
        exact (tabs_but hT e S1.but).ext t4
      n1 := nwl hw ns0
      n2 := nwl S1.well nlp }
    have sor : ∀ {HX : Hp}, Ctx A.C T l s p lp xs ps L H HX → Sorts HX s xs ps := fun c => ⟨c.ls, c.pr, so.rg⟩
    refine ⟨.ref l, rfl, .ref s, rfl, .int L, rfl, l, s, xs, ps, L, rfl, c4.W, sor c4, c4.n1, h1, h6, by omega, by omega, fun H5 t5 tt rows m S5 nt5 et5 ta5 ok pg => ?_⟩
    refine ⟨t5, _, 0, _, rfl, rfl, SqT.of et5, rfl, ?_⟩
    have c5 := c4.st1 S5
    have hrow : ∀ ns ∈ rows, ns.length ≤ 15 ∧ ∀ n ∈ ns, 1 ≤ n ∧ n ≤ 60 := fun ns hns => by
      refine ⟨?_, fun n hn => ?_⟩
      · have := le_sum (List.mem_map_of_mem (f := List.length) hns)
        unfold pgs at pg
        omega
      · obtain ⟨i, hi⟩ := List.mem_iff_getElem?.mp hns
        have hlt := (List.getElem?_eq_some_iff.mp hi).1
        have ol := ok.len
        have z := ok.cnt i (ps[i]'(by omega)) ns (List.getElem?_eq_getElem _) hi
        have z2 := z.2 n hn
        have z3 := good _ (List.getElem_mem (by omega : i < ps.length))
        omega
    obtain ⟨a', ys, ea', ett5, ra5⟩ := id ta5
    cases ea'
    have ntl : tt ≠ l := well_ne c5.W ett5
    have eyl : ys.length = rows.length := Paired.length ra5
    have olen := ok.len
    refine ⟨.ref l, rfl, .ref tt, rfl, .ref s, rfl, l, tt, s, ys, xs, rows, ps, rfl, c5.W, ett5, ra5, ok.len, hrow, sor c5, c5.n1, h1, h6, fun H6 b1 zs1 S6 nb1 eb1 BT1 => ?_⟩
    have c6 := c5.st1 S6
    have ta6 := tab_st1 c5.W ta5 S6.but
    obtain ⟨a', ys', ea', ett6, ra6⟩ := id ta6
    cases ea'
    have eys := S6.but _ _ ett5 ntl
    rw [ett6] at eys
    cases eys
    refine ⟨.ref b1, rfl, .ref l, rfl, .ref tt, rfl, .ref s, rfl, l, tt, s, ys, xs, rows, ps, rfl, c6.W, ett6, ra6, ok.len, hrow, sor c6, c6.n1, h1, h6, fun H7 b2 zs2 S7 nb2 eb2 BT2 => ?_⟩
    have c7 := c6.st1 S7
    have ta7 := tab_st1 c6.W ta6 S7.but
    have ett7 := S7.but _ _ ett6 ntl
    refine ⟨.ref tt, rfl, tt, ys, rfl, .inr (SqT.of ett7), fun p3 np3 => ?_⟩
    generalize hh8 : upd H7 p3 _ = H8
    obtain ⟨s8, e_p3⟩ := eqU hh8 np3
    refine fun d4 nd4 => ?_
    generalize hh9 : upd H8 d4 _ = H9
    obtain ⟨s9, e_d4⟩ := eqU hh9 nd4
    refine ⟨.ref tt, rfl, (by show 0 ≤ sizeLine; decide), fun u5 nu5 => ?_⟩
    generalize hh10 : upd H9 u5 _ = H10
    obtain ⟨s10, e_u5⟩ := eqU hh10 nu5
    refine ⟨(by show 1 ≤ sizeLine; decide), fun v5 nv5 => ?_⟩
    generalize hh11 : upd H10 v5 _ = H11
    obtain ⟨s11, e_v5⟩ := eqU hh11 nv5
    have pre11 := s8.trans (s9.trans (s10.trans s11))
    refine catA_of (pre11 _ _ ett7) e_v5 (by simp only [List.length_cons, List.length_nil]; omega) (fun w5 H12 s12 e_w5 => ?_)
    refine ⟨.ref tt, rfl, 1, rfl, ?_⟩
    refine slA_fromP (lo := some 1) (s12 _ _ (pre11 _ _ ett7)) fun w6 H13 s13 e_w6 => ?_
    rw [show (1 : Int) = ((1 : Nat) : Int) by rfl, cut_from (by omega)] at e_w6
    refine ⟨(by show 7 ≤ sizeLine; decide), fun lt nlt => ?_⟩
    generalize hh14 : upd H13 lt _ = H14
    obtain ⟨s14, e_lt⟩ := eqU hh14 nlt
    have pre14 := pre11.trans (s12.trans (s13.trans s14))
    have c14 := c7.same pre14
    have ta14 := ta7.keep pre14
    have W14 := c14.W
    have hys : ∀ y ∈ ys, BI l H14 y := fun y hy => by
      obtain ⟨a', ys', ea', e14, r14⟩ := id ta14
      cases ea'
      have z := pre14 _ _ ett7
      rw [e14] at z
      cases z
      obtain ⟨i, hi⟩ := List.mem_iff_getElem?.mp hy
      obtain ⟨ms, ems, c2, rfl, ec2⟩ := rows_get r14 hi
      obtain ⟨ml, mrg⟩ := hrow ms (List.mem_of_getElem? ems)
      refine .inr ⟨c2, _, rfl, well_ne W14 ec2, .inl ec2, (by rw [List.length_map]; omega), fun z hz => .inl ?_⟩
      obtain ⟨n, hn, rfl⟩ := List.mem_map.mp hz
      have := mrg n hn
      exact BF.int (by omega) (by omega)
    have q3 := (s9.trans (s10.trans (s11.trans (s12.trans (s13.trans s14))))) _ _ e_p3
    have q4 := (s10.trans (s11.trans (s12.trans (s13.trans s14)))) _ _ e_d4
    have q5 := (s13.trans s14) _ _ e_w5
    have qu := (s11.trans (s12.trans (s13.trans s14))) _ _ e_u5
    have q6 := s14 _ _ e_w6
    have nlst : ∀ {b : Addr} {HX : Hp}, Well HX l → HX b = none → b ≠ l := fun hw n => nwl hw n
    have Bu : BI l H14 (.ref u5) := .inr ⟨u5, [], rfl, well_ne W14 qu, .inl qu, Nat.zero_le _, fun y hy => nomatch hy⟩
    have hall : ∀ x ∈ ([.ref b1, .ref b2, .ref p3, .non, .ref d4, .ref w5, .ref w6] : List V), BO l H14 x := by
      intro x hx
      simp only [List.mem_cons, List.not_mem_nil, or_false] at hx
      rcases hx with rfl | rfl | rfl | rfl | rfl | rfl | rfl
      · exact .inr (.inr (BT1.keep ((Keeps.st1 S7).trans (Keeps.same pre14))))
      · exact .inr (.inr (BT2.keep (Keeps.same pre14)))
      · exact .inr (.inr ⟨p3, ys, rfl, nwl c7.W np3, .inr q3, by omega, hys⟩)
      · exact .inl rfl
      · exact .inr (.inl ⟨d4, rfl, nwl (c7.same s8).W nd4, q4⟩)
      · refine .inr (.inr ⟨w5, _, rfl, well_ne W14 q5, .inl q5, by rw [List.length_append, List.length_cons, List.length_nil]; omega, fun y hy => ?_⟩)
        rcases List.mem_append.mp hy with hy | hy
        · exact hys y hy
        · rw [List.mem_singleton.mp hy]
          exact Bu
      · exact .inr (.inr ⟨w6, _, rfl, well_ne W14 q6, .inl q6, by rw [List.length_drop]; omega, fun y hy => hys y (List.mem_of_mem_drop hy)⟩)
    refine ⟨lt, rfl, ⟨_, SqL.of e_lt⟩, ?_⟩
    refine for_list (xs := [.ref b1, .ref b2, .ref p3, .non, .ref d4, .ref w5, .ref w6]) (fun j σ HN => ∃ y6 y7 y8, σ = [some (.ref l), some (.ref s), some (.int L), some (.ref p), some (.ref tt), some (.ref b1), y6, y7, y8] ∧ Ctx A.C T l s p lp xs ps L H HN ∧ ExtN H14 HN) ⟨_, _, _, rfl, c14, ExtN.refl _⟩ (fun j σ HN _ ⟨_, _, _, _, _, z⟩ => SqL.of (z _ _ e_lt fun q y => by cases y)) ?_ ?_
    · rintro j x σ HN hj ⟨y6, y7, y8, rfl, cN, xN⟩
      have bo := (hall x (List.mem_of_getElem? hj)).keep (Keeps.ext xN)
      refine ⟨.ref s, rfl, .int L, rfl, x, rfl, s, L, x, xs, ps, rfl, cN.ls, cN.pr, sz, bo.ty, bo.big, fun H15 S15 => ?_⟩
      have c15 := cN.same S15
      have bo15 := bo.keep (Keeps.same S15)
      obtain ⟨z, hz⟩ := bo15.txt (K := K)
      refine ⟨x, rfl, x, z, rfl, hz _ Keeps.refl, ?_⟩
      cases hb : badT HN ps L x with
      | none =>
        have ev : badTV HN ps L x = .non := by
          unfold badTV
          rw [hb]
        rw [ev]
        exact ⟨_, rfl, rfl, _, rfl, iteF ⟨_, _, _, rfl, c15, xN.trans (ExtN.of S15)⟩⟩
      | some i =>
        have ev : badTV HN ps L x = .int i := by
          unfold badTV
          rw [hb]
        rw [ev]
        refine ⟨_, rfl, rfl, _, rfl, iteT ?_⟩
        refine ⟨.ref p, rfl, x, rfl, p, lp, xs, ps, L, x, i, rfl, ⟨c15.sl, c15.pr, sz, by omega, bo15.ty, by rw [badT_keep bo.ty S15]; exact hb⟩, c15.tb, fun fd H16 zs x16 t16 f0 efd hit hn8 => ?_⟩
        refine ⟨.int i, rfl, (by show 2 ≤ sizeLine; decide), fun t1 nt1 => ?_⟩
        generalize hh17 : upd H16 t1 _ = H17
        obtain ⟨s17, e_t1⟩ := eqU hh17 nt1
        refine ⟨(by show 1 ≤ sizeLine; decide), fun l1 nl1 => ?_⟩
        generalize hh18 : upd H17 l1 _ = H18
        obtain ⟨s18, e_l1⟩ := eqU hh18 nl1
        refine ⟨l1, 8, _, rfl, rfl, e_l1, by decide, by decide, (by show 1 * 8 ≤ sizeLine; decide), fun l2 nl2 => ?_⟩
        generalize hh19 : upd H18 l2 _ = H19
        obtain ⟨s19, e_l2⟩ := eqU hh19 nl2
        have s1619 := s17.trans (s18.trans s19)
        have sh := dEight_shaped i
        have k1 : Dp K H19 (.ref fd) (dEight i) := dp_eight (s1619 _ _ efd) hn8 fun z hz => by
          obtain ⟨a, rfl, e⟩ := hit z hz
          exact ⟨a, rfl, s1619 _ _ e⟩
        have k2 : Dp K H19 (.ref l2) (dEight i) := dp_eight (zs := List.replicate 8 (.ref t1)) e_l2 rfl fun z hz => ⟨t1, List.eq_of_mem_replicate hz, s19 _ _ (s18 _ _ e_t1)⟩
        refine ⟨_, _, k1, k2, sh, sh, _, rfl, ?_⟩
        rw [SeqAt.eqv_refl _ (SeqAt.canLay_of_shaped sh)]
        refine iteF ?_
        have c19 := (c15.ext x16 t16).same s1619
        have xx := x16.trans (ExtN.of s1619)
        refine ⟨x, rfl, x, z, rfl, hz _ (Keeps.ext xx), .str z, rfl, rfl, _, rfl, ?_⟩
        rw [decide_eq_true rfl]
        exact iteF ⟨_, _, _, rfl, c19, xN.trans ((ExtN.of S15).trans xx)⟩
    · rintro σ HN ⟨y6, y7, y8, rfl, cN, xN⟩
      have taN := tab_ext ta14 xN
      obtain ⟨a', ys', ea', eN, rN⟩ := taN
      cases ea'
      exact ⟨.ref p, rfl, .ref s, rfl, .int L, rfl, .ref tt, rfl, p, lp, s, tt, xs, ys', ps, L, rows, rfl, cN.sl, cN.pr, sz, by omega, cN.ls, eN, rN, ok, cN.tb, fun H' xE tE => k H' (fun b o e n z => xE _ _ (cN.R b o e n z) z) tE⟩

end
end K03
set_option Elab.async false
set_option linter.all false
set_option maxRecDepth 100000
set_option maxHeartbeats 8000000
namespace K03
open PySem PySem.Spec PyProof.Rows L2 XV SL LamX
theorem cut_int {ms : List Int} {lo hi : Option Int} {i : Nat} {y : V} (h : (cutV (ms.map V.int) lo hi)[i]? = some y) : ∃ z, y = V.int z := by
  have hm : y ∈ ms.map V.int := List.mem_of_mem_drop (List.mem_of_mem_take (List.mem_of_getElem? h))
  obtain ⟨z, _, e⟩ := List.mem_map.mp hm
  exact ⟨z, e.symm⟩
/-- sixty-one pages -/
theorem bad61 {H : Hp} {a b : Addr} (e1 : H a = some (.tup [.ref b])) (e2 : H b = some (.tup (List.replicate 61 (.int 1)))) : badT H [(1, 60)] 1000000 (.ref a) = some 1 := by
  have c1 : cntB H 60 (.ref b) = true := by
    show (match H b with | some (.tup ys) => asc 60 1 ys | _ => false) = true
    rw [e2]
    decide +kernel
  have c2 : cntI H (.ref b) = List.replicate 61 1 := by
    show (match H b with | some (.tup ys) => ys.map iV | _ => []) = _
    rw [e2]
    decide +kernel
  rw [badT_tup e1, if_pos (show [V.ref b].length = [((1 : Int), (60 : Int))].length from rfl)]
  have fb : firstBad H [.ref b] [(1, 60)] = none := List.findIdx?_eq_none_iff.mpr fun z hz => by
    have : z = (V.ref b, (1, 60)) := List.mem_singleton.mp hz
    subst this
    show (!cntB H 60 (.ref b)) = false
    rw [c1]
    rfl
  rw [fb]
  show (if 60 < pgs [cntI H (.ref b)] then _ else _) = some (1 : Int)
  rw [c2, if_pos (by decide)]
  rfl
section
variable {P : Program} {w : World} {K : PySem.W.Frag} {mg : Str → Option Value} {base : Heap}
def spLaw (K : PySem.W.Frag) (T : List (Addr × Str)) : Sp := fun vs H Q _ => ∃ (a : Addr) (ns : List Int), vs = [.ref a] ∧ SqL K H a (ns.map V.int) ∧ ns.length ≤ 63 ∧ Tabs T H ∧ ∀ H', Q (.bl true) H'
theorem ok_law {A : AD} {T : List (Addr × Str)} {f fR fD : Addr} {fd dR dD : FuncData} (F : Fun K "law" "law" s_law f fd) (R : RF P w K mg base A)
    (GR : FnG P w K mg base CX0 15 fR dR ["_law_well"] (spRight T)) (mR : mg "_law_right" = some (.ref fR)) (kR : PySem.W.keepIn K (.ref fR) = true) (bR : Binds K dR ["_law_well"] [])
    (GD : FnOk P w K mg base CX0 14 fD dD ["_law_slab_here", "_law_one"] (spDoors A.C T)) (mD : mg "_law_doors" = some (.ref fD)) (kD : PySem.W.keepIn K (.ref fD) = true) (bD : Binds K dD ["_law_slab_here", "_law_one"] []) :
    FnG P w K mg base CX0 16 f fd ["_law_script"] (spLaw K T) := by
  have B := R.B
  refine XV.Fun.okG F sc_law (fun vs H Q E h => ?_) (fun cdv Ar outer s H vs Q E hgd hr h => ?_)
  · obtain ⟨a, ns, rfl, _⟩ := h
    rfl
  · obtain ⟨a, ns, rfl, hS, hlen, hT, k⟩ := h
    refine ⟨_, (pss_cons (ps_for PassesOwn.never rfl (pi_enum (by rfl) B.b_enumerate (pa_cons (pe_slice sl_list (pe_op op_catS (pv 0) (pe_lst (pa_cons pe_int pa_nil))) po_none (po_some pe_int)) pa_nil)) (pg_tup rfl (pgs_cons (pg_name (i := 1) sc_law.nd rfl (Or.inl rfl)) (pgs_cons (pg_name (i := 2) sc_law.nd rfl (Or.inl rfl)) pgs_nil)))
      (pss_one (ps_if (pt_not (pt_val (pe_callG GR hgd (hr.mono (by decide)) rfl mR kR bR .nil pass0 (pa_cons (pe_lst (pa_cons (pe_op op_mul (pv 2) (pe_callTy call_int1 (by rfl) B.b_int (by decide +kernel) (pa_cons (pe_cmpR op_ge (pv 2) (pe_op op_pow pe_int pe_int) (nomark _)) pa_nil))) (pa_cons (pe_op op_add (pe_op op_mod (pe_callTy call_int1 (by rfl) B.b_int (by decide +kernel) (pa_cons (pv 2) pa_nil)) pe_int) (pe_op op_mul pe_int (pv 1))) (pa_cons pe_int pa_nil)))) pa_nil)))) (pss_one (ps_ret pe_bl)) pss_nil)))
      (pss_one (ps_ret (pe_cmpR (op_eqD hr.units) (pe_call GD (hr.mono (by decide)) rfl mD kD bD .nil pass0 (pa_cons (pe_make R.MK R.GI (hr.mono (by decide)) rfl R.SC.gC R.bI .nil passL (pa_cons (pe_lst (pa_cons (pe_tup (pa_cons pe_int (pa_cons pe_int pa_nil))) pa_nil)) (pa_cons (pe_op op_pow pe_int pe_int) pa_nil))) (pa_cons (pe_tup (pa_cons (pe_op op_repA (pe_tup (pa_cons pe_int pa_nil)) pe_int) pa_nil)) pa_nil))) (pe_op op_rep (pe_lst (pa_cons (pe_tup (pa_cons pe_str (pa_cons pe_int pa_nil))) pa_nil)) pe_int) (nomark _))))), ?_⟩
    refine ⟨.ref a, rfl, (by show 1 ≤ sizeLine; decide), fun p1 np1 => ?_⟩
    generalize h1 : upd _ p1 _ = H1
    obtain ⟨t1, e1⟩ := eqU h1 np1
    refine ⟨a, p1, _, _, rfl, rfl, t1.seq hS, SqL.of e1, (by rw [List.length_map, sizeLine_eq]; show ns.length + 1 ≤ _; omega), fun p2 np2 => ?_⟩
    have ec : ns.map V.int ++ [V.int 0] = (ns ++ [0]).map V.int := by simp
    rw [ec]
    generalize h2 : upd _ p2 _ = H2
    obtain ⟨t2, e2⟩ := eqU h2 np2
    refine ⟨6, rfl, p2, _, rfl, SqL.of e2, fun p3 np3 => ?_⟩
    generalize hcut : cutV _ _ _ = L
    have hint : ∀ (i : Nat) (y : V), L[i]? = some y → ∃ z, y = V.int z := fun i y h => by
      subst hcut
      exact cut_int h
    generalize h3 : upd _ p3 _ = H3
    obtain ⟨t3, e3⟩ := eqU h3 np3
    have T3 : Tabs T H3 := ((hT.ext t1).ext t2).ext t3
    refine ⟨p3, L, rfl, SqL.of e3, for_it (walk_enum (K := K) (a := p3) (xs := L)) (fun i σ H4 => ∃ y1 y2, σ = [some (.ref a), y1, y2] ∧ H4 p3 = some (.lst L) ∧ Tabs T H4) ⟨_, _, rfl, e3, T3⟩ (fun i σ H4 _ ⟨_, _, _, z, _⟩ => SqL.of z) ?_ ?_⟩
    · rintro j x σ H4 H5 hj ⟨y1, y2, rfl, e4, T4⟩ ⟨T', x1, x2, rfl, nT, rfl, g1, g2⟩
      cases g1
      obtain ⟨z, rfl⟩ := hint j x2 g2
      generalize h6 : upd H4 T' _ = H6
      obtain ⟨t6, e6⟩ := eqU h6 nT
      refine ⟨T', _, rfl, SqT.of e6, rfl, _, _, rfl, _, _, rfl, rfl, ?_⟩
      refine ⟨.int z, rfl, .int z, rfl, 10, 18, rfl, rfl, ⟨by decide, by decide, by decide⟩, z, _, rfl, rfl, .inr ⟨_, rfl, z, _, rfl, rfl, .inr ?_, ?_⟩⟩
      · split
        · exact ⟨by decide, by decide⟩
        · exact ⟨by decide, by decide⟩
      refine ⟨.int z, rfl, .inl ⟨z, rfl, z, 2147483647, rfl, rfl, (by show (0 : Int) < 2147483647; decide), .int j, rfl, 7919, j, rfl, rfl, .inl ⟨by decide, by decide⟩, _, _, rfl, rfl, ?_⟩⟩
      refine ⟨(by show 3 ≤ sizeLine; decide), fun l nl => ?_⟩
      generalize h7 : upd _ l _ = H7
      obtain ⟨t7, e7⟩ := eqU h7 nl
      have e4' := t7 _ _ (t6 _ _ e4)
      refine ⟨l, rfl, ⟨_, _, _, e7⟩, (T4.ext t6).ext t7, fun H8 b8 T8 => ⟨_, rfl, iteF ?_⟩⟩
      refine ⟨_, _, rfl, b8 _ _ e4' (ne_of_none (t6 _ _ e4) nl) (fun q y => by cases y), T8⟩
    · rintro σ H4 ⟨y1, y2, rfl, e4, T4⟩
      refine ⟨(by show 2 ≤ sizeLine; decide), fun b1 nb1 => ?_⟩
      generalize hq1 : upd H4 b1 _ = HN1
      obtain ⟨u1, eb1⟩ := eqU hq1 nb1
      refine ⟨(by show 1 ≤ sizeLine; decide), fun b2 nb2 => ?_⟩
      generalize hq2 : upd HN1 b2 _ = HN2
      obtain ⟨u2, eb2⟩ := eqU hq2 nb2
      have pa : PairAt HN2 (.ref b1) (1, 60) := ⟨b1, rfl, u2 _ _ eb1⟩
      have p3 : PairsAt HN2 [.ref b1] [(1, 60)] := .cons pa .nil
      refine ⟨10, 6, rfl, rfl, (by unfold CPow; decide), fun x3 dx3 nx3 ndx3 _ => make_ok nx3 ndx3 eb2 p3 (by unfold Good; decide) (by decide) (by decide) (by decide) (by decide) (fun l3 HN6 nl3 _ u6 sl3 => ?_)⟩
      refine ⟨(by show 1 ≤ sizeLine; decide), fun b4 nb4 => ?_⟩
      generalize hq4 : upd HN6 b4 _ = HN7
      obtain ⟨u7, eb4⟩ := eqU hq4 nb4
      refine ⟨b4, 61, _, rfl, rfl, SqT.of eb4, (by simp), (by decide), (by decide), (by show 1 ≤ 1000; decide), (fun e => absurd e (by decide)), fun _ b5 nb5 => ?_⟩
      rw [rep_flat]
      generalize hq5 : upd HN7 b5 _ = HN8
      obtain ⟨u8, eb5⟩ := eqU hq5 nb5
      refine ⟨(by show 1 ≤ sizeLine; decide), fun b6 nb6 => ?_⟩
      generalize hq6 : upd HN8 b6 _ = HN9
      obtain ⟨u9, eb6⟩ := eqU hq6 nb6
      have u69 := u7.trans (u8.trans u9)
      have eb5' := u9 _ _ eb5
      have ty9 : TyT HN9 (.ref b6) := by
        refine ⟨⟨_, .tup eb6⟩, fun c ws ec ez => ?_⟩
        cases ec
        rw [eb6] at ez
        cases ez
        refine ⟨(by show 1 ≤ 1000; decide), fun x hx => ?_⟩
        rw [List.mem_singleton.mp hx]
        refine ⟨⟨_, .tup eb5'⟩, fun c ws ec ez y hy => ?_⟩
        cases ec
        rw [eb5'] at ez
        cases ez
        rw [List.eq_of_mem_replicate hy]
        exact ⟨_, .int _⟩
      have szz : SzOk [((1 : Int), (60 : Int))] := ⟨fun q hq => by rw [List.mem_singleton.mp hq]; decide, by decide, by decide⟩
      refine ⟨x3, l3, _, [(1, 60)], 1000000, .ref b6, 1, rfl, ⟨sl3.keep u69, PairsAt.keep (u6.trans u69) p3, szz, by decide, ty9, bad61 eb6 eb5'⟩, ((((T4.ext u1).ext u2).ext u6).ext u69), fun fd' H16 zs x16 t16 f0 efd hit hn8 => ?_⟩
      refine ⟨(by show 2 ≤ sizeLine; decide), fun t1 nt1 => ?_⟩
      generalize hh17 : upd H16 t1 _ = H17
      obtain ⟨s17, e_t1⟩ := eqU hh17 nt1
      refine ⟨(by show 1 ≤ sizeLine; decide), fun l1 nl1 => ?_⟩
      generalize hh18 : upd H17 l1 _ = H18
      obtain ⟨s18, e_l1⟩ := eqU hh18 nl1
      refine ⟨l1, 8, _, rfl, rfl, e_l1, by decide, by decide, (by show 1 * 8 ≤ sizeLine; decide), fun l2 nl2 => ?_⟩
      generalize hh19 : upd H18 l2 _ = H19
      obtain ⟨s19, e_l2⟩ := eqU hh19 nl2
      have s1619 := s17.trans (s18.trans s19)
      have sh := dEight_shaped 1
      have k1 : Dp K H19 (.ref fd') (dEight 1) := dp_eight (s1619 _ _ efd) hn8 fun z hz => by
        obtain ⟨a, rfl, e⟩ := hit z hz
        exact ⟨a, rfl, s1619 _ _ e⟩
      have k2 : Dp K H19 (.ref l2) (dEight 1) := dp_eight (zs := List.replicate 8 (.ref t1)) e_l2 rfl fun z hz => ⟨t1, List.eq_of_mem_replicate hz, s19 _ _ (s18 _ _ e_t1)⟩
      refine ⟨_, _, k1, k2, sh, sh, ?_⟩
      rw [SeqAt.eqv_refl _ (SeqAt.canLay_of_shaped sh)]
      exact k _
end
/-! ### what the top has written -/
/-- a def of the top, found -/
def DefAt (K : PySem.W.Frag) (mg : Str → Option Value) (x : Str) (st : Stmt) : Prop := ∃ f fd, Fun K x x st f fd ∧ mg x = some (.ref f)
theorem def_mk {K : PySem.W.Frag} {h : Heap} {mg : Str → Option Value} {x : Str} {st : Stmt} {f : Addr} {oc : Value} {od an : Option Addr} {osl : Array (Option Value)} {kV doc pm cdv ct : Value} (X : K.In h) (G : h.Ns mainGlobals mg)
    (a : PySem.W.nsIn K mainGlobals x = some (some (.ref f))) (l : K.lookup f = some ⟨oc, od, .func (PySem.W.fnOf x x (defArgs st) (defBody st) (defScope st) .none kV doc pm an cdv ct), osl⟩)
    (c : PySem.W.codeIn K cdv x = true) (k : PySem.W.keepIn K (.ref f) = true) : DefAt K mg x st := ⟨f, _, fun_mk l c k, PySem.W.mg_of X G a⟩
/-- the table of the def x, as the written part tells -/
theorem tab_in {K : PySem.W.Frag} {h : Heap} {mg : Str → Option Value} {x : Str} {c P f : Addr} {oc oc' kV doc pm ct : Value} {od od' an : Option Addr} {osl sl' : Array (Option Value)} {pg : Arguments} {bg : List Stmt} {sg : Scope} {vs : Array Value} (X : K.In h) (G : h.Ns mainGlobals mg) (t : TabOf h mg x)
    (n : PySem.W.nsIn K mainGlobals x = some (some (.ref f))) (lf : K.lookup f = some ⟨oc, od, .func (PySem.W.fnOf x x pg bg sg .none kV doc pm an (.ref c) ct), osl⟩) (lc : K.lookup c = some ⟨oc', od', .fields vs, sl'⟩) (h11 : vs[11]? = some (.ref P)) :
    ∃ (fb : Addr) (o : Obj) (fd : FuncData), mg x = some (.ref fb) ∧ h.get? fb = some o ∧ o.data = .func fd ∧ fd.code = .ref c ∧ PySem.W.CodeHd h c P ∧ h.get? P = some { cls := .none, data := .fields #[] } := by
  obtain ⟨fb, o, fd, c', P', h1, h2, h3, h4, h5, h6⟩ := t
  have e1 := PySem.W.mg_of X G n
  rw [e1] at h1
  cases h1
  have e2 := X _ _ lf
  rw [h2] at e2
  cases e2
  cases h3
  have e4 : Value.ref c = Value.ref c' := h4
  cases e4
  have e3 := X _ _ lc
  obtain ⟨o2, vs2, file, tf, fl, tg, inF, text, tt, i1, i2, i3, i4, rest⟩ := h5
  rw [e3] at i1
  cases i1
  cases i3
  rw [h11] at i4
  cases i4
  exact ⟨_, _, _, e1, h2, rfl, h4, ⟨_, _, file, tf, fl, tg, inF, text, tt, e3, i2, rfl, h11, rest⟩, h6⟩
/-- the facts of the top -/
theorem all_mk {l : PySem.W.OpenLaw} {w : World} {K : PySem.W.Frag} {h : Heap} {mg : Str → Option Value} {fa : Addr} (X : K.In h) (G : h.Ns mainGlobals mg) (hfa : mg "law" = some (.ref fa)) (nt : PySem.W.noTabs K = true) (tb : ∀ y ∈ (["_law_doors", "_law_pins_right"] : List Str), TabOf h mg y)
    {C : Addr}
    {fI : Addr} {ocI kVI docI pmI cdI ctI : Value} {odI anI : Option Addr} {slI : Array (Option Value)}
    {fL : Addr} {ocL kVL docL pmL cdL ctL : Value} {odL anL : Option Addr} {slL : Array (Option Value)}
    {fl : Addr} {ocl kVl docl pml cdl ctl : Value} {odl anl : Option Addr} {sll : Array (Option Value)}
    {fb : Addr} {ocb kVb docb pmb cdb ctb : Value} {odb anb : Option Addr} {slb : Array (Option Value)}
    {fs : Addr} {ocs kVs docs pms cds cts : Value} {ods ans : Option Addr} {sls : Array (Option Value)}
    {fz : Addr} {ocz kVz docz pmz cdz ctz : Value} {odz anz : Option Addr} {slz : Array (Option Value)}
    {CS NS : Addr} {nmS qS : Str} {bsS : List Value} {snS : List Str} {subS : List Value} {abS : Bool} {colS : Option Bool} {ddS : Option Addr} {m0S m1S m2S m3S m5S : Option Value} {SS : Addr}
    {fXS : Addr} {ocXS kVXS docXS pmXS cdXS ctXS : Value} {odXS anXS : Option Addr} {slXS : Array (Option Value)}
    {CN NN : Addr} {nmN qN : Str} {bsN : List Value} {snN : List Str} {subN : List Value} {abN : Bool} {colN : Option Bool} {ddN : Option Addr} {m0N m1N m2N m3N m5N : Option Value} {SN : Addr}
    {fXN : Addr} {ocXN kVXN docXN pmXN cdXN ctXN : Value} {odXN anXN : Option Addr} {slXN : Array (Option Value)}
    {CT NT : Addr} {nmT qT : Str} {bsT : List Value} {snT : List Str} {subT : List Value} {abT : Bool} {colT : Option Bool} {ddT : Option Addr} {m0T m1T m2T m3T m5T : Option Value} {ST : Addr}
    {fXT : Addr} {ocXT kVXT docXT pmXT cdXT ctXT : Value} {odXT anXT : Option Addr} {slXT : Array (Option Value)}
    {CP NP : Addr} {nmP qP : Str} {bsP : List Value} {snP : List Str} {subP : List Value} {abP : Bool} {colP : Option Bool} {ddP : Option Addr} {m0P m1P m2P m3P m5P : Option Value} {SP : Addr}
    {fXP : Addr} {ocXP kVXP docXP pmXP cdXP ctXP : Value} {odXP anXP : Option Addr} {slXP : Array (Option Value)}
    {tclasses : Tok}
    {tsize : Tok}
    {tslots : Tok}
    {tlimit : Tok}
    {tpages : Tok}
    {cA PA fA_ : Addr} {o1A o2A kVA_ docA_ pmA_ ctA_ : Value} {d1A d2A anA_ : Option Addr} {s1A s2A : Array (Option Value)} {vsA : Array Value}
    {cB PB fB_ : Addr} {o1B o2B kVB_ docB_ pmB_ ctB_ : Value} {d1B d2B anB_ : Option Addr} {s1B s2B : Array (Option Value)} {vsB : Array Value}
    (gC : PySem.W.nsIn K mainGlobals "Slab" = some (some (.ref C)))
    (pg : PySem.W.plainGet K C Str.empty = true)
    (hd : PySem.W.hasDictIn K C = true)
    (po : PySem.W.plainOver K C = true)
    (sa : PySem.W.findIn K (.ref C) "__setattr__" = some (some (.builtin "object.__setattr__")))
    (nP : PySem.W.findIn K (.ref C) "pairs" = some none)
    (nB : PySem.W.findIn K (.ref C) "bound" = some none)
    (ca : PySem.W.findIn K (.ref C) "__class__" = some (some (.builtin "object.__class__")))
    (sp : PySem.W.specialIn K (.builtin "object.__class__") "__get__" = some (some (.builtin "getset_descriptor.__get__")))
    (tk : PySem.W.takesIn K (.builtin "object.__class__") = some true)
    (mr : PySem.W.mroIn K C (.type "object") = some true)
    (kI : PySem.W.kitOne K (.ref C) (.ref C) = some true)
    (kT : PySem.W.kitOne K (.type "tuple") (.ref C) = some false)
    (fT : PySem.W.notFirst K C (.type "tuple") = true)
    (fC : PySem.W.notFirst K C (.ref C) = true)
    (mk : PySem.W.makesIn K C = true)
    (kC : PySem.W.keepIn K (.ref C) = true)
    (a_I : PySem.W.findIn K (.ref C) "__init__" = some (some (.ref fI)))
    (i_I : PySem.W.isFn K (.ref fI) = true)
    (l_I : K.lookup fI = some ⟨ocI, odI, .func (PySem.W.fnOf "__init__" "Slab.__init__" (defArgs s_init) (defBody s_init) (defScope s_init) .none kVI docI pmI anI cdI ctI), slI⟩)
    (c_I : PySem.W.codeIn K cdI "Slab.__init__" = true)
    (k_I : PySem.W.keepIn K (.ref fI) = true)
    (a_L : PySem.W.findIn K (.ref C) "__len__" = some (some (.ref fL)))
    (i_L : PySem.W.isFn K (.ref fL) = true)
    (l_L : K.lookup fL = some ⟨ocL, odL, .func (PySem.W.fnOf "__len__" "Slab.__len__" (defArgs s_len) (defBody s_len) (defScope s_len) .none kVL docL pmL anL cdL ctL), slL⟩)
    (c_L : PySem.W.codeIn K cdL "Slab.__len__" = true)
    (k_L : PySem.W.keepIn K (.ref fL) = true)
    (a_l : PySem.W.findIn K (.ref C) "limit" = some (some (.ref fl)))
    (i_l : PySem.W.isFn K (.ref fl) = true)
    (l_l : K.lookup fl = some ⟨ocl, odl, .func (PySem.W.fnOf "limit" "Slab.limit" (defArgs s_limit) (defBody s_limit) (defScope s_limit) .none kVl docl pml anl cdl ctl), sll⟩)
    (c_l : PySem.W.codeIn K cdl "Slab.limit" = true)
    (k_l : PySem.W.keepIn K (.ref fl) = true)
    (a_b : PySem.W.findIn K (.ref C) "bytes_of" = some (some (.ref fb)))
    (i_b : PySem.W.isFn K (.ref fb) = true)
    (l_b : K.lookup fb = some ⟨ocb, odb, .func (PySem.W.fnOf "bytes_of" "Slab.bytes_of" (defArgs s_bytes_of) (defBody s_bytes_of) (defScope s_bytes_of) .none kVb docb pmb anb cdb ctb), slb⟩)
    (c_b : PySem.W.codeIn K cdb "Slab.bytes_of" = true)
    (k_b : PySem.W.keepIn K (.ref fb) = true)
    (a_s : PySem.W.findIn K (.ref C) "slots_of" = some (some (.ref fs)))
    (i_s : PySem.W.isFn K (.ref fs) = true)
    (l_s : K.lookup fs = some ⟨ocs, ods, .func (PySem.W.fnOf "slots_of" "Slab.slots_of" (defArgs s_slots_of) (defBody s_slots_of) (defScope s_slots_of) .none kVs docs pms ans cds cts), sls⟩)
    (c_s : PySem.W.codeIn K cds "Slab.slots_of" = true)
    (k_s : PySem.W.keepIn K (.ref fs) = true)
    (a_z : PySem.W.findIn K (.ref C) "size_class" = some (some (.ref fz)))
    (i_z : PySem.W.isFn K (.ref fz) = true)
    (l_z : K.lookup fz = some ⟨ocz, odz, .func (PySem.W.fnOf "size_class" "Slab.size_class" (defArgs s_size_class) (defBody s_size_class) (defScope s_size_class) .none kVz docz pmz anz cdz ctz), slz⟩)
    (c_z : PySem.W.codeIn K cdz "Slab.size_class" = true)
    (k_z : PySem.W.keepIn K (.ref fz) = true)
    (gS : PySem.W.nsIn K mainGlobals "NoSlab" = some (some (.ref CS)))
    (xS : K.lookup CS = some (excClassObj nmS qS CS NS bsS [.ref SS, .type "ValueError", .type "Exception", .type "BaseException", .type "object"] true snS subS abS colS ddS m0S m1S m2S m3S m5S "ValueError.__new__"))
    (saS : PySem.W.findIn K (.ref CS) "__setattr__" = some (some (.builtin "object.__setattr__")))
    (exS : PySem.W.subIn K (.ref CS) (.type "BaseException") = some true)
    (tyS : PySem.W.typeIn K (.ref CS) = some (.type "type"))
    (kcS : PySem.W.keepIn K (.ref CS) = true)
    (inS : PySem.W.findIn K (.ref CS) "__init__" = some (some (.ref fXS)))
    (tiS : PySem.W.typeIn K (.ref fXS) = some (.type "function"))
    (nfS : PySem.W.findIn K (.ref CS) "index" = some none)
    (gaS : PySem.W.findIn K (.ref CS) "__getattribute__" = some (some (.builtin "BaseException.__getattribute__")))
    (ggS : PySem.W.findIn K (.ref CS) "__getattr__" = some none)
    (hdS : PySem.W.hasDictIn K CS = true)
    (l_XS : K.lookup fXS = some ⟨ocXS, odXS, .func (PySem.W.fnOf "__init__" "NoSlab.__init__" (defArgs s_iNoSlab) (defBody s_iNoSlab) (defScope s_iNoSlab) .none kVXS docXS pmXS anXS cdXS ctXS), slXS⟩)
    (c_XS : PySem.W.codeIn K cdXS "NoSlab.__init__" = true)
    (k_XS : PySem.W.keepIn K (.ref fXS) = true)
    (gN : PySem.W.nsIn K mainGlobals "NoClass" = some (some (.ref CN)))
    (xN : K.lookup CN = some (excClassObj nmN qN CN NN bsN [.ref SN, .type "ValueError", .type "Exception", .type "BaseException", .type "object"] true snN subN abN colN ddN m0N m1N m2N m3N m5N "ValueError.__new__"))
    (saN : PySem.W.findIn K (.ref CN) "__setattr__" = some (some (.builtin "object.__setattr__")))
    (exN : PySem.W.subIn K (.ref CN) (.type "BaseException") = some true)
    (tyN : PySem.W.typeIn K (.ref CN) = some (.type "type"))
    (kcN : PySem.W.keepIn K (.ref CN) = true)
    (inN : PySem.W.findIn K (.ref CN) "__init__" = some (some (.ref fXN)))
    (tiN : PySem.W.typeIn K (.ref fXN) = some (.type "function"))
    (nfN : PySem.W.findIn K (.ref CN) "number" = some none)
    (gaN : PySem.W.findIn K (.ref CN) "__getattribute__" = some (some (.builtin "BaseException.__getattribute__")))
    (ggN : PySem.W.findIn K (.ref CN) "__getattr__" = some none)
    (hdN : PySem.W.hasDictIn K CN = true)
    (l_XN : K.lookup fXN = some ⟨ocXN, odXN, .func (PySem.W.fnOf "__init__" "NoClass.__init__" (defArgs s_iNoClass) (defBody s_iNoClass) (defScope s_iNoClass) .none kVXN docXN pmXN anXN cdXN ctXN), slXN⟩)
    (c_XN : PySem.W.codeIn K cdXN "NoClass.__init__" = true)
    (k_XN : PySem.W.keepIn K (.ref fXN) = true)
    (gT : PySem.W.nsIn K mainGlobals "NoTable" = some (some (.ref CT)))
    (xT : K.lookup CT = some (excClassObj nmT qT CT NT bsT [.ref ST, .type "ValueError", .type "Exception", .type "BaseException", .type "object"] true snT subT abT colT ddT m0T m1T m2T m3T m5T "ValueError.__new__"))
    (saT : PySem.W.findIn K (.ref CT) "__setattr__" = some (some (.builtin "object.__setattr__")))
    (exT : PySem.W.subIn K (.ref CT) (.type "BaseException") = some true)
    (tyT : PySem.W.typeIn K (.ref CT) = some (.type "type"))
    (kcT : PySem.W.keepIn K (.ref CT) = true)
    (inT : PySem.W.findIn K (.ref CT) "__init__" = some (some (.ref fXT)))
    (tiT : PySem.W.typeIn K (.ref fXT) = some (.type "function"))
    (nfT : PySem.W.findIn K (.ref CT) "index" = some none)
    (gaT : PySem.W.findIn K (.ref CT) "__getattribute__" = some (some (.builtin "BaseException.__getattribute__")))
    (ggT : PySem.W.findIn K (.ref CT) "__getattr__" = some none)
    (hdT : PySem.W.hasDictIn K CT = true)
    (l_XT : K.lookup fXT = some ⟨ocXT, odXT, .func (PySem.W.fnOf "__init__" "NoTable.__init__" (defArgs s_iNoTable) (defBody s_iNoTable) (defScope s_iNoTable) .none kVXT docXT pmXT anXT cdXT ctXT), slXT⟩)
    (c_XT : PySem.W.codeIn K cdXT "NoTable.__init__" = true)
    (k_XT : PySem.W.keepIn K (.ref fXT) = true)
    (gP : PySem.W.nsIn K mainGlobals "NoPins" = some (some (.ref CP)))
    (xP : K.lookup CP = some (excClassObj nmP qP CP NP bsP [.ref SP, .type "ValueError", .type "Exception", .type "BaseException", .type "object"] true snP subP abP colP ddP m0P m1P m2P m3P m5P "ValueError.__new__"))
    (saP : PySem.W.findIn K (.ref CP) "__setattr__" = some (some (.builtin "object.__setattr__")))
    (exP : PySem.W.subIn K (.ref CP) (.type "BaseException") = some true)
    (tyP : PySem.W.typeIn K (.ref CP) = some (.type "type"))
    (kcP : PySem.W.keepIn K (.ref CP) = true)
    (inP : PySem.W.findIn K (.ref CP) "__init__" = some (some (.ref fXP)))
    (tiP : PySem.W.typeIn K (.ref fXP) = some (.type "function"))
    (nfP : PySem.W.findIn K (.ref CP) "pins" = some none)
    (gaP : PySem.W.findIn K (.ref CP) "__getattribute__" = some (some (.builtin "BaseException.__getattribute__")))
    (ggP : PySem.W.findIn K (.ref CP) "__getattr__" = some none)
    (hdP : PySem.W.hasDictIn K CP = true)
    (l_XP : K.lookup fXP = some ⟨ocXP, odXP, .func (PySem.W.fnOf "__init__" "NoPins.__init__" (defArgs s_iNoPins) (defBody s_iNoPins) (defScope s_iNoPins) .none kVXP docXP pmXP anXP cdXP ctXP), slXP⟩)
    (c_XP : PySem.W.codeIn K cdXP "NoPins.__init__" = true)
    (k_XP : PySem.W.keepIn K (.ref fXP) = true)
    (eTT : PySem.W.exmOne K (.ref CT) (.ref CT) = some true)
    (ePT : PySem.W.exmOne K (.ref CP) (.ref CT) = some false)
    (ePP : PySem.W.exmOne K (.ref CP) (.ref CP) = some true)
    (b_int : PySem.W.nsIn K mainGlobals "int" = some none)
    (b_bool : PySem.W.nsIn K mainGlobals "bool" = some none)
    (b_tuple : PySem.W.nsIn K mainGlobals "tuple" = some none)
    (b_list : PySem.W.nsIn K mainGlobals "list" = some none)
    (b_len : PySem.W.nsIn K mainGlobals "len" = some none)
    (b_isinstance : PySem.W.nsIn K mainGlobals "isinstance" = some none)
    (b_enumerate : PySem.W.nsIn K mainGlobals "enumerate" = some none)
    (b_range : PySem.W.nsIn K mainGlobals "range" = some none)
    (b_sum : PySem.W.nsIn K mainGlobals "sum" = some none)
    (b_sorted : PySem.W.nsIn K mainGlobals "sorted" = some none)
    (b_set : PySem.W.nsIn K mainGlobals "set" = some none)
    (b_str : PySem.W.nsIn K mainGlobals "str" = some none)
    (b_zip : PySem.W.nsIn K mainGlobals "zip" = some none)
    (b_all : PySem.W.nsIn K mainGlobals "all" = some none)
    (b_min : PySem.W.nsIn K mainGlobals "min" = some none)
    (b_repr : PySem.W.nsIn K mainGlobals "repr" = some none)
    (n_classes : PySem.W.nsIn K mainGlobals "MOST_CLASSES" = some (some (.int 6 tclasses)))
    (n_size : PySem.W.nsIn K mainGlobals "MOST_SIZE" = some (some (.int 1000 tsize)))
    (n_slots : PySem.W.nsIn K mainGlobals "MOST_SLOTS" = some (some (.int 60 tslots)))
    (n_limit : PySem.W.nsIn K mainGlobals "MOST_LIMIT" = some (some (.int 1000000 tlimit)))
    (n_pages : PySem.W.nsIn K mainGlobals "MOST_PAGES" = some (some (.int 60 tpages)))
    (nA_ : PySem.W.nsIn K mainGlobals "_law_doors" = some (some (.ref fA_)))
    (lA_ : K.lookup fA_ = some ⟨o1A, d1A, .func (PySem.W.fnOf "_law_doors" "_law_doors" (defArgs s__law_doors) (defBody s__law_doors) (defScope s__law_doors) .none kVA_ docA_ pmA_ anA_ (.ref cA) ctA_), s1A⟩)
    (kA_ : K.lookup cA = some ⟨o2A, d2A, .fields vsA, s2A⟩)
    (vA_ : vsA[11]? = some (.ref PA))
    (nB_ : PySem.W.nsIn K mainGlobals "_law_pins_right" = some (some (.ref fB_)))
    (lB_ : K.lookup fB_ = some ⟨o1B, d1B, .func (PySem.W.fnOf "_law_pins_right" "_law_pins_right" (defArgs s__law_pins_right) (defBody s__law_pins_right) (defScope s__law_pins_right) .none kVB_ docB_ pmB_ anB_ (.ref cB) ctB_), s1B⟩)
    (kB_ : K.lookup cB = some ⟨o2B, d2B, .fields vsB, s2B⟩)
    (vB_ : vsB[11]? = some (.ref PB))
    (nPP : PA ≠ PB)
    (d0 : DefAt K mg "is_between" s_is_between)
    (d1 : DefAt K mg "is_size_class" s_is_size_class)
    (d2 : DefAt K mg "check_table" s_check_table)
    (d3 : DefAt K mg "are_counts" s_are_counts)
    (d4 : DefAt K mg "page_total" s_page_total)
    (d5 : DefAt K mg "byte_total" s_byte_total)
    (d6 : DefAt K mg "empty" s_empty)
    (d7 : DefAt K mg "live" s_live)
    (d8 : DefAt K mg "pages" s_pages)
    (d9 : DefAt K mg "steps" s_steps)
    (d10 : DefAt K mg "played" s_played)
    (d11 : DefAt K mg "pin_table" s_pin_table)
    (d12 : DefAt K mg "pins_of" s_pins_of)
    (d13 : DefAt K mg "has_pins" s_has_pins)
    (d14 : DefAt K mg "has_counts" s_has_counts)
    (d15 : DefAt K mg "order_of" s_order_of)
    (d16 : DefAt K mg "check_order" s_check_order)
    (d17 : DefAt K mg "schedule" s_schedule)
    (d18 : DefAt K mg "_law_draw" s__law_draw)
    (d19 : DefAt K mg "_law_slab" s__law_slab)
    (d20 : DefAt K mg "_law_table" s__law_table)
    (d21 : DefAt K mg "_law_live" s__law_live)
    (d22 : DefAt K mg "_law_whole" s__law_whole)
    (d23 : DefAt K mg "_law_bad" s__law_bad)
    (d24 : DefAt K mg "_law_raised" s__law_raised)
    (d25 : DefAt K mg "_law_doors" s__law_doors)
    (d26 : DefAt K mg "_law_bent" s__law_bent)
    (d27 : DefAt K mg "_law_pins_right" s__law_pins_right)
    (d28 : DefAt K mg "_law_right" s__law_right)
    (d29 : DefAt K mg "law" s_law) :
    LawAtG l w K 16 63 "_law_script" mg fa h := by
  have FI := fun_mk (st := s_init) l_I c_I k_I
  have bI := FI.binds (ps := ["self", "classes", "limit"]) fun _ _ _ _ _ _ us hl => match us, hl with | [_, _, _], _ => rfl
  have FL := fun_mk (st := s_len) l_L c_L k_L
  have bL := FL.binds (ps := ["self"]) fun _ _ _ _ _ _ us hl => match us, hl with | [_], _ => rfl
  have Fl := fun_mk (st := s_limit) l_l c_l k_l
  have bl := Fl.binds (ps := ["self"]) fun _ _ _ _ _ _ us hl => match us, hl with | [_], _ => rfl
  have Fb := fun_mk (st := s_bytes_of) l_b c_b k_b
  have bb := Fb.binds (ps := ["self", "number"]) fun _ _ _ _ _ _ us hl => match us, hl with | [_, _], _ => rfl
  have Fs := fun_mk (st := s_slots_of) l_s c_s k_s
  have bs := Fs.binds (ps := ["self", "number"]) fun _ _ _ _ _ _ us hl => match us, hl with | [_, _], _ => rfl
  have Fz := fun_mk (st := s_size_class) l_z c_z k_z
  have bz := Fz.binds (ps := ["self", "number"]) fun _ _ _ _ _ _ us hl => match us, hl with | [_, _], _ => rfl
  have FXS := fun_mk (st := s_iNoSlab) l_XS c_XS k_XS
  have bXS := FXS.binds (ps := ["self", "index"]) fun _ _ _ _ _ _ us hl => match us, hl with | [_, _], _ => rfl
  have TS : XCls K CS fXS "index" := ⟨⟨⟨_, _, _, _, _, _, _, _, _, _, _, _, _, _, _, xS, (show PySem.HandSPX.refsVE PySem.HandSPX.veTail = true by decide +kernel)⟩, saS, exS, tyS, kcS⟩, inS, tiS, nfS, gaS, ggS, hdS⟩
  have FXN := fun_mk (st := s_iNoClass) l_XN c_XN k_XN
  have bXN := FXN.binds (ps := ["self", "number"]) fun _ _ _ _ _ _ us hl => match us, hl with | [_, _], _ => rfl
  have TN : XCls K CN fXN "number" := ⟨⟨⟨_, _, _, _, _, _, _, _, _, _, _, _, _, _, _, xN, (show PySem.HandSPX.refsVE PySem.HandSPX.veTail = true by decide +kernel)⟩, saN, exN, tyN, kcN⟩, inN, tiN, nfN, gaN, ggN, hdN⟩
  have FXT := fun_mk (st := s_iNoTable) l_XT c_XT k_XT
  have bXT := FXT.binds (ps := ["self", "index"]) fun _ _ _ _ _ _ us hl => match us, hl with | [_, _], _ => rfl
  have TT : XCls K CT fXT "index" := ⟨⟨⟨_, _, _, _, _, _, _, _, _, _, _, _, _, _, _, xT, (show PySem.HandSPX.refsVE PySem.HandSPX.veTail = true by decide +kernel)⟩, saT, exT, tyT, kcT⟩, inT, tiT, nfT, gaT, ggT, hdT⟩
  have FXP := fun_mk (st := s_iNoPins) l_XP c_XP k_XP
  have bXP := FXP.binds (ps := ["self", "pins"]) fun _ _ _ _ _ _ us hl => match us, hl with | [_, _], _ => rfl
  have TP : XCls K CP fXP "pins" := ⟨⟨⟨_, _, _, _, _, _, _, _, _, _, _, _, _, _, _, xP, (show PySem.HandSPX.refsVE PySem.HandSPX.veTail = true by decide +kernel)⟩, saP, exP, tyP, kcP⟩, inP, tiP, nfP, gaP, ggP, hdP⟩
  obtain ⟨g0, e0, D0, m0⟩ := d0
  have v0 := D0.binds (ps := ["value", "low", "high"]) fun _ _ _ _ _ _ us hl => match us, hl with | [_, _, _], _ => rfl
  obtain ⟨g1, e1, D1, m1⟩ := d1
  have v1 := D1.binds (ps := ["item"]) fun _ _ _ _ _ _ us hl => match us, hl with | [_], _ => rfl
  obtain ⟨g2, e2, D2, m2⟩ := d2
  have v2 := D2.binds (ps := ["slab", "table"]) fun _ _ _ _ _ _ us hl => match us, hl with | [_, _], _ => rfl
  obtain ⟨g3, e3, D3, m3⟩ := d3
  have v3 := D3.binds (ps := ["counts", "slots"]) fun _ _ _ _ _ _ us hl => match us, hl with | [_, _], _ => rfl
  obtain ⟨g4, e4, D4, m4⟩ := d4
  have v4 := D4.binds (ps := ["rows"]) fun _ _ _ _ _ _ us hl => match us, hl with | [_], _ => rfl
  obtain ⟨g5, e5, D5, m5⟩ := d5
  have v5 := D5.binds (ps := ["slab", "rows"]) fun _ _ _ _ _ _ us hl => match us, hl with | [_, _], _ => rfl
  obtain ⟨g6, e6, D6, m6⟩ := d6
  have v6 := D6.binds (ps := ["slab"]) fun _ _ _ _ _ _ us hl => match us, hl with | [_], _ => rfl
  obtain ⟨g7, e7, D7, m7⟩ := d7
  have v7 := D7.binds (ps := ["slab", "table"]) fun _ _ _ _ _ _ us hl => match us, hl with | [_, _], _ => rfl
  obtain ⟨g8, e8, D8, m8⟩ := d8
  have v8 := D8.binds (ps := ["slab", "table"]) fun _ _ _ _ _ _ us hl => match us, hl with | [_, _], _ => rfl
  obtain ⟨g9, e9, D9, m9⟩ := d9
  have v9 := D9.binds (ps := ["slab", "table"]) fun _ _ _ _ _ _ us hl => match us, hl with | [_, _], _ => rfl
  obtain ⟨g10, e10, D10, m10⟩ := d10
  have v10 := D10.binds (ps := ["slab", "table", "row"]) fun _ _ _ _ _ _ us hl => match us, hl with | [_, _, _], _ => rfl
  obtain ⟨g11, e11, D11, m11⟩ := d11
  have v11 := D11.binds (ps := ["slab", "pins"]) fun _ _ _ _ _ _ us hl => match us, hl with | [_, _], _ => rfl
  obtain ⟨g12, e12, D12, m12⟩ := d12
  have v12 := D12.binds (ps := ["slab", "table", "pins"]) fun _ _ _ _ _ _ us hl => match us, hl with | [_, _, _], _ => rfl
  obtain ⟨g13, e13, D13, m13⟩ := d13
  have v13 := D13.binds (ps := ["table", "pinned"]) fun _ _ _ _ _ _ us hl => match us, hl with | [_, _], _ => rfl
  obtain ⟨g14, e14, D14, m14⟩ := d14
  have v14 := D14.binds (ps := ["counts", "least"]) fun _ _ _ _ _ _ us hl => match us, hl with | [_, _], _ => rfl
  obtain ⟨g15, e15, D15, m15⟩ := d15
  have v15 := D15.kb 2 (ps := ["slab", "table", "pins"]) (ks := ["pins"]) (fun _ _ _ _ _ _ us ws h1 h2 => match us, ws, h1, h2 with | [_, _], [_], _, _ => rfl)
  obtain ⟨g16, e16, D16, m16⟩ := d16
  have v16 := D16.kb 3 (ps := ["slab", "table", "answer", "pins"]) (ks := ["pins"]) (fun _ _ _ _ _ _ us ws h1 h2 => match us, ws, h1, h2 with | [_, _, _], [_], _, _ => rfl)
  obtain ⟨g17, e17, D17, m17⟩ := d17
  have v17 := D17.kb 2 (ps := ["slab", "table", "pins"]) (ks := ["pins"]) (fun _ _ _ _ _ _ us ws h1 h2 => match us, ws, h1, h2 with | [_, _], [_], _, _ => rfl)
  obtain ⟨g18, e18, D18, m18⟩ := d18
  have v18 := D18.binds (ps := ["_law_well", "_law_many"]) fun _ _ _ _ _ _ us hl => match us, hl with | [_, _], _ => rfl
  obtain ⟨g19, e19, D19, m19⟩ := d19
  have v19 := D19.binds (ps := ["_law_well"]) fun _ _ _ _ _ _ us hl => match us, hl with | [_], _ => rfl
  obtain ⟨g20, e20, D20, m20⟩ := d20
  have v20 := D20.binds (ps := ["_law_well", "_law_sorts", "_law_most"]) fun _ _ _ _ _ _ us hl => match us, hl with | [_, _, _], _ => rfl
  obtain ⟨g21, e21, D21, m21⟩ := d21
  have v21 := D21.binds (ps := ["_law_sorts", "_law_table_here"]) fun _ _ _ _ _ _ us hl => match us, hl with | [_, _], _ => rfl
  obtain ⟨g22, e22, D22, m22⟩ := d22
  have v22 := D22.binds (ps := ["_law_value", "_law_high"]) fun _ _ _ _ _ _ us hl => match us, hl with | [_, _], _ => rfl
  obtain ⟨g23, e23, D23, m23⟩ := d23
  have v23 := D23.binds (ps := ["_law_sorts", "_law_most", "_law_table_here"]) fun _ _ _ _ _ _ us hl => match us, hl with | [_, _, _], _ => rfl
  obtain ⟨g24, e24, D24, m24⟩ := d24
  have v24 := D24.binds (ps := ["_law_ask"]) fun _ _ _ _ _ _ us hl => match us, hl with | [_], _ => rfl
  obtain ⟨g25, e25, D25, m25⟩ := d25
  have v25 := D25.binds (ps := ["_law_slab_here", "_law_one"]) fun _ _ _ _ _ _ us hl => match us, hl with | [_, _], _ => rfl
  obtain ⟨g26, e26, D26, m26⟩ := d26
  have v26 := D26.binds (ps := ["_law_well", "_law_table_here", "_law_sorts"]) fun _ _ _ _ _ _ us hl => match us, hl with | [_, _, _], _ => rfl
  obtain ⟨g27, e27, D27, m27⟩ := d27
  have v27 := D27.binds (ps := ["_law_slab_here", "_law_sorts", "_law_most", "_law_table_here"]) fun _ _ _ _ _ _ us hl => match us, hl with | [_, _, _, _], _ => rfl
  obtain ⟨g28, e28, D28, m28⟩ := d28
  have v28 := D28.binds (ps := ["_law_well"]) fun _ _ _ _ _ _ us hl => match us, hl with | [_], _ => rfl
  obtain ⟨g29, e29, D29, m29⟩ := d29
  have v29 := D29.binds (ps := ["_law_script"]) fun _ _ _ _ _ _ us hl => match us, hl with | [_], _ => rfl
  have z := hfa.symm.trans m29
  cases z
  have B : Bi mg := ⟨PySem.W.mg_none_of X G b_int, PySem.W.mg_none_of X G b_bool, PySem.W.mg_none_of X G b_tuple, PySem.W.mg_none_of X G b_list, PySem.W.mg_none_of X G b_len, PySem.W.mg_none_of X G b_isinstance, PySem.W.mg_none_of X G b_enumerate, ⟨_, PySem.W.mg_of X G n_classes⟩, ⟨_, PySem.W.mg_of X G n_size⟩, ⟨_, PySem.W.mg_of X G n_slots⟩, ⟨_, PySem.W.mg_of X G n_limit⟩⟩
  have BT : Bt mg := { toBi := B, b_sum := PySem.W.mg_none_of X G b_sum, b_sorted := PySem.W.mg_none_of X G b_sorted, b_set := PySem.W.mg_none_of X G b_set, b_str := PySem.W.mg_none_of X G b_str, c_pages := ⟨_, PySem.W.mg_of X G n_pages⟩ }
  have br : mg "range" = none := PySem.W.mg_none_of X G b_range
  have bzip : mg "zip" = none := PySem.W.mg_none_of X G b_zip
  have ba : mg "all" = none := PySem.W.mg_none_of X G b_all
  have SC : SlabC K mg C := ⟨⟨pg, hd, po, sa⟩, nP, nB, ca, sp, tk, mr, PySem.W.mg_of X G gC, kI, kT, fT, fC⟩
  have gs := PySem.W.mg_of X G gS
  have gn := PySem.W.mg_of X G gN
  have gt := PySem.W.mg_of X G gT
  have gp := PySem.W.mg_of X G gP
  have RR : ∀ base : Heap, RF l.prog w K mg base ⟨C, CS, CT, CP, fI, _, g2, _, g7, _, g8, _, g9, _, g10, _, g15, _, g16, _, g17, _, g18, _, g19, _, g20, _, g23, _, g26, _, _, _, _, g24⟩ := fun base =>
    have Gb := ok_between (P := l.prog) (w := w) (base := base) D0 B
    have Gc := ok_sc (P := l.prog) (w := w) (base := base) D1 B Gb m0 D0.kp v0
    have GD := ok_draw (P := l.prog) (w := w) (base := base) D18 B
    have IS := ok_iNoSlab (P := l.prog) (w := w) (mg := mg) (base := base) FXS TS
    have IN := ok_iNoClass (P := l.prog) (w := w) (mg := mg) (base := base) FXN TN
    have IT := ok_iNoTable (P := l.prog) (w := w) (mg := mg) (base := base) FXT TT
    have IP := ok_iNoPins (P := l.prog) (w := w) (mg := mg) (base := base) FXP TP
    have IPH := ok_iNoPinsH (P := l.prog) (w := w) (mg := mg) (base := base) FXP TP
    have Gz := ok_cls (P := l.prog) (w := w) (base := base) Fz B SC Gb m0 D0.kp v0 TN IN bXN gn
    have GLn := ok_len (P := l.prog) (w := w) (base := base) FL B SC
    have GBy := ok_bytes_of (P := l.prog) (w := w) (base := base) Fb SC Gz ⟨a_z, i_z, k_z⟩ bz
    have GSl := ok_slots_of (P := l.prog) (w := w) (base := base) Fs SC Gz ⟨a_z, i_z, k_z⟩ bz
    have SFF : SF l.prog w K mg base C CN fL fl fb fs _ _ _ _ := ⟨SC, GLn, bL, a_L, i_L, ok_limit (P := l.prog) (w := w) (base := base) Fl SC, bl, ⟨a_l, i_l, k_l⟩, GBy, bb, ⟨a_b, i_b, k_b⟩, GSl, bs, ⟨a_s, i_s, k_s⟩⟩
    have GAr := ok_are_counts (P := l.prog) (w := w) (base := base) D3 BT Gb m0 D0.kp v0
    have GPt := ok_page_total (P := l.prog) (w := w) (base := base) D4 BT
    have GBt := ok_byte_total (P := l.prog) (w := w) (base := base) D5 BT SC GBy bb ⟨a_b, i_b, k_b⟩
    have GCh := ok_check_table (P := l.prog) (w := w) (base := base) D2 BT SFF TT IT bXT gt GAr m3 D3.kp v3 GPt m4 D4.kp v4 GBt m5 D5.kp v5
    have GLv := ok_live (P := l.prog) (w := w) (base := base) D7 GCh m2 D2.kp v2 GBt m5 D5.kp v5
    have GEm := ok_empty (P := l.prog) (w := w) (base := base) D6 BT SC GLn bL a_L i_L
    have GPin := ok_pin_table (P := l.prog) (w := w) (base := base) D11 gt eTT GCh m2 D2.kp v2 GEm m6 D6.kp v6 TP IPH bXP gp
    have GHc := ok_has_counts (P := l.prog) (w := w) (base := base) D14 BT bzip ba
    have GHp := ok_has_pins (P := l.prog) (w := w) (base := base) D13 BT bzip ba GHc m14 D14.kp v14
    have GPo := ok_pins_of (P := l.prog) (w := w) (base := base) D12 BT GCh m2 D2.kp v2 GPin m11 D11.kp v11 GHp m13 D13.kp v13 TP IP bXP gp
    have GOr := ok_order_of (P := l.prog) (w := w) (base := base) D15 GPo m12 D12.kp v12
    { B := B, b_range := br, b_min := PySem.W.mg_none_of X G b_min, b_repr := PySem.W.mg_none_of X G b_repr, b_sorted := PySem.W.mg_none_of X G b_sorted, SC := SC, MK := ⟨mk, a_I, i_I, kC⟩
      GI := ok_init FI B SC TS IS bXS gs Gb m0 D0.kp v0 Gc m1 D1.kp v1, bI := bI
      T2 := ⟨gt, gp, eTT, ePT, ePP, ⟨gaT, ggT, exT, hdT⟩, ⟨gaP, ggP, exP, hdP⟩, nfT, nfP⟩
      GC := GCh, mC := m2, kC := D2.kp, bC := v2
      GV := GLv, mV := m7, kV := D7.kp, bV := v7
      GP := ok_pages (P := l.prog) (w := w) (base := base) D8 BT GCh m2 D2.kp v2, mP := m8, kP := D8.kp, bP := v8
      GS := ok_steps (P := l.prog) (w := w) (base := base) D9 GLv m7 D7.kp v7, mS := m9, kS := D9.kp, bS := v9
      GY := ok_played (P := l.prog) (w := w) (base := base) D10 GLv m7 D7.kp v7, mY := m10, kY := D10.kp, bY := v10
      GO := GOr, mO := m15, kO := D15.kp, KO := v15
      GK := ok_check_order (P := l.prog) (w := w) (base := base) D16 GPo m12 D12.kp v12, mK := m16, kK := D16.kp, KK := v16
      GH := ok_schedule (P := l.prog) (w := w) (base := base) D17 GOr m15 D15.kp v15, mH := m17, kH := D17.kp, KH := v17
      Gd := GD, md := m18, kd := D18.kp, bd := v18
      Gs := ok_slab (P := l.prog) (w := w) (base := base) D19 B br GD m18 D18.kp v18, ms := m19, ks := D19.kp, bs := v19
      Gt := ok_table (P := l.prog) (w := w) (base := base) D20 BT br GD m18 D18.kp v18, mt := m20, kt := D20.kp, bt := v20
      Gb := ok_bad (P := l.prog) (w := w) (base := base) D23 BT (ok_whole (P := l.prog) (w := w) (base := base) D22 B) m22 D22.kp v22 (ok_lawlive (P := l.prog) (w := w) (base := base) D21 BT bzip) m21 D21.kp v21, mb := m23, kb := D23.kp, bb := v23
      Gn := ok_bent (P := l.prog) (w := w) (base := base) D26 B GD m18 D18.kp v18, mn := m26, kn := D26.kp, bn := v26
      mR := m24, kR := D24.kp, lR := by
        obtain ⟨oc, od, kV, doc, pm, an, cdv, ct, osl, rfl, lk, hcd⟩ := D24.ex
        exact ⟨oc, od, kV, doc, pm, an, cdv, ct, osl, lk, hcd⟩ }
  obtain ⟨fb25, ob25, fq25, h1, h2, h3, h4, hc25, ht25⟩ := tab_in X G (tb "_law_doors" (by simp)) nA_ lA_ kA_ vA_
  rw [m25] at h1
  cases h1
  have kp25 := D25.kp
  obtain ⟨oc25, od25, kV25, doc25, pm25, an25, cdv25, ct25, osl25, rfl, lk25, hcd25⟩ := D25.ex
  have h2' := X _ _ lk25
  rw [h2] at h2'
  cases h2'
  cases h3
  have ecd25 : cdv25 = .ref cA := h4
  subst ecd25
  clear h2 h4
  obtain ⟨fb27, ob27, fq27, h1, h2, h3, h4, hc27, ht27⟩ := tab_in X G (tb "_law_pins_right" (by simp)) nB_ lB_ kB_ vB_
  rw [m27] at h1
  cases h1
  have kp27 := D27.kp
  obtain ⟨oc27, od27, kV27, doc27, pm27, an27, cdv27, ct27, osl27, rfl, lk27, hcd27⟩ := D27.ex
  have h2' := X _ _ lk27
  rw [h2] at h2'
  cases h2'
  cases h3
  have ecd27 : cdv27 = .ref cB := h4
  subst ecd27
  clear h2 h4
  have two : ∀ p ∈ ([(cA, PA), (cB, PB)] : List (Addr × Addr)), p = (cA, PA) ∨ p = (cB, PB) := fun p hp => by simpa using hp
  refine ⟨e29, [(cA, PA), (cB, PB)], spLaw K [(PA, (("_law_doors" : Str) ++ (".<locals>." : Str)) ++ ("<lambda>" : Str)), (PB, (("_law_pins_right" : Str) ++ (".<locals>." : Str)) ++ ("<lambda>" : Str))], fun p hp => ?_, fun p hp => ?_, fun p hp => ?_, fun s u => ?_, fun H a ns hl _ hH hS => ?_, fun base hK hG hB => ?_⟩
  · rcases two p hp with rfl | rfl
    · exact ht25
    · exact ht27
  · rcases two p hp with rfl | rfl
    · exact no_tab X nt ht25
    · exact no_tab X nt ht27
  · rcases two p hp with rfl | rfl
    · exact hc25
    · exact hc27
  · obtain ⟨oc, od, kV, doc, pm, an, cdv, ct, osl, rfl, _, _⟩ := D29.ex
    exact .of_eq rfl
  · refine ⟨a, ns, rfl, hS, hl, fun p hp => ?_, fun _ => rfl⟩
    have hp' : p = (PA, (("_law_doors" : Str) ++ (".<locals>." : Str)) ++ ("<lambda>" : Str)) ∨ p = (PB, (("_law_pins_right" : Str) ++ (".<locals>." : Str)) ++ ("<lambda>" : Str)) := by simpa using hp
    rcases hp' with rfl | rfl
    · exact .nil (hH (cA, PA) (by simp))
    · exact .nil (hH (cB, PB) (by simp))
  · have R := RR base
    have GDo := ok_doors R lk25 hcd25 (hB (cA, PA) (by simp)) (T := [(PA, (("_law_doors" : Str) ++ (".<locals>." : Str)) ++ ("<lambda>" : Str)), (PB, (("_law_pins_right" : Str) ++ (".<locals>." : Str)) ++ ("<lambda>" : Str))]) (by simp) (fun p hp e => by
      have hp' : p = (PA, (("_law_doors" : Str) ++ (".<locals>." : Str)) ++ ("<lambda>" : Str)) ∨ p = (PB, (("_law_pins_right" : Str) ++ (".<locals>." : Str)) ++ ("<lambda>" : Str)) := by simpa using hp
      rcases hp' with rfl | rfl
      · rfl
      · exact absurd e (Ne.symm nPP))
    have GPr := ok_pins_right R lk27 hcd27 (hB (cB, PB) (by simp)) (T := [(PA, (("_law_doors" : Str) ++ (".<locals>." : Str)) ++ ("<lambda>" : Str)), (PB, (("_law_pins_right" : Str) ++ (".<locals>." : Str)) ++ ("<lambda>" : Str))]) (by simp) (fun p hp e => by
      have hp' : p = (PA, (("_law_doors" : Str) ++ (".<locals>." : Str)) ++ ("<lambda>" : Str)) ∨ p = (PB, (("_law_pins_right" : Str) ++ (".<locals>." : Str)) ++ ("<lambda>" : Str)) := by simpa using hp
      rcases hp' with rfl | rfl
      · exact absurd e nPP
      · rfl)
    have GRi := ok_right D28 R GDo m25 kp25 v25 GPr m27 kp27 v27
    exact ok_law D29 R GRi m28 D28.kp v28 GDo m25 kp25 v25
end K03
open PySem PySem.W PyProof.Rows
set_option Elab.async false
set_option linter.all false
set_option maxRecDepth 100000 in
set_option maxHeartbeats 0 in
theorem PySem.Challenge.cw_slabpins_k03_invalid_tables_and_pins_holds : PySem.Challenge.rw_slabpins_k03_invalid_tables_and_pins.Holds := by
  w_on; o_law; k_head; (case hw => w_witness2)
  k_fill
  refine XV.walk_G (l := PySem.Challenge.rw_slabpins_k03_invalid_tables_and_pins) (n := 63) (k := 16) (x := "_law_script") ["_law_doors", "_law_pins_right"] rfl (by decide) rfl ⟨rfl, by decide, by decide⟩ (by kernel_rfl) (fun w h Y => PySem.W.km_in_of Y) ?F
  case F =>
    intro w mg fa h KX G hmg tb
    refine' K03.all_mk KX G hmg ?zz_nt tb ?zz_gC ?zz_pg ?zz_hd ?zz_po ?zz_sa ?zz_nP ?zz_nB ?zz_ca ?zz_sp ?zz_tk ?zz_mr ?zz_kI ?zz_kT ?zz_fT ?zz_fC ?zz_mk ?zz_kC ?zz_a_I ?zz_i_I ?zz_l_I ?zz_c_I ?zz_k_I ?zz_a_L ?zz_i_L ?zz_l_L ?zz_c_L ?zz_k_L ?zz_a_l ?zz_i_l ?zz_l_l ?zz_c_l ?zz_k_l ?zz_a_b ?zz_i_b ?zz_l_b ?zz_c_b ?zz_k_b ?zz_a_s ?zz_i_s ?zz_l_s ?zz_c_s ?zz_k_s ?zz_a_z ?zz_i_z ?zz_l_z ?zz_c_z ?zz_k_z ?zz_gS ?zz_xS ?zz_saS ?zz_exS ?zz_tyS ?zz_kcS ?zz_inS ?zz_tiS ?zz_nfS ?zz_gaS ?zz_ggS ?zz_hdS ?zz_l_XS ?zz_c_XS ?zz_k_XS ?zz_gN ?zz_xN ?zz_saN ?zz_exN ?zz_tyN ?zz_kcN ?zz_inN ?zz_tiN ?zz_nfN ?zz_gaN ?zz_ggN ?zz_hdN ?zz_l_XN ?zz_c_XN ?zz_k_XN ?zz_gT ?zz_xT ?zz_saT ?zz_exT ?zz_tyT ?zz_kcT ?zz_inT ?zz_tiT ?zz_nfT ?zz_gaT ?zz_ggT ?zz_hdT ?zz_l_XT ?zz_c_XT ?zz_k_XT ?zz_gP ?zz_xP ?zz_saP ?zz_exP ?zz_tyP ?zz_kcP ?zz_inP ?zz_tiP ?zz_nfP ?zz_gaP ?zz_ggP ?zz_hdP ?zz_l_XP ?zz_c_XP ?zz_k_XP ?zz_eTT ?zz_ePT ?zz_ePP ?zz_b_int ?zz_b_bool ?zz_b_tuple ?zz_b_list ?zz_b_len ?zz_b_isinstance ?zz_b_enumerate ?zz_b_range ?zz_b_sum ?zz_b_sorted ?zz_b_set ?zz_b_str ?zz_b_zip ?zz_b_all ?zz_b_min ?zz_b_repr ?zz_n_classes ?zz_n_size ?zz_n_slots ?zz_n_limit ?zz_n_pages ?zz_nA_ ?zz_lA_ ?zz_kA_ ?zz_vA_ ?zz_nB_ ?zz_lB_ ?zz_kB_ ?zz_vB_ ?zz_nPP ?zzd0 ?zzd1 ?zzd2 ?zzd3 ?zzd4 ?zzd5 ?zzd6 ?zzd7 ?zzd8 ?zzd9 ?zzd10 ?zzd11 ?zzd12 ?zzd13 ?zzd14 ?zzd15 ?zzd16 ?zzd17 ?zzd18 ?zzd19 ?zzd20 ?zzd21 ?zzd22 ?zzd23 ?zzd24 ?zzd25 ?zzd26 ?zzd27 ?zzd28 ?zzd29
    case zz_nt => kernel_rfl
    case zz_gC => k_is
    case zz_pg => k_is
    case zz_hd => k_is
    case zz_po => k_is
    case zz_sa => k_is
    case zz_nP => k_is
    case zz_nB => k_is
    case zz_ca => k_is
    case zz_sp => k_is
    case zz_tk => k_is
    case zz_mr => k_is
    case zz_kI => kit_is
    case zz_kT => kit_is
    case zz_fT => k_is
    case zz_fC => k_is
    case zz_mk => k_is
    case zz_kC => k_is
    case zz_a_I => k_is
    case zz_i_I => k_is
    case zz_l_I => k_is
    case zz_c_I => k_is
    case zz_k_I => k_is
    case zz_a_L => k_is
    case zz_i_L => k_is
    case zz_l_L => k_is
    case zz_c_L => k_is
    case zz_k_L => k_is
    case zz_a_l => k_is
    case zz_i_l => k_is
    case zz_l_l => k_is
    case zz_c_l => k_is
    case zz_k_l => k_is
    case zz_a_b => k_is
    case zz_i_b => k_is
    case zz_l_b => k_is
    case zz_c_b => k_is
    case zz_k_b => k_is
    case zz_a_s => k_is
    case zz_i_s => k_is
    case zz_l_s => k_is
    case zz_c_s => k_is
    case zz_k_s => k_is
    case zz_a_z => k_is
    case zz_i_z => k_is
    case zz_l_z => k_is
    case zz_c_z => k_is
    case zz_k_z => k_is
    case zz_gS => k_is
    case zz_xS => k_is
    case zz_saS => k_is
    case zz_exS => k_is
    case zz_tyS => k_is
    case zz_kcS => k_is
    case zz_inS => k_is
    case zz_tiS => k_is
    case zz_nfS => k_is
    case zz_gaS => k_is
    case zz_ggS => k_is
    case zz_hdS => k_is
    case zz_l_XS => k_is
    case zz_c_XS => k_is
    case zz_k_XS => k_is
    case zz_gN => k_is
    case zz_xN => k_is
    case zz_saN => k_is
    case zz_exN => k_is
    case zz_tyN => k_is
    case zz_kcN => k_is
    case zz_inN => k_is
    case zz_tiN => k_is
    case zz_nfN => k_is
    case zz_gaN => k_is
    case zz_ggN => k_is
    case zz_hdN => k_is
    case zz_l_XN => k_is
    case zz_c_XN => k_is
    case zz_k_XN => k_is
    case zz_gT => k_is
    case zz_xT => k_is
    case zz_saT => k_is
    case zz_exT => k_is
    case zz_tyT => k_is
    case zz_kcT => k_is
    case zz_inT => k_is
    case zz_tiT => k_is
    case zz_nfT => k_is
    case zz_gaT => k_is
    case zz_ggT => k_is
    case zz_hdT => k_is
    case zz_l_XT => k_is
    case zz_c_XT => k_is
    case zz_k_XT => k_is
    case zz_gP => k_is
    case zz_xP => k_is
    case zz_saP => k_is
    case zz_exP => k_is
    case zz_tyP => k_is
    case zz_kcP => k_is
    case zz_inP => k_is
    case zz_tiP => k_is
    case zz_nfP => k_is
    case zz_gaP => k_is
    case zz_ggP => k_is
    case zz_hdP => k_is
    case zz_l_XP => k_is
    case zz_c_XP => k_is
    case zz_k_XP => k_is
    case zz_eTT => kts_exm
    case zz_ePT => kts_exm
    case zz_ePP => kts_exm
    case zz_b_int => k_is
    case zz_b_bool => k_is
    case zz_b_tuple => k_is
    case zz_b_list => k_is
    case zz_b_len => k_is
    case zz_b_isinstance => k_is
    case zz_b_enumerate => k_is
    case zz_b_range => k_is
    case zz_b_sum => k_is
    case zz_b_sorted => k_is
    case zz_b_set => k_is
    case zz_b_str => k_is
    case zz_b_zip => k_is
    case zz_b_all => k_is
    case zz_b_min => k_is
    case zz_b_repr => k_is
    case zz_n_classes => k_is
    case zz_n_size => k_is
    case zz_n_slots => k_is
    case zz_n_limit => k_is
    case zz_n_pages => k_is
    case zz_nA_ => k_is
    case zz_lA_ => k_is
    case zz_kA_ => k_is
    case zz_vA_ => rfl
    case zz_nB_ => k_is
    case zz_lB_ => k_is
    case zz_kB_ => k_is
    case zz_vB_ => rfl
    case zz_nPP => decide
    case zzd0 => (refine' K03.def_mk KX G ?zza0 ?zzl0 ?zzc0 ?zzk0; (case zza0 => k_is); (case zzl0 => k_is); (case zzc0 => k_is); (case zzk0 => k_is))
    case zzd1 => (refine' K03.def_mk KX G ?zza1 ?zzl1 ?zzc1 ?zzk1; (case zza1 => k_is); (case zzl1 => k_is); (case zzc1 => k_is); (case zzk1 => k_is))
    case zzd2 => (refine' K03.def_mk KX G ?zza2 ?zzl2 ?zzc2 ?zzk2; (case zza2 => k_is); (case zzl2 => k_is); (case zzc2 => k_is); (case zzk2 => k_is))
    case zzd3 => (refine' K03.def_mk KX G ?zza3 ?zzl3 ?zzc3 ?zzk3; (case zza3 => k_is); (case zzl3 => k_is); (case zzc3 => k_is); (case zzk3 => k_is))
    case zzd4 => (refine' K03.def_mk KX G ?zza4 ?zzl4 ?zzc4 ?zzk4; (case zza4 => k_is); (case zzl4 => k_is); (case zzc4 => k_is); (case zzk4 => k_is))
    case zzd5 => (refine' K03.def_mk KX G ?zza5 ?zzl5 ?zzc5 ?zzk5; (case zza5 => k_is); (case zzl5 => k_is); (case zzc5 => k_is); (case zzk5 => k_is))
    case zzd6 => (refine' K03.def_mk KX G ?zza6 ?zzl6 ?zzc6 ?zzk6; (case zza6 => k_is); (case zzl6 => k_is); (case zzc6 => k_is); (case zzk6 => k_is))
    case zzd7 => (refine' K03.def_mk KX G ?zza7 ?zzl7 ?zzc7 ?zzk7; (case zza7 => k_is); (case zzl7 => k_is); (case zzc7 => k_is); (case zzk7 => k_is))
    case zzd8 => (refine' K03.def_mk KX G ?zza8 ?zzl8 ?zzc8 ?zzk8; (case zza8 => k_is); (case zzl8 => k_is); (case zzc8 => k_is); (case zzk8 => k_is))
    case zzd9 => (refine' K03.def_mk KX G ?zza9 ?zzl9 ?zzc9 ?zzk9; (case zza9 => k_is); (case zzl9 => k_is); (case zzc9 => k_is); (case zzk9 => k_is))
    case zzd10 => (refine' K03.def_mk KX G ?zza10 ?zzl10 ?zzc10 ?zzk10; (case zza10 => k_is); (case zzl10 => k_is); (case zzc10 => k_is); (case zzk10 => k_is))
    case zzd11 => (refine' K03.def_mk KX G ?zza11 ?zzl11 ?zzc11 ?zzk11; (case zza11 => k_is); (case zzl11 => k_is); (case zzc11 => k_is); (case zzk11 => k_is))
    case zzd12 => (refine' K03.def_mk KX G ?zza12 ?zzl12 ?zzc12 ?zzk12; (case zza12 => k_is); (case zzl12 => k_is); (case zzc12 => k_is); (case zzk12 => k_is))
    case zzd13 => (refine' K03.def_mk KX G ?zza13 ?zzl13 ?zzc13 ?zzk13; (case zza13 => k_is); (case zzl13 => k_is); (case zzc13 => k_is); (case zzk13 => k_is))
    case zzd14 => (refine' K03.def_mk KX G ?zza14 ?zzl14 ?zzc14 ?zzk14; (case zza14 => k_is); (case zzl14 => k_is); (case zzc14 => k_is); (case zzk14 => k_is))
    case zzd15 => (refine' K03.def_mk KX G ?zza15 ?zzl15 ?zzc15 ?zzk15; (case zza15 => k_is); (case zzl15 => k_is); (case zzc15 => k_is); (case zzk15 => k_is))
    case zzd16 => (refine' K03.def_mk KX G ?zza16 ?zzl16 ?zzc16 ?zzk16; (case zza16 => k_is); (case zzl16 => k_is); (case zzc16 => k_is); (case zzk16 => k_is))
    case zzd17 => (refine' K03.def_mk KX G ?zza17 ?zzl17 ?zzc17 ?zzk17; (case zza17 => k_is); (case zzl17 => k_is); (case zzc17 => k_is); (case zzk17 => k_is))
    case zzd18 => (refine' K03.def_mk KX G ?zza18 ?zzl18 ?zzc18 ?zzk18; (case zza18 => k_is); (case zzl18 => k_is); (case zzc18 => k_is); (case zzk18 => k_is))
    case zzd19 => (refine' K03.def_mk KX G ?zza19 ?zzl19 ?zzc19 ?zzk19; (case zza19 => k_is); (case zzl19 => k_is); (case zzc19 => k_is); (case zzk19 => k_is))
    case zzd20 => (refine' K03.def_mk KX G ?zza20 ?zzl20 ?zzc20 ?zzk20; (case zza20 => k_is); (case zzl20 => k_is); (case zzc20 => k_is); (case zzk20 => k_is))
    case zzd21 => (refine' K03.def_mk KX G ?zza21 ?zzl21 ?zzc21 ?zzk21; (case zza21 => k_is); (case zzl21 => k_is); (case zzc21 => k_is); (case zzk21 => k_is))
    case zzd22 => (refine' K03.def_mk KX G ?zza22 ?zzl22 ?zzc22 ?zzk22; (case zza22 => k_is); (case zzl22 => k_is); (case zzc22 => k_is); (case zzk22 => k_is))
    case zzd23 => (refine' K03.def_mk KX G ?zza23 ?zzl23 ?zzc23 ?zzk23; (case zza23 => k_is); (case zzl23 => k_is); (case zzc23 => k_is); (case zzk23 => k_is))
    case zzd24 => (refine' K03.def_mk KX G ?zza24 ?zzl24 ?zzc24 ?zzk24; (case zza24 => k_is); (case zzl24 => k_is); (case zzc24 => k_is); (case zzk24 => k_is))
    case zzd25 => (refine' K03.def_mk KX G ?zza25 ?zzl25 ?zzc25 ?zzk25; (case zza25 => k_is); (case zzl25 => k_is); (case zzc25 => k_is); (case zzk25 => k_is))
    case zzd26 => (refine' K03.def_mk KX G ?zza26 ?zzl26 ?zzc26 ?zzk26; (case zza26 => k_is); (case zzl26 => k_is); (case zzc26 => k_is); (case zzk26 => k_is))
    case zzd27 => (refine' K03.def_mk KX G ?zza27 ?zzl27 ?zzc27 ?zzk27; (case zza27 => k_is); (case zzl27 => k_is); (case zzc27 => k_is); (case zzk27 => k_is))
    case zzd28 => (refine' K03.def_mk KX G ?zza28 ?zzl28 ?zzc28 ?zzk28; (case zza28 => k_is); (case zzl28 => k_is); (case zzc28 => k_is); (case zzk28 => k_is))
    case zzd29 => (refine' K03.def_mk KX G ?zza29 ?zzl29 ?zzc29 ?zzk29; (case zza29 => k_is); (case zzl29 => k_is); (case zzc29 => k_is); (case zzk29 => k_is))
#print axioms PySem.Challenge.cw_slabpins_k03_invalid_tables_and_pins_holds
