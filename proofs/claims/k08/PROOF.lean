import PyProof.Rows.All
import Wide.All
import OpenK.AllK
import Wide.FinOn
import HandS.ForMost
import HandS.OwnEq
import HandS.SlotsOwn
import HandS.Property
import HandS.MakeKw
import HandS.MakeKwOnly
import HandS.IsInst
import HandS.Gcd
import HandS.Wide
import HandS.WideBits
import HandS.FStr
import KE.KFmtOwn
import PyProof.FactsAll.dict
import KE.KEqNest
import KE.GoesEnum
import PyProof.NeKinds
import HandS.Comp
import HandS.Iter
import KE.KOpsOwn
import HandS.ClsMeth
import HandS.StrMore
import HandS.Text
import PyProof.StrLawsAffix
import HandS.TryMany
import HandS.ExcIs
import HandS.ExcField
import HandS.HotCalls
import KE.KTryMore
import HandS.ExcInit
import HandS.ExcValue
import KE.KExcInit
import HandS.Lambda
import HandS.ExcOwn
import PyProof.Rows.Digits
import PyProof.Rows.StrOr
import HandS.EndTab
import HandS.HeadWalk
import PyProof.Rows.SortStrRead
import PyProof.ReprLen
import PyProof.ReprNest
import KE.GoesComp
import HandS.Exc
import HandS.CallLocal
import HandS.DeepEq
import PySem.Challenge.RW_seriesforms_k08_series_refused
import KE.KNestM
import KE.HD3
import HandS.HeadHook1
import HandS.HeadHook2
import HandS.TryOnly
import HandS.ExcInitHot
import HandS.SuiteRaise
import HandS.Style
import HandS.Hot
import HandS.TupAny
import HandS.RaiseMore
import HandS.AnyAll
import KE.RegKIsAll
set_option Elab.async false
set_option maxRecDepth 100000
set_option maxHeartbeats 8000000
set_option linter.all false
/-! A def's promise where it is known that no guard runs (a container may be shown). -/
namespace SF
open PySem PySem.Spec PyProof.Rows L2

structure FnG (P : Program) (w : World) (K : PySem.W.Frag) (mg : Str → Option Value) (base : Heap) (CX : CXT) (k : Nat) (f : Addr) (fd : FuncData) (ps : List Str) (sp : Sp) : Prop where
  len : ∀ vs H Q E, sp vs H Q E → vs.length = ps.length
  run : ∀ (A : Around) (outer : List Env) (s : Shared) (H : Hp) (args : Args) (us : List Value) (vs : List V) (Q : VK) (E : XK), A.guards = some [] → Room k A → Env0 P w K mg base A outer s H → BindsTo s fd args (ps.zip us) → Vals vs us → sp vs H Q E →
    codeAny (model P w) A (.call (.ref f) args) (CR CX outer P w H s Q E) s

section
variable {X : Cx} {CX : CXT} {k : Nat} {f : Addr} {fd : FuncData} {ps : List Str} {sp : Sp} {dvs : List V} {ds : List Value} {E : XK} {x : Str} {p pos : Pos} {e : Expr} {es : List Expr} {t : TA}
theorem run_fnG {pins : List (Addr × Obj)} {σ : L2.St} {H : Hp} {s : Shared} {Q : VK} {us : List Value} {vs : List V} (F : FnG X.prog X.w X.K X.mg X.base CX k f fd ps sp) (hgd : X.A.guards = some []) (hr : Room k X.A) (hb : Binds X.K fd ps ds) (hd : Vals dvs ds) (hx : Passes CX X E)
    (I : Inv X pins σ H s) (r : Vals vs us) (h : sp (vs ++ dvs) H Q E) : wpAny (model X.prog X.w) X.A (call (.ref f) us) (EP X pins σ Q) X.xe s := by
  have r2 : Vals (vs ++ dvs) (us ++ ds) := r.append hd
  have hl : (us ++ ds).length = ps.length := by rw [← r2.length]; exact F.len _ _ _ _ h
  refine wpAny_call (codeAny_mono (F.run X.A X.stack s H ⟨us, []⟩ (us ++ ds) (vs ++ dvs) Q E hgd hr I.env0 (hb s us I.kIn hl) r2 h) fun r s' hq => ?_)
  cases r with
  | error e => exact hx pins σ H s e s' I hq
  | ok fl =>
    cases fl with
    | ret u => exact I.after hq
    | next => exact False.elim hq
    | brk => exact False.elim hq
    | cont => exact False.elim hq
theorem pe_callG (F : FnG X.prog X.w X.K X.mg X.base CX k f fd ps sp) (hgd : X.A.guards = some []) (hr : Room k X.A) (hg : Gl X x) (hm : X.mg x = some (.ref f)) (hk : PySem.W.keepIn X.K (.ref f) = true) (hb : Binds X.K fd ps ds) (hd : Vals dvs ds) (hx : Passes CX X E)
    (ha : PA X (e :: es) t) (hdb : (x == ("__debug__" : Str)) = false := by decide) (he : starEach (e :: es) X.env = (false, eval e X.env) :: starEach es X.env := by rfl) (hpl : (backTo pos (starEach es X.env)).any (·.1) = false := by rfl) :
    PE X (.Call (.Name x p) (e :: es) [] pos) (tCall sp dvs E t) := by
  refine ⟨fun pins s σ H Q I h => ?_⟩
  refine wpAny_Call_Name_kw (ld_glob I hg hm ?_ hdb)
  refine PySem.W.callWith_K (h₀ := X.base) I.ok.mod.kin hk (thn (ha.run pos pins s σ H _ I h) fun us s1 ⟨vs, H1, I1, r, q⟩ => ⟨I1.kIn, ?_⟩) he hpl
  exact run_fnG F hgd hr hb hd hx I1 r q
end

theorem fn_ofG {CX : CXT} {P : Program} {w : World} {K : PySem.W.Frag} {mg : Str → Option Value} {base : Heap} {k : Nat} {f : Addr} {name qual : Str} {params : Arguments} {body : List Stmt} {scope : Scope} {dV kV doc pm cdv ct oc : Value} {an od : Option Addr}
    {osl : Array (Option Value)} {N ps : List Str} {sp : Sp} (lk : K.lookup f = some ⟨oc, od, .func (PySem.W.fnOf name qual params body scope dV kV doc pm an cdv ct), osl⟩) (hcd : PySem.W.codeIn K cdv qual = true) (S : FnScope N ps scope)
    (len : ∀ vs H Q E, sp vs H Q E → vs.length = ps.length)
    (hbody : ∀ (A : Around) (outer : List Env) (s : Shared) (H : Hp) (vs : List V) (Q : VK) (E : XK), A.guards = some [] → Room k (A.deeper (envOfC qual scope s.heap.objs.size f cdv)) → sp vs H Q E →
      ∃ t, PSs (cxOf CX P w K mg base N qual scope f cdv A outer s H E) body t ∧ t { nx := fun _ H' => Q .non H', rt := Q } (start N vs) H) :
    FnG P w K mg base CX (k + 1) f (PySem.W.fnOf name qual params body scope dV kV doc pm an cdv ct) ps sp := by
  refine ⟨len, fun A outer s H args us vs Q E hgd hr e0 hb r hsp => ?_⟩
  have hl := len _ _ _ _ hsp
  have KX : K.In s.heap := e0.mod.kin.keeps fun b o e => (e0.bs b o e).1
  have lim : s.heap.NoLimit := e0.mod.nolimit.keeps fun b o e => (e0.bs b o e).1
  have hkind : ∀ y ∈ ps.zip us, scope.names.lookup y.1 = some .local ∨ (scope.names.lookup y.1 = some .cell ∧ ((cellsFrom (s.heap.objs.size + 1) scope.names []).lookup y.1).isSome = true) := fun ⟨n, v⟩ hy => by
    rcases S.par n (List.of_mem_zip hy).1 with q | q
    · exact .inl q
    · exact .inr ⟨q, PySem.W.cellsFrom_some _ _ _ (.inl q)⟩
  refine codeAny_call_function hr.depth (KX _ _ lk) rfl S.co S.gen rfl (PySem.W.codeRec_of KX hcd) (hb _ _ _ _ ?_)
  refine wpAny_newFunctionEnv_cells S.kind hkind fun env he s1 x => ?_
  subst he
  refine ⟨lim.keeps x.toInCall.keep, codeAny_func ?_⟩
  obtain ⟨t, ht, hq⟩ := hbody A outer s H vs Q E hgd (hr.deeper _) hsp
  have I : Inv (cxOf CX P w K mg base N qual scope f cdv A outer s H E) [] (start N vs) H s1 := inv_start S hr.hd e0 hl r x
  refine wpAny_mono (ht.run [] s1 (start N vs) H _ I hq) (fun fl s' hs => ?_) fun e s' hs => hs
  have fin : ∀ {σ' : L2.St} {H' : Hp} {v : V} {u : Value}, Inv (cxOf CX P w K mg base N qual scope f cdv A outer s H E) [] σ' H' s' → RelV v u → Q v H' → CE outer P w H s Q u s' :=
    fun {σ' H' v u} J rv q => ⟨v, H', J.os, J.bare, J.base, J.hok, rv, q⟩
  cases fl with
  | ret u =>
    obtain ⟨v, σ', H', J, rv, q⟩ := hs
    exact fin J rv q
  | next =>
    obtain ⟨σ', H', J, q⟩ := hs
    exact fin (v := V.non) (u := Value.none) J rfl q
  | brk =>
    obtain ⟨_, _, _, q⟩ := hs
    exact False.elim q
  | cont =>
    obtain ⟨_, _, _, q⟩ := hs
    exact False.elim q

section
variable {P : Program} {w : World} {K : PySem.W.Frag} {mg : Str → Option Value} {base : Heap}
theorem okG {x qual : Str} {st : Stmt} {f : Addr} {fd : FuncData} {N ps : List Str} {k : Nat} {sp : Sp} (F : Fun K x qual st f fd) (S : FnScope N ps (defScope st)) (len : ∀ vs H Q E, sp vs H Q E → vs.length = ps.length)
    (hbody : ∀ (cdv : Value) (A : Around) (outer : List Env) (s : Shared) (H : Hp) (vs : List V) (Q : VK) (E : XK), A.guards = some [] → Room k (A.deeper (envOfC qual (defScope st) s.heap.objs.size f cdv)) → sp vs H Q E →
      ∃ t, PSs (cxOf CX0 P w K mg base N qual (defScope st) f cdv A outer s H E).nox (defBody st) t ∧ t { nx := fun _ H' => Q .non H', rt := Q } (start N vs) H) : FnG P w K mg base CX0 (k + 1) f fd ps sp := by
  obtain ⟨oc, od, kV, doc, pm, an, cdv, ct, osl, rfl, lk, hcd⟩ := F.ex
  refine fn_ofG lk hcd S len fun A outer s H vs Q E hgd hr hsp => ?_
  obtain ⟨t, h, q⟩ := hbody cdv A outer s H vs Q E hgd hr hsp
  exact ⟨t, h.nox, q⟩
end
example (A : Around) (e : Env) (h : A.guards = some []) : (A.deeper e).guards = some [] := h
example (A : Around) (h : A.guards = some []) : (A.in1).guards = some [] := h
example : callerA.guards = some [] := rfl
end SF

namespace SF
open PySem PySem.Spec PyProof.Rows L2
open AutoSeq1 (wpAny_loadPart')

/-! ### // by any divisor but 0 -/
def CDivZ (_ j : Int) : Prop := j ≠ 0 ∧ j.natAbs.log2 < 9000
section
variable {X : Cx}
theorem op_fdivZ : OpR X (binaryOp .FloorDiv) (rI CDivZ fun i j => .int (i.fdiv j)) := opI fun i j _ _ _ _ _ hc q =>
  floordiv_int hc.1 q (.inl (PyProof.noPylong_of_log2 hc.2))
end

section
variable {X : Cx} {CX : CXT} {n : Nat} {C g : Addr} {fd : FuncData} {ps : List Str} {sp : Sp} {E : XK}

/-- an instance's place in the state -/
theorem inst_of {pins : List (Addr × Obj)} {σ : L2.St} {H : Hp} {s : Shared} {a C dx : Addr} {fs : List (Str × V)} (I : Inv X pins σ H s) (e : H a = some (.ins C dx fs)) : ∃ od, PySem.W.InstAt s.heap a (PySem.W.instObj C dx) C (some od) := by
  obtain ⟨mA, O, _⟩ := ins_get I.hok e
  obtain ⟨od, J, _⟩ := O.look
  exact ⟨od, J⟩

/-- x op y, x an instance of the class at C whose own def for op stands at g, y of any kind -/
def rOwnL (K : PySem.W.Frag) (C : Addr) (sp : Sp) (E : XK) : R2 := fun x y H Q => ∃ a dx fs tb, x = .ref a ∧ H a = some (.ins C dx fs) ∧ TyX K H y tb ∧ PySem.W.notFirst K C tb = true ∧ sp [x, y] H Q E
theorem op_ownL {op : CmpOp} (hop : ∀ a b, compareOp op a b = richCompare op a b) (hs : PySem.W.findIn X.K (.ref C) (cmpInfo op).2.1 = some (some (.ref g))) (hf : PySem.W.isFn X.K (.ref g) = true)
    (F : FnOk X.prog X.w X.K X.mg X.base CX n g fd ps sp) (hb : Binds X.K fd ps []) (hr : Room n X.A) (hx : Passes CX X E) : OpR X (compareOp op) (rOwnL X.K C sp E) := by
  intro pins s σ H x y v u Q I rx ry h
  obtain ⟨a, dx, fs, tb, rfl, ha, ty, hn, q⟩ := h
  cases (show v = Value.ref a from rx)
  obtain ⟨od, J⟩ := inst_of I ha
  obtain ⟨P, kt, hP, _⟩ := kit_of I ry ty
  obtain ⟨m, hF⟩ := I.fr
  rw [hop]
  refine PySem.W.cmp_K (op := op) (tb := tb) hr.units0 hF I.ok.mod.kin J (kt.ty _ _ I.kIn hP) hn hs hf ?_
  refine wpAny_mono (run_fn (us := [.ref a, u]) (vs := [.ref a, y]) (dvs := []) (ds := []) F hr hb .nil hx I (.cons rfl (.cons ry .nil)) (by simpa using q)) (fun w s' z => ?_) fun _ _ x => x
  obtain ⟨z', H', I', rz, qz⟩ := z
  exact SlX.cmpback rz ⟨z', H', I', rz, qz⟩

/-- bool of an instance with its own __bool__, as a test -/
def rOwnB (C : Addr) (sp : Sp) (E : XK) : V → Hp → (Bool → Hp → Prop) → Prop := fun x H Q => ∃ a dx fs, x = .ref a ∧ H a = some (.ins C dx fs) ∧ sp [x] H (fun z H' => ∃ b, z = .bl b ∧ Q b H') E
theorem tru_own (hs : PySem.W.findIn X.K (.ref C) "__bool__" = some (some (.ref g))) (hf : PySem.W.isFn X.K (.ref g) = true)
    (F : FnOk X.prog X.w X.K X.mg X.base CX n g fd ps sp) (hb : Binds X.K fd ps []) (hr : Room n X.A) (hx : Passes CX X E) : TruR X (rOwnB C sp E) := by
  intro pins s σ H x v Q I rx h
  obtain ⟨a, dx, fs, rfl, ha, q⟩ := h
  cases (show v = Value.ref a from rx)
  obtain ⟨od, J⟩ := inst_of I ha
  obtain ⟨m, hF⟩ := I.fr
  refine PySem.W.truthy_K hF I.ok.mod.kin J hs hf ?_
  refine wpAny_mono (run_fn (us := [.ref a]) (vs := [.ref a]) (dvs := []) (ds := []) F hr hb .nil hx I (.cons rfl .nil) (by simpa using q)) (fun w s' z => ?_) fun _ _ x => x
  obtain ⟨z', H', I', rz, qz⟩ := z
  rcases qz with ⟨ez, qz⟩ | ⟨ez, qz⟩
  · subst ez
    cases (show w = Value.bool _ from rz)
    exact ⟨H', I', qz⟩
  · subst ez
    cases (show w = Value.bool _ from rz)
    exact ⟨H', I', qz⟩
end

/-! ### != by an own __eq__, and the reflected comparisons -/
section
variable {prog : Program} {w : World} {A : Around} {E : Value → Shared → Prop} {s : Shared} {K : PySem.W.Frag} {x C L f : Addr} {h₀ : Heap} {m : Str → Option Value} {ox : Obj} {od : Option Obj} {b tb : Value}
/-- a special that a class takes from a built-in one, called if bound -/
theorem ifBound_B {M : Model} {name : Str} {id : String} {args : List Value} {Q : Option Value → Shared → Prop} (X : K.In s.heap) (I : PySem.W.InstAt s.heap x ox C od) (hs : PySem.W.findIn K (.ref C) name = some (some (.builtin id)))
    (hb : ∀ self, bindSpecial (.builtin id) self = pure (.builtin id, [self])) (h : wpAny M A (call (.builtin id) (.ref x :: args)) (fun v => Q (some v)) E s) : wpAny M A (callSpecialIfBound? (.ref x) name args) Q E s := by
  simp only [callSpecialIfBound?, bindSpecialIfBound?]
  refine wpAny_holding (wpAny_bind (wpAny_bind (wpAny_bind (I.type.here ((PySem.W.looks_findIn X hs).here ?_)))))
  refine wpAny_bind (wpAny_askSetting (wpAny_ite ?_))
  have fin : wpAny M A (call (.builtin id) ([.ref x] ++ args) >>= fun v => pure (some v)) Q E s := wpAny_bind (wpAny_mono h (fun v s' h' => wpAny_pure h') fun _ _ h' => h')
  split
  · exact wpAny_bind ((PySem.W.Looks.of_pure (hb _)).here (wpAny_pure (by exact fin)))
  · exact wpAny_tryCatch (wpAny_bind ((PySem.W.Looks.of_pure (hb _)).here (wpAny_pure (by exact fin))))

/-- what an own == must give for != : a truth value -/
def NeBack (Q : Value → Shared → Prop) (v : Value) (s' : Shared) : Prop := ∃ k, v = .bool k ∧ Q (.bool (!k)) s'
theorem objNe_own {Q : Value → Shared → Prop} (hu : A.in1.units < cLine) (X : K.In s.heap) (I : PySem.W.InstAt s.heap x ox C od) (hm : PySem.W.mroIn K C (.type "object") = some true)
    (hs : PySem.W.findIn K (.ref C) "__eq__" = some (some (.ref f))) (hf : PySem.W.isFn K (.ref f) = true) (h : wpAny (model prog w) A.in1 (call (.ref f) [.ref x, b]) (NeBack Q) E s) :
    wpAny (model prog w) A (call (.builtin "object.__ne__") [.ref x, b]) Q E s := by
  refine wpAny_call (codeAny_call_builtin PySem.F.cmp_object.ne.plain PySem.F.cmpEntry_ne (PySem.W.check_slot (i := "object.__ne__") (owner := "object") (n := "__ne__") (by decide +kernel) (by decide +kernel) (I.type.andThen (PySem.W.looks_mroIn X hm)) (PySem.F.cmpArgs_ne _ _) ?_))
  unfold Builtin.«object.__ne__»
  refine wpAny_bind (m := slotArgs "__ne__" 1 _) (wpAny_pure ?_)
  refine wpAny_bind (m := cRoomFor _ _) (wpAny_cRoomFor hu ?_)
  refine wpAny_bind (m := callSpecialIfBound? (.ref x) (Str.ofString "__eq__") _) (PySem.W.ifBound_K X I hs hf (wpAny_mono h (fun r s' hq => ?_) fun _ _ y => y))
  obtain ⟨k, rfl, hq⟩ := hq
  exact wpAny_bind (wpAny_truthy_bool (wpAny_pure hq))
theorem ne_K {Q : Value → Shared → Prop} (hu : A.in1.units < cLine) (X : K.In s.heap) (I : PySem.W.InstAt s.heap x ox C od) (hb : PySem.W.Looks (model prog w) s.heap (typeOf b) tb) (hn : PySem.W.notFirst K C tb = true)
    (hne : PySem.W.findIn K (.ref C) "__ne__" = some (some (.builtin "object.__ne__"))) (hm : PySem.W.mroIn K C (.type "object") = some true)
    (hs : PySem.W.findIn K (.ref C) "__eq__" = some (some (.ref f))) (hf : PySem.W.isFn K (.ref f) = true)
    (h : wpAny (model prog w) A.in1 (call (.ref f) [.ref x, b]) (NeBack Q) E s) : wpAny (model prog w) A (richCompare .NotEq (.ref x) b) Q E s := by
  have one : wpAny (model prog w) A (tryCompare (.ref x) (cmpInfo .NotEq).2.1 b) (fun r s' => ∃ v, r = some v ∧ Q v s') E s := by
    unfold tryCompare
    refine wpAny_bind (ifBound_B X I hne PySem.F.cmp_object.ne.bind (objNe_own hu X I hm hs hf (wpAny_mono h (fun v s' hv => ?_) fun _ _ e => e)))
    obtain ⟨k, rfl, hq⟩ := hv
    exact ⟨k, rfl, wpAny_pure ⟨_, rfl, hq⟩⟩
  unfold richCompare
  simp only [oneThing_ref]
  refine wpAny_holding (wpAny_bind (wpAny_cRoomFor (Nat.lt_of_succ_lt hu) ?_))
  refine wpAny_bind (I.type.here (wpAny_bind (hb.here ?_)))
  split
  · rename_i q
    have e : PySem.W.subIn K tb (.ref C) = some false := by
      rcases Bool.or_eq_true_iff.mp hn with e | e
      · rw [beq_iff_eq.mp e] at q; simp at q
      · exact beq_iff_eq.mp e
    refine wpAny_bind ((PySem.W.looks_subIn X e).here ?_)
    simp only [Bool.false_eq_true, if_false]
    refine wpAny_bind (wpAny_mono one (fun r s' z => ?_) fun _ _ e => e)
    obtain ⟨v, rfl, hq⟩ := z
    exact wpAny_pure hq
  · refine wpAny_bind (wpAny_pure ?_)
    simp only [Bool.false_eq_true, if_false]
    refine wpAny_bind (wpAny_mono one (fun r s' z => ?_) fun _ _ e => e)
    obtain ⟨v, rfl, hq⟩ := z
    exact wpAny_pure hq
end
/-! ### the other side -/
section
variable {prog : Program} {w : World} {A : Around} {E : Value → Shared → Prop} {s : Shared} {K : PySem.W.Frag} {x C L f : Addr} {h₀ : Heap} {m : Str → Option Value} {ox : Obj} {od : Option Obj} {a tb : Value}
/-- a op x, where a (of the built-in type T) declines, and the instance x answers -/
theorem cmp_KR {op : CmpOp} {T : String} {Q : Value → Shared → Prop} (hu : A.units < cLine) (h1 : oneThing? op a (.ref x) = none) (ha : PySem.W.Looks (model prog w) s.heap (typeOf a) (.type T)) (X : K.In s.heap) (I : PySem.W.InstAt s.heap x ox C od)
    (hsub : PySem.W.subIn K (.ref C) (.type T) = some false)
    (hdec : ∀ (E : Value → Shared → Prop) (R : Option Value → Shared → Prop), R none s → wpAny (model prog w) A (tryCompare a (cmpInfo op).2.1 (.ref x)) R E s)
    (hr : wpAny (model prog w) A (tryCompare (.ref x) (cmpInfo op).2.2 a) (fun r s' => ∃ v, r = some v ∧ Q v s') E s) : wpAny (model prog w) A (richCompare op a (.ref x)) Q E s := by
  unfold richCompare
  simp only [h1]
  refine wpAny_holding (wpAny_bind (wpAny_cRoomFor hu ?_))
  refine wpAny_bind (ha.here (wpAny_bind (I.type.here ?_)))
  have ne : (Value.type T != Value.ref C) = true := by simp [bne]
  simp only [ne, if_true]
  refine wpAny_bind ((PySem.W.looks_subIn X hsub).here ?_)
  simp only [Bool.false_eq_true, if_false, Bool.not_false, if_true]
  refine wpAny_bind (hdec _ _ ?_)
  refine wpAny_bind (wpAny_mono hr (fun r s' z => ?_) fun _ _ e => e)
  obtain ⟨v, rfl, hq⟩ := z
  exact wpAny_pure hq
end
end SF

namespace SF
open PySem PySem.Spec PyProof.Rows L2
open AutoSeq1 (wpAny_loadPart')
open PySem.SeqAt

theorem int_eq_decl (b : Int) (u : Tok) (l C dx : Addr) :
    Meets (Builtin.«int.__eq__» ⟨[.int b u, .ref l], []⟩) (fun _ R s => s.heap.get? l = some (PySem.W.instObj C dx) ∧ R (.ok (.ret .notImplemented)) s) :=
  .of_wp fun prog w A R s h => by obtain ⟨hp, g, d, tk, os⟩ := s; obtain ⟨hl, h⟩ := h; wp_walk using wpAny_loadPart' hl, wpAny_load hl; exact ⟨_, rfl, h⟩
theorem int_ne_decl (b : Int) (u : Tok) (l C dx : Addr) :
    Meets (Builtin.«int.__ne__» ⟨[.int b u, .ref l], []⟩) (fun _ R s => s.heap.get? l = some (PySem.W.instObj C dx) ∧ R (.ok (.ret .notImplemented)) s) :=
  .of_wp fun prog w A R s h => by obtain ⟨hp, g, d, tk, os⟩ := s; obtain ⟨hl, h⟩ := h; wp_walk using wpAny_loadPart' hl, wpAny_load hl; exact ⟨_, rfl, h⟩
theorem bool_eq_decl (b : Bool) (l C dx : Addr) :
    Meets (Builtin.«int.__eq__» ⟨[.bool b, .ref l], []⟩) (fun _ R s => s.heap.get? l = some (PySem.W.instObj C dx) ∧ R (.ok (.ret .notImplemented)) s) :=
  .of_wp fun prog w A R s h => by obtain ⟨hp, g, d, tk, os⟩ := s; obtain ⟨hl, h⟩ := h; wp_walk using wpAny_loadPart' hl, wpAny_load hl; exact ⟨_, rfl, h⟩
theorem str_eq_decl (b : Str) (u : Tok) (l C dx : Addr) :
    Meets (Builtin.«str.__eq__» ⟨[.str b u, .ref l], []⟩) (fun _ R s => s.heap.get? l = some (PySem.W.instObj C dx) ∧ R (.ok (.ret .notImplemented)) s) :=
  .of_wp fun prog w A R s h => by obtain ⟨hp, g, d, tk, os⟩ := s; obtain ⟨hl, h⟩ := h; wp_walk using wpAny_loadPart' hl, wpAny_load hl; exact ⟨_, rfl, h⟩

/-- a list, a tuple, a dict: its __eq__ asks whether the other one is of its kind -/
theorem ref_isInst {M : Model} {A : Around} {E : Value → Shared → Prop} {s : Shared} {K : PySem.W.Frag} {x C : Addr} {ox : Obj} {od : Option Obj} {T : String} {Q : Bool → Shared → Prop}
    (X : K.In s.heap) (I : PySem.W.InstAt s.heap x ox C od) (hsub : PySem.W.subIn K (.ref C) (.type T) = some false) (q : Q false s) : wpAny M A (isInstance (.ref x) (.type T)) Q E s := by
  unfold isInstance
  exact wpAny_bind (I.type.here ((PySem.W.looks_subIn X hsub).here q))
section
variable {prog : Program} {w : World} {A : Around} {R : Result → Shared → Prop} {s : Shared} {K : PySem.W.Frag} {x C l : Addr} {ox : Obj} {od : Option Obj}
theorem list_eq_declK (X : K.In s.heap) (I : PySem.W.InstAt s.heap x ox C od) (hsub : PySem.W.subIn K (.ref C) (.type "list") = some false) (q : R (.ok (.ret .notImplemented)) s) :
    wpAny (model prog w) A.in1 (Builtin.«list.__eq__» ⟨[.ref l, .ref x], []⟩) (GQ.FinOf prog w A R) (fun e s' => R (.error e) s') s := by
  unfold Builtin.«list.__eq__»
  show wpAny _ _ (do
    let r ← isInstance (.ref x) (.type "list")
    _) _ _ s
  refine wpAny_bind (ref_isInst X I hsub ?_)
  exact wpAny_pure q
theorem tup_eq_declK (X : K.In s.heap) (I : PySem.W.InstAt s.heap x ox C od) (hsub : PySem.W.subIn K (.ref C) (.type "tuple") = some false) (q : R (.ok (.ret .notImplemented)) s) :
    wpAny (model prog w) A.in1 (Builtin.«tuple.__eq__» ⟨[.ref l, .ref x], []⟩) (GQ.FinOf prog w A R) (fun e s' => R (.error e) s') s := by
  unfold Builtin.«tuple.__eq__»
  show wpAny _ _ (do
    let r ← isInstance (.ref x) (.type "tuple")
    _) _ _ s
  refine wpAny_bind (ref_isInst X I hsub ?_)
  exact wpAny_pure q
theorem dict_eq_declK (X : K.In s.heap) (I : PySem.W.InstAt s.heap x ox C od) (hsub : PySem.W.subIn K (.ref C) (.type "dict") = some false) (q : R (.ok (.ret .notImplemented)) s) :
    wpAny (model prog w) A.in1 (Builtin.«dict.__eq__» ⟨[.ref l, .ref x], []⟩) (GQ.FinOf prog w A R) (fun e s' => R (.error e) s') s := by
  unfold Builtin.«dict.__eq__»
  show wpAny _ _ (do
    let r ← isInstance (.ref x) (.type "dict")
    _) _ _ s
  refine wpAny_bind (ref_isInst X I hsub ?_)
  exact wpAny_bind (wpAny_rule (wpAny_pure q))
end

section
variable {X : Cx} {CX : CXT} {n : Nat} {g : Addr} {fd : FuncData} {ps : List Str} {sp : Sp} {E : XK}
/-- a def run from within a builtin's body -/
theorem run_fnA {A : Around} {pins : List (Addr × Obj)} {σ : L2.St} {H : Hp} {s : Shared} {Q : VK} {us : List Value} {vs : List V} (F : FnOk X.prog X.w X.K X.mg X.base CX n g fd ps sp) (hr : Room n A) (hA : A.frames = X.A.frames) (hb : Binds X.K fd ps []) (hx : Passes CX X E)
    (I : Inv X pins σ H s) (r : Vals vs us) (h : sp vs H Q E) : wpAny (model X.prog X.w) A (call (.ref g) us) (EP X pins σ Q) X.xe s := by
  have e0 : Env0 X.prog X.w X.K X.mg X.base A X.stack s H := by
    have e := I.env0
    exact ⟨hA.trans e.frames, e.mod, e.bs, e.bsz, e.funs, e.frf, e.hok, e.bare⟩
  have hl : us.length = ps.length := r.length.symm.trans (F.len _ _ _ _ h)
  have hbb := hb s us I.kIn (by simpa using hl)
  rw [List.append_nil] at hbb
  refine wpAny_call (codeAny_mono (F.run A X.stack s H ⟨us, []⟩ us vs Q E hr e0 hbb r h) fun r s' hq => ?_)
  cases r with
  | error e => exact hx pins σ H s e s' I hq
  | ok fl =>
    cases fl with
    | ret u => exact I.after hq
    | next => exact False.elim hq
    | brk => exact False.elim hq
    | cont => exact False.elim hq
end

/-- the class at C stands below none of the built-in types met here -/
structure NoSub (K : PySem.W.Frag) (C : Addr) : Prop where
  all : ∀ T ∈ ["int", "bool", "str", "NoneType", "list", "tuple", "dict"], PySem.W.subIn K (.ref C) (.type T) = some false
/-- values of the built-in kinds whose == declines an own instance -/
inductive Dec (H : Hp) : V → String → Prop where
  | non : Dec H .non "NoneType"
  | bl (b : Bool) : Dec H (.bl b) "bool"
  | int (i : Int) : Dec H (.int i) "int"
  | str (x : Str) : Dec H (.str x) "str"
  | lst {a : Addr} {xs : List V} (e : H a = some (.lst xs)) : Dec H (.ref a) "list"
  | tup {a : Addr} {xs : List V} (e : H a = some (.tup xs)) : Dec H (.ref a) "tuple"
  | dK {a : Addr} {kvs : List (Key × V)} (e : H a = some (.dK kvs)) : Dec H (.ref a) "dict"
theorem Dec.mem {H : Hp} {x : V} {T : String} (d : Dec H x T) : T ∈ ["int", "bool", "str", "NoneType", "list", "tuple", "dict"] := by
  cases d <;> simp
theorem Dec.typ {K : PySem.W.Frag} {H : Hp} {x : V} {T : String} (d : Dec H x T) : TyX K H x (.type T) := by
  cases d with
  | non => exact .base .non
  | bl b => exact .base (.bl b)
  | int i => exact .base (.int i)
  | str y => exact .base (.str y)
  | lst e => exact .base (.lst e)
  | tup e => exact .base (.tup e)
  | dK e => exact .base (.dK e)
section
variable {X : Cx} {CX : CXT} {n : Nat} {C g : Addr} {fd : FuncData} {ps : List Str} {sp : Sp} {E : XK}
theorem dec_try {pins : List (Addr × Obj)} {σ : L2.St} {H : Hp} {s : Shared} {x : V} {v : Value} {T : String} {a dx : Addr} {od : Option Obj} (I : Inv X pins σ H s) (r : RelV x v) (d : Dec H x T)
    (J : PySem.W.InstAt s.heap a (PySem.W.instObj C dx) C od) (hsub : PySem.W.subIn X.K (.ref C) (.type T) = some false) {A : Around} {E : Value → Shared → Prop} {R : Option Value → Shared → Prop} (q : R none s) :
    wpAny (model X.prog X.w) A (tryCompare v "__eq__" (.ref a)) R E s := by
  cases d with
  | non =>
    cases (show v = Value.none from r)
    exact wpAny_tryCompare_declines (T := "NoneType") rfl F.slot_NoneType_eq (call_gives F.slot_NoneType_eq rfl F.entry_NoneType_eq (F.args_NoneType_eq_2 _ _) (NoneType___eq___none_ref_0 a) ⟨rfl, q⟩)
  | bl b =>
    cases (show v = Value.bool b from r)
    exact wpAny_tryCompare_declines (T := "bool") rfl F.slot_bool_eq (call_meets F.slot_bool_eq rfl F.entry_int_eq (F.args_int_eq_2 _ _) (bool_eq_decl b a C dx) ⟨J.at_, rfl, q⟩)
  | int i =>
    obtain ⟨t, e⟩ := (show ∃ t, v = Value.int i t from r)
    cases e
    exact wpAny_tryCompare_declines (typeIs_int s i t) F.slot_int_eq (call_meets F.slot_int_eq (typeIs_int s i t) F.entry_int_eq (F.args_int_eq_2 _ _) (int_eq_decl i t a C dx) ⟨J.at_, rfl, q⟩)
  | str y =>
    obtain ⟨t, e⟩ := (show ∃ t, v = Value.str y t from r)
    cases e
    exact wpAny_tryCompare_declines (typeIs_str s y t) F.slot_str_eq (call_meets F.slot_str_eq (typeIs_str s y t) F.entry_str_eq (F.args_str_eq_2 _ _) (str_eq_decl y t a C dx) ⟨J.at_, rfl, q⟩)
  | @lst b xs e =>
    cases (show v = Value.ref b from r)
    obtain ⟨_, its, k, _, h1⟩ := (show ObjOk X.prog X.w H s.heap b (.lst xs) from I.hok b _ e)
    exact wpAny_tryCompare_declines ⟨_, h1, rfl⟩ F.slot_list_eq (GQ.call_here F.slot_list_eq ⟨_, h1, rfl⟩ F.entry_list_eq (F.args_list_eq_2 _ _) (list_eq_declK I.kIn J hsub ⟨rfl, q⟩))
  | @tup b xs e =>
    cases (show v = Value.ref b from r)
    obtain ⟨_, its, _, o, h1, h2, _⟩ := (show ObjOk X.prog X.w H s.heap b (.tup xs) from I.hok b _ e)
    exact wpAny_tryCompare_declines ⟨_, h1, h2⟩ F.slot_tuple_eq (GQ.call_here F.slot_tuple_eq ⟨_, h1, h2⟩ F.entry_tuple_eq (F.args_tuple_eq_2 _ _) (tup_eq_declK I.kIn J hsub ⟨rfl, q⟩))
  | @dK b kvs e =>
    cases (show v = Value.ref b from r)
    obtain ⟨_, _, vs, _, o, es, ep, h1, h2, _⟩ := (show ObjOk X.prog X.w H s.heap b (.dK kvs) from I.hok b _ e)
    exact wpAny_tryCompare_declines ⟨_, h1, h2.1⟩ F.slot_dict_eq (GQ.call_here F.slot_dict_eq ⟨_, h1, h2.1⟩ F.entry_dict_eq (F.args_dict_eq_2 _ _) (dict_eq_declK I.kIn J hsub ⟨rfl, q⟩))
theorem dec_one {H : Hp} {x : V} {v : Value} {T : String} (r : RelV x v) (d : Dec H x T) (op : CmpOp) (u : Value) : oneThing? op v u = none := by
  cases d with
  | non => cases (show v = Value.none from r); rfl
  | bl b => cases (show v = Value.bool b from r); rfl
  | int i => obtain ⟨t, e⟩ := (show ∃ t, v = Value.int i t from r); cases e; rfl
  | str y => obtain ⟨t, e⟩ := (show ∃ t, v = Value.str y t from r); cases e; rfl
  | @lst b xs e => cases (show v = Value.ref b from r); rfl
  | @tup b xs e => cases (show v = Value.ref b from r); rfl
  | @dK b xs e => cases (show v = Value.ref b from r); rfl

/-- x == y, x of a built-in kind, y an instance of the class at C with its own == at g -/
def rOwnR (C : Addr) (sp : Sp) (E : XK) : R2 := fun x y H Q => ∃ T a dx fs, y = .ref a ∧ H a = some (.ins C dx fs) ∧ Dec H x T ∧ sp [y, x] H Q E
theorem op_ownR (hs : PySem.W.findIn X.K (.ref C) "__eq__" = some (some (.ref g))) (hf : PySem.W.isFn X.K (.ref g) = true) (hN : NoSub X.K C)
    (F : FnOk X.prog X.w X.K X.mg X.base CX n g fd ps sp) (hb : Binds X.K fd ps []) (hr : Room n X.A) (hx : Passes CX X E) : OpR X (compareOp .Eq) (rOwnR C sp E) := by
  intro pins s σ H x y v u Q I rx ry h
  obtain ⟨T, a, dx, fs, rfl, ha, d, q⟩ := h
  cases (show u = Value.ref a from ry)
  obtain ⟨od, J⟩ := inst_of I ha
  obtain ⟨P, kt, hP, _⟩ := kit_of I rx d.typ
  have hsub := hN.all T d.mem
  show wpAny (model X.prog X.w) X.A (richCompare .Eq v (.ref a)) (EP X pins σ Q) X.xe s
  refine cmp_KR (op := .Eq) (T := T) hr.units0 (dec_one rx d _ _) (kt.ty _ _ I.kIn hP) I.kIn J hsub (fun E R hR => dec_try I rx d J hsub hR) ?_
  unfold tryCompare
  refine wpAny_bind (PySem.W.ifBound_K I.kIn J hs hf ?_)
  refine wpAny_mono (run_fn (us := [.ref a, v]) (vs := [.ref a, x]) (dvs := []) (ds := []) F hr hb .nil hx I (.cons rfl (.cons rx .nil)) (by simpa using q)) (fun w s' z => ?_) fun _ _ x => x
  obtain ⟨z', H', I', rz, qz⟩ := z
  have cb : PySem.W.CmpBack (fun w s' => EP X pins σ Q w s') w s' := SlX.cmpback rz ⟨z', H', I', rz, qz⟩
  cases w <;> first | exact cb.elim | exact wpAny_pure ⟨_, rfl, cb⟩

/-- what the own == gives, for != -/
def neQ (Q : VK) : VK := fun z H' => ∃ k, z = .bl k ∧ Q (.bl (!k)) H'
/-- x != y by the own == of x, an instance -/
def rOwnNeL (K : PySem.W.Frag) (C : Addr) (sp : Sp) (E : XK) : R2 := fun x y H Q => ∃ a dx fs tb, x = .ref a ∧ H a = some (.ins C dx fs) ∧ TyX K H y tb ∧ PySem.W.notFirst K C tb = true ∧ sp [x, y] H (neQ Q) E
theorem op_ownNeL (hne : PySem.W.findIn X.K (.ref C) "__ne__" = some (some (.builtin "object.__ne__"))) (hm : PySem.W.mroIn X.K C (.type "object") = some true)
    (hs : PySem.W.findIn X.K (.ref C) "__eq__" = some (some (.ref g))) (hf : PySem.W.isFn X.K (.ref g) = true)
    (F : FnOk X.prog X.w X.K X.mg X.base CX n g fd ps sp) (hb : Binds X.K fd ps []) (hr : Room (n + 1) X.A) (hx : Passes CX X E) : OpR X (compareOp .NotEq) (rOwnNeL X.K C sp E) := by
  intro pins s σ H x y v u Q I rx ry h
  obtain ⟨a, dx, fs, tb, rfl, ha, ty, hn, q⟩ := h
  cases (show v = Value.ref a from rx)
  obtain ⟨od, J⟩ := inst_of I ha
  obtain ⟨P, kt, hP, _⟩ := kit_of I ry ty
  show wpAny (model X.prog X.w) X.A (richCompare .NotEq (.ref a) u) (EP X pins σ Q) X.xe s
  refine ne_K (tb := tb) hr.in1.units0 I.kIn J (kt.ty _ _ I.kIn hP) hn hne hm hs hf ?_
  refine wpAny_mono (run_fnA (us := [.ref a, u]) (vs := [.ref a, y]) F hr.in1 rfl hb hx I (.cons rfl (.cons ry .nil)) q) (fun w s' z => ?_) fun _ _ x => x
  obtain ⟨z', H', I', rz, qz⟩ := z
  obtain ⟨k, ez, qz⟩ := qz
  subst ez
  cases (show w = Value.bool _ from rz)
  exact ⟨_, rfl, .bl _, H', I', rfl, qz⟩

/-- i != y, i an int, y an instance of the class at C -/
def rOwnNeR (C : Addr) (sp : Sp) (E : XK) : R2 := fun x y H Q => ∃ i a dx fs, x = .int i ∧ y = .ref a ∧ H a = some (.ins C dx fs) ∧ sp [y, x] H (neQ Q) E
theorem op_ownNeR (hne : PySem.W.findIn X.K (.ref C) "__ne__" = some (some (.builtin "object.__ne__"))) (hm : PySem.W.mroIn X.K C (.type "object") = some true)
    (hs : PySem.W.findIn X.K (.ref C) "__eq__" = some (some (.ref g))) (hf : PySem.W.isFn X.K (.ref g) = true) (hN : NoSub X.K C)
    (F : FnOk X.prog X.w X.K X.mg X.base CX n g fd ps sp) (hb : Binds X.K fd ps []) (hr : Room (n + 1) X.A) (hx : Passes CX X E) : OpR X (compareOp .NotEq) (rOwnNeR C sp E) := by
  intro pins s σ H x y v u Q I rx ry h
  obtain ⟨i, a, dx, fs, rfl, rfl, ha, q⟩ := h
  cases (show u = Value.ref a from ry)
  obtain ⟨t, e⟩ := (show ∃ t, v = Value.int i t from rx)
  cases e
  obtain ⟨od, J⟩ := inst_of I ha
  show wpAny (model X.prog X.w) X.A (richCompare .NotEq (.int i t) (.ref a)) (EP X pins σ Q) X.xe s
  refine cmp_KR (op := .NotEq) (T := "int") hr.units0 rfl (PySem.W.Looks.of_pure rfl) I.kIn J (hN.all _ (by simp)) (fun E R hR => ?_) ?_
  · exact wpAny_tryCompare_declines (typeIs_int s i t) PySem.F.slot_int_ne (call_meets PySem.F.slot_int_ne (typeIs_int s i t) PySem.F.entry_int_ne (PySem.F.args_int_ne_2 _ _) (int_ne_decl i t a C _) ⟨J.at_, rfl, hR⟩)
  · unfold tryCompare
    refine wpAny_bind (ifBound_B I.kIn J hne PySem.F.cmp_object.ne.bind (objNe_own hr.in1.units0 I.kIn J hm hs hf ?_))
    refine wpAny_mono (run_fnA (us := [.ref a, .int i t]) (vs := [.ref a, .int i]) F hr.in1 rfl hb hx I (.cons rfl (.cons rx .nil)) q) (fun w s' z => ?_) fun _ _ x => x
    obtain ⟨z', H', I', rz, qz⟩ := z
    obtain ⟨k, ez, qz⟩ := qz
    subst ez
    cases (show w = Value.bool _ from rz)
    exact ⟨k, rfl, wpAny_pure ⟨_, rfl, .bl _, H', I', rfl, qz⟩⟩

/-- str(x), repr(x), bool(x) of an instance by its own defs -/
def rOwnStr (C : Addr) (sp : Sp) (E : XK) : List V → Hp → VK → Prop := fun xs H Q => ∃ a dx fs, xs = [V.ref a] ∧ H a = some (.ins C dx fs) ∧ sp [.ref a] H (fun z H' => ∃ y, z = .str y ∧ Q z H') E
theorem call_reprOwn (hs : PySem.W.findIn X.K (.ref C) "__repr__" = some (some (.ref g))) (hf : PySem.W.isFn X.K (.ref g) = true)
    (F : FnOk X.prog X.w X.K X.mg X.base CX n g fd ps sp) (hb : Binds X.K fd ps []) (hr : Room (n + 1) X.A) (hx : Passes CX X E) : CallR X (.builtin "repr") (rOwnStr C sp E) := by
  intro pins s σ H xs us Q I r h
  obtain ⟨a, dx, fs, rfl, ha, q⟩ := h
  obtain ⟨u, rfl, ru⟩ := r.one
  cases (show u = Value.ref a from ru)
  obtain ⟨od, J⟩ := inst_of I ha
  obtain ⟨m, hF⟩ := I.fr
  refine PySem.W.repr_K hr.in1.units0 hF I.ok.mod.kin J hs hf ?_
  refine wpAny_mono (run_fnA (us := [.ref a]) (vs := [.ref a]) F hr.in1 rfl hb hx I (.cons rfl .nil) q) (fun w s' z => ?_) fun _ _ x => x
  obtain ⟨z', H', I', rz, qz⟩ := z
  obtain ⟨y, ez, qz⟩ := qz
  subst ez
  obtain ⟨t, e⟩ := (show ∃ t, w = Value.str y t from rz)
  cases e
  exact ⟨.str y, H', I', ⟨t, rfl⟩, qz⟩
end
end SF

namespace SFx
open PySem PySem.Spec PyProof.Rows
section
variable {prog : Program} {w : World} {A : Around} {E : Value → Shared → Prop} {s : Shared} {K : PySem.W.Frag} {x C f : Addr} {ox : Obj} {od : Option Obj}
open Builtin Builtin.Str in
/-- str(x) by an own __str__ -/
theorem str_own {Q : Value → Shared → Prop} (hu : A.in1.in1.units < cLine) (X : K.In s.heap) (I : PySem.W.InstAt s.heap x ox C od) (hs : PySem.W.findIn K (.ref C) "__str__" = some (some (.ref f)))
    (hf : PySem.W.isFn K (.ref f) = true) (h : wpAny (model prog w) A.in1.in1 (call (.ref f) [.ref x]) (PySem.W.StrBack Q) E s) : wpAny (model prog w) A (call (.type "str") [.ref x]) Q E s := by
  refine callType_codes (T := "str") (Bi := Builtin.«object.__init__») (Q₁ := fun r s₁ => ∃ y u, r = .str y u ∧ Q r s₁) PySem.F.called_str (PySem.F.typeCall_str_1 _) PySem.F.entry_object_init ?_ ?_
  · refine codeAny_of_tree ?_
    show wpAny _ A.in1.in1 (do checkBuiltinCall "str.__new__" ⟨[.type "str", .ref x], []⟩; again (.builtin "str.__new__" ⟨[.type "str", .ref x], []⟩)) _ _ s
    refine wpAny_bind (wpAny_of_eq (PySem.F.newCall_str_1 _) (wpAny_pure ⟨plainId_quiet (by decide +kernel) _, codeAny_builtin PySem.F.entry_str_new ?_⟩))
    rw [Around.under_plainId (by decide +kernel) _]
    rw [str_new_tree]
    refine wpAny_bind (wpAny_pure ?_)
    refine wpAny_bind (wpAny_of_eq isSubtype_str_str ?_)
    have key : wpAny (model prog w) A.in1.in1 (PySem.Builtin.Str.strOf (.ref x)) (fun r s₁ => ∃ y u, r = .str y u ∧ Q r s₁) E s := by
      unfold PySem.Builtin.Str.strOf
      rw [show isExactStr (.ref x) = false from rfl]
      refine wpAny_bind (m := cRoomFor _ _) (wpAny_cRoomFor hu ?_)
      refine wpAny_bind (m := callSpecial? (.ref x) (Str.ofString "__str__")) (PySem.W.special_fn X I hs (beq_iff_eq.mp hf) (wpAny_mono h (fun r s' z => ?_) fun _ _ y => y))
      cases r <;> first | exact z.elim | exact wpAny_pure ⟨_, _, rfl, z⟩
    exact wpAny_bind (wpAny_mono key (fun r s₁ hr => wpAny_pure hr) fun _ _ y => y)
  · rintro obj s₁ ⟨y, u, rfl, hq⟩
    exact ⟨typeIs_str _ _ _, PySem.F.args_object_init_2 _ _, object_init_meets PySem.F.called_str.init.lookup PySem.F.called_str.made (by decide) prog w A.in1 _ s₁ ⟨typeIs_str _ _ _, rfl, hq⟩⟩

theorem meets_bool_own : MeetsIn prog w (Builtin.«bool.__new__» ⟨[.type "bool", .ref x], []⟩)
    (fun A R s => wpAny (model prog w) A.in1 (truthy (.ref x)) (fun b s' => R (.ok (.ret (.bool b))) s') (fun e s' => R (.error e) s') s) :=
  MeetsIn.of_wp fun A R s hs => by
    have f1 := PySem.F.conv_sub_bool
    have hs' : wpAny (model prog w) A.in1 (truthy (.ref x)) (fun b s' => wpAny (model prog w) A.in1 (ret (.bool b)) (fun fin s' => ∃ v, fin = .done (.ret v) ∧ R (.ok (.ret v)) s') (fun e s' => R (.error e) s') s') (fun e s' => R (.error e) s') s :=
      wpAny_mono hs (fun b s' q => wpAny_pure ⟨_, rfl, q⟩) fun _ _ e => e
    unfold Builtin.«bool.__new__»
    repeat (any_goals (first | assumption | exact wpAny_bind hs' | (with_reducible refine wpAny_bind hs' ) | wp_step))
theorem bool_own {Q : Value → Shared → Prop} (h : wpAny (model prog w) A.in1.in1 (truthy (.ref x)) (fun b s' => Q (.bool b) s') E s) : wpAny (model prog w) A (call (.type "bool") [.ref x]) Q E s :=
  callType_newIn PySem.F.called_bool PySem.F.newNe_bool (PySem.F.typeCall_bool_1 _) (PySem.F.newCall_bool_1 _) (fun obj => PySem.F.args_object_init_2 obj _) PySem.F.entry_bool_new meets_bool_own
    (wpAny_mono h (fun b s' q => ⟨rfl, q⟩) fun _ _ e => e)
end
end SFx
namespace SF
open PySem PySem.Spec PyProof.Rows L2
section
variable {X : Cx} {CX : CXT} {n : Nat} {C g : Addr} {fd : FuncData} {ps : List Str} {sp : Sp} {E : XK}
theorem call_strOwn (hs : PySem.W.findIn X.K (.ref C) "__str__" = some (some (.ref g))) (hf : PySem.W.isFn X.K (.ref g) = true)
    (F : FnOk X.prog X.w X.K X.mg X.base CX n g fd ps sp) (hb : Binds X.K fd ps []) (hr : Room (n + 2) X.A) (hx : Passes CX X E) : CallR X (.type "str") (rOwnStr C sp E) := by
  intro pins s σ H xs us Q I r h
  obtain ⟨a, dx, fs, rfl, ha, q⟩ := h
  obtain ⟨u, rfl, ru⟩ := r.one
  cases (show u = Value.ref a from ru)
  obtain ⟨od, J⟩ := inst_of I ha
  have hr2 : Room n X.A.in1.in1 := (show Room (n + 1) X.A.in1 from Room.in1 hr).in1
  refine SFx.str_own hr2.units0 I.kIn J hs hf ?_
  refine wpAny_mono (run_fnA (us := [.ref a]) (vs := [.ref a]) F hr2 rfl hb hx I (.cons rfl .nil) q) (fun w s' z => ?_) fun _ _ x => x
  obtain ⟨z', H', I', rz, qz⟩ := z
  obtain ⟨y, ez, qz⟩ := qz
  subst ez
  obtain ⟨t, e⟩ := (show ∃ t, w = Value.str y t from rz)
  cases e
  exact ⟨.str y, H', I', ⟨t, rfl⟩, qz⟩
def rOwnBool (C : Addr) (sp : Sp) (E : XK) : List V → Hp → VK → Prop := fun xs H Q => ∃ a dx fs, xs = [V.ref a] ∧ H a = some (.ins C dx fs) ∧ sp [.ref a] H (fun z H' => ∃ k, z = .bl k ∧ Q (.bl k) H') E
theorem call_boolOwn (hs : PySem.W.findIn X.K (.ref C) "__bool__" = some (some (.ref g))) (hf : PySem.W.isFn X.K (.ref g) = true)
    (F : FnOk X.prog X.w X.K X.mg X.base CX n g fd ps sp) (hb : Binds X.K fd ps []) (hr : Room (n + 2) X.A) (hx : Passes CX X E) : CallR X (.type "bool") (rOwnBool C sp E) := by
  intro pins s σ H xs us Q I r h
  obtain ⟨a, dx, fs, rfl, ha, q⟩ := h
  obtain ⟨u, rfl, ru⟩ := r.one
  cases (show u = Value.ref a from ru)
  obtain ⟨od, J⟩ := inst_of I ha
  obtain ⟨m, hF⟩ := I.fr
  have hr2 : Room n X.A.in1.in1 := (show Room (n + 1) X.A.in1 from Room.in1 hr).in1
  refine SFx.bool_own (PySem.W.truthy_K hF I.ok.mod.kin J hs hf ?_)
  refine wpAny_mono (run_fnA (us := [.ref a]) (vs := [.ref a]) F hr2 rfl hb hx I (.cons rfl .nil) q) (fun w s' z => ?_) fun _ _ x => x
  obtain ⟨z', H', I', rz, qz⟩ := z
  obtain ⟨k, ez, qz⟩ := qz
  subst ez
  cases (show w = Value.bool k from rz)
  exact ⟨.bl k, H', I', rfl, qz⟩
end

/-! ### repr of a list of flat things -/
def flatD : V → Option PyData
  | .non => some .none
  | .bl b => some (.bool b)
  | .int i => if i.natAbs.log2 < 1920 then some (.int i) else none
  | .str x => some (.str x)
  | _ => none
def flatDs : List V → Option (List PyData)
  | [] => some []
  | x :: xs => match flatD x, flatDs xs with
    | some d, some ds => some (d :: ds)
    | _, _ => none
theorem flat_reads {h : Heap} {x : V} {v : Value} {d : PyData} (r : RelV x v) (e : flatD x = some d) : Reads h v d [] ∧ d.showable = true ∧ d.depth = 0 ∧ d.hasDict = false := by
  cases x with
  | non => cases e; cases (show v = Value.none from r); exact ⟨.none, rfl, rfl, rfl⟩
  | bl b => cases e; cases (show v = Value.bool b from r); exact ⟨.bool b, rfl, rfl, rfl⟩
  | int i =>
    obtain ⟨t, rfl⟩ := (show ∃ t, v = Value.int i t from r)
    have e' : (if i.natAbs.log2 < 1920 then some (PyData.int i) else none) = some d := e
    by_cases hi : i.natAbs.log2 < 1920
    · rw [if_pos hi] at e'
      cases e'
      exact ⟨.int i t, by simp [PyData.showable, hi], rfl, rfl⟩
    · rw [if_neg hi] at e'
      cases e'
  | str y =>
    obtain ⟨t, rfl⟩ := (show ∃ t, v = Value.str y t from r)
    cases e
    exact ⟨.str y t, rfl, rfl, rfl⟩
  | byt _ => cases e
  | flt _ => cases e
  | ref _ => cases e
  | ty _ => cases e
theorem flats_reads {h : Heap} : ∀ {xs : List V} {vs : List Value} {ds : List PyData}, Vals xs vs → flatDs xs = some ds → ReadsAll h vs ds [] ∧ PyData.showableAll ds = true ∧ PyData.depthAll ds = 0 ∧ PyData.hasDictAll ds = false
  | _, _, _, .nil, e => by cases e; exact ⟨.nil, rfl, rfl, rfl⟩
  | _, _, _, .cons r t, e => by
    unfold flatDs at e
    split at e
    · rename_i d ds h1 h2
      cases e
      obtain ⟨a1, a2, a3, a4⟩ := flat_reads (h := h) r h1
      obtain ⟨b1, b2, b3, b4⟩ := flats_reads t h2
      exact ⟨.cons a1 b1, by simp [PyData.showableAll, a2, b2], by simp [PyData.depthAll, a3, b3], by simp [PyData.hasDictAll, a4, b4]⟩
    · cases e
section
variable {X : Cx}
def rReprL : List V → Hp → VK → Prop := fun xs H Q => ∃ a zs ds, xs = [V.ref a] ∧ H a = some (.lst zs) ∧ flatDs zs = some ds ∧ (PyData.list ds).shown.length ≤ sizeLine ∧ Q (.str (PyData.list ds).shown) H
theorem call_reprL {k : Nat} (hg : X.A.guards = some []) (hr : Room k X.A) : CallR X (.builtin "repr") rReprL := by
  intro pins s σ H xs us Q I r h
  obtain ⟨a, zs, ds, rfl, ha, hd, hz, q⟩ := h
  obtain ⟨u, rfl, ru⟩ := r.one
  cases (show u = Value.ref a from ru)
  obtain ⟨_, its, n, rv, h1⟩ := (show ObjOk X.prog X.w H s.heap a (.lst zs) from I.hok a _ ha)
  obtain ⟨b1, b2, b3, b4⟩ := flats_reads (h := s.heap) rv hd
  have R : Reads s.heap (.ref a) (.list ds) [a] := .list (as := []) h1 rfl rfl (by simpa using b1)
  refine repr_of_reads' R (by simpa [PyData.showable] using b2) (PyData.noDict_hsm (by simpa [PyData.hasDict] using b4)) hg (by have := hr.un; simp only [PyData.depth, b3]; omega) (fun _ _ e => e) (fun h' u tk hk => ?_) hz
  exact ⟨.str _, H, I.kept hk, ⟨u, rfl⟩, q⟩
end
end SF

/-! Tuples whose items compare by own defs; enumerate over a tuple; len, truth by an own length; != with an own instance on the right. -/
namespace SKx
open PySem PySem.SeqAt
open AutoSeq1 (wpAny_loadPart')
section
variable {prog : Program} {w : World} {A : Around} {R : Result → Shared → Prop}
theorem all_cut {e : Nat → Bool} {m i : Nat} (hi : i < m) (h : e i = false) : (List.range m).all e = false := by
  rw [List.all_eq_false]
  exact ⟨i, List.mem_range.mpr hi, by rw [h]; decide⟩
theorem all_whole {e : Nat → Bool} {m i : Nat} (hi : m ≤ i) (h : ∀ j, j < i → e j = true) : (List.range m).all e = true :=
  List.all_eq_true.mpr fun j hj => h j (Nat.lt_of_lt_of_le (List.mem_range.mp hj) hi)
/-- two tuples compared, each pair of items telling e, the state kept by I -/
theorem tup_eqB (l b : Addr) (us vs : Array Value) (n1 n2 : Nat) (da db : Option Addr) (sa sb : Array (Option Value)) (e : Nat → Bool) (I : Shared → Prop)
    (one : ∀ i (h1 : i < us.size) (h2 : i < vs.size) s, I s → wpAny (model prog w) A.in1 (eqBool us[i] vs[i]) (fun r s' => r = e i ∧ I s') (fun z s' => R (.error z) s') s)
    (out : ∀ s, I s → R (.ok (.ret (.bool ((List.range (min us.size vs.size)).all e && us.size == vs.size)))) s) {s : Shared}
    (ha : s.heap.get? l = some { cls := .type "tuple", dict := da, data := .seq us n1, slots := sa }) (hb : s.heap.get? b = some { cls := .type "tuple", dict := db, data := .seq vs n2, slots := sb }) (h : I s) :
    wpAny (model prog w) A.in1 (Builtin.«tuple.__eq__» ⟨[.ref l, .ref b], []⟩) (GQ.FinOf prog w A R) (fun z s' => R (.error z) s') s := by
  have f2 := AutoSeq1.sub_tuple_tuple
  have hL : (us.toList.zip vs.toList).length = min us.size vs.size := by simp
  have h0 := h
  obtain ⟨hp, g, d, tk, os⟩ := s
  wp_walk using wpAny_loadPart' ha, wpAny_loadPart' hb, wpAny_forIn_list _ (fun rest c s' => c.1 = none ∧ ∃ i, rest = (us.toList.zip vs.toList).drop i ∧ (∀ j, j < i → e j = true) ∧ I s') _
  case turn =>
    rintro ⟨y, x⟩ rest c s' ⟨hc, i, hz, hi, hI⟩
    have hlt : i < (us.toList.zip vs.toList).length := by
      rcases Nat.lt_or_ge i (us.toList.zip vs.toList).length with q | q
      · exact q
      · rw [List.drop_of_length_le q] at hz; cases hz
    have hm : i < min us.size vs.size := hL ▸ hlt
    have k1 : i < us.size := Nat.lt_of_lt_of_le hm (Nat.min_le_left _ _)
    have k2 : i < vs.size := Nat.lt_of_lt_of_le hm (Nat.min_le_right _ _)
    rw [List.drop_eq_getElem_cons hlt] at hz
    injection hz with hyx hrest
    have ey : y = us[i] := by simpa using congrArg Prod.fst hyx
    have ex : x = vs[i] := by simpa using congrArg Prod.snd hyx
    subst ey ex
    refine wpAny_bind (wpAny_mono (one i k1 k2 s' hI) (fun r s2 q2 => ?_) fun _ _ x => x)
    obtain ⟨hr, q2⟩ := q2
    cases he : e i with
    | true =>
      rw [he] at hr
      subst hr
      wp_walk
      exact ⟨rfl, i + 1, hrest, fun j hj => (Nat.lt_succ_iff_lt_or_eq.mp hj).elim (hi j) fun q => q ▸ he, q2⟩
    | false =>
      rw [he] at hr
      subst hr
      have q3 := out s2 q2
      rw [all_cut hm he, Bool.false_and] at q3
      wp_walk
      exact q3
  case fin =>
    rintro ⟨c1, c2⟩ s' ⟨hc, i, hz, hi, hI⟩
    simp only at hc
    subst hc
    have hge : min us.size vs.size ≤ i := by
      rcases Nat.lt_or_ge i (us.toList.zip vs.toList).length with q | q
      · rw [List.drop_eq_getElem_cons q] at hz; cases hz
      · exact hL ▸ q
    have q3 := out s' hI
    rw [all_whole hge hi, Bool.true_and] at q3
    wp_walk
    simpa [Builtin.Tuple.tupleCompareSizes] using q3
  case h =>
    exact ⟨rfl, 0, rfl, fun j hj => absurd hj (Nat.not_lt_zero j), h0⟩
end
section
variable {prog : Program} {w : World} {A : Around} {E : Value → Shared → Prop} {s : Shared}
theorem rc_tupB {l b : Addr} {us vs : Array Value} {e : Nat → Bool} {Q : Value → Shared → Prop} (hu : A.units < cLine) (I : Shared → Prop) (ha : s.heap.IsTuple l us) (hb : s.heap.IsTuple b vs)
    (one : ∀ i (h1 : i < us.size) (h2 : i < vs.size) s, I s → wpAny (model prog w) A.in1 (eqBool us[i] vs[i]) (fun r s' => r = e i ∧ I s') E s)
    (out : ∀ s, I s → Q (.bool ((List.range (min us.size vs.size)).all e && us.size == vs.size)) s) (h : I s) : wpAny (model prog w) A (richCompare .Eq (.ref l) (.ref b)) Q E s := by
  obtain ⟨⟨c1, d1, t1, s1⟩, ho, hc, n, hd⟩ := id ha
  obtain ⟨⟨c2, d2, t2, s2⟩, ho2, hc2, n2, hd2⟩ := id hb
  simp only at hc hd hc2 hd2
  subst hc hd hc2 hd2
  refine wpAny_richCompare_same_room (op := .Eq) ⟨_, ho, rfl⟩ ⟨_, ho2, rfl⟩ F.slot_tuple_eq (GQ.call_here F.slot_tuple_eq ⟨_, ho, rfl⟩ F.entry_tuple_eq (F.args_tuple_eq_2 _ _) ?_) hu
  exact tup_eqB (R := wants (fun v s' => v ≠ .notImplemented ∧ Q v s') E) l b us vs n n2 d1 d2 s1 s2 e I one (fun s' q => ⟨(fun x => nomatch x), out s' q⟩) ho ho2 h
end
end SKx
namespace SK
open PySem PySem.Spec PyProof.Rows L2 SF
open AutoSeq1 (wpAny_loadPart')
/-- == of a thing like x with one like y gives r (D x y H r), and only makes objects -/
abbrev EqD := V → V → Hp → Bool → Prop
def EqB (X : Cx) (n : Nat) (D : EqD) : Prop :=
  ∀ (A : Around) (pins : List (Addr × Obj)) (s : Shared) (σ : L2.St) (H : Hp) (x y : V) (u v : Value) (k : Bool), Sub X n A → Inv X pins σ H s → RelV x u → RelV y v → D x y H k →
    wpAny (model X.prog X.w) A (eqBool u v) (fun r s' => r = k ∧ ∃ H', Inv X pins σ H' s' ∧ Same H H') X.xe s
/-- the two tuples item by item -/
def Rows (D : EqD) (e : Nat → Bool) (xs ys : List V) (H : Hp) : Prop := ∀ (i : Nat) x y, xs[i]? = some x → ys[i]? = some y → D x y H (e i)
def allB (e : Nat → Bool) (n m : Nat) : Bool := (List.range (min n m)).all e && n == m
section
variable {X : Cx} {n : Nat} {D : EqD}
def rTupB (K : PySem.W.Frag) (D : EqD) : R2 := fun x y H Q => ∃ a b xs ys e, x = .ref a ∧ y = .ref b ∧ SqT K H a xs ∧ SqT K H b ys ∧ Rows D e xs ys H ∧ ∀ H', Same H H' → Q (.bl (allB e xs.length ys.length)) H'
theorem op_tupB (hD : ∀ x y H H' k, Same H H' → D x y H k → D x y H' k) (hE : EqB X n D) (hr : Room (n + 1) X.A) : OpR X (compareOp .Eq) (rTupB X.K D) := by
  intro pins s σ H x y v u Q I rx ry h
  obtain ⟨a, b, xs, ys, e, rfl, rfl, ha, hb, hrow, q⟩ := h
  cases rx
  cases ry
  obtain ⟨us, r1, t1, z1⟩ := I.tuple ha
  obtain ⟨vs, r2, t2, z2⟩ := I.tuple hb
  show wpAny (model X.prog X.w) X.A (richCompare .Eq (.ref a) (.ref b)) (EP X pins σ Q) X.xe s
  refine SKx.rc_tupB (e := e) hr.units0 (fun s' => ∃ H', Inv X pins σ H' s' ∧ Same H H') t1 t2 (fun i h1 h2 s' hI => ?_) (fun s' hI => ?_) ⟨H, I, Same.refl _⟩
  · obtain ⟨H1, I1, e1⟩ := hI
    have g1 : us[i]? = some us.toArray[i] := by
      have h1' : i < us.length := by simpa using h1
      rw [List.getElem?_eq_getElem h1'] <;> simp
    have g2 : vs[i]? = some vs.toArray[i] := by
      have h2' : i < vs.length := by simpa using h2
      rw [List.getElem?_eq_getElem h2'] <;> simp
    have k1 : i < xs.length := by rw [r1.length]; simpa using h1
    have k2 : i < ys.length := by rw [r2.length]; simpa using h2
    obtain ⟨u, hu, ru⟩ := r1.get (List.getElem?_eq_getElem k1)
    obtain ⟨v, hv, rv⟩ := r2.get (List.getElem?_eq_getElem k2)
    rw [g1] at hu
    rw [g2] at hv
    rw [Option.some.inj hu, Option.some.inj hv]
    refine wpAny_mono (hE X.A.in1 pins s' σ H1 _ _ u v (e i) ⟨hr.in1, rfl⟩ I1 ru rv (hD _ _ _ _ _ e1 (hrow i _ _ (List.getElem?_eq_getElem k1) (List.getElem?_eq_getElem k2)))) (fun r s2 q => ?_) fun _ _ x => x
    obtain ⟨hr', H2, I2, e2⟩ := q
    exact ⟨hr', H2, I2, e1.trans e2⟩
  · obtain ⟨H1, I1, e1⟩ := hI
    have el : ((List.range (min us.toArray.size vs.toArray.size)).all e && us.toArray.size == vs.toArray.size) = allB e xs.length ys.length := by
      rw [List.size_toArray, List.size_toArray, ← r1.length, ← r2.length]
      rfl
    refine ⟨.bl (allB e xs.length ys.length), H1, I1, ?_, q H1 e1⟩
    rw [← el]
    rfl
end
/-! ### len and truth by an own __len__ -/
section
variable {X : Cx} {CX : CXT} {n : Nat} {C g : Addr} {fd : FuncData} {ps : List PySem.Str} {sp : Sp} {E : XK}
def rOwnLen (C : Addr) (sp : Sp) (E : XK) : List V → Hp → VK → Prop := fun xs H Q => ∃ a dx fs, xs = [V.ref a] ∧ H a = some (.ins C dx fs) ∧ sp [.ref a] H (fun z H' => ∃ i : Int, z = .int i ∧ 0 ≤ i ∧ i < 2 ^ 63 ∧ Q (.int i) H') E
theorem call_lenOwn (hs : PySem.W.findIn X.K (.ref C) "__len__" = some (some (.ref g))) (hf : PySem.W.isFn X.K (.ref g) = true)
    (F : FnOk X.prog X.w X.K X.mg X.base CX n g fd ps sp) (hb : Binds X.K fd ps []) (hr : Room (n + 1) X.A) (hx : Passes CX X E) : CallR X (.builtin "len") (rOwnLen C sp E) := by
  intro pins s σ H xs us Q I r h
  obtain ⟨a, dx, fs, rfl, ha, q⟩ := h
  obtain ⟨u, rfl, ru⟩ := r.one
  cases (show u = Value.ref a from ru)
  obtain ⟨od, J⟩ := inst_of I ha
  obtain ⟨m, hF⟩ := I.fr
  refine PySem.W.len_K hF I.ok.mod.kin J hs hf ?_
  refine wpAny_mono (run_fnA (us := [.ref a]) (vs := [.ref a]) F hr.in1 rfl hb hx I (.cons rfl .nil) q) (fun w s' z => ?_) fun _ _ x => x
  obtain ⟨z', H', I', rz, qz⟩ := z
  obtain ⟨i, ez, h0, h1, qz⟩ := qz
  subst ez
  obtain ⟨t, e⟩ := (show ∃ t, w = Value.int i t from rz)
  cases e
  exact ⟨⟨h0, h1⟩, .int i, H', I'.kept (t' := s'.toks + 1) (fun _ _ e => e), ⟨_, rfl⟩, qz⟩
theorem truthy_len {M : Model} {A : Around} {E : Value → Shared → Prop} {s : Shared} {K : PySem.W.Frag} {x C f : Addr} {ox : Obj} {od : Option Obj} {Q : Bool → Shared → Prop} (hM : ∃ prog w, M = model prog w) (X : K.In s.heap) (I : PySem.W.InstAt s.heap x ox C od)
    (hs : PySem.W.findIn K (.ref C) "__bool__" = some none) (hl : PySem.W.findIn K (.ref C) "__len__" = some (some (.ref f))) (hf : PySem.W.isFn K (.ref f) = true)
    (h : wpAny M A.in1 (call (.ref f) [.ref x]) (PySem.W.LenBack fun v s' => ∃ i t, v = .int i t ∧ Q (i != 0) s') E s) : wpAny M A (truthy (.ref x)) Q E s := by
  obtain ⟨prog, w, rfl⟩ := hM
  have key : wpAny (model prog w) A (runValue (.builtin "len" ⟨[.ref x], []⟩)) (fun r s' => ∃ i t, r = .int i t ∧ Q (i != 0) s') E s := by
    refine wpAny_runValue (codeAny_builtin entry_len ?_)
    rw [Around.under_plainId plain_len _]
    unfold Builtin.«len»
    refine wpAny_bind (m := oneArg "len" _) (wpAny_pure ?_)
    refine wpAny_bind (m := callSpecial? (.ref x) (Str.ofString "__len__")) (PySem.W.special_fn X I hl (beq_iff_eq.mp hf) (wpAny_mono h (fun r s' hr => ?_) fun _ _ y => y))
    cases r <;> first | exact hr.elim | skip
    rename_i i u
    obtain ⟨⟨h0, h1⟩, hq⟩ := hr
    refine wpAny_bind (wpAny_holding (wpAny_pure ?_))
    refine wpAny_bind (wpAny_letGo ?_)
    show wpAny _ _ (if i < 0 then _ else _) _ _ _
    rw [if_neg (by omega)]
    show wpAny _ _ (if i ≥ 2 ^ 63 then _ else _) _ _ _
    rw [if_neg (by omega)]
    exact wpAny_bind (wpAny_mkInt (wpAny_pure hq))
  unfold truthy
  refine wpAny_bind (m := callSpecial? (.ref x) (Str.ofString "__bool__")) (wpAny_bind (wpAny_bind (I.type.here ((PySem.W.looks_findIn X hs).here (wpAny_pure ?_)))))
  refine wpAny_bind (wpAny_bind (I.type.here ((PySem.W.looks_findIn X hl).here ?_)))
  refine wpAny_bind (wpAny_mono key (fun r s' z => ?_) fun _ _ e => e)
  obtain ⟨i, t, rfl, hq⟩ := z
  exact wpAny_pure hq
def rOwnBoolL (C : Addr) (sp : Sp) (E : XK) : List V → Hp → VK → Prop := fun xs H Q => ∃ a dx fs, xs = [V.ref a] ∧ H a = some (.ins C dx fs) ∧ sp [.ref a] H (fun z H' => ∃ i : Int, z = .int i ∧ 0 ≤ i ∧ i < 2 ^ 63 ∧ Q (.bl (i != 0)) H') E
theorem call_boolLen (h0 : PySem.W.findIn X.K (.ref C) "__bool__" = some none) (hs : PySem.W.findIn X.K (.ref C) "__len__" = some (some (.ref g))) (hf : PySem.W.isFn X.K (.ref g) = true)
    (F : FnOk X.prog X.w X.K X.mg X.base CX n g fd ps sp) (hb : Binds X.K fd ps []) (hr : Room (n + 3) X.A) (hx : Passes CX X E) : CallR X (.type "bool") (rOwnBoolL C sp E) := by
  intro pins s σ H xs us Q I r h
  obtain ⟨a, dx, fs, rfl, ha, q⟩ := h
  obtain ⟨u, rfl, ru⟩ := r.one
  cases (show u = Value.ref a from ru)
  obtain ⟨od, J⟩ := inst_of I ha
  have hr3 : Room n X.A.in1.in1.in1 := ((show Room (n + 2) X.A.in1 from Room.in1 hr).in1).in1
  refine SFx.bool_own (truthy_len ⟨_, _, rfl⟩ I.kIn J h0 hs hf ?_)
  refine wpAny_mono (run_fnA (us := [.ref a]) (vs := [.ref a]) F hr3 rfl hb hx I (.cons rfl .nil) q) (fun w s' z => ?_) fun _ _ x => x
  obtain ⟨z', H', I', rz, qz⟩ := z
  obtain ⟨i, ez, g0, g1, qz⟩ := qz
  subst ez
  obtain ⟨t, e⟩ := (show ∃ t, w = Value.int i t from rz)
  cases e
  exact ⟨⟨g0, g1⟩, i, s'.toks, rfl, .bl _, H', I'.kept (t' := s'.toks + 1) (fun _ _ e => e), rfl, qz⟩
end
end SK

/-! Operators of own instances: left, right (reflected), both; minus, abs(), +=. -/
namespace SF
open PySem PySem.Spec PyProof.Rows L2
open AutoSeq1 (wpAny_loadPart')
section
variable {prog : Program} {w : World} {A : Around} {E : Value → Shared → Prop} {s : Shared} {K : PySem.W.Frag} {x C f : Addr} {ox : Obj} {od : Option Obj}
/-- what stands in the text for a class whose op is its own def -/
structure OwnOp (K : PySem.W.Frag) (C : Addr) (op : Operator) (f : Addr) : Prop where
  sf : PySem.W.selfFirst K C = true
  hs : PySem.W.findIn K (.ref C) (PySem.dunder op.info.2) = some (some (.ref f))
  hf : PySem.W.isFn K (.ref f) = true
  hr : ∃ rc, PySem.W.findIn K (.ref C) (dunderR op.info.2) = some rc ∧ (rc = none ∨ ∃ g : Addr, rc = some (.ref g))
  h1 : ∃ fo, PySem.W.findIn K (.type "int") (PySem.dunder op.info.2) = some fo
  h2 : ∃ ro, PySem.W.findIn K (.type "int") (dunderR op.info.2) = some ro
  hsub : PySem.W.subIn K (.type "int") (.ref C) = some false
/-- .. and whose reflected op is, too -/
structure OwnOpR (K : PySem.W.Frag) (C : Addr) (op : Operator) (f g : Addr) : Prop where
  sf : PySem.W.selfFirst K C = true
  hs : PySem.W.findIn K (.ref C) (PySem.dunder op.info.2) = some (some (.ref f))
  hr : PySem.W.findIn K (.ref C) (dunderR op.info.2) = some (some (.ref g))
  hg : PySem.W.isFn K (.ref g) = true
  hsub : PySem.W.subIn K (.ref C) (.type "int") = some false
/-- how int's own def for op declines an instance -/
structure IntNo (op : Operator) (idl : String) : Prop where
  fills : fillsNumberSlot (.type "int") op.info.2 = pure true
  slot : Slot "int" (PySem.dunder op.info.2) idl
  no : ∀ (prog : Program) (w : World) (A : Around) (s : Shared) (i : Int) (t : Tok) (x C dx : Addr) (R : Value → Shared → Prop) (E : Value → Shared → Prop), s.heap.get? x = some (PySem.W.instObj C dx) → R .notImplemented s →
    wpAny (model prog w) A (call (.builtin idl) [.int i t, .ref x]) R E s
theorem binop_KR {op : Operator} {idl : String} {i : Int} {t : Tok} {g dx : Addr} {Q : Value → Shared → Prop} (N : IntNo op idl) (O : OwnOpR K C op f g) (X : K.In s.heap) (I : PySem.W.InstAt s.heap x (PySem.W.instObj C dx) C od)
    (h : wpAny (model prog w) A (call (.ref g) [.ref x, .int i t]) (PySem.W.CmpBack Q) E s) : wpAny (model prog w) A (binaryOp op (.int i t) (.ref x)) Q E s := by
  obtain ⟨cd, rest, hcd, hm⟩ := PySem.W.ksp_first O.sf
  have hN1 := N.fills
  have hN2 := N.slot
  have hs := O.hs
  have hr := O.hr
  rcases hi : op.info with ⟨sym, nm'⟩
  rw [hi] at hs hr hN1 hN2
  dsimp only at hs hr hN1 hN2
  have one := PySem.W.ksp_try X I hr O.hg h
  have hne : (Value.type "int" == Value.ref C) = false := Bool.eq_false_iff.mpr fun q => by cases beq_iff_eq.mp q
  simp only [binaryOp, hi]
  refine wpAny_holding (wpAny_bind ?_)
  unfold binaryOp1
  refine wpAny_bind (wpAny_typeOf (typeIs_int s i t) (wpAny_bind (I.type.here (wpAny_bind (wpAny_of_eq hN1 ?_)))))
  simp only [hne, Bool.false_eq_true, if_false]
  refine wpAny_bind ((PySem.W.fills_K X hcd hm hs).here ?_)
  simp only [Bool.and_self, if_true]
  refine wpAny_bind ((PySem.W.looks_subIn X O.hsub).here ?_)
  have hpy : numberSlotInPython (.type "int") nm' = pure false := rfl
  simp only [Bool.false_eq_true, if_false, pure_bind, Bool.not_false, Bool.and_self, if_true, hpy]
  refine wpAny_bind (wpAny_tryMethod_declines (typeIs_int s i t) hN2 (N.no prog w A s i t x C dx _ _ I.at_ ⟨rfl, ?_⟩))
  refine wpAny_bind (wpAny_mono one (fun r s' z => ?_) fun _ _ e => e)
  obtain ⟨v, rfl, hq⟩ := z
  exact wpAny_bind (wpAny_rule (wpAny_pure (wpAny_pure hq)))

theorem noI_inplace {op : Operator} {b : Value} {Q : Value → Shared → Prop} (X : K.In s.heap) (I : PySem.W.InstAt s.heap x ox C od) (hno : PySem.W.Looks (model prog w) s.heap (fillsInplaceSlot (.ref C) op.info.2 (op == .Add)) false)
    (h : wpAny (model prog w) A (binaryOp1 op.info.2 (.ref x) b) (fun r s' => ∃ v, r = some v ∧ Q v s') E s) : wpAny (model prog w) A (inplaceOp op (.ref x) b) Q E s := by
  unfold inplaceOp
  refine wpAny_holding ?_
  refine wpAny_bind (I.type.here ?_)
  refine wpAny_bind (hno.here ?_)
  simp only [Bool.false_eq_true, if_false]
  refine wpAny_bind (wpAny_mono h (fun r s' z => ?_) fun _ _ e => e)
  obtain ⟨v, rfl, hq⟩ := z
  exact wpAny_pure hq
end

section
open PyProof.Rows
theorem dec_add (b : Int) (u : Tok) (l C dx : Addr) : Meets (Builtin.«int.__add__» ⟨[.int b u, .ref l], []⟩) (fun _ R s => s.heap.get? l = some (PySem.W.instObj C dx) ∧ R (.ok (.ret .notImplemented)) s) :=
  .of_wp fun prog w A R s h => by obtain ⟨hp, g, d, tk, os⟩ := s; obtain ⟨hl, h⟩ := h; wp_walk using wpAny_loadPart' hl, wpAny_load hl; exact ⟨_, rfl, h⟩
theorem dec_sub (b : Int) (u : Tok) (l C dx : Addr) : Meets (Builtin.«int.__sub__» ⟨[.int b u, .ref l], []⟩) (fun _ R s => s.heap.get? l = some (PySem.W.instObj C dx) ∧ R (.ok (.ret .notImplemented)) s) :=
  .of_wp fun prog w A R s h => by obtain ⟨hp, g, d, tk, os⟩ := s; obtain ⟨hl, h⟩ := h; wp_walk using wpAny_loadPart' hl, wpAny_load hl; exact ⟨_, rfl, h⟩
theorem dec_mul (b : Int) (u : Tok) (l C dx : Addr) : Meets (Builtin.«int.__mul__» ⟨[.int b u, .ref l], []⟩) (fun _ R s => s.heap.get? l = some (PySem.W.instObj C dx) ∧ R (.ok (.ret .notImplemented)) s) :=
  .of_wp fun prog w A R s h => by obtain ⟨hp, g, d, tk, os⟩ := s; obtain ⟨hl, h⟩ := h; wp_walk using wpAny_loadPart' hl, wpAny_load hl; exact ⟨_, rfl, h⟩
theorem dec_fdiv (b : Int) (u : Tok) (l C dx : Addr) : Meets (Builtin.«int.__floordiv__» ⟨[.int b u, .ref l], []⟩) (fun _ R s => s.heap.get? l = some (PySem.W.instObj C dx) ∧ R (.ok (.ret .notImplemented)) s) :=
  .of_wp fun prog w A R s h => by obtain ⟨hp, g, d, tk, os⟩ := s; obtain ⟨hl, h⟩ := h; wp_walk using wpAny_loadPart' hl, wpAny_load hl; exact ⟨_, rfl, h⟩
theorem dec_mod (b : Int) (u : Tok) (l C dx : Addr) : Meets (Builtin.«int.__mod__» ⟨[.int b u, .ref l], []⟩) (fun _ R s => s.heap.get? l = some (PySem.W.instObj C dx) ∧ R (.ok (.ret .notImplemented)) s) :=
  .of_wp fun prog w A R s h => by obtain ⟨hp, g, d, tk, os⟩ := s; obtain ⟨hl, h⟩ := h; wp_walk using wpAny_loadPart' hl, wpAny_load hl; exact ⟨_, rfl, h⟩
theorem no_add : IntNo .Add "int.__add__" := ⟨F.fills_int_add, F.slot_int_add, fun prog w A s i t x C dx R E hx q => call_meets F.slot_int_add (typeIs_int s i t) F.entry_int_add (F.args_int_add_2 _ _) (dec_add i t x C dx) ⟨hx, q⟩⟩
theorem no_sub : IntNo .Sub "int.__sub__" := ⟨F.fills_int_sub, F.slot_int_sub, fun prog w A s i t x C dx R E hx q => call_meets F.slot_int_sub (typeIs_int s i t) F.entry_int_sub (F.args_int_sub_2 _ _) (dec_sub i t x C dx) ⟨hx, q⟩⟩
theorem no_mul : IntNo .Mult "int.__mul__" := ⟨F.fills_int_mul, F.slot_int_mul, fun prog w A s i t x C dx R E hx q => call_meets F.slot_int_mul (typeIs_int s i t) F.entry_int_mul (F.args_int_mul_2 _ _) (dec_mul i t x C dx) ⟨hx, q⟩⟩
theorem no_fdiv : IntNo .FloorDiv "int.__floordiv__" := ⟨F.fills_int_floordiv, F.slot_int_floordiv, fun prog w A s i t x C dx R E hx q => call_meets F.slot_int_floordiv (typeIs_int s i t) F.entry_int_floordiv (F.args_int_floordiv_2 _ _) (dec_fdiv i t x C dx) ⟨hx, q⟩⟩
theorem no_mod : IntNo .Mod "int.__mod__" := ⟨F.fills_int_mod, F.slot_int_mod, fun prog w A s i t x C dx R E hx q => call_meets F.slot_int_mod (typeIs_int s i t) F.entry_int_mod (F.args_int_mod_2 _ _) (dec_mod i t x C dx) ⟨hx, q⟩⟩
end

section
variable {X : Cx} {CX : CXT} {n : Nat} {C f g : Addr} {fd : FuncData} {ps : List Str} {sp : Sp} {E : XK}
def IsIns (C : Addr) (H : Hp) (y : V) : Prop := ∃ a dx fs, y = .ref a ∧ H a = some (.ins C dx fs)
/-- x op y by the own def of x's class: y of the same class, or an int -/
def rOB (C : Addr) (sp : Sp) (E : XK) : R2 := fun x y H Q => IsIns C H x ∧ (IsIns C H y ∨ ∃ i, y = .int i) ∧ sp [x, y] H Q E
theorem op_OB {op : Operator} (O : OwnOp X.K C op f) (F : FnOk X.prog X.w X.K X.mg X.base CX n f fd ps sp) (hb : Binds X.K fd ps []) (hr : Room n X.A) (hx : Passes CX X E) : OpR X (binaryOp op) (rOB C sp E) := by
  intro pins s σ H x y v u Q I rx ry h
  obtain ⟨⟨a, dx, fs, rfl, ha⟩, hy, q⟩ := h
  cases (show v = Value.ref a from rx)
  obtain ⟨od, J⟩ := inst_of I ha
  obtain ⟨m, hF⟩ := I.fr
  have run : wpAny (model X.prog X.w) X.A (call (.ref f) [.ref a, u]) (PySem.W.CmpBack (fun w s' => EP X pins σ Q w s')) X.xe s := by
    refine wpAny_mono (run_fn (us := [.ref a, u]) (vs := [.ref a, y]) (dvs := []) (ds := []) F hr hb .nil hx I (.cons rfl (.cons ry .nil)) (by simpa using q)) (fun w s' z => ?_) fun _ _ x => x
    obtain ⟨z', H', I', rz, qz⟩ := z
    exact SlX.cmpback rz ⟨z', H', I', rz, qz⟩
  rcases hy with ⟨b, dy, gs, rfl, hb'⟩ | ⟨i, rfl⟩
  · cases (show u = Value.ref b from ry)
    obtain ⟨od', J'⟩ := inst_of I hb'
    exact PySem.W.binop_K hF I.ok.mod.kin J J'.type O.sf O.hs O.hf run
  · obtain ⟨t, e⟩ := (show ∃ t, u = Value.int i t from ry)
    cases e
    obtain ⟨rc, hrc, hp⟩ := O.hr
    obtain ⟨fo, h1⟩ := O.h1
    obtain ⟨ro, h2⟩ := O.h2
    exact PySem.W.ksp_binT hF I.ok.mod.kin J rfl O.sf O.hs O.hf hrc hp h1 h2 O.hsub run
/-- i op y, i an int, by the reflected def of y's class -/
def rOBR (C : Addr) (sp : Sp) (E : XK) : R2 := fun x y H Q => (∃ i, x = .int i) ∧ IsIns C H y ∧ sp [y, x] H Q E
theorem op_OBR {op : Operator} {idl : String} (N : IntNo op idl) (O : OwnOpR X.K C op f g) (F : FnOk X.prog X.w X.K X.mg X.base CX n g fd ps sp) (hb : Binds X.K fd ps []) (hr : Room n X.A) (hx : Passes CX X E) : OpR X (binaryOp op) (rOBR C sp E) := by
  intro pins s σ H x y v u Q I rx ry h
  obtain ⟨⟨i, rfl⟩, ⟨a, dx, fs, rfl, ha⟩, q⟩ := h
  cases (show u = Value.ref a from ry)
  obtain ⟨t, e⟩ := (show ∃ t, v = Value.int i t from rx)
  cases e
  obtain ⟨od, J⟩ := inst_of I ha
  refine binop_KR N O I.kIn J ?_
  refine wpAny_mono (run_fn (us := [.ref a, .int i t]) (vs := [.ref a, .int i]) (dvs := []) (ds := []) F hr hb .nil hx I (.cons rfl (.cons ⟨t, rfl⟩ .nil)) (by simpa using q)) (fun w s' z => ?_) fun _ _ x => x
  obtain ⟨z', H', I', rz, qz⟩ := z
  exact SlX.cmpback rz ⟨z', H', I', rz, qz⟩
/-- -x by an own __neg__ -/
def rON (C : Addr) (sp : Sp) (E : XK) : V → Hp → VK → Prop := fun x H Q => IsIns C H x ∧ sp [x] H Q E
theorem un_ON (hs : PySem.W.findIn X.K (.ref C) "__neg__" = some (some (.ref f))) (hf : PySem.W.isFn X.K (.ref f) = true) (F : FnOk X.prog X.w X.K X.mg X.base CX n f fd ps sp) (hb : Binds X.K fd ps []) (hr : Room n X.A) (hx : Passes CX X E) :
    UnR X (unaryOp .USub) (rON C sp E) := by
  intro pins s σ H x v Q I rx h
  obtain ⟨⟨a, dx, fs, rfl, ha⟩, q⟩ := h
  cases (show v = Value.ref a from rx)
  obtain ⟨od, J⟩ := inst_of I ha
  obtain ⟨m, hF⟩ := I.fr
  refine PySem.W.ksp_neg hF I.ok.mod.kin J hs hf ?_
  exact run_fn (us := [.ref a]) (vs := [.ref a]) (dvs := []) (ds := []) F hr hb .nil hx I (.cons rfl .nil) (by simpa using q)
/-- abs(x) by an own __abs__ -/
def rOA (C : Addr) (sp : Sp) (E : XK) : List V → Hp → VK → Prop := fun xs H Q => ∃ x, xs = [x] ∧ IsIns C H x ∧ sp [x] H Q E
theorem call_absOwn (hs : PySem.W.findIn X.K (.ref C) "__abs__" = some (some (.ref f))) (hf : PySem.W.isFn X.K (.ref f) = true) (F : FnOk X.prog X.w X.K X.mg X.base CX n f fd ps sp) (hb : Binds X.K fd ps []) (hr : Room (n + 1) X.A) (hx : Passes CX X E) :
    CallR X (.builtin "abs") (rOA C sp E) := by
  intro pins s σ H xs us Q I r h
  obtain ⟨x, rfl, ⟨a, dx, fs, rfl, ha⟩, q⟩ := h
  obtain ⟨u, rfl, ru⟩ := r.one
  cases (show u = Value.ref a from ru)
  obtain ⟨od, J⟩ := inst_of I ha
  refine Calls.call_function_entry kind_abs plain_abs entry_abs (args_abs _) ?_
  unfold Builtin.«abs»
  refine wpAny_bind (m := oneArg "abs" _) (wpAny_pure ?_)
  refine wpAny_bind (m := callSpecial? (.ref a) (Str.ofString "__abs__")) (PySem.W.special_fn I.kIn J hs (beq_iff_eq.mp hf) ?_)
  refine wpAny_mono (run_fnA (us := [.ref a]) (vs := [.ref a]) F hr.in1 rfl hb hx I (.cons rfl .nil) q) (fun w s' z => ?_) fun _ _ x => x
  exact wpAny_pure ⟨_, rfl, z⟩
end
end SF

/-! Fractions in lowest terms, as Lean's own rational numbers. -/
namespace SQ
open Rat
def gI (u l : Int) : Int := ((Nat.gcd u.natAbs l.natAbs : Nat) : Int)
def sg (u l : Int) : Int := if l < 0 then -gI u l else gI u l
def nt (u l : Int) : Int := u.fdiv (sg u l)
def nb (u l : Int) : Int := l.fdiv (sg u l)
theorem gI_pos {u l : Int} (h : l ≠ 0) : 0 < gI u l := by
  unfold gI
  have : 0 < Nat.gcd u.natAbs l.natAbs := Nat.gcd_pos_of_pos_right _ (Int.natAbs_pos.mpr h)
  omega
theorem sg_natAbs {u l : Int} : (sg u l).natAbs = Nat.gcd u.natAbs l.natAbs := by
  unfold sg gI
  split <;> omega
theorem sg_ne {u l : Int} (h : l ≠ 0) : sg u l ≠ 0 := by
  have e := sg_natAbs (u := u) (l := l)
  have h2 : 0 < Nat.gcd u.natAbs l.natAbs := Nat.gcd_pos_of_pos_right _ (Int.natAbs_pos.mpr h)
  omega
theorem sg_dvd {u l : Int} : sg u l ∣ u ∧ sg u l ∣ l := by
  have e := sg_natAbs (u := u) (l := l)
  constructor
  · apply Int.natAbs_dvd_natAbs.mp
    rw [e]
    exact Nat.gcd_dvd_left _ _
  · apply Int.natAbs_dvd_natAbs.mp
    rw [e]
    exact Nat.gcd_dvd_right _ _
theorem n_eqs {u l : Int} (h : l ≠ 0) : u = sg u l * nt u l ∧ l = sg u l * nb u l := by
  have hs := sg_ne (u := u) h
  obtain ⟨a, ha⟩ := (sg_dvd (u := u) (l := l)).1
  obtain ⟨c, hc⟩ := (sg_dvd (u := u) (l := l)).2
  have e1 : nt u l = a := by
    show Int.fdiv u (sg u l) = a
    have : Int.fdiv (sg u l * a) (sg u l) = a := Int.mul_fdiv_cancel_left _ hs
    rw [← ha] at this
    exact this
  have e2 : nb u l = c := by
    show Int.fdiv l (sg u l) = c
    have : Int.fdiv (sg u l * c) (sg u l) = c := Int.mul_fdiv_cancel_left _ hs
    rw [← hc] at this
    exact this
  rw [e1, e2]
  exact ⟨ha, hc⟩
theorem nb_pos {u l : Int} (h : l ≠ 0) : 0 < nb u l := by
  obtain ⟨h1, h2⟩ := n_eqs (u := u) h
  have hb : nb u l ≠ 0 := fun z => h (by rw [h2, z, Int.mul_zero])
  have hp := gI_pos (u := u) h
  by_cases hl : l < 0
  · have es : sg u l = -gI u l := if_pos hl
    by_cases hn : 0 < nb u l
    · exact hn
    · have : 0 ≤ sg u l * nb u l := by
        rw [es]
        exact Int.mul_nonneg_of_nonpos_of_nonpos (by omega) (by omega)
      omega
  · have es : sg u l = gI u l := if_neg hl
    by_cases hn : 0 < nb u l
    · exact hn
    · have : sg u l * nb u l ≤ 0 := by
        rw [es]
        exact Int.mul_nonpos_of_nonneg_of_nonpos (by omega) (by omega)
      omega
theorem n_cop {u l : Int} (h : l ≠ 0) : Nat.gcd (nt u l).natAbs (nb u l).natAbs = 1 := by
  obtain ⟨h1, h2⟩ := n_eqs (u := u) h
  have e := sg_natAbs (u := u) (l := l)
  have hg : 0 < Nat.gcd u.natAbs l.natAbs := Nat.gcd_pos_of_pos_right _ (Int.natAbs_pos.mpr h)
  have e1 : u.natAbs = Nat.gcd u.natAbs l.natAbs * (nt u l).natAbs := by
    rw [← e, ← Int.natAbs_mul, ← h1]
  have e2 : l.natAbs = Nat.gcd u.natAbs l.natAbs * (nb u l).natAbs := by
    rw [← e, ← Int.natAbs_mul, ← h2]
  have e3 : Nat.gcd u.natAbs l.natAbs = Nat.gcd u.natAbs l.natAbs * Nat.gcd (nt u l).natAbs (nb u l).natAbs := by
    rw [← Nat.gcd_mul_left, ← e1, ← e2]
  exact (Nat.eq_of_mul_eq_mul_left hg (by rw [Nat.mul_one]; exact e3)).symm
/-- what the program makes of u over l is the fraction's top and bottom -/
theorem n_rat {u l : Int} (h : l ≠ 0) : nt u l = (u /. l).num ∧ nb u l = ((u /. l).den : Int) := by
  have hp := nb_pos (u := u) h
  have hc := n_cop (u := u) h
  obtain ⟨h1, h2⟩ := n_eqs (u := u) h
  have hd : (nb u l).natAbs ≠ 0 := by omega
  have eq : u /. l = (⟨nt u l, (nb u l).natAbs, hd, hc⟩ : Rat) := by
    rw [Rat.mk_eq_divInt, Rat.divInt_eq_divInt_iff h (by omega), Int.natAbs_of_nonneg (by omega)]
    have : u * nb u l = (sg u l * nt u l) * nb u l := by rw [← h1]
    rw [this]
    have h3 : nt u l * l = nt u l * (sg u l * nb u l) := by rw [← h2]
    rw [h3]
    simp [Int.mul_comm, Int.mul_left_comm]
  rw [eq]
  refine ⟨rfl, ?_⟩
  show nb u l = (((nb u l).natAbs : Nat) : Int)
  rw [Int.natAbs_of_nonneg (by omega)]
theorem nt_rat {u l : Int} (h : l ≠ 0) : nt u l = (u /. l).num := (n_rat h).1
theorem nb_rat {u l : Int} (h : l ≠ 0) : nb u l = ((u /. l).den : Int) := (n_rat h).2
theorem n_le {u l : Int} (h : l ≠ 0) : (u /. l).num.natAbs ≤ u.natAbs ∧ (u /. l).den ≤ l.natAbs := by
  obtain ⟨h1, h2⟩ := n_eqs (u := u) h
  have hs : 0 < (sg u l).natAbs := Int.natAbs_pos.mpr (sg_ne h)
  obtain ⟨r1, r2⟩ := n_rat (u := u) h
  constructor
  · have e := congrArg Int.natAbs h1
    rw [Int.natAbs_mul, r1] at e
    rw [e]
    exact Nat.le_mul_of_pos_left _ hs
  · have e := congrArg Int.natAbs h2
    rw [Int.natAbs_mul, r2] at e
    rw [e]
    show _ ≤ _ * (u /. l).den
    exact Nat.le_mul_of_pos_left _ hs

/-- top and bottom have at most n binary digits -/
def Sz (n : Nat) (q : Rat) : Prop := q.num.natAbs < 2 ^ n ∧ q.den < 2 ^ n
theorem two_le {a b : Nat} (h : a ≤ b) : 2 ^ a ≤ 2 ^ b := Nat.pow_le_pow_right (by decide) h
theorem Sz.mono {n m : Nat} {q : Rat} (s : Sz n q) (h : n ≤ m) : Sz m q := ⟨Nat.lt_of_lt_of_le s.1 (two_le h), Nat.lt_of_lt_of_le s.2 (two_le h)⟩
theorem Sz.of {n : Nat} {u l : Int} (h : l ≠ 0) (hu : u.natAbs < 2 ^ n) (hl : l.natAbs < 2 ^ n) : Sz n (u /. l) :=
  let ⟨a, b⟩ := n_le (u := u) h
  ⟨Nat.lt_of_le_of_lt a hu, Nat.lt_of_le_of_lt b hl⟩
theorem mul_lt {a b n m : Nat} (ha : a < 2 ^ n) (hb : b < 2 ^ m) : a * b < 2 ^ (n + m) := by
  rw [Nat.pow_add]
  exact Nat.mul_lt_mul'' ha hb
theorem Sz.pos {n : Nat} {q : Rat} (s : Sz n q) : 0 < n := by
  cases n with
  | zero => have h := s.2; have := Nat.pos_of_ne_zero q.den_nz; omega
  | succ k => omega
theorem denZ (q : Rat) : (q.den : Int) ≠ 0 := by have := q.den_nz; omega
theorem denP (q : Rat) : (0 : Int) < q.den := by have := q.den_nz; omega
/-- the sum as the program writes it -/
theorem add_is (q r : Rat) : (q.num * r.den + r.num * q.den) /. (q.den * r.den) = q + r := by
  rw [← Rat.divInt_add_divInt _ _ (denZ q) (denZ r), Rat.num_divInt_den, Rat.num_divInt_den]
theorem mul_is (q r : Rat) : (q.num * r.num) /. (q.den * r.den) = q * r := by
  rw [← Rat.divInt_mul_divInt, Rat.num_divInt_den, Rat.num_divInt_den]
theorem inv_is (q : Rat) : (q.den : Int) /. q.num = q⁻¹ := (Rat.inv_def q).symm
theorem neg_is (q : Rat) : (-q.num) /. (q.den : Int) = -q := by
  rw [← Rat.neg_divInt, Rat.num_divInt_den]
theorem abs_is (q : Rat) : ((if q.num < 0 then -q.num else q.num) /. (q.den : Int)) = q.abs := by
  unfold Rat.abs
  by_cases h : q.num < 0
  · have : ¬ (0 ≤ q) := fun z => by have := Rat.num_nonneg.mpr z; omega
    rw [if_pos h, if_neg this, neg_is]
  · have : 0 ≤ q := Rat.num_nonneg.mp (by omega)
    rw [if_neg h, if_pos this, Rat.num_divInt_den]
theorem int_is (i : Int) : i /. 1 = (i : Rat) := by
  have := Rat.num_divInt_den (i : Rat)
  simpa using this
theorem floor_is (q : Rat) : q.num.fdiv q.den = q.floor := by
  rw [Rat.floor_def, Int.fdiv_eq_ediv_of_nonneg _ (by have := denP q; omega)]
theorem pow_is (q : Rat) (n : Nat) : (q.num ^ n) /. ((q.den : Int) ^ n) = q ^ n := by
  have := Rat.num_divInt_den (q ^ n)
  rw [Rat.num_pow, Rat.den_pow] at this
  rw [← this]
  congr 1
theorem den_ne (q r : Rat) : (q.den : Int) * r.den ≠ 0 := Int.mul_ne_zero (denZ q) (denZ r)
theorem num_ne {q : Rat} (h : q ≠ 0) : q.num ≠ 0 := fun z => h (Rat.num_eq_zero.mp z)
theorem natAbs_den (q : Rat) : ((q.den : Int)).natAbs = q.den := rfl

theorem sum_bd {n m : Nat} {q r : Rat} (s : Sz n q) (t : Sz m r) : (q.num * r.den + r.num * q.den).natAbs < 2 ^ (n + m + 1) ∧ ((q.den : Int) * r.den).natAbs < 2 ^ (n + m + 1) := by
  have a := mul_lt s.1 t.2
  have b := mul_lt t.1 s.2
  have c := mul_lt s.2 t.2
  rw [Nat.add_comm m n] at b
  have e : 2 ^ (n + m + 1) = 2 ^ (n + m) + 2 ^ (n + m) := by rw [Nat.pow_succ]; omega
  constructor
  · have := Int.natAbs_add_le (q.num * r.den) (r.num * q.den)
    rw [Int.natAbs_mul, Int.natAbs_mul, natAbs_den, natAbs_den] at this
    omega
  · rw [Int.natAbs_mul, natAbs_den, natAbs_den]; omega
theorem Sz.add {n m : Nat} {q r : Rat} (s : Sz n q) (t : Sz m r) : Sz (n + m + 1) (q + r) := by
  rw [← add_is]
  exact Sz.of (den_ne q r) (sum_bd s t).1 (sum_bd s t).2
theorem prod_bd {n m : Nat} {q r : Rat} (s : Sz n q) (t : Sz m r) : (q.num * r.num).natAbs < 2 ^ (n + m) ∧ ((q.den : Int) * r.den).natAbs < 2 ^ (n + m) := by
  rw [Int.natAbs_mul, Int.natAbs_mul]
  exact ⟨mul_lt s.1 t.1, mul_lt s.2 t.2⟩
theorem Sz.mul {n m : Nat} {q r : Rat} (s : Sz n q) (t : Sz m r) : Sz (n + m) (q * r) := by
  rw [← mul_is]
  exact Sz.of (den_ne q r) (prod_bd s t).1 (prod_bd s t).2
theorem Sz.neg {n : Nat} {q : Rat} (s : Sz n q) : Sz n (-q) := ⟨by rw [Rat.neg_num, Int.natAbs_neg]; exact s.1, s.2⟩
theorem Sz.abs {n : Nat} {q : Rat} (s : Sz n q) : Sz n q.abs := by
  unfold Rat.abs
  split
  · exact s
  · exact s.neg
theorem Sz.inv {n : Nat} {q : Rat} (s : Sz n q) (h : q ≠ 0) : Sz n q⁻¹ := by
  rw [← inv_is]
  exact Sz.of (num_ne h) s.2 s.1
theorem Sz.int {n : Nat} {i : Int} (h : i.natAbs < 2 ^ n) (h0 : 0 < n) : Sz n (i : Rat) := ⟨h, by show 1 < 2 ^ n; exact Nat.one_lt_two_pow (by omega)⟩
theorem floor_le_num {q : Rat} : q.floor.natAbs ≤ q.num.natAbs := by
  rw [Rat.floor_def]
  have hp := denP q
  have h1 := Int.mul_ediv_add_emod q.num q.den
  have h2 := Int.emod_nonneg q.num (denZ q)
  have h3 := Int.emod_lt_of_pos q.num hp
  rcases Int.le_total 0 q.num with h | h
  · have a := Int.ediv_nonneg h (Int.le_of_lt hp)
    have b : q.num / q.den ≤ q.num := Int.ediv_le_self _ h
    omega
  · have a : q.num ≤ q.num / q.den := by
      rw [Int.le_ediv_iff_mul_le hp]
      have : q.num * (q.den : Int) ≤ q.num * 1 := Int.mul_le_mul_of_nonpos_left h (by omega)
      omega
    have b : q.num / q.den ≤ 0 := by
      have := Int.ediv_le_ediv hp h
      rwa [Int.zero_ediv] at this
    omega
theorem Sz.floor {n : Nat} {q : Rat} (s : Sz n q) : Sz n (q.floor : Rat) := Sz.int (Nat.lt_of_le_of_lt floor_le_num s.1) s.pos
theorem Sz.pow {n : Nat} {q : Rat} (s : Sz n q) (k : Nat) : Sz (n * k + 1) (q ^ k) := by
  constructor
  · rw [Rat.num_pow, Int.natAbs_pow]
    refine Nat.lt_of_le_of_lt (Nat.pow_le_pow_left (Nat.le_of_lt s.1) k) ?_
    rw [← Nat.pow_mul]
    exact Nat.pow_lt_pow_right (by decide) (by omega)
  · rw [Rat.den_pow]
    refine Nat.lt_of_le_of_lt (Nat.pow_le_pow_left (Nat.le_of_lt s.2) k) ?_
    rw [← Nat.pow_mul]
    exact Nat.pow_lt_pow_right (by decide) (by omega)
theorem Sz.lt {n : Nat} {i : Int} (s : Sz n (i : Rat)) : i.natAbs < 2 ^ n := s.1
/-- two fractions are equal if top and bottom are -/
theorem eq_bools (q r : Rat) : (decide (q.num = r.num) && decide ((q.den : Int) = r.den)) = decide (q = r) := by
  by_cases h : q = r
  · subst h; simp
  · have : ¬ (q.num = r.num ∧ (q.den : Int) = r.den) := fun ⟨a, b⟩ => h (Rat.ext a (by omega))
    rw [decide_eq_false h]
    by_cases a : q.num = r.num
    · have b : ¬ (q.den : Int) = r.den := fun b => this ⟨a, b⟩
      rw [decide_eq_false b, Bool.and_false]
    · rw [decide_eq_false a, Bool.false_and]
theorem eq_int (q : Rat) (i : Int) : (decide ((q.den : Int) = 1) && decide (q.num = i)) = decide (q = (i : Rat)) := by
  have := eq_bools q (i : Rat)
  rw [Rat.num_intCast, Rat.den_intCast] at this
  rw [← this, Bool.and_comm]
  rfl
theorem ne_zero (q : Rat) : (q.num != 0) = decide (q ≠ 0) := by
  by_cases h : q = 0
  · subst h; simp
  · have := num_ne h
    simp [h, this]
end SQ

/-! The class of fractions: what its defs promise; expressions of fractions as rational numbers. -/
namespace SQ
open PySem PySem.Spec PyProof.Rows L2 SF
def kinds : List String := ["int", "bool", "str", "NoneType", "list", "tuple", "dict"]
/-- what stands in the text for the class Ratio at C -/
structure RC (K : PySem.W.Frag) (mg : Str → Option Value) (C : Addr) : Prop where
  cl : Cls K C
  nT : NoAttr K C "_top"
  nB : NoAttr K C "_bottom"
  mgC : mg "Ratio" = some (.ref C)
  isi : mg "isinstance" = none
  int_ : mg "int" = none
  bool_ : mg "bool" = none
  str_ : mg "str" = none
  abs_ : mg "abs" = none
  range_ : mg "range" = none
  repr_ : mg "repr" = none
  gcd : mg "gcd" = some (.builtin "math.gcd")
  kB : ∀ T ∈ kinds, PySem.W.kitOne K (.type T) (.ref C) = some false
  kC : PySem.W.kitOne K (.ref C) (.ref C) = some true
  ca : PySem.W.findIn K (.ref C) "__class__" = some (some (.builtin "object.__class__"))
  cn : PySem.W.specialIn K (.builtin "object.__class__") "__get__" = some (some (.builtin "getset_descriptor.__get__"))
  ct : PySem.W.takesIn K (.builtin "object.__class__") = some true
  cm : PySem.W.mroIn K C (.type "object") = some true
/-- the fields of a fraction -/
def rf (t b : Int) : List (Str × V) := putF "_bottom" (.int b) (putF "_top" (.int t) [])
theorem n_bt : ¬ (("_bottom" : Str) = "_top") := by decide +kernel
theorem n_tb : ¬ (("_top" : Str) = "_bottom") := by decide +kernel
theorem rf_top (t b : Int) : (rf t b).lookup ("_top" : Str) = some (.int t) := by
  unfold rf
  rw [lookup_putF, if_neg n_tb, lookup_putF, if_pos rfl]
theorem rf_bot (t b : Int) : (rf t b).lookup ("_bottom" : Str) = some (.int b) := by
  unfold rf
  rw [lookup_putF, if_pos rfl]
theorem rf_no {m : Str} (t b : Int) (h1 : ¬ (m = "_top")) (h2 : ¬ (m = "_bottom")) : (rf t b).lookup m = none := by
  unfold rf
  rw [lookup_putF, if_neg h2, lookup_putF, if_neg h1]
  rfl
/-- the fraction t / b stands at a -/
def RatH (C : Addr) (H : Hp) (a : Addr) (t b : Int) : Prop := ∃ dx, H a = some (.ins C dx (rf t b))
/-- the fraction q of at most n binary digits stands at a -/
def RQ (C : Addr) (H : Hp) (a : Addr) (n : Nat) (q : Rat) : Prop := RatH C H a q.num q.den ∧ Sz n q
/-- v is a fraction (k) or an int, equal to q -/
def NV (C : Addr) (H : Hp) (k : Bool) (v : V) (n : Nat) (q : Rat) : Prop := match k with
  | true => ∃ a, v = .ref a ∧ RQ C H a n q
  | false => ∃ i : Int, v = .int i ∧ q = (i : Rat) ∧ i.natAbs < 2 ^ n ∧ 0 < n
def LIM : Nat := 8900
section
variable {C : Addr} {H H' : Hp} {a p : Addr} {n m : Nat} {q r : Rat} {k : Bool} {v : V} {t b : Int}
theorem RatH.same (r : RatH C H a t b) (s : Same H H') : RatH C H' a t b := let ⟨dx, e⟩ := r; ⟨dx, s _ _ e⟩
theorem RQ.same (x : RQ C H a n q) (s : Same H H') : RQ C H' a n q := ⟨x.1.same s, x.2⟩
theorem RQ.mono (x : RQ C H a n q) (h : n ≤ m) : RQ C H a m q := ⟨x.1, x.2.mono h⟩
theorem NV.same (x : NV C H k v n q) (s : Same H H') : NV C H' k v n q := by
  cases k with
  | true => obtain ⟨a, e, y⟩ := x; exact ⟨a, e, y.same s⟩
  | false => exact x
theorem NV.sz (x : NV C H k v n q) : Sz n q := by
  cases k with
  | true => obtain ⟨a, e, y⟩ := x; exact y.2
  | false => obtain ⟨i, _, rfl, h, h0⟩ := x; exact Sz.int h h0
theorem RQ.nv (x : RQ C H a n q) : NV C H true (.ref a) n q := ⟨a, rfl, x⟩
theorem nvI {i : Int} (h : i.natAbs < 2 ^ n) (h0 : 0 < n) : NV C H false (.int i) n (i : Rat) := ⟨i, rfl, rfl, h, h0⟩
theorem RQ.ins (x : RQ C H a n q) : IsIns C H (.ref a) := let ⟨⟨dx, e⟩, _⟩ := x; ⟨a, dx, _, rfl, e⟩
theorem NV.kind (x : NV C H k v n q) : IsIns C H v ∨ ∃ i, v = .int i := by
  cases k with
  | true => obtain ⟨a, rfl, y⟩ := x; exact .inl y.ins
  | false => obtain ⟨i, rfl, _⟩ := x; exact .inr ⟨i, rfl⟩
theorem same_new {o : HO} (s : Same H H') (h : H' p = none) : Same H (upd H' p o) := fun c u e => by
  rw [upd_ne (ne_of_none (s _ _ e) h)]
  exact s _ _ e
theorem keep {o u : HO} (e : H a = some o) (n : H p = none) : upd H p u a = some o := by rw [upd_ne (ne_of_none e n)]; exact e
theorem upd_got {o : HO} (h : upd H p o = H') : H' p = some o := by rw [← h]; exact upd_same
theorem upd_stay {o : HO} (h : upd H p o = H') (n : H p = none) : Same H H' := by rw [← h]; exact same_new (Same.refl _) n
end
/-! ### what the defs promise -/
def spInit (C : Addr) : Sp := fun vs H Q _ => ∃ (p dx : Addr) (t b : Int), vs = [.ref p, .int t, .int b] ∧ b ≠ 0 ∧ b.natAbs < 2 ^ LIM ∧ H p = some (.ins C dx []) ∧ Q .non (upd H p (.ins C dx (rf (nt t b) (nb t b))))
section
variable {C : Addr} {H H' : Hp} {t b : Int} {W : VK}
theorem mk_fin {x dx : Addr} {n : Nat} (hx : H x = none) (hd : H dx = none) (hn : dx ≠ x) (h0 : b ≠ 0) (ht : t.natAbs < 2 ^ n) (hb : b.natAbs < 2 ^ n) (hl : n ≤ LIM) (q : ∀ H2, Same H H2 → RQ C H2 x n (Rat.divInt t b) → W .non H2) :
    spInit C [.ref x, .int t, .int b] (upd (upd H dx (.own x)) x (.ins C dx [])) W E0 := by
  refine ⟨x, dx, t, b, rfl, h0, Nat.lt_of_lt_of_le hb (two_le hl), upd_same, ?_⟩
  rw [upd_upd]
  refine q _ ?_ ⟨⟨dx, ?_⟩, Sz.of h0 ht hb⟩
  · refine same_new (same_new (Same.refl H) hd) ?_
    rw [upd_ne (Ne.symm hn)]
    exact hx
  · rw [← nt_rat h0, ← nb_rat h0]
    exact upd_same
end
def isI : V → Bool
  | .int _ => true
  | _ => false
def spIsW (C : Addr) : Sp := fun vs H Q _ => ∃ v, vs = [v] ∧ ((∃ T, Dec H v T ∧ Q (.bl (isI v)) H) ∨ (IsIns C H v ∧ Q (.bl false) H))
def spIsN (C : Addr) : Sp := fun vs H Q _ => ∃ v, vs = [v] ∧ ((∃ T, Dec H v T ∧ Q (.bl (isI v)) H) ∨ (IsIns C H v ∧ Q (.bl true) H))
def spAs (C : Addr) : Sp := fun vs H Q _ => ∃ v k n q, vs = [v] ∧ NV C H k v n q ∧ n ≤ LIM ∧ ∀ a H', Same H H' → RQ C H' a n q → Q (.ref a) H'
/-- of two fractions -/
def sp2 (C : Addr) (side : Rat → Rat → Prop) (f : Rat → Rat → Rat) (g : Nat → Nat → Nat) : Sp := fun vs H Q _ => ∃ a b n m q r, vs = [.ref a, .ref b] ∧ RQ C H a n q ∧ RQ C H b m r ∧ side q r ∧ g n m ≤ LIM ∧ ∀ p H', Same H H' → RQ C H' p (g n m) (f q r) → Q (.ref p) H'
/-- of a fraction and a number -/
def spM (C : Addr) (side : Rat → Rat → Prop) (f : Rat → Rat → Rat) (g : Nat → Nat → Nat) : Sp := fun vs H Q _ => ∃ a k v n m q r, vs = [.ref a, v] ∧ RQ C H a n q ∧ NV C H k v m r ∧ side q r ∧ g n m ≤ LIM ∧ ∀ p H', Same H H' → RQ C H' p (g n m) (f q r) → Q (.ref p) H'
def sp1 (C : Addr) (side : Rat → Prop) (f : Rat → Rat) : Sp := fun vs H Q _ => ∃ a n q, vs = [.ref a] ∧ RQ C H a n q ∧ side q ∧ n ≤ LIM ∧ ∀ p H', Same H H' → RQ C H' p n (f q) → Q (.ref p) H'
def yes1 : Rat → Prop := fun _ => True
def yes2 : Rat → Rat → Prop := fun _ _ => True
def nz1 : Rat → Prop := fun q => q ≠ 0
def nz2 : Rat → Rat → Prop := fun _ r => r ≠ 0
def gA (n m : Nat) : Nat := n + m + 1
def gM (n m : Nat) : Nat := n + m
def gR (n m : Nat) : Nat := n + (m + (n + m)) + 1
def fFl (q r : Rat) : Rat := ((q / r).floor : Rat)
def fRem (q r : Rat) : Rat := q - r * ((q / r).floor : Rat)
def fSubR (q r : Rat) : Rat := r - q
def fFlR (q r : Rat) : Rat := fFl r q
def fRemR (q r : Rat) : Rat := fRem r q
def spPow (C : Addr) : Sp := fun vs H Q _ => ∃ a n q e, vs = [.ref a, .int e] ∧ RQ C H a n q ∧ -20 ≤ e ∧ e ≤ 20 ∧ (q ≠ 0 ∨ 0 ≤ e) ∧ n * e.natAbs + 1 ≤ LIM ∧ n ≤ LIM ∧ ∀ p H', Same H H' → RQ C H' p (n * e.natAbs + 1) (q ^ e) → Q (.ref p) H'
def spWPow : Sp := fun vs H Q _ => ∃ (b : Int) (t n : Nat), vs = [.int b, .int (t : Int)] ∧ t ≤ 20 ∧ b.natAbs < 2 ^ n ∧ n ≤ LIM ∧ 0 < n ∧ Q (.int (b ^ t)) H
def spBool (C : Addr) : Sp := fun vs H Q _ => ∃ a n q, vs = [.ref a] ∧ RQ C H a n q ∧ Q (.bl (decide (q ≠ 0))) H
/-- is the fraction q equal to a thing of a built-in kind? -/
def eqO (y : V) (q : Rat) : Bool := match y with
  | .int i => decide (q = (i : Rat))
  | _ => false
def spEq (C : Addr) : Sp := fun vs H Q _ => ∃ a n q y, vs = [.ref a, y] ∧ RQ C H a n q ∧ ((∃ k m r, NV C H k y m r ∧ Q (.bl (decide (q = r))) H) ∨ ∃ T, Dec H y T ∧ Q (.bl (eqO y q)) H)
/-- a number's text -/
abbrev tx (i : Int) : Str := Str.ofString (toString i)
def rstr (q : Rat) : Str := if q.den = 1 then tx q.num else ((Str.empty ++ tx q.num) ++ ("/" : Str)) ++ tx q.den
def rrepr (q : Rat) : Str := ((((Str.empty ++ ("Ratio(" : Str)) ++ tx q.num) ++ (", " : Str)) ++ tx q.den) ++ (")" : Str)
def spStr (C : Addr) : Sp := fun vs H Q _ => ∃ a n q, vs = [.ref a] ∧ RQ C H a n q ∧ n ≤ 1900 ∧ Q (.str (rstr q)) H
def spRepr (C : Addr) : Sp := fun vs H Q _ => ∃ a n q, vs = [.ref a] ∧ RQ C H a n q ∧ n ≤ 1900 ∧ Q (.str (rrepr q)) H
/-- the text of a fraction, and of nothing else -/
def spRead (C : Addr) : Sp := fun vs H Q _ => ∃ n q, vs = [.ref C, .str (rstr q)] ∧ Sz n q ∧ n ≤ 1900 ∧ ∀ p H', Same H H' → RQ C H' p n q → Q (.ref p) H'

theorem lg {i : Int} {n : Nat} (h : i.natAbs < 2 ^ n) (hn : n ≤ LIM) : i.natAbs.log2 < 9000 :=
  Nat.lt_of_lt_of_le (PySem.Flt.log2_lt_of (k := LIM) (by decide) (Nat.lt_of_lt_of_le h (two_le hn))) (by decide)
theorem wm {i j : Int} {n m : Nat} (hi : i.natAbs < 2 ^ n) (hj : j.natAbs < 2 ^ m) (h : n + m ≤ 30 * LIM) : CMulW i j :=
  wide_mul (a := n + 1) (b := m + 1) (Nat.lt_of_lt_of_le hi (two_le (by omega))) (Nat.lt_of_lt_of_le hj (two_le (by omega))) (by omega) (by omega) (by unfold LIM at h; omega)
theorem sg_ok {u l : Int} (h : l ≠ 0) (hb : l.natAbs < 2 ^ LIM) : CDivZ u (sg u l) := by
  have e := sg_natAbs (u := u) (l := l)
  have h1 := Nat.gcd_le_right u.natAbs (Int.natAbs_pos.mpr h)
  have h2 : 0 < Nat.gcd u.natAbs l.natAbs := Nat.gcd_pos_of_pos_right _ (Int.natAbs_pos.mpr h)
  exact ⟨by omega, lg (n := LIM) (by omega) (Nat.le_refl _)⟩

/-! ### expressions of fractions -/
def GS (G : L2.St → Hp → Prop) : Prop := ∀ σ H H', G σ H → Same H H' → G σ H'
/-- e is a fraction (k) or an int, equal to q, of n binary digits, if s -/
def TQ (C : Addr) (G : L2.St → Hp → Prop) (k : Bool) (n : Nat) (q : Rat) (s : Prop) : TE := fun σ H Q => G σ H ∧ s ∧ ∀ v H', Same H H' → NV C H' k v n q → Q v H'
/-- e is the truth value b -/
def TB (G : L2.St → Hp → Prop) (b : Bool) (s : Prop) : TE := fun σ H Q => G σ H ∧ s ∧ ∀ H', Same H H' → Q (.bl b) H'
def TBt (G : L2.St → Hp → Prop) (b : Bool) (s : Prop) : TT := fun σ H Q => G σ H ∧ s ∧ ∀ H', Same H H' → Q b H'
def TS (G : L2.St → Hp → Prop) (x : Str) (s : Prop) : TE := fun σ H Q => G σ H ∧ s ∧ ∀ H', Same H H' → Q (.str x) H'
def TI (G : L2.St → Hp → Prop) (i : Int) (s : Prop) : TE := fun σ H Q => G σ H ∧ s ∧ ∀ H', Same H H' → Q (.int i) H'
section
variable {X : Cx} {C : Addr} {G : L2.St → Hp → Prop} {a b e : Expr} {k k1 k2 : Bool} {n m : Nat} {q r : Rat} {s s1 s2 : Prop} {pos p1 p2 : Pos}
theorem pe_weak {t t' : TE} (h : PE X e t) (i : ∀ σ H Q, t' σ H Q → t σ H Q) : PE X e t' := ⟨fun pins st σ H Q I x => h.run pins st σ H Q I (i _ _ _ x)⟩
theorem pt_weak {t t' : TT} (h : PT X e t) (i : ∀ σ H Q, t' σ H Q → t σ H Q) : PT X e t' := ⟨fun pins st σ H Q I x => h.run pins st σ H Q I (i _ _ _ x)⟩
theorem pw_weak {t t' : TT} (h : PW X e t) (i : ∀ σ H Q, t' σ H Q → t σ H Q) : PW X e t' := ⟨fun wh pins st σ H Q I x => h.run wh pins st σ H Q I (i _ _ _ x)⟩
theorem pq_var {i : Nat} (h : PE X e (tVar i)) (g : ∀ σ H, G σ H → ∃ v, σ[i]? = some (some v) ∧ NV C H k v n q) : PE X e (TQ C G k n q True) :=
  pe_weak h fun σ H Q ⟨hg, _, z⟩ => let ⟨v, hv, nv⟩ := g σ H hg; ⟨v, hv, z v H (Same.refl _) nv⟩
theorem pq_int {i j pos} (h : i.natAbs < 2 ^ n) (h0 : 0 < n) : PE X (.Constant (.int i) j pos) (TQ C G false n (i : Rat) True) :=
  pe_weak pe_int fun σ H Q ⟨hg, _, z⟩ => z _ H (Same.refl _) (nvI h h0)
/-- an operator's rule in the words of rational numbers -/
def rQ (C : Addr) (k1 k2 : Bool) (side : Rat → Rat → Prop) (f : Rat → Rat → Rat) (g : Nat → Nat → Nat) : R2 := fun x y H Q => ∃ n m q r, NV C H k1 x n q ∧ NV C H k2 y m r ∧ side q r ∧ g n m ≤ LIM ∧ ∀ p H', Same H H' → RQ C H' p (g n m) (f q r) → Q (.ref p) H'
theorem pq_op {op : Operator} {side : Rat → Rat → Prop} {f : Rat → Rat → Rat} {g : Nat → Nat → Nat} (ho : OpR X (binaryOp op) (rQ C k1 k2 side f g)) (hG : GS G) (ha : PE X a (TQ C G k1 n q s1)) (hb : PE X b (TQ C G k2 m r s2)) :
    PE X (.BinOp a op b pos) (TQ C G true (g n m) (f q r) (s1 ∧ s2 ∧ side q r ∧ g n m ≤ LIM)) :=
  pe_weak (pe_op ho ha hb) fun σ H Q ⟨hg, ⟨h1, h2, h3, h4⟩, z⟩ =>
    ⟨hg, h1, fun v H1 S1 nv => ⟨hG _ _ _ hg S1, h2, fun u H2 S2 nu => ⟨n, m, q, r, nv.same S2, nu, h3, h4, fun p H3 S3 rq => z _ H3 ((S1.trans S2).trans S3) rq.nv⟩⟩⟩
def rQ1 (C : Addr) (side : Rat → Prop) (f : Rat → Rat) : V → Hp → VK → Prop := fun x H Q => ∃ n q, NV C H true x n q ∧ side q ∧ n ≤ LIM ∧ ∀ p H', Same H H' → RQ C H' p n (f q) → Q (.ref p) H'
theorem pq_un {op : UnaryOp} {side : Rat → Prop} {f : Rat → Rat} (ho : UnR X (unaryOp op) (rQ1 C side f)) (ha : PE X a (TQ C G true n q s1)) : PE X (.UnaryOp op a pos) (TQ C G true n (f q) (s1 ∧ side q ∧ n ≤ LIM)) :=
  pe_weak (pe_un ho ha) fun σ H Q ⟨hg, ⟨h1, h2, h3⟩, z⟩ => ⟨hg, h1, fun v H1 S1 nv => ⟨n, q, nv, h2, h3, fun p H2 S2 rq => z _ H2 (S1.trans S2) rq.nv⟩⟩
/-- f(a), a built-in of one fraction -/
def rQc (C : Addr) (side : Rat → Prop) (f : Rat → Rat) : List V → Hp → VK → Prop := fun xs H Q => ∃ x, xs = [x] ∧ rQ1 C side f x H Q

/-! #### comparisons -/
def rQe (C : Addr) (k2 : Bool) (f : Rat → Rat → Bool) : R2 := fun x y H Q => ∃ n m q r, NV C H true x n q ∧ NV C H k2 y m r ∧ Q (.bl (f q r)) H
theorem pq_cmp {op : CmpOp} {f : Rat → Rat → Bool} (ho : OpR X (compareOp op) (rQe C k2 f)) (hG : GS G) (hm : behindInMarks op b = false) (ha : PE X a (TQ C G true n q s1)) (hb : PE X b (TQ C G k2 m r s2)) :
    PE X (.Compare a [op] [b] pos) (TB G (f q r) (s1 ∧ s2)) :=
  pe_weak (pe_cmpR ho ha hb hm) fun σ H Q ⟨hg, ⟨h1, h2⟩, z⟩ =>
    ⟨hg, h1, fun v H1 S1 nv => ⟨hG _ _ _ hg S1, h2, fun u H2 S2 nu => ⟨n, m, q, r, nv.same S2, nu, z H2 (S1.trans S2)⟩⟩⟩
theorem pb_test {bb : Bool} (h : PE X e (TB G bb s)) (he : ∀ whole, isTrue e X.env whole = (do let v ← whole; standAt e.pos; holding [v] (truthy v)) := by intro _; rfl) : PT X e (TBt G bb s) :=
  pt_weak (pt_val h he) fun σ H Q ⟨hg, h1, z⟩ => ⟨hg, h1, fun H' S => ⟨bb, rfl, z H' S⟩⟩
theorem pb_or1 {bb : Bool} (ha : PT X a (TBt G bb s)) : PW X (.BoolOp .Or [a] pos) (TBt G bb s) := pw_or1 ha
theorem pb_or {rest : List Expr} {b1 b2 : Bool} (hG : GS G) (ha : PT X a (TBt G b1 s1)) (hb : PW X (.BoolOp .Or (b :: rest) pos) (TBt G b2 s2)) : PW X (.BoolOp .Or (a :: b :: rest) pos) (TBt G (b1 || b2) (s1 ∧ (b1 = false → s2))) :=
  pw_weak (pw_or ha hb) fun σ H Q ⟨hg, ⟨h1, h2⟩, z⟩ => ⟨hg, h1, fun H1 S1 => by
    cases b1 with
    | true => exact iteT (by simpa using z H1 S1)
    | false => exact iteF ⟨hG _ _ _ hg S1, h2 rfl, fun H2 S2 => by simpa using z H2 (S1.trans S2)⟩⟩
theorem pb_and1 {bb : Bool} (ha : PT X a (TBt G bb s)) : PW X (.BoolOp .And [a] pos) (TBt G bb s) := pw_and1 ha
theorem pb_and {rest : List Expr} {b1 b2 : Bool} (hG : GS G) (ha : PT X a (TBt G b1 s1)) (hb : PW X (.BoolOp .And (b :: rest) pos) (TBt G b2 s2)) : PW X (.BoolOp .And (a :: b :: rest) pos) (TBt G (b1 && b2) (s1 ∧ (b1 = true → s2))) :=
  pw_weak (pw_and ha hb) fun σ H Q ⟨hg, ⟨h1, h2⟩, z⟩ => ⟨hg, h1, fun H1 S1 => by
    cases b1 with
    | false => exact iteF (by simpa using z H1 S1)
    | true => exact iteT ⟨hG _ _ _ hg S1, h2 rfl, fun H2 S2 => by simpa using z H2 (S1.trans S2)⟩⟩
theorem pb_not {b1 : Bool} (ha : PT X a (TBt G b1 s1)) : PT X (.UnaryOp .Not a pos) (TBt G (!b1) s1) :=
  pt_weak (pt_not ha) fun σ H Q ⟨hg, h1, z⟩ => ⟨hg, h1, fun H1 S1 => z H1 S1⟩
/-- as values -/
theorem pv_and1 {bb : Bool} (ha : PE X a (TB G bb s)) : PE X (.BoolOp .And [a] pos) (TB G bb s) := pe_one ha
theorem pv_and {rest : List Expr} {b1 b2 : Bool} (hG : GS G) (ha : PE X a (TB G b1 s1)) (hb : PE X (.BoolOp .And (b :: rest) pos) (TB G b2 s2)) : PE X (.BoolOp .And (a :: b :: rest) pos) (TB G (b1 && b2) (s1 ∧ (b1 = true → s2))) :=
  pe_weak (pe_and ha hb) fun σ H Q ⟨hg, ⟨h1, h2⟩, z⟩ => ⟨hg, h1, fun H1 S1 => ⟨b1, rfl, by
    cases b1 with
    | false => exact iteF (by simpa using z H1 S1)
    | true => exact iteT ⟨hG _ _ _ hg S1, h2 rfl, fun H2 S2 => by simpa using z H2 (S1.trans S2)⟩⟩⟩
theorem pv_or1 {bb : Bool} (ha : PE X a (TB G bb s)) : PE X (.BoolOp .Or [a] pos) (TB G bb s) := pe_one ha
theorem pv_or {rest : List Expr} {b1 b2 : Bool} (hG : GS G) (ha : PE X a (TB G b1 s1)) (hb : PE X (.BoolOp .Or (b :: rest) pos) (TB G b2 s2)) : PE X (.BoolOp .Or (a :: b :: rest) pos) (TB G (b1 || b2) (s1 ∧ (b1 = false → s2))) :=
  pe_weak (pe_or ha hb) fun σ H Q ⟨hg, ⟨h1, h2⟩, z⟩ => ⟨hg, h1, fun H1 S1 => ⟨b1, rfl, by
    cases b1 with
    | true => exact iteT (by simpa using z H1 S1)
    | false => exact iteF ⟨hG _ _ _ hg S1, h2 rfl, fun H2 S2 => by simpa using z H2 (S1.trans S2)⟩⟩⟩
/-- scalars compared -/
theorem pb_eq {b1 b2 : Bool} (hG : GS G) (hm : behindInMarks .Eq b = false) (ha : PE X a (TB G b1 s1)) (hb : PE X b (TB G b2 s2)) : PE X (.Compare a [.Eq] [b] pos) (TB G (decide (b1 = b2)) (s1 ∧ s2)) :=
  pe_weak (pe_cmpR op_eq ha hb hm) fun σ H Q ⟨hg, ⟨h1, h2⟩, z⟩ => ⟨hg, h1, fun H1 S1 => ⟨hG _ _ _ hg S1, h2, fun H2 S2 => ⟨rfl, by
    rw [show decide (V.bl b1 = V.bl b2) = decide (b1 = b2) by cases b1 <;> cases b2 <;> rfl]; exact z H2 (S1.trans S2)⟩⟩⟩
theorem pb_ne {b1 b2 : Bool} (hG : GS G) (hm : behindInMarks .NotEq b = false) (ha : PE X a (TB G b1 s1)) (hb : PE X b (TB G b2 s2)) : PE X (.Compare a [.NotEq] [b] pos) (TB G (!decide (b1 = b2)) (s1 ∧ s2)) :=
  pe_weak (pe_cmpR op_ne ha hb hm) fun σ H Q ⟨hg, ⟨h1, h2⟩, z⟩ => ⟨hg, h1, fun H1 S1 => ⟨hG _ _ _ hg S1, h2, fun H2 S2 => ⟨rfl, by
    rw [show decide (V.bl b1 = V.bl b2) = decide (b1 = b2) by cases b1 <;> cases b2 <;> rfl]; exact z H2 (S1.trans S2)⟩⟩⟩
theorem pS_eq {x y : Str} (hG : GS G) (hm : behindInMarks .Eq b = false) (ha : PE X a (TS G x s1)) (hb : PE X b (TS G y s2)) : PE X (.Compare a [.Eq] [b] pos) (TB G (decide (x = y)) (s1 ∧ s2)) :=
  pe_weak (pe_cmpR op_eq ha hb hm) fun σ H Q ⟨hg, ⟨h1, h2⟩, z⟩ => ⟨hg, h1, fun H1 S1 => ⟨hG _ _ _ hg S1, h2, fun H2 S2 => ⟨rfl, by
    have e : decide (V.str x = V.str y) = decide (x = y) := by
      by_cases h : x = y
      · rw [h]; simp
      · rw [decide_eq_false h, decide_eq_false (fun z => h (V.str.inj z))]
    rw [e]; exact z H2 (S1.trans S2)⟩⟩⟩
theorem dint {i j : Int} : decide (V.int i = V.int j) = decide (i = j) := by
  by_cases h : i = j
  · rw [h]; simp
  · rw [decide_eq_false h, decide_eq_false (fun z => h (V.int.inj z))]
theorem pI_eq {i j : Int} (hG : GS G) (hm : behindInMarks .Eq b = false) (ha : PE X a (TI G i s1)) (hb : PE X b (TI G j s2)) : PE X (.Compare a [.Eq] [b] pos) (TB G (decide (i = j)) (s1 ∧ s2)) :=
  pe_weak (pe_cmpR op_eq ha hb hm) fun σ H Q ⟨hg, ⟨h1, h2⟩, z⟩ => ⟨hg, h1, fun H1 S1 => ⟨hG _ _ _ hg S1, h2, fun H2 S2 => ⟨rfl, by rw [dint]; exact z H2 (S1.trans S2)⟩⟩⟩
theorem pI_ne {i j : Int} (hG : GS G) (hm : behindInMarks .NotEq b = false) (ha : PE X a (TI G i s1)) (hb : PE X b (TI G j s2)) : PE X (.Compare a [.NotEq] [b] pos) (TB G (!decide (i = j)) (s1 ∧ s2)) :=
  pe_weak (pe_cmpR op_ne ha hb hm) fun σ H Q ⟨hg, ⟨h1, h2⟩, z⟩ => ⟨hg, h1, fun H1 S1 => ⟨hG _ _ _ hg S1, h2, fun H2 S2 => ⟨rfl, by rw [dint]; exact z H2 (S1.trans S2)⟩⟩⟩
theorem pI_le {i j : Int} (hG : GS G) (hm : behindInMarks .LtE b = false) (ha : PE X a (TI G i s1)) (hb : PE X b (TI G j s2)) : PE X (.Compare a [.LtE] [b] pos) (TB G (decide (i ≤ j)) (s1 ∧ s2)) :=
  pe_weak (pe_cmpR op_le ha hb hm) fun σ H Q ⟨hg, ⟨h1, h2⟩, z⟩ => ⟨hg, h1, fun H1 S1 => ⟨hG _ _ _ hg S1, h2, fun H2 S2 => ⟨_, _, rfl, rfl, z H2 (S1.trans S2)⟩⟩⟩
theorem pI_gt {i j : Int} (hG : GS G) (hm : behindInMarks .Gt b = false) (ha : PE X a (TI G i s1)) (hb : PE X b (TI G j s2)) : PE X (.Compare a [.Gt] [b] pos) (TB G (decide (i > j)) (s1 ∧ s2)) :=
  pe_weak (pe_cmpR op_gt ha hb hm) fun σ H Q ⟨hg, ⟨h1, h2⟩, z⟩ => ⟨hg, h1, fun H1 S1 => ⟨hG _ _ _ hg S1, h2, fun H2 S2 => ⟨_, _, rfl, rfl, z H2 (S1.trans S2)⟩⟩⟩
theorem pI_var {i : Nat} {z : Int} (h : PE X e (tVar i)) (g : ∀ σ H, G σ H → σ[i]? = some (some (.int z))) : PE X e (TI G z True) :=
  pe_weak h fun σ H Q ⟨hg, _, w⟩ => ⟨_, g σ H hg, w H (Same.refl _)⟩
theorem pI_int {i j pos} : PE X (.Constant (.int i) j pos) (TI G i True) := pe_weak pe_int fun σ H Q ⟨hg, _, z⟩ => z H (Same.refl _)
theorem pI_add {i j : Int} (hG : GS G) (ha : PE X a (TI G i s1)) (hb : PE X b (TI G j s2)) : PE X (.BinOp a .Add b pos) (TI G (i + j) (s1 ∧ s2)) :=
  pe_weak (pe_op op_add ha hb) fun σ H Q ⟨hg, ⟨h1, h2⟩, z⟩ => ⟨hg, h1, fun H1 S1 => ⟨hG _ _ _ hg S1, h2, fun H2 S2 => ⟨_, _, rfl, rfl, z H2 (S1.trans S2)⟩⟩⟩
end
end SQ

/-! From the class's defs to the rules of expressions. -/
namespace SQ
open PySem PySem.Spec PyProof.Rows L2 SF
/-- a special of the class -/
structure Has (K : PySem.W.Frag) (C : Addr) (name : Str) (f : Addr) : Prop where
  h : PySem.W.findIn K (.ref C) name = some (some (.ref f))
  i : PySem.W.isFn K (.ref f) = true
structure Ne0 (K : PySem.W.Frag) (C : Addr) : Prop where
  h : PySem.W.findIn K (.ref C) "__ne__" = some (some (.builtin "object.__ne__"))
structure NoInt (K : PySem.W.Frag) (C : Addr) : Prop where
  h : PySem.W.subIn K (.type "int") (.ref C) = some false
/-- a def with its promise -/
structure Df (P : Program) (w : World) (K : PySem.W.Frag) (mg : Str → Option Value) (base : Heap) (l : Nat) (ps : List Str) (sp : Sp) where
  f : Addr
  fd : FuncData
  G : FnOk P w K mg base CX0 l f fd ps sp
  b : Binds K fd ps []
def Df.up {P : Program} {w : World} {K : PySem.W.Frag} {mg : Str → Option Value} {base : Heap} {l l' : Nat} {ps : List Str} {sp : Sp} (D : Df P w K mg base l ps sp) (h : l ≤ l') : Df P w K mg base l' ps sp := ⟨D.f, D.fd, D.G.mono h, D.b⟩
section
variable {X : Cx} {C : Addr} {G : L2.St → Hp → Prop} {a b e : Expr} {k k1 k2 : Bool} {l n m : Nat} {q r : Rat} {s s1 s2 : Prop} {pos p1 p2 : Pos} {side : Rat → Rat → Prop} {f : Rat → Rat → Rat} {g : Nat → Nat → Nat} {op : Operator} {ps : List Str}
theorem nv_true {H : Hp} {v : V} (x : NV C H true v n q) : ∃ a, v = .ref a ∧ RQ C H a n q := x
theorem nv_false {H : Hp} {v : V} (x : NV C H false v n q) : ∃ i : Int, v = .int i ∧ q = (i : Rat) := let ⟨i, a, b, _⟩ := x; ⟨i, a, b⟩
theorem op_q (D : Df X.prog X.w X.K X.mg X.base l ps (spM C side f g)) (O : OwnOp X.K C op D.f) (hr : Room l X.A) : OpR X (binaryOp op) (rQ C true k2 side f g) := by
  intro pins st σ H x y v u Q I rx ry h
  obtain ⟨n, m, q, r, nx, ny, hs, hl, z⟩ := h
  refine op_OB (E := E0) O D.G D.b hr pass0 pins st σ H x y v u Q I rx ry ⟨?_, ?_, ?_⟩
  · obtain ⟨a, rfl, y⟩ := nx; exact y.ins
  · exact ny.kind
  · obtain ⟨a, rfl, y'⟩ := nx
    exact ⟨a, k2, y, n, m, q, r, rfl, y', ny, hs, hl, z⟩
theorem op_qR {idl : String} {side' : Rat → Rat → Prop} {f' : Rat → Rat → Rat} {g' : Nat → Nat → Nat} {fa : Addr} (N : IntNo op idl) (D : Df X.prog X.w X.K X.mg X.base l ps (spM C side' f' g')) (O : OwnOpR X.K C op fa D.f) (hr : Room l X.A)
    (es : ∀ q r, side q r → side' r q) (ef : ∀ q r, f' r q = f q r) (eg : ∀ n m, g' m n = g n m) : OpR X (binaryOp op) (rQ C false true side f g) := by
  intro pins st σ H x y v u Q I rx ry h
  obtain ⟨n, m, q, r, nx, ny, hs, hl, z⟩ := h
  obtain ⟨i, e1, e2⟩ := nv_false nx
  obtain ⟨a, e3, y'⟩ := nv_true ny
  refine op_OBR (E := E0) N O D.G D.b hr pass0 pins st σ H x y v u Q I rx ry ⟨⟨i, e1⟩, ?_, ?_⟩
  · rw [e3]; exact y'.ins
  · rw [e3]
    refine ⟨a, false, x, m, n, r, q, rfl, y', nx, es q r hs, by rw [eg]; exact hl, fun p H' S rq => z p H' S ?_⟩
    rw [eg, ef] at rq
    exact rq
theorem un_q {sd : Rat → Prop} {f1 : Rat → Rat} (D : Df X.prog X.w X.K X.mg X.base l ps (sp1 C sd f1)) (hs : Has X.K C "__neg__" D.f) (hr : Room l X.A) : UnR X (unaryOp .USub) (rQ1 C sd f1) := by
  intro pins st σ H x v Q I rx h
  obtain ⟨n, q, nx, hs', hl, z⟩ := h
  obtain ⟨a, rfl, y'⟩ := nv_true nx
  exact un_ON (E := E0) hs.h hs.i D.G D.b hr pass0 pins st σ H _ v Q I rx ⟨y'.ins, a, n, q, rfl, y', hs', hl, z⟩
theorem pq_abs {x : Str} {sd : Rat → Prop} {f1 : Rat → Rat} (D : Df X.prog X.w X.K X.mg X.base l ps (sp1 C sd f1)) (hs : Has X.K C "__abs__" D.f) (hr : Room (l + 1) X.A)
    (hg : Gl X x) (hm : X.mg x = none) (hv : bootBuiltins x = some (.builtin "abs")) (ha : PE X a (TQ C G true n q s)) (hn : x ≠ "__name__" := by decide) (hdb : (x == ("__debug__" : Str)) = false := by decide)
    (he : starEach (a :: []) X.env = (false, eval a X.env) :: starEach [] X.env := by rfl) (hpl : (backTo pos (starEach [] X.env)).any (·.1) = false := by rfl) : PE X (.Call (.Name x p1) [a] [] pos) (TQ C G true n (f1 q) (s ∧ sd q ∧ n ≤ LIM)) :=
  pe_weak (pe_callB (call_absOwn (E := E0) hs.h hs.i D.G D.b hr pass0) hg hm hv (pa_cons ha pa_nil he) hn hdb he hpl) fun σ H Q ⟨hg, ⟨h1, h2, h3⟩, z⟩ =>
    ⟨hg, h1, fun v H1 S1 nv => by
      obtain ⟨a, rfl, y'⟩ := nv_true nv
      exact ⟨_, rfl, y'.ins, a, n, q, rfl, y', h2, h3, fun p H2 S2 rq => z _ H2 (S1.trans S2) rq.nv⟩⟩
/-! #### comparisons -/
section
variable {fld : Str}
theorem RC.typ {K : PySem.W.Frag} {mg : Str → Option Value} {H : Hp} {a : Addr} {t b : Int} (T : RC K mg C) (r : RatH C H a t b) : TyX K H (.ref a) (.ref C) := let ⟨dx, e⟩ := r; .base (.ins e T.cl T.ca T.cn T.ct T.cm)
theorem nfC {K : PySem.W.Frag} : PySem.W.notFirst K C (.ref C) = true := by simp [PySem.W.notFirst]
theorem nfI {K : PySem.W.Frag} (h : PySem.W.subIn K (.type "int") (.ref C) = some false) : PySem.W.notFirst K C (.type "int") = true := by
  unfold PySem.W.notFirst
  rw [h]
  simp
theorem nv_ty {K : PySem.W.Frag} {mg : Str → Option Value} {H : Hp} {v : V} (T : RC K mg C) (hi : PySem.W.subIn K (.type "int") (.ref C) = some false) (x : NV C H k v n q) : ∃ tb, TyX K H v tb ∧ PySem.W.notFirst K C tb = true := by
  cases k with
  | true => obtain ⟨a, rfl, y⟩ := x; exact ⟨_, T.typ y.1, nfC⟩
  | false => obtain ⟨i, rfl, _⟩ := x; exact ⟨_, .base (.int i), nfI hi⟩
theorem op_eqq (T : RC X.K X.mg C) (hi : NoInt X.K C) (D : Df X.prog X.w X.K X.mg X.base l ps (spEq C)) (hs : Has X.K C "__eq__" D.f) (hr : Room l X.A) :
    OpR X (compareOp .Eq) (rQe C k2 fun q r => decide (q = r)) := by
  intro pins st σ H x y v u Q I rx ry h
  obtain ⟨n, m, q, r, nx, ny, z⟩ := h
  obtain ⟨a, rfl, y'⟩ := nv_true nx
  obtain ⟨tb, hty, hnf⟩ := nv_ty T hi.h ny
  obtain ⟨⟨dx, ea⟩, _⟩ := id y'
  exact op_ownL (op := .Eq) (E := E0) (fun _ _ => rfl) hs.h hs.i D.G D.b hr pass0 pins st σ H _ y v u Q I rx ry ⟨a, dx, _, tb, rfl, ea, hty, hnf, a, n, q, y, rfl, y', .inl ⟨k2, m, r, ny, z⟩⟩
theorem op_neq (T : RC X.K X.mg C) (hi : NoInt X.K C) (D : Df X.prog X.w X.K X.mg X.base l ps (spEq C)) (hne : Ne0 X.K C) (hs : Has X.K C "__eq__" D.f) (hr : Room (l + 1) X.A) : OpR X (compareOp .NotEq) (rQe C k2 fun q r => !decide (q = r)) := by
  intro pins st σ H x y v u Q I rx ry h
  obtain ⟨n, m, q, r, nx, ny, z⟩ := h
  obtain ⟨a, rfl, y'⟩ := nv_true nx
  obtain ⟨tb, hty, hnf⟩ := nv_ty T hi.h ny
  obtain ⟨⟨dx, ea⟩, _⟩ := id y'
  exact op_ownNeL (E := E0) hne.h T.cm hs.h hs.i D.G D.b hr pass0 pins st σ H _ y v u Q I rx ry ⟨a, dx, _, tb, rfl, ea, hty, hnf, a, n, q, y, rfl, y', .inl ⟨k2, m, r, ny, _, rfl, z⟩⟩
end
/-! #### e.top, e.bottom, str(e), repr(e), bool(e) -/
theorem pI_top {p : Addr} {ps : List Str} (T : Cls X.K C) (D : Df X.prog X.w X.K X.mg X.base l ps (getSp C "_top")) (hp : PropOf X.K C "top" p D.f) (hr : Room (l + 1) X.A) (ha : PE X a (TQ C G true n q s))
    (hab : attributeBase a "top" X.env (eval a X.env) = eval a X.env := by rfl) : PE X (.Attribute a "top" pos) (TI G q.num s) :=
  pe_weak (pe_prop (E := E0) ha T hp D.G hr D.b .nil pass0 hab) fun σ H Q ⟨hg, h1, z⟩ => ⟨hg, h1, fun v H1 S1 nv => by
    obtain ⟨a, rfl, ⟨dx, e⟩, _⟩ := nv_true nv
    exact ⟨a, dx, _, rfl, e, a, dx, _, _, rfl, e, rf_top _ _, z H1 S1⟩⟩
theorem pI_bot {p : Addr} {ps : List Str} (T : Cls X.K C) (D : Df X.prog X.w X.K X.mg X.base l ps (getSp C "_bottom")) (hp : PropOf X.K C "bottom" p D.f) (hr : Room (l + 1) X.A) (ha : PE X a (TQ C G true n q s))
    (hab : attributeBase a "bottom" X.env (eval a X.env) = eval a X.env := by rfl) : PE X (.Attribute a "bottom" pos) (TI G (q.den : Int) s) :=
  pe_weak (pe_prop (E := E0) ha T hp D.G hr D.b .nil pass0 hab) fun σ H Q ⟨hg, h1, z⟩ => ⟨hg, h1, fun v H1 S1 nv => by
    obtain ⟨a, rfl, ⟨dx, e⟩, _⟩ := nv_true nv
    exact ⟨a, dx, _, rfl, e, a, dx, _, _, rfl, e, rf_bot _ _, z H1 S1⟩⟩
theorem pS_str {x : Str} (D : Df X.prog X.w X.K X.mg X.base l ps (spStr C)) (hs : Has X.K C "__str__" D.f) (hr : Room (l + 2) X.A)
    (hg : Gl X x) (hm : X.mg x = none) (hv : bootBuiltins x = some (.type "str")) (ha : PE X a (TQ C G true n q s)) (hn : x ≠ "__name__" := by decide) (hdb : (x == ("__debug__" : Str)) = false := by decide)
    (he : starEach (a :: []) X.env = (false, eval a X.env) :: starEach [] X.env := by rfl) (hpl : (backTo pos (starEach [] X.env)).any (·.1) = false := by rfl) : PE X (.Call (.Name x p1) [a] [] pos) (TS G (rstr q) (s ∧ n ≤ 1900)) :=
  pe_weak (pe_callTy (call_strOwn (E := E0) hs.h hs.i D.G D.b hr pass0) hg hm hv (pa_cons ha pa_nil he) hn hdb he hpl) fun σ H Q ⟨hg, ⟨h1, h2⟩, z⟩ =>
    ⟨hg, h1, fun v H1 S1 nv => by
      obtain ⟨a, rfl, y'⟩ := nv_true nv
      obtain ⟨⟨dx, e⟩, _⟩ := id y'
      exact ⟨a, dx, _, rfl, e, a, n, q, rfl, y', h2, _, rfl, z H1 S1⟩⟩
theorem pS_repr {x : Str} (D : Df X.prog X.w X.K X.mg X.base l ps (spRepr C)) (hs : Has X.K C "__repr__" D.f) (hr : Room (l + 1) X.A)
    (hg : Gl X x) (hm : X.mg x = none) (hv : bootBuiltins x = some (.builtin "repr")) (ha : PE X a (TQ C G true n q s)) (hn : x ≠ "__name__" := by decide) (hdb : (x == ("__debug__" : Str)) = false := by decide)
    (he : starEach (a :: []) X.env = (false, eval a X.env) :: starEach [] X.env := by rfl) (hpl : (backTo pos (starEach [] X.env)).any (·.1) = false := by rfl) : PE X (.Call (.Name x p1) [a] [] pos) (TS G (rrepr q) (s ∧ n ≤ 1900)) :=
  pe_weak (pe_callB (call_reprOwn (E := E0) hs.h hs.i D.G D.b hr pass0) hg hm hv (pa_cons ha pa_nil he) hn hdb he hpl) fun σ H Q ⟨hg, ⟨h1, h2⟩, z⟩ =>
    ⟨hg, h1, fun v H1 S1 nv => by
      obtain ⟨a, rfl, y'⟩ := nv_true nv
      obtain ⟨⟨dx, e⟩, _⟩ := id y'
      exact ⟨a, dx, _, rfl, e, a, n, q, rfl, y', h2, _, rfl, z H1 S1⟩⟩
theorem pb_bool {x : Str} (D : Df X.prog X.w X.K X.mg X.base l ps (spBool C)) (hs : Has X.K C "__bool__" D.f) (hr : Room (l + 2) X.A)
    (hg : Gl X x) (hm : X.mg x = none) (hv : bootBuiltins x = some (.type "bool")) (ha : PE X a (TQ C G true n q s)) (hn : x ≠ "__name__" := by decide) (hdb : (x == ("__debug__" : Str)) = false := by decide)
    (he : starEach (a :: []) X.env = (false, eval a X.env) :: starEach [] X.env := by rfl) (hpl : (backTo pos (starEach [] X.env)).any (·.1) = false := by rfl) : PE X (.Call (.Name x p1) [a] [] pos) (TB G (decide (q ≠ 0)) s) :=
  pe_weak (pe_callTy (call_boolOwn (E := E0) hs.h hs.i D.G D.b hr pass0) hg hm hv (pa_cons ha pa_nil he) hn hdb he hpl) fun σ H Q ⟨hg, h1, z⟩ =>
    ⟨hg, h1, fun v H1 S1 nv => by
      obtain ⟨a, rfl, y'⟩ := nv_true nv
      obtain ⟨⟨dx, e⟩, _⟩ := id y'
      exact ⟨a, dx, _, rfl, e, a, n, q, rfl, y', _, rfl, z H1 S1⟩⟩
/-! #### methods -/
theorem pq_over {pl : Sem Bool} {o : Expr} {apos : Pos} (c : Cls X.K C) (D : Df X.prog X.w X.K X.mg X.base l ps (spM C side f g)) (hm : Meth X.K C "over" D.f) (hr : Room l X.A) (hG : GS G) (ho : PE X o (TQ C G true n q s1)) (ha : PE X a (TQ C G k2 m r s2))
    (hst : starEach (a :: []) X.env = (false, eval a X.env) :: starEach [] X.env := by rfl) (hpl : (backTo pos (starEach [] X.env)).any (·.1) = false := by rfl)
    (ht : eval (.Call (.Attribute o "over" apos) [a] [] pos) X.env = (do
      let ov ← eval o X.env
      standAt apos.atName
      let (f, first) ← holding [ov] (getMethod ov "over" pl)
      callWith pos f first (backTo pos (starEach (a :: []) X.env)) (backToKw pos (keywordEach [] X.env))) := by rfl) : PE X (.Call (.Attribute o "over" apos) [a] [] pos) (TQ C G true (g n m) (f q r) (s1 ∧ s2 ∧ side q r ∧ g n m ≤ LIM)) :=
  pe_weak (pe_meth (pl := pl) (E := E0) ho c hm D.G hr D.b .nil pass0 (pa_cons ha pa_nil hst) hst hpl ht) fun σ H Q ⟨hg, ⟨h1, h2, h3, h4⟩, z⟩ =>
    ⟨hg, h1, fun v H1 S1 nv => by
      obtain ⟨a, rfl, y'⟩ := nv_true nv
      obtain ⟨⟨dx, e⟩, _⟩ := id y'
      exact ⟨a, dx, _, rfl, e, rf_no _ _ (by decide +kernel) (by decide +kernel), hG _ _ _ hg S1, h2, fun u H2 S2 nu => ⟨a, k2, u, n, m, q, r, rfl, y'.same S2, nu, h3, h4, fun p H3 S3 rq => z _ H3 ((S1.trans S2).trans S3) rq.nv⟩⟩⟩
theorem pq_power {pl : Sem Bool} {o : Expr} {apos : Pos} {i : Int} (c : Cls X.K C) (D : Df X.prog X.w X.K X.mg X.base l ps (spPow C)) (hm : Meth X.K C "power" D.f) (hr : Room l X.A) (hG : GS G) (ho : PE X o (TQ C G true n q s1)) (ha : PE X a (TI G i s2))
    (hst : starEach (a :: []) X.env = (false, eval a X.env) :: starEach [] X.env := by rfl) (hpl : (backTo pos (starEach [] X.env)).any (·.1) = false := by rfl)
    (ht : eval (.Call (.Attribute o "power" apos) [a] [] pos) X.env = (do
      let ov ← eval o X.env
      standAt apos.atName
      let (f, first) ← holding [ov] (getMethod ov "power" pl)
      callWith pos f first (backTo pos (starEach (a :: []) X.env)) (backToKw pos (keywordEach [] X.env))) := by rfl) : PE X (.Call (.Attribute o "power" apos) [a] [] pos) (TQ C G true (n * i.natAbs + 1) (q ^ i) (s1 ∧ s2 ∧ -20 ≤ i ∧ i ≤ 20 ∧ (q ≠ 0 ∨ 0 ≤ i) ∧ n * i.natAbs + 1 ≤ LIM ∧ n ≤ LIM)) :=
  pe_weak (pe_meth (pl := pl) (E := E0) ho c hm D.G hr D.b .nil pass0 (pa_cons ha pa_nil hst) hst hpl ht) fun σ H Q ⟨hg, ⟨h1, h2, h3⟩, z⟩ =>
    ⟨hg, h1, fun v H1 S1 nv => by
      obtain ⟨a, rfl, y'⟩ := nv_true nv
      obtain ⟨⟨dx, e⟩, _⟩ := id y'
      obtain ⟨h31, h32, h33, h34, h35⟩ := h3
      exact ⟨a, dx, _, rfl, e, rf_no _ _ (by decide +kernel) (by decide +kernel), hG _ _ _ hg S1, h2, fun H2 S2 => ⟨a, n, q, i, rfl, y'.same S2, h31, h32, h33, h34, h35, fun p H3 S3 rq => z _ H3 ((S1.trans S2).trans S3) rq.nv⟩⟩⟩
/-- a ** i -/
theorem pq_pow {i : Int} (D : Df X.prog X.w X.K X.mg X.base l ps (spPow C)) (O : OwnOp X.K C .Pow D.f) (hr : Room l X.A) (hG : GS G) (ha : PE X a (TQ C G true n q s1)) (hb : PE X b (TI G i s2)) :
    PE X (.BinOp a .Pow b pos) (TQ C G true (n * i.natAbs + 1) (q ^ i) (s1 ∧ s2 ∧ -20 ≤ i ∧ i ≤ 20 ∧ (q ≠ 0 ∨ 0 ≤ i) ∧ n * i.natAbs + 1 ≤ LIM ∧ n ≤ LIM)) :=
  pe_weak (pe_op (op_OB (E := E0) O D.G D.b hr pass0) ha hb) fun σ H Q ⟨hg, ⟨h1, h2, h3⟩, z⟩ =>
    ⟨hg, h1, fun v H1 S1 nv => by
      obtain ⟨a, rfl, y'⟩ := nv_true nv
      obtain ⟨h31, h32, h33, h34, h35⟩ := h3
      exact ⟨hG _ _ _ hg S1, h2, fun H2 S2 => ⟨(y'.same S2).ins, .inr ⟨i, rfl⟩, a, n, q, i, rfl, y'.same S2, h31, h32, h33, h34, h35, fun p H3 S3 rq => z _ H3 ((S1.trans S2).trans S3) rq.nv⟩⟩⟩
/-- Ratio(e, f) -/
theorem pq_make {x : Str} {i j : Int} {p : Addr} {fd : FuncData} (M : Mk X.K C p) (F : FnOk X.prog X.w X.K X.mg X.base CX0 l p fd ["self", "top", "bottom"] (spInit C)) (hb : Binds X.K fd ["self", "top", "bottom"] []) (hr : Room (l + 1) X.A) (hg : Gl X x) (hm : X.mg x = some (.ref C)) (hG : GS G)
    (ha : PE X a (TI G i s1)) (hb' : PE X b (TI G j s2)) (hi : i.natAbs < 2 ^ n) (hj : j.natAbs < 2 ^ n) (hdb : (x == ("__debug__" : Str)) = false := by decide)
    (he : starEach (a :: [b]) X.env = (false, eval a X.env) :: starEach [b] X.env := by rfl) (he2 : starEach (b :: []) X.env = (false, eval b X.env) :: starEach [] X.env := by rfl) (hpl : (backTo pos (starEach [b] X.env)).any (·.1) = false := by rfl) :
    PE X (.Call (.Name x p1) [a, b] [] pos) (TQ C G true n (Rat.divInt i j) (s1 ∧ s2 ∧ j ≠ 0 ∧ n ≤ LIM)) :=
  pe_weak (pe_make (E := E0) M F hr hg hm hb .nil pass0 (pa_cons ha (pa_cons hb' pa_nil he2) he) hdb he hpl) fun σ H Q ⟨hg, ⟨h1, h2, h3, h4⟩, z⟩ =>
    ⟨hg, h1, fun H1 S1 => ⟨hG _ _ _ hg S1, h2, fun H2 S2 x dx hx hd hn => mk_fin hx hd hn h3 hi hj h4 fun H3 S3 rq => ⟨rfl, z _ H3 ((S1.trans S2).trans S3) rq.nv⟩⟩⟩
end
end SQ

/-! enumerate over a tuple; comprehensions that only make objects; != with an own instance on the right; entries compared. -/
namespace SKx
open PySem
open AutoSeq1 (wpAny_loadPart')
theorem meets_enumT (l : Addr) (its : Array Value) (n : Nat) (da : Option Addr) (sl : Array (Option Value)) :
    Meets (Builtin.«enumerate.__new__» ⟨[.type "enumerate", .ref l], []⟩) (fun _ R s => s.heap.get? l = some { cls := .type "tuple", dict := da, data := .seq its n, slots := sl } ∧
      R (.ok (.ret (.ref (s.heap.push { cls := .type "tuple_iterator", data := .fields #[.ref l, .int 0 0] }).objs.size)))
        { s with heap := (s.heap.push { cls := .type "tuple_iterator", data := .fields #[.ref l, .int 0 0] }).push { cls := .type "enumerate", data := .fields #[.none, .bool false, .ref s.heap.objs.size, rawInt 0, .none, .none] } }) :=
  .of_wp fun prog w A R s h => by
    obtain ⟨hp, g, d, tk, os⟩ := s; obtain ⟨hl, h⟩ := h
    have sE := sub_enumerate
    have hT : Heap.IsTuple (Shared.heap ⟨hp, g, d, tk, os⟩) l its := ⟨_, hl, rfl, n, rfl⟩
    wp_walk using wpAny_loadPart' hl
    refine wpAny_stack_any fun st => wpAny_pure ?_
    split
    · rename_i c _ _ _ _ _
      cases (c == Value.type "enumerate")
      · wp_walk using wpAny_loadPart' hl, wpAny_pyIter_tuple hT
        exact ⟨_, rfl, h⟩
      · wp_walk using wpAny_loadPart' hl, wpAny_pyIter_tuple hT
        exact ⟨_, rfl, h⟩
    · wp_walk using wpAny_loadPart' hl, wpAny_pyIter_tuple hT
      exact ⟨_, rfl, h⟩
section
variable {prog : Program} {w : World} {A : Around} {E : Value → Shared → Prop} {s : Shared}
theorem call_enumT {l : Addr} {its : Array Value} {Q : Value → Shared → Prop} (hT : s.heap.IsTuple l its)
    (h : ∀ h', IsEnum h' (s.heap.objs.size + 1) s.heap.objs.size 0 .none → h'.IsTupleIter s.heap.objs.size l 0 →
      (∀ b o, s.heap.get? b = some o → h'.get? b = some o) → Q (.ref (s.heap.objs.size + 1)) { s with heap := h' }) :
    wpAny (model prog w) A (call (.type "enumerate") [.ref l]) Q E s := by
  obtain ⟨⟨c, da, dt, sl⟩, hl, hc, n, hd⟩ := hT
  replace hc : c = .type "tuple" := hc
  replace hd : dt = .seq its n := hd
  subst hc hd
  refine callType_new F.called_enumerate (by decide) (F.typeCall_enumerate_1 _) (F.newCall_enumerate_1 _) (fun obj => F.args_object_init_2 obj _) F.entry_enumerate_new
    (meets_enumT l its n da sl) ⟨hl, ?_⟩
  have hz : (s.heap.push { cls := .type "tuple_iterator", data := .fields #[.ref l, .int 0 0] }).objs.size = s.heap.objs.size + 1 := Heap.size_push ..
  show _ ∧ _
  rw [hz]
  have he : IsEnum ((s.heap.push { cls := .type "tuple_iterator", data := .fields #[.ref l, .int 0 0] }).push { cls := .type "enumerate", data := .fields #[.none, .bool false, .ref s.heap.objs.size, rawInt 0, .none, .none] })
      (s.heap.objs.size + 1) s.heap.objs.size 0 .none := by
    have q := Heap.get?_push_size (s.heap.push { cls := .type "tuple_iterator", data := .fields #[.ref l, .int 0 0] }) (o := { cls := .type "enumerate", data := .fields #[.none, .bool false, .ref s.heap.objs.size, rawInt 0, .none, .none] }) rfl
    rw [hz] at q; exact q
  exact ⟨⟨_, he, rfl⟩, h _ he ⟨_, Heap.get?_push_of_some _ (Heap.get?_push_size _ rfl), rfl, rfl⟩ fun b o x => Heap.get?_push_of_some _ (Heap.get?_push_of_some _ x)⟩
end
end SKx
namespace SK
open PySem PySem.Spec PyProof.Rows L2 SF SQ
/-- the tuple at a, each item with its place in a new pair -/
def ItEt (K : PySem.W.Frag) (a : Addr) : It :=
  ⟨fun i H => ∃ (xs : List V) (x : V), SqT K H a xs ∧ xs[i]? = some x, fun i H v H' => ∃ T x, v = .ref T ∧ H T = none ∧ H' = upd H T (.tup [.int (i : Nat), x]) ∧ ∀ xs, SqT K H a xs → xs[i]? = some x, fun i H => ∃ xs : List V, SqT K H a xs ∧ xs.length ≤ i⟩
theorem turn_enumT {P : Program} {w : World} {K : PySem.W.Frag} {elts : List Expr} {kk : Nat} {tpos : Pos} (a e it : Addr) (hai : a ≠ it) (hae : a ≠ e) :
    Turn P w K (.Tuple elts kk tpos) (ItEt K a) [e, it] e (fun i h => (∃ old, IsEnum h e it ((i : Nat) : Int) old) ∧ h.IsTupleIter it a i ∧ e ≠ it) where
  mem := by simp
  obj := fun i h st b hb => by
    obtain ⟨⟨old, he⟩, ⟨o, ho, hc, hd⟩, _⟩ := st
    have e' : b = e ∨ b = it := by simpa using hb
    rcases e' with z | z
    · rw [z]; exact ⟨_, he, fun v q => nomatch q⟩
    · rw [z]; exact ⟨o, ho, fun v q => by rw [hd] at q; cases q⟩
  keep := fun i h h' st k => let ⟨⟨old, he⟩, hi, hne⟩ := st; ⟨⟨old, k e (by simp) _ he⟩, hi.at fun o q => k it (by simp) o q, hne⟩
  item := by
    intro X hP hw hK hc i pins s σ H E I hf st hg
    subst hP hw hK
    obtain ⟨⟨old, he⟩, hit, hne⟩ := st
    obtain ⟨xs, x, hq, hx⟩ := hg
    obtain ⟨its, rv, p, hz⟩ := I.tuple hq
    have p : s.heap.IsTuple a its.toArray := p
    obtain ⟨u, hu, ru⟩ := rv.get hx
    have hel : e < s.heap.objs.size := Heap.lt_size he
    have hil : it < s.heap.objs.size := by obtain ⟨_, q, _⟩ := hit; exact Heap.lt_size q
    have hlt : i < its.toArray.size := by rw [List.size_toArray]; exact (List.getElem?_eq_some_iff.mp hu).1
    refine wpAny_pyNext_enum_itemD (Draws.tuple (A := X.A.in1) (I.ok.hd hc) it a hai its.toArray) he ⟨hit, p⟩ hlt hne (fun q => by
      have q' : e = it ∨ e = a := by simpa using q
      exact q'.elim hne (Ne.symm hae)) fun y h' tk hy ho hit' hT hsz hk => ?_
    have ey : y = u := by
      have hy : its.toArray[i]? = some y := hy
      rw [List.getElem?_toArray, hu] at hy
      exact (Option.some.inj hy).symm
    subst ey
    refine ⟨_, rfl, wpAny_letOwnedTupleGo_enum (s := { s with heap := h', toks := tk + 1 }) ho fun h'' he' sb => ?_⟩
    have hT2 : h''.get? s.heap.objs.size = some { cls := .type "tuple", data := .seq #[.int i tk, y] } := (sb.2 _ (Nat.ne_of_gt hel)).trans hT
    have new : ObjOk X.prog X.w (upd H s.heap.objs.size (.tup [.int (i : Nat), x])) h'' s.heap.objs.size (.tup [.int (i : Nat), x]) :=
      ⟨by show 2 ≤ sizeLine; decide, [.int i tk, y], .cons ⟨_, rfl⟩ (.cons ru .nil), ⟨_, hT2, rfl, _, rfl⟩⟩
    have I1 : Inv X pins σ (upd H s.heap.objs.size (.tup [.int (i : Nat), x])) { s with heap := h'', toks := tk + 1 } :=
      I.turnedNew (ch := [e, it]) (fun b ob hb q => (sb.2 b (fun z => hb (by simp [z]))).trans (hk b ob (fun z => hb (by simp [z])) (fun z => hb (by simp [z])) q)) hf (Nat.le_refl _) new
    refine ⟨.ref s.heap.objs.size, _, I1, rfl, ⟨_, x, rfl, I.hok.fresh (Nat.le_refl _), rfl, fun ys hy => by rw [I.tuple_inj hy hq]; exact hx⟩, ⟨⟨y, ?_⟩, hit'.1.at fun o q => (sb.2 it (Ne.symm hne)).trans q, hne⟩, fun b hb => ?_⟩
    · have e1 : ((i + 1 : Nat) : Int) = (i : Int) + 1 := by omega
      rw [e1]; exact he'
    · have hb' : b < s.heap.objs.size := by
        have e' : b = e ∨ b = it := by simpa using hb
        rcases e' with z | z
        · rw [z]; exact hel
        · rw [z]; exact hil
      rw [upd_ne (Nat.ne_of_lt hb')]
      exact (hf b hb).1
  done := by
    intro X hP hw hK hc i pins s σ H E I hf st hg
    subst hP hw hK
    obtain ⟨⟨old, he⟩, hit, hne⟩ := st
    obtain ⟨xs, hq, hx⟩ := hg
    obtain ⟨its, rv, p, hz⟩ := I.tuple hq
    have p : s.heap.IsTuple a its.toArray := p
    obtain ⟨f0, f1, f2, f3, f4, f5⟩ := hf it (by simp)
    have hl := rv.length
    have D : Draws X.prog X.w X.A.in1 it [it, a] i (fun _ _ => True) (fun j h => j = i ∧ h.IsTupleIter it a i ∧ h.IsTuple a its.toArray) :=
      { live := fun _ _ st => let ⟨o, ho, _⟩ := st.2.1; ⟨o, ho⟩
        frame := fun _ _ _ st hk => ⟨st.1, st.2.1.at fun o e => hk it (by simp) o e, st.2.2.at fun o e => hk a (by simp) o e⟩
        item := fun j s Q E hj st hQ => absurd st.1 (Nat.ne_of_lt hj)
        done := fun s Q E st hE => wpAny_nextOf_tuple_end (I.ok.hd hc) st.2.1 st.2.2 (by simp; omega) hE }
    exact wpAny_pyNext_enum_endD D he ⟨rfl, hit, p⟩ fun h' eb => ⟨rfl, I.turned (t' := s.toks) (fun b o hb q => eb b o hb q) f0 f1 f3 f4 f5⟩
  self := fun A i s Q E st h => let ⟨⟨_, he⟩, _⟩ := st; wpAny_pyIter_enum he h
end SK

/-! Slots that hold fractions and ints. -/
namespace SQ
open PySem PySem.Spec PyProof.Rows L2 SF
/-- the pair of numerator and denominator stands at p, as a tuple -/
def PQ (H : Hp) (p : Addr) (n : Nat) (q : Rat) : Prop := H p = some (.tup [.int q.num, .int (q.den : Int)]) ∧ Sz n q
inductive Sl where
  | fr (n : Nat) (r : Rat)
  | nv (k : Bool) (n : Nat) (r : Rat)
  | i (z : Int)
  | pr (n : Nat) (r : Rat)
  | ls (l : List PySem.Str)
  | any
def Sl.ok (C : Addr) (H : Hp) : Sl → Option V → Prop
  | .fr n r, o => ∃ a, o = some (.ref a) ∧ RQ C H a n r
  | .nv k n r, o => ∃ v, o = some v ∧ NV C H k v n r
  | .i z, o => o = some (.int z)
  | .pr n r, o => ∃ p, o = some (.ref p) ∧ PQ H p n r
  | .ls l, o => ∃ p, o = some (.ref p) ∧ H p = some (.lst (l.map V.str))
  | .any, _ => True
def Env (C : Addr) : List Sl → L2.St → Hp → Prop
  | [], _, _ => True
  | s :: L, o :: σ, H => s.ok C H o ∧ Env C L σ H
  | _ :: _, [], _ => False
theorem Sl.same {C : Addr} {H H' : Hp} {s : Sl} {o : Option V} (h : s.ok C H o) (S : Same H H') : s.ok C H' o := by
  cases s with
  | fr n q => obtain ⟨a, e, r⟩ := h; exact ⟨a, e, r.same S⟩
  | nv k n q => obtain ⟨v, e, r⟩ := h; exact ⟨v, e, r.same S⟩
  | i z => exact h
  | pr n q => obtain ⟨p, e, r, z⟩ := h; exact ⟨p, e, S _ _ r, z⟩
  | ls l => obtain ⟨p, e, r⟩ := h; exact ⟨p, e, S _ _ r⟩
  | any => trivial
theorem Env.gs {C : Addr} : ∀ {L : List Sl}, GS (Env C L)
  | [], _, _, _, _, _ => trivial
  | _ :: L, _ :: σ, H, H', h, S => ⟨Sl.same h.1 S, Env.gs σ H H' h.2 S⟩
  | _ :: _, [], _, _, h, _ => h
theorem Env.at {C : Addr} : ∀ {L : List Sl} {σ : L2.St} {H : Hp} {j : Nat} {s : Sl}, Env C L σ H → L[j]? = some s → ∃ o, σ[j]? = some o ∧ s.ok C H o
  | _ :: _, o :: _, _, 0, s, h, e => by cases e; exact ⟨o, rfl, h.1⟩
  | _ :: L, _ :: σ, H, j + 1, s, h, e => by
    obtain ⟨o, e1, e2⟩ := Env.at (L := L) (σ := σ) (H := H) (j := j) h.2 e
    exact ⟨o, e1, e2⟩
  | [], _, _, _, _, _, e => by cases e
  | _ :: _, [], _, _, _, h, _ => h.elim
section
variable {X : Cx} {C : Addr} {G : L2.St → Hp → Prop} {a b e : Expr} {k k1 k2 : Bool} {n m : Nat} {q r : Rat} {s s1 s2 : Prop} {pos p1 p2 : Pos} {i j : Int}
/-- slot j holds a fraction -/
theorem vq (L : List Sl) (j : Nat) (h : PE X e (tVar j)) (hL : L[j]? = some (.fr n q)) : PE X e (TQ C (Env C L) true n q True) :=
  pq_var h fun σ H g => by
    obtain ⟨o, e1, a, rfl, r⟩ := g.at hL
    exact ⟨_, e1, r.nv⟩
theorem vnv (L : List Sl) (j : Nat) (h : PE X e (tVar j)) (hL : L[j]? = some (.nv k n q)) : PE X e (TQ C (Env C L) k n q True) :=
  pq_var h fun σ H g => by
    obtain ⟨o, e1, v, rfl, r⟩ := g.at hL
    exact ⟨_, e1, r⟩
theorem vi (L : List Sl) (j : Nat) {z : Int} (h : PE X e (tVar j)) (hL : L[j]? = some (.i z)) : PE X e (TI (Env C L) z True) :=
  pI_var h fun σ H g => by
    obtain ⟨o, e1, e2⟩ := g.at hL
    rw [e1, show o = some (.int z) from e2]
theorem pI_mul (hG : GS G) (ha : PE X a (TI G i s1)) (hb : PE X b (TI G j s2)) : PE X (.BinOp a .Mult b pos) (TI G (i * j) (s1 ∧ s2 ∧ CMulW i j)) :=
  pe_weak (pe_op op_mulW ha hb) fun σ H Q ⟨hg, ⟨h1, h2, h3⟩, z⟩ => ⟨hg, h1, fun H1 S1 => ⟨hG _ _ _ hg S1, h2, fun H2 S2 => ⟨_, _, rfl, rfl, h3, z H2 (S1.trans S2)⟩⟩⟩
theorem pI_sub (hG : GS G) (ha : PE X a (TI G i s1)) (hb : PE X b (TI G j s2)) : PE X (.BinOp a .Sub b pos) (TI G (i - j) (s1 ∧ s2)) :=
  pe_weak (pe_op op_sub ha hb) fun σ H Q ⟨hg, ⟨h1, h2⟩, z⟩ => ⟨hg, h1, fun H1 S1 => ⟨hG _ _ _ hg S1, h2, fun H2 S2 => ⟨_, _, rfl, rfl, z H2 (S1.trans S2)⟩⟩⟩
theorem pI_fdiv (hG : GS G) (ha : PE X a (TI G i s1)) (hb : PE X b (TI G j s2)) : PE X (.BinOp a .FloorDiv b pos) (TI G (i.fdiv j) (s1 ∧ s2 ∧ CDivZ i j)) :=
  pe_weak (pe_op op_fdivZ ha hb) fun σ H Q ⟨hg, ⟨h1, h2, h3⟩, z⟩ => ⟨hg, h1, fun H1 S1 => ⟨hG _ _ _ hg S1, h2, fun H2 S2 => ⟨_, _, rfl, rfl, h3, z H2 (S1.trans S2)⟩⟩⟩
theorem pI_neg (ha : PE X a (TI G i s1)) : PE X (.UnaryOp .USub a pos) (TI G (-i) s1) :=
  pe_weak (pe_un un_neg ha) fun σ H Q ⟨hg, h1, z⟩ => ⟨hg, h1, fun H1 S1 => ⟨_, rfl, z H1 S1⟩⟩
/-- e._top, e._bottom, read within the class -/
theorem pI_ftop (T : Cls X.K C) (hN : NoAttr X.K C "_top") (ha : PE X a (TQ C G true n q s)) (hab : attributeBase a "_top" X.env (eval a X.env) = eval a X.env := by rfl) : PE X (.Attribute a "_top" pos) (TI G q.num s) :=
  pe_weak (pe_fld ha hab) fun σ H Q ⟨hg, h1, z⟩ => ⟨hg, h1, fun v H1 S1 nv => by
    obtain ⟨a, rfl, ⟨dx, e⟩, _⟩ := nv_true nv
    exact ⟨a, C, dx, _, _, rfl, e, T, hN, rf_top _ _, z H1 S1⟩⟩
theorem pI_fbot (T : Cls X.K C) (hN : NoAttr X.K C "_bottom") (ha : PE X a (TQ C G true n q s)) (hab : attributeBase a "_bottom" X.env (eval a X.env) = eval a X.env := by rfl) : PE X (.Attribute a "_bottom" pos) (TI G (q.den : Int) s) :=
  pe_weak (pe_fld ha hab) fun σ H Q ⟨hg, h1, z⟩ => ⟨hg, h1, fun v H1 S1 nv => by
    obtain ⟨a, rfl, ⟨dx, e⟩, _⟩ := nv_true nv
    exact ⟨a, C, dx, _, _, rfl, e, T, hN, rf_bot _ _, z H1 S1⟩⟩
theorem pI_abs {x : Str} (hg : Gl X x) (hm : X.mg x = none) (hv : bootBuiltins x = some (.builtin "abs")) (ha : PE X a (TI G i s)) (hn : x ≠ "__name__" := by decide) (hdb : (x == ("__debug__" : Str)) = false := by decide)
    (he : starEach (a :: []) X.env = (false, eval a X.env) :: starEach [] X.env := by rfl) (hpl : (backTo pos (starEach [] X.env)).any (·.1) = false := by rfl) : PE X (.Call (.Name x p1) [a] [] pos) (TI G (if i < 0 then -i else i) s) :=
  pe_weak (pe_callB call_abs hg hm hv (pa_cons ha pa_nil he) hn hdb he hpl) fun σ H Q ⟨hg, h1, z⟩ => ⟨hg, h1, fun H1 S1 => ⟨i, rfl, z H1 S1⟩⟩
/-- a call of an own def: of two fractions -/
theorem pq_call2 {l : Nat} {x : Str} {D : Addr} {fd : FuncData} {ps : List Str} {side : Rat → Rat → Prop} {f : Rat → Rat → Rat} {g : Nat → Nat → Nat} (F : FnOk X.prog X.w X.K X.mg X.base CX0 l D fd ps (sp2 C side f g)) (hr : Room l X.A) (hg : Gl X x) (hm : X.mg x = some (.ref D)) (hk : PySem.W.keepIn X.K (.ref D) = true) (hb : Binds X.K fd ps []) (hG : GS G)
    (ha : PE X a (TQ C G true n q s1)) (hb' : PE X b (TQ C G true m r s2)) (hdb : (x == ("__debug__" : Str)) = false := by decide)
    (he : starEach (a :: [b]) X.env = (false, eval a X.env) :: starEach [b] X.env := by rfl) (he2 : starEach (b :: []) X.env = (false, eval b X.env) :: starEach [] X.env := by rfl) (hpl : (backTo pos (starEach [b] X.env)).any (·.1) = false := by rfl) :
    PE X (.Call (.Name x p1) [a, b] [] pos) (TQ C G true (g n m) (f q r) (s1 ∧ s2 ∧ side q r ∧ g n m ≤ LIM)) :=
  pe_weak (pe_call (E := E0) F hr hg hm hk hb .nil pass0 (pa_cons ha (pa_cons hb' pa_nil he2) he) hdb he hpl) fun σ H Q ⟨hg, ⟨h1, h2, h3, h4⟩, z⟩ =>
    ⟨hg, h1, fun v H1 S1 nv => ⟨hG _ _ _ hg S1, h2, fun u H2 S2 nu => by
      obtain ⟨a, rfl, y⟩ := nv_true nv
      obtain ⟨b, rfl, y'⟩ := nv_true nu
      exact ⟨a, b, n, m, q, r, rfl, y.same S2, y', h3, h4, fun p H3 S3 rq => z _ H3 ((S1.trans S2).trans S3) rq.nv⟩⟩⟩
/-- .. of one -/
theorem pq_call1 {l : Nat} {x : Str} {D : Addr} {fd : FuncData} {ps : List Str} {sd : Rat → Prop} {f : Rat → Rat} (F : FnOk X.prog X.w X.K X.mg X.base CX0 l D fd ps (sp1 C sd f)) (hr : Room l X.A) (hg : Gl X x) (hm : X.mg x = some (.ref D)) (hk : PySem.W.keepIn X.K (.ref D) = true) (hb : Binds X.K fd ps [])
    (ha : PE X a (TQ C G true n q s1)) (hdb : (x == ("__debug__" : Str)) = false := by decide)
    (he : starEach (a :: []) X.env = (false, eval a X.env) :: starEach [] X.env := by rfl) (hpl : (backTo pos (starEach [] X.env)).any (·.1) = false := by rfl) :
    PE X (.Call (.Name x p1) [a] [] pos) (TQ C G true n (f q) (s1 ∧ sd q ∧ n ≤ LIM)) :=
  pe_weak (pe_call (E := E0) F hr hg hm hk hb .nil pass0 (pa_cons ha pa_nil he) hdb he hpl) fun σ H Q ⟨hg, ⟨h1, h2, h3⟩, z⟩ =>
    ⟨hg, h1, fun v H1 S1 nv => by
      obtain ⟨a, rfl, y⟩ := nv_true nv
      exact ⟨a, n, q, rfl, y, h2, h3, fun p H3 S3 rq => z _ H3 (S1.trans S3) rq.nv⟩⟩
/-- _as_ratio(e) -/
theorem pq_callA {l : Nat} {x : Str} {D : Addr} {fd : FuncData} {ps : List Str} (F : FnOk X.prog X.w X.K X.mg X.base CX0 l D fd ps (spAs C)) (hr : Room l X.A) (hg : Gl X x) (hm : X.mg x = some (.ref D)) (hk : PySem.W.keepIn X.K (.ref D) = true) (hb : Binds X.K fd ps [])
    (ha : PE X a (TQ C G k n q s1)) (hdb : (x == ("__debug__" : Str)) = false := by decide)
    (he : starEach (a :: []) X.env = (false, eval a X.env) :: starEach [] X.env := by rfl) (hpl : (backTo pos (starEach [] X.env)).any (·.1) = false := by rfl) :
    PE X (.Call (.Name x p1) [a] [] pos) (TQ C G true n q (s1 ∧ n ≤ LIM)) :=
  pe_weak (pe_call (E := E0) F hr hg hm hk hb .nil pass0 (pa_cons ha pa_nil he) hdb he hpl) fun σ H Q ⟨hg, ⟨h1, h2⟩, z⟩ =>
    ⟨hg, h1, fun v H1 S1 nv => ⟨v, k, n, q, rfl, nv, h2, fun p H3 S3 rq => z _ H3 (S1.trans S3) rq.nv⟩⟩
/-- is_number(e), e a number -/
theorem pb_num {l : Nat} {x : Str} {D : Addr} {fd : FuncData} {ps : List Str} (F : FnOk X.prog X.w X.K X.mg X.base CX0 l D fd ps (spIsN C)) (hr : Room l X.A) (hg : Gl X x) (hm : X.mg x = some (.ref D)) (hk : PySem.W.keepIn X.K (.ref D) = true) (hb : Binds X.K fd ps [])
    (ha : PE X a (TQ C G k n q s1)) (hdb : (x == ("__debug__" : Str)) = false := by decide)
    (he : starEach (a :: []) X.env = (false, eval a X.env) :: starEach [] X.env := by rfl) (hpl : (backTo pos (starEach [] X.env)).any (·.1) = false := by rfl) :
    PE X (.Call (.Name x p1) [a] [] pos) (TB G true s1) :=
  pe_weak (pe_call (E := E0) F hr hg hm hk hb .nil pass0 (pa_cons ha pa_nil he) hdb he hpl) fun σ H Q ⟨hg, h1, z⟩ =>
    ⟨hg, h1, fun v H1 S1 nv => ⟨v, rfl, by
      cases k with
      | true => obtain ⟨a, rfl, y⟩ := nv_true nv; exact .inr ⟨y.ins, z H1 S1⟩
      | false => obtain ⟨i, rfl, _⟩ := nv; exact .inl ⟨_, .int i, z H1 S1⟩⟩⟩
/-- return e -/
theorem qs_ret {C : Addr} {n : Nat} {q : Rat} {σ : L2.St} {H : Hp} {D : Ends} (hg : G σ H) (hs : s) (z : ∀ p H', Same H H' → RQ C H' p n q → D.rt (.ref p) H') : tRet (TQ C G true n q s) D σ H :=
  ⟨hg, hs, fun v H' S nv => by obtain ⟨a, rfl, y⟩ := nv_true nv; exact z a H' S y⟩
end
end SQ
namespace SQ
open PySem PySem.Spec PyProof.Rows L2 SF
section
variable {X : Cx} {C : Addr} {G : L2.St → Hp → Prop} {a b e : Expr} {k k1 k2 : Bool} {n m : Nat} {q r : Rat} {s s1 s2 : Prop} {pos p1 p2 : Pos} {i j : Int}
/-- Ratio(e): the bottom is 1 -/
theorem pq_make1 {l : Nat} {x : Str} {p : Addr} {fd : FuncData} {ds : List Value} (M : Mk X.K C p) (F : FnOk X.prog X.w X.K X.mg X.base CX0 l p fd ["self", "top", "bottom"] (spInit C)) (hb : Binds X.K fd ["self", "top", "bottom"] ds) (hd : Vals [V.int 1] ds) (hr : Room (l + 1) X.A) (hg : Gl X x) (hm : X.mg x = some (.ref C))
    (ha : PE X a (TI G i s1)) (hi : i.natAbs < 2 ^ n) (h0 : 0 < n) (hdb : (x == ("__debug__" : Str)) = false := by decide)
    (he : starEach (a :: []) X.env = (false, eval a X.env) :: starEach [] X.env := by rfl) (hpl : (backTo pos (starEach [] X.env)).any (·.1) = false := by rfl) :
    PE X (.Call (.Name x p1) [a] [] pos) (TQ C G true n (i : Rat) (s1 ∧ n ≤ LIM)) :=
  pe_weak (pe_make (E := E0) M F hr hg hm hb hd pass0 (pa_cons ha pa_nil he) hdb he hpl) fun σ H Q ⟨hg, ⟨h1, h4⟩, z⟩ =>
    ⟨hg, h1, fun H1 S1 x dx hx hd hn => mk_fin hx hd hn (by decide) hi (Nat.one_lt_two_pow (by omega)) h4 fun H3 S3 rq => ⟨rfl, z _ H3 (S1.trans S3) (by rw [int_is] at rq; exact rq.nv)⟩⟩
end
theorem inv_pow (q : Rat) : ∀ n : Nat, (q⁻¹) ^ n = (q ^ n)⁻¹
  | 0 => by rw [Rat.pow_zero, Rat.pow_zero]; exact (Rat.inv_eq_of_mul_eq_one (by simp)).symm
  | n + 1 => by rw [Rat.pow_succ, Rat.pow_succ, inv_pow q n, Rat.inv_mul_rev, Rat.mul_comm]
theorem zpow_pos_is (q : Rat) {e : Int} (h : 0 ≤ e) : q ^ e.natAbs = q ^ e := by
  obtain ⟨n, rfl⟩ := Int.eq_ofNat_of_zero_le h
  exact (Rat.zpow_natCast q n).symm
theorem zpow_neg_is (q : Rat) {e : Int} (h : e < 0) : (q⁻¹) ^ e.natAbs = q ^ e := by
  obtain ⟨n, hn⟩ := Int.eq_ofNat_of_zero_le (show 0 ≤ -e by omega)
  have e1 : e = -(n : Int) := by omega
  rw [e1, Rat.zpow_neg, Int.natAbs_neg, inv_pow]
  rfl
end SQ

/-! The texts of numbers and fractions. -/
namespace SQ
open PySem PySem.Spec PyProof.Rows L2 SF TL
theorem tx_nat (n : Nat) : tl (tx (n : Int)) = numL n := tl_num n
theorem tx_neg (n : Nat) : tl (tx (-((n + 1 : Nat) : Int))) = 45 :: numL (n + 1) := by
  have e : (-((n + 1 : Nat) : Int)) = Int.negSucc n := rfl
  have e2 : toString (Int.negSucc n) = "-" ++ toString (n + 1) := rfl
  rw [e]
  show tl (Str.ofString (toString (Int.negSucc n))) = _
  rw [e2, tl_ofString]
  have e3 : ("-" ++ toString (n + 1)).toList = '-' :: (toString (n + 1)).toList := by simp
  rw [e3, List.map_cons]
  have e4 := tl_num (n + 1)
  rw [tl_ofString] at e4
  have e5 : (toString ((n + 1 : Nat) : Int)) = toString (n + 1) := rfl
  rw [e5] at e4
  rw [e4]
  rfl
theorem numL_head {n : Nat} (h : 0 < n) : ∃ c l, numL n = c :: l ∧ c ≠ 48 ∧ 48 ≤ c ∧ c ≤ 57 := by
  induction n using Nat.strongRecOn with
  | _ n ih =>
    by_cases h1 : n < 10
    · exact ⟨_, _, numL_lt h1, by omega, by omega, by omega⟩
    · obtain ⟨c, l, e, h2, h3⟩ := ih (n / 10) (by omega) (by omega)
      rw [numL_step (by omega), e]
      exact ⟨c, _, rfl, h2, h3⟩
theorem tx_cases (i : Int) : (∃ n : Nat, i = n ∧ tl (tx i) = numL n) ∨ (∃ n : Nat, 0 < n ∧ i = -(n : Int) ∧ tl (tx i) = 45 :: numL n) := by
  by_cases h : i < 0
  · obtain ⟨n, hn⟩ := Int.eq_ofNat_of_zero_le (show 0 ≤ -i - 1 by omega)
    refine .inr ⟨n + 1, by omega, by omega, ?_⟩
    have : i = -((n + 1 : Nat) : Int) := by omega
    rw [this]
    exact tx_neg n
  · obtain ⟨n, rfl⟩ := Int.eq_ofNat_of_zero_le (show 0 ≤ i by omega)
    exact .inl ⟨n, rfl, tx_nat n⟩
theorem tx_free {i : Int} {s : Nat} (h : s < 45 ∨ 57 < s ∨ s = 46 ∨ s = 47) : s ∉ tl (tx i) := by
  rcases tx_cases i with ⟨n, _, e⟩ | ⟨n, _, _, e⟩
  · rw [e]; exact numL_free (by omega)
  · rw [e]
    intro z
    rcases List.mem_cons.mp z with z | z
    · omega
    · exact numL_free (by omega) z
theorem tx_inj {i j : Int} (h : tx i = tx j) : i = j := by
  have h : tl (tx i) = tl (tx j) := by rw [h]
  have no : ∀ {n m : Nat}, numL n = 45 :: numL m → False := fun {n m} e => by
    have : (45 : Nat) ∈ numL n := by rw [e]; exact List.mem_cons_self
    exact numL_free (by omega) this
  rcases tx_cases i with ⟨n, rfl, e⟩ | ⟨n, _, rfl, e⟩ <;> rcases tx_cases j with ⟨m, rfl, f⟩ | ⟨m, _, rfl, f⟩ <;> rw [e, f] at h
  · rw [numL_inj h]
  · exact (no h).elim
  · exact (no h.symm).elim
  · injection h with _ h
    rw [numL_inj h]
theorem int_tx {i : Int} (h : (tx i).length ≤ 4300) : intText? (tx i) = some i := by
  rcases tx_cases i with ⟨n, rfl, e⟩ | ⟨n, _, rfl, e⟩
  · have l : (numL n).length ≤ 4300 := by rw [← e, ← len_tl]; exact h
    exact int_num l
  · have := intText_neg (x := tx (-(n : Int))) e (numL_digits n) (numL_ne n) h
    rw [this, numL_val]
/-- two pieces around a sign that stands in neither first piece -/
theorem split_inj {c : Nat} : ∀ {u u' v v' : List Nat}, c ∉ u → c ∉ u' → u ++ c :: v = u' ++ c :: v' → u = u' ∧ v = v'
  | [], [], _, _, _, _, h => ⟨rfl, by simpa using h⟩
  | [], x :: u', v, v', _, h2, h => by
    simp only [List.nil_append, List.cons_append, List.cons.injEq] at h
    exact absurd (by rw [h.1]; exact List.mem_cons_self) h2
  | x :: u, [], v, v', h1, _, h => by
    simp only [List.nil_append, List.cons_append, List.cons.injEq] at h
    exact absurd (by rw [h.1]; exact List.mem_cons_self) h1
  | x :: u, y :: u', v, v', h1, h2, h => by
    simp only [List.cons_append, List.cons.injEq] at h
    obtain ⟨a, b⟩ := split_inj (c := c) (u := u) (u' := u') (fun z => h1 (List.mem_cons_of_mem _ z)) (fun z => h2 (List.mem_cons_of_mem _ z)) h.2
    exact ⟨by rw [h.1, a], b⟩
theorem tl_empty : tl Str.empty = [] := rfl
theorem rrepr_tl (q : Rat) : tl (rrepr q) = tl ("Ratio(" : Str) ++ (tl (tx q.num) ++ 44 :: (32 :: (tl (tx q.den) ++ [41]))) := by
  unfold rrepr
  simp only [tl_append, tl_empty]
  have e1 : tl (", " : Str) = [44, 32] := rfl
  have e2 : tl (")" : Str) = [41] := rfl
  rw [e1, e2]
  simp [List.append_assoc]
theorem rrepr_inj {q r : Rat} : decide (rrepr q = rrepr r) = decide (q = r) := by
  by_cases h : q = r
  · rw [h]; simp
  · rw [decide_eq_false h]
    refine decide_eq_false fun z => h ?_
    have e : tl (rrepr q) = tl (rrepr r) := by rw [z]
    rw [rrepr_tl, rrepr_tl] at e
    have e := List.append_cancel_left e
    obtain ⟨a, b⟩ := split_inj (tx_free (by omega)) (tx_free (by omega)) e
    simp only [List.cons.injEq, true_and] at b
    obtain ⟨b, _⟩ := split_inj (tx_free (by omega)) (tx_free (by omega)) b
    have e1 := tx_inj (ext_tl a)
    have e2 := tx_inj (ext_tl b)
    exact Rat.ext e1 (by omega)
theorem rstr_tl (q : Rat) : tl (rstr q) = if q.den = 1 then tl (tx q.num) else tl (tx q.num) ++ 47 :: tl (tx q.den) := by
  unfold rstr
  split
  · rfl
  · simp only [tl_append, tl_empty]
    have e1 : tl ("/" : Str) = [47] := rfl
    rw [e1]
    simp [List.append_assoc]
theorem rstr_inj {q r : Rat} : decide (rstr q = rstr r) = decide (q = r) := by
  by_cases h : q = r
  · rw [h]; simp
  · rw [decide_eq_false h]
    refine decide_eq_false fun z => h ?_
    have e : tl (rstr q) = tl (rstr r) := by rw [z]
    rw [rstr_tl, rstr_tl] at e
    have no : ∀ {i j k : Int}, tl (tx i) = tl (tx j) ++ 47 :: tl (tx k) → False := fun {i j k} e => by
      have : (47 : Nat) ∈ tl (tx i) := by rw [e]; simp
      exact tx_free (by omega) this
    split at e <;> split at e
    · exact Rat.ext (tx_inj (ext_tl e)) (by omega)
    · exact (no e).elim
    · exact (no e.symm).elim
    · obtain ⟨a, b⟩ := split_inj (tx_free (by omega)) (tx_free (by omega)) e
      have e1 := tx_inj (ext_tl a)
      have e2 := tx_inj (ext_tl b)
      exact Rat.ext e1 (by omega)

/-! ### what the program takes for a text of a fraction -/
def posT (x : Str) : Bool := Txt.isascii x && (Txt.isdigit x && !decide ((tl x).head? = some 48))
def iv (x : Str) : Int := (intText? x).getD 0
def isTx (x : Str) : Bool :=
  (decide ((Txt.partition x "/").1 = ("0" : Str)) || posT (Txt.removeprefix (Txt.partition x "/").1 "-")) &&
  (decide ((Txt.partition x "/").2.1 = ("" : Str)) || (posT (Txt.partition x "/").2.2 && (!decide ((Txt.partition x "/").2.2 = ("1" : Str)) && decide (gI (iv (Txt.partition x "/").1) (iv (Txt.partition x "/").2.2) = 1))))
theorem dig_uni : ∀ c : Nat, 48 ≤ c → c ≤ 57 → Unicode.isDigit c = true := by
  intro c h1 h2
  have : ∀ d : Fin 10, Unicode.isDigit (48 + d.val) = true := by decide +kernel
  have e := this ⟨c - 48, by omega⟩
  have e2 : 48 + (c - 48) = c := by omega
  simpa [e2] using e
theorem posT_num {n : Nat} (h : 0 < n) {x : Str} (hx : tl x = numL n) : posT x = true := by
  obtain ⟨c, l, e, h1, _⟩ := numL_head h
  have hd := numL_digits n
  unfold posT Txt.isascii Txt.isdigit
  have all : ∀ {p : Nat → Bool}, (∀ c, 48 ≤ c → c ≤ 57 → p c = true) → x.cps.all p = true := fun {p} hp => by
    rw [← Array.all_toList]
    show (tl x).all p = true
    rw [hx, List.all_eq_true]
    intro c hc
    have := hd c hc
    exact hp c (by omega) (by omega)
  rw [all (fun c _ _ => by simp; omega), all (fun c a b => dig_uni c a b), len_tl, hx, e]
  simp [h1]
theorem subAt0 (x : Str) : Builtin.Str.subAt x "-" 0 = decide ((tl x).head? = some 45) := by
  have e : Builtin.Str.subAt x "-" 0 = (x.cps.extract 0 1 == #[45]) := rfl
  rw [e, Bool.eq_iff_iff]
  constructor
  · intro h
    have h1 := congrArg Array.toList (eq_of_beq h)
    rw [Array.toList_extract] at h1
    have h2 : (tl x).take 1 = [45] := by simpa [List.extract] using h1
    cases hx : tl x with
    | nil => rw [hx] at h2; cases h2
    | cons c l => rw [hx] at h2; simp at h2; simp [h2]
  · intro h
    have h := of_decide_eq_true h
    have h1 : x.cps.extract 0 1 = #[45] := by
      apply Array.toList_inj.mp
      rw [Array.toList_extract]
      show List.extract (tl x) 0 1 = [45]
      cases hx : tl x with
      | nil => rw [hx] at h; cases h
      | cons c l => rw [hx] at h; simp at h; simp [List.extract, h]
    rw [h1]
    rfl
theorem rp_neg {x : Str} {l : List Nat} (h : tl x = 45 :: l) : tl (Txt.removeprefix x "-") = l := by
  have hl : x.length = l.length + 1 := by rw [len_tl, h]; rfl
  have s1 : ("-" : Str).length = 1 := rfl
  rw [StrLaws.removeprefix_eq, subAt0, h, s1, hl]
  rw [if_pos (by simp)]
  show ((x.cps.toList.drop 1).take (l.length + 1 - 1)) = l
  rw [show x.cps.toList = 45 :: l from h]
  simp
theorem rp_same {x : Str} (h : (tl x).head? ≠ some 45) : Txt.removeprefix x "-" = x := by
  rw [StrLaws.removeprefix_eq, subAt0, decide_eq_false h, Bool.and_false, if_neg (by simp)]
theorem rp_tx {i : Int} (h : i ≠ 0) : posT (Txt.removeprefix (tx i) "-") = true := by
  rcases tx_cases i with ⟨n, rfl, e⟩ | ⟨n, hn, rfl, e⟩
  · obtain ⟨c, l, e2, _, h1, h2⟩ := numL_head (n := n) (by omega)
    rw [rp_same (by rw [e, e2]; simp; omega)]
    exact posT_num (by omega) e
  · exact posT_num hn (rp_neg e)
theorem tx_zero : tx 0 = ("0" : Str) := rfl
theorem tx_one : tx 1 = ("1" : Str) := rfl
theorem part1 (i : Int) : Txt.partition (tx i) "/" = (tx i, Str.empty, Str.empty) := partition_none (y := "/") (s := 47) (S := []) rfl (tx_free (by omega))
theorem part2 (i j : Int) : Txt.partition (((Str.empty ++ tx i) ++ ("/" : Str)) ++ tx j) "/" = (tx i, ("/" : Str), tx j) := by
  have e : Str.empty ++ tx i = tx i := ext_tl (by rw [tl_append]; rfl)
  rw [e]
  exact partition_app (y := "/") (s := 47) (S := []) rfl (tx_free (by omega))
theorem cop_gI (q : Rat) : gI q.num q.den = 1 := by
  unfold gI
  have := q.reduced
  unfold Nat.Coprime at this
  rw [show ((q.den : Int)).natAbs = q.den from rfl, this]
  rfl
theorem a_ok (i : Int) : (decide (tx i = ("0" : Str)) || posT (Txt.removeprefix (tx i) "-")) = true := by
  by_cases h : i = 0
  · subst h; rw [tx_zero]; simp
  · rw [rp_tx h, Bool.or_true]
theorem isTx_rstr (q : Rat) (h1 : (tx q.num).length ≤ 4300) (h2 : (tx q.den).length ≤ 4300) : isTx (rstr q) = true := by
  unfold rstr
  by_cases h : q.den = 1
  · rw [if_pos h]
    unfold isTx
    rw [part1]
    dsimp only
    rw [a_ok]
    have e : decide (Str.empty = ("" : Str)) = true := rfl
    rw [e]
    rfl
  · rw [if_neg h]
    unfold isTx
    rw [part2]
    dsimp only
    have hd : 0 < q.den := Nat.pos_of_ne_zero q.den_nz
    have e1 : posT (tx (q.den : Int)) = true := posT_num hd (tx_nat q.den)
    have e2 : decide (tx (q.den : Int) = ("1" : Str)) = false := decide_eq_false fun z => h (by have := tx_inj (i := q.den) (j := 1) (z.trans tx_one.symm); omega)
    have e3 : iv (tx q.num) = q.num := by unfold iv; rw [int_tx h1]; rfl
    have e4 : iv (tx (q.den : Int)) = q.den := by unfold iv; rw [int_tx h2]; rfl
    rw [a_ok, e1, e2, e3, e4, cop_gI]
    simp

theorem dig_ascii : ∀ c : Nat, c < 128 → Unicode.isDigit c = true → 48 ≤ c ∧ c ≤ 57 := by
  intro c h1 h2
  have : ∀ d : Fin 128, Unicode.isDigit d.val = true → 48 ≤ d.val ∧ d.val ≤ 57 := by decide +kernel
  exact this ⟨c, h1⟩ h2
theorem posT_digits {x : Str} (h : posT x = true) : NumText.AllDigits (tl x) ∧ tl x ≠ [] := by
  unfold posT at h
  obtain ⟨h1, h⟩ := Bool.and_eq_true_iff.mp h
  obtain ⟨h2, _⟩ := Bool.and_eq_true_iff.mp h
  unfold Txt.isascii at h1
  unfold Txt.isdigit at h2
  obtain ⟨h3, h2⟩ := Bool.and_eq_true_iff.mp h2
  rw [← Array.all_toList] at h1 h2
  refine ⟨fun c hc => ?_, fun e => ?_⟩
  · have a := List.all_eq_true.mp h1 c hc
    have b := List.all_eq_true.mp h2 c hc
    have := dig_ascii c (by simpa using a) b
    exact this
  · have := of_decide_eq_true h3
    rw [len_tl, e] at this
    exact absurd this (by simp)
theorem int_digits {x : Str} (h : NumText.AllDigits (tl x)) (h1 : tl x ≠ []) (h2 : x.length ≤ 4300) : intText? x = some ((NumText.digitsVal (tl x) : Nat) : Int) := intText_digits h h1 h2
theorem iv_pos {x : Str} (h : posT x = true) (hl : x.length ≤ 4300) : intText? x = some (iv x) := by
  obtain ⟨a, b⟩ := posT_digits h
  unfold iv
  rw [int_digits a b hl]
  rfl
theorem iv_top {x : Str} (h : (decide (x = ("0" : Str)) || posT (Txt.removeprefix x "-")) = true) (hl : x.length ≤ 4300) : intText? x = some (iv x) := by
  rcases Bool.or_eq_true_iff.mp h with h | h
  · rw [of_decide_eq_true h]
    have : intText? ("0" : Str) = some 0 := by have := int_tx (i := 0) (by rw [tx_zero]; decide); rwa [tx_zero] at this
    unfold iv
    rw [this]
    rfl
  · obtain ⟨a, b⟩ := posT_digits h
    by_cases hx : (tl x).head? = some 45
    · cases e : tl x with
      | nil => rw [e] at hx; cases hx
      | cons c l =>
        rw [e] at hx
        simp at hx
        subst hx
        rw [rp_neg e] at a b
        unfold iv
        rw [intText_neg e a b hl]
        rfl
    · rw [rp_same hx] at a b
      unfold iv
      rw [int_digits a b hl]
      rfl
theorem split_at (c : Nat) : ∀ l : List Nat, c ∉ l ∨ ∃ a b, l = a ++ c :: b ∧ c ∉ a
  | [] => .inl (by simp)
  | x :: l => by
    by_cases h : x = c
    · subst h; exact .inr ⟨[], l, rfl, by simp⟩
    · rcases split_at c l with h1 | ⟨a, b, e, h1⟩
      · exact .inl (by simp [h1]; exact fun z => h z.symm)
      · exact .inr ⟨x :: a, b, by rw [e]; rfl, by simp [h1]; exact fun z => h z.symm⟩
theorem part_len (x : Str) : (Txt.partition x "/").1.length ≤ x.length ∧ (Txt.partition x "/").2.2.length ≤ x.length := by
  rcases split_at 47 (tl x) with h | ⟨a, b, e, h⟩
  · rw [partition_none (y := "/") (s := 47) (S := []) rfl h]
    exact ⟨Nat.le_refl _, Nat.zero_le _⟩
  · have e2 : x = ((⟨a.toArray⟩ : Str) ++ ("/" : Str)) ++ (⟨b.toArray⟩ : Str) := ext_tl (by
      rw [tl_append, tl_append]
      refine e.trans ?_
      have : tl ("/" : Str) = [47] := rfl
      rw [this]
      show _ = a ++ [47] ++ b
      simp)
    rw [e2, partition_app (y := "/") (s := 47) (S := []) rfl h]
    simp only [Str.length_append]
    omega
/-- a value of so many digits -/
theorem val_lt : ∀ (l : List Nat) (a : Nat), NumText.AllDigits l → l.foldl (fun acc c => acc * 10 + (c - 48)) a < (a + 1) * 10 ^ l.length
  | [], a, _ => by simp
  | c :: l, a, h => by
    have hc := h.head
    rw [List.foldl_cons, List.length_cons]
    refine Nat.lt_of_lt_of_le (val_lt l _ h.tail) ?_
    rw [Nat.pow_succ, ← Nat.mul_assoc, Nat.mul_right_comm]
    exact Nat.mul_le_mul_right _ (by omega)
theorem digits_lt {l : List Nat} (h : NumText.AllDigits l) : NumText.digitsVal l < 10 ^ l.length := by
  have := val_lt l 0 h
  rw [Nat.zero_add, Nat.one_mul] at this
  exact this
def RDN : Nat := 2200
theorem ten_lt {k : Nat} (h : k ≤ 640) : 10 ^ k < 2 ^ RDN := by
  refine Nat.lt_of_le_of_lt (Nat.pow_le_pow_right (by decide) h) ?_
  decide +kernel
theorem iv_lt {x : Str} (h : (decide (x = ("0" : Str)) || posT (Txt.removeprefix x "-")) = true) (hl : x.length ≤ 640) : (iv x).natAbs < 2 ^ RDN := by
  have hi := iv_top h (Nat.le_trans hl (by decide))
  rcases Bool.or_eq_true_iff.mp h with h | h
  · have : iv x = 0 := by
      rw [of_decide_eq_true h]
      have : intText? ("0" : Str) = some 0 := by have := int_tx (i := 0) (by rw [tx_zero]; decide); rwa [tx_zero] at this
      unfold iv
      rw [this]
      rfl
    rw [this]
    exact Nat.two_pow_pos _
  · obtain ⟨a, b⟩ := posT_digits h
    by_cases hx : (tl x).head? = some 45
    · cases e : tl x with
      | nil => rw [e] at hx; cases hx
      | cons c l =>
        rw [e] at hx
        simp at hx
        subst hx
        rw [rp_neg e] at a b
        have hv := intText_neg e a b (Nat.le_trans hl (by decide))
        rw [hi] at hv
        rw [Option.some.inj hv, Int.natAbs_neg]
        have len : l.length ≤ 640 := by rw [len_tl, e] at hl; simp at hl; omega
        exact Nat.lt_of_lt_of_le (digits_lt a) (Nat.le_of_lt (ten_lt len))
    · rw [rp_same hx] at a b
      have hv := int_digits a b (Nat.le_trans hl (by decide))
      rw [hi] at hv
      rw [Option.some.inj hv]
      rw [len_tl] at hl
      exact Nat.lt_of_lt_of_le (digits_lt a) (Nat.le_of_lt (ten_lt hl))
theorem ivp_lt {x : Str} (h : posT x = true) (hl : x.length ≤ 640) : (iv x).natAbs < 2 ^ RDN := by
  have hi := iv_pos h (Nat.le_trans hl (by decide))
  obtain ⟨a, b⟩ := posT_digits h
  have hv := int_digits a b (Nat.le_trans hl (by decide))
  rw [hi] at hv
  rw [Option.some.inj hv]
  rw [len_tl] at hl
  exact Nat.lt_of_lt_of_le (digits_lt a) (Nat.le_of_lt (ten_lt hl))
theorem ivp_ne {x : Str} (h : posT x = true) (hl : x.length ≤ 640) : iv x ≠ 0 := by
  have hi := iv_pos h (Nat.le_trans hl (by decide))
  obtain ⟨a, b⟩ := posT_digits h
  have hv := int_digits a b (Nat.le_trans hl (by decide))
  rw [hi] at hv
  rw [Option.some.inj hv]
  unfold posT at h
  obtain ⟨_, h⟩ := Bool.and_eq_true_iff.mp h
  obtain ⟨_, h⟩ := Bool.and_eq_true_iff.mp h
  cases e : tl x with
  | nil => exact absurd e b
  | cons c l =>
    rw [e] at h a
    have hc := a c List.mem_cons_self
    have hn : c ≠ 48 := fun z => by subst z; simp at h
    have := NumText.digitsVal_pos (c := c) (cs := l) (by omega)
    omega
/-- the fraction that a text tells -/
def rdq (x : Str) : Rat := if (Txt.partition x "/").2.1 = ("" : Str) then (iv (Txt.partition x "/").1 : Rat) else Rat.divInt (iv (Txt.partition x "/").1) (iv (Txt.partition x "/").2.2)
theorem rdq_rstr (q : Rat) (h1 : (tx q.num).length ≤ 4300) (h2 : (tx q.den).length ≤ 4300) : rdq (rstr q) = q := by
  have e3 : iv (tx q.num) = q.num := by unfold iv; rw [int_tx h1]; rfl
  have e4 : iv (tx (q.den : Int)) = q.den := by unfold iv; rw [int_tx h2]; rfl
  unfold rstr
  by_cases h : q.den = 1
  · rw [if_pos h]
    unfold rdq
    rw [part1]
    dsimp only
    rw [if_pos (show Str.empty = ("" : Str) from rfl), e3]
    exact Rat.ext rfl (by show 1 = q.den; omega)
  · rw [if_neg h]
    unfold rdq
    rw [part2]
    dsimp only
    rw [if_neg (by decide), e3, e4, Rat.num_divInt_den]
def spIsP : Sp := fun vs H Q _ => ∃ x : Str, vs = [.str x] ∧ x.length ≤ 640 ∧ Q (.bl (posT x)) H
def spIsT : Sp := fun vs H Q _ => ∃ x : Str, vs = [.str x] ∧ x.length ≤ 640 ∧ ∀ H', Same H H' → Q (.bl (isTx x)) H'
def spRd (C : Addr) : Sp := fun vs H Q _ => ∃ x : Str, vs = [.ref C, .str x] ∧ x.length ≤ 640 ∧ isTx x = true ∧ ∀ p H', Same H H' → RQ C H' p RDN (rdq x) → Q (.ref p) H'
/-- c(..), c a local name that holds the class -/
def tMakeL (i : Nat) (C : Addr) (sp : Sp) (dvs : List V) (E : XK) (t : TA) : TE := fun σ H Q => σ[i]? = some (some (.ref C)) ∧ tMake C sp dvs E t σ H Q
section
variable {X : Cx} {CX : CXT} {k i : Nat} {C f : Addr} {fd : FuncData} {ps : List Str} {sp : Sp} {dvs : List V} {ds : List Value} {E : XK} {x : Str} {p pos : Pos} {e : Expr} {es : List Expr} {t : TA}
theorem pe_makeL (M : Mk X.K C f) (F : FnOk X.prog X.w X.K X.mg X.base CX k f fd ps sp) (hr : Room (k + 1) X.A) (hN : X.N[i]? = some x) (hv : Vis X.env.scope x) (hb : Binds X.K fd ps ds) (hd : Vals dvs ds) (hx : Passes CX X E) (ha : PA X (e :: es) t)
    (hdb : (x == ("__debug__" : Str)) = false := by decide) (hcd : (x == ("__classdict__" : Str)) = false := by decide)
    (he : starEach (e :: es) X.env = (false, eval e X.env) :: starEach es X.env := by rfl) (hpl : (backTo pos (starEach es X.env)).any (·.1) = false := by rfl) : PE X (.Call (.Name x p) (e :: es) [] pos) (tMakeL i C sp dvs E t) := by
  refine ⟨fun pins s σ H Q I h => ?_⟩
  obtain ⟨hs, ht⟩ := h
  refine wpAny_Call_Name_kw (thn ((pe_var (pos := p) hN hv hdb hcd).run pins s σ H (fun v H1 => v = .ref C ∧ H1 = H) I ⟨.ref C, hs, rfl, rfl⟩) fun u s1 ⟨v, H1, I1, r1, q1⟩ => ?_)
  obtain ⟨rfl, rfl⟩ := q1
  cases r1
  refine PySem.W.callWith_K (h₀ := X.base) I.ok.mod.kin M.kp (thn (ha.run pos pins s1 σ _ _ I1 ht) fun us s2 ⟨vs, H2, I2, r, q⟩ => ⟨I2.kIn, ?_⟩) he hpl
  exact run_make M F hr hb hd hx I2 r q
end
end SQ

/-! Comparisons as tests. Rational numbers: what the laws ask. -/
namespace SQ
open PySem PySem.Spec PyProof.Rows L2 SF
section
variable {X : Cx} {C : Addr} {G : L2.St → Hp → Prop} {a b e : Expr} {k k1 k2 : Bool} {n m : Nat} {q r : Rat} {s s1 s2 : Prop} {pos p1 p2 : Pos}
theorem pq_cmpT {op : CmpOp} {f : Rat → Rat → Bool} (ho : OpR X (compareOp op) (rQe C k2 f)) (hG : GS G) (hm : behindInMarks op b = false) (ha : PE X a (TQ C G true n q s1)) (hb : PE X b (TQ C G k2 m r s2)) :
    PT X (.Compare a [op] [b] pos) (TBt G (f q r) (s1 ∧ s2)) :=
  pt_weak (pt_cmpR ho ha hb hm) fun σ H Q ⟨hg, ⟨h1, h2⟩, z⟩ =>
    ⟨hg, h1, fun v H1 S1 nv => ⟨hG _ _ _ hg S1, h2, fun u H2 S2 nu => ⟨n, m, q, r, nv.same S2, nu, ⟨_, rfl, z H2 (S1.trans S2)⟩⟩⟩⟩
theorem pb_eqT {b1 b2 : Bool} (hG : GS G) (hm : behindInMarks .Eq b = false) (ha : PE X a (TB G b1 s1)) (hb : PE X b (TB G b2 s2)) : PT X (.Compare a [.Eq] [b] pos) (TBt G (decide (b1 = b2)) (s1 ∧ s2)) :=
  pt_weak (pt_cmpR op_eq ha hb hm) fun σ H Q ⟨hg, ⟨h1, h2⟩, z⟩ => ⟨hg, h1, fun H1 S1 => ⟨hG _ _ _ hg S1, h2, fun H2 S2 => ⟨rfl, by
    rw [show decide (V.bl b1 = V.bl b2) = decide (b1 = b2) by cases b1 <;> cases b2 <;> rfl]; exact ⟨_, rfl, z H2 (S1.trans S2)⟩⟩⟩⟩
theorem pb_neT {b1 b2 : Bool} (hG : GS G) (hm : behindInMarks .NotEq b = false) (ha : PE X a (TB G b1 s1)) (hb : PE X b (TB G b2 s2)) : PT X (.Compare a [.NotEq] [b] pos) (TBt G (!decide (b1 = b2)) (s1 ∧ s2)) :=
  pt_weak (pt_cmpR op_ne ha hb hm) fun σ H Q ⟨hg, ⟨h1, h2⟩, z⟩ => ⟨hg, h1, fun H1 S1 => ⟨hG _ _ _ hg S1, h2, fun H2 S2 => ⟨rfl, by
    rw [show decide (V.bl b1 = V.bl b2) = decide (b1 = b2) by cases b1 <;> cases b2 <;> rfl]; exact ⟨_, rfl, z H2 (S1.trans S2)⟩⟩⟩⟩
theorem pS_eqT {x y : Str} (hG : GS G) (hm : behindInMarks .Eq b = false) (ha : PE X a (TS G x s1)) (hb : PE X b (TS G y s2)) : PT X (.Compare a [.Eq] [b] pos) (TBt G (decide (x = y)) (s1 ∧ s2)) :=
  pt_weak (pt_cmpR op_eq ha hb hm) fun σ H Q ⟨hg, ⟨h1, h2⟩, z⟩ => ⟨hg, h1, fun H1 S1 => ⟨hG _ _ _ hg S1, h2, fun H2 S2 => ⟨rfl, by
    have e : decide (V.str x = V.str y) = decide (x = y) := by
      by_cases h : x = y
      · rw [h]; simp
      · rw [decide_eq_false h, decide_eq_false (fun z => h (V.str.inj z))]
    rw [e]; exact ⟨_, rfl, z H2 (S1.trans S2)⟩⟩⟩⟩
theorem pI_eqT {i j : Int} (hG : GS G) (hm : behindInMarks .Eq b = false) (ha : PE X a (TI G i s1)) (hb : PE X b (TI G j s2)) : PT X (.Compare a [.Eq] [b] pos) (TBt G (decide (i = j)) (s1 ∧ s2)) :=
  pt_weak (pt_cmpR op_eq ha hb hm) fun σ H Q ⟨hg, ⟨h1, h2⟩, z⟩ => ⟨hg, h1, fun H1 S1 => ⟨hG _ _ _ hg S1, h2, fun H2 S2 => ⟨rfl, by rw [dint]; exact ⟨_, rfl, z H2 (S1.trans S2)⟩⟩⟩⟩
theorem pI_neT {i j : Int} (hG : GS G) (hm : behindInMarks .NotEq b = false) (ha : PE X a (TI G i s1)) (hb : PE X b (TI G j s2)) : PT X (.Compare a [.NotEq] [b] pos) (TBt G (!decide (i = j)) (s1 ∧ s2)) :=
  pt_weak (pt_cmpR op_ne ha hb hm) fun σ H Q ⟨hg, ⟨h1, h2⟩, z⟩ => ⟨hg, h1, fun H1 S1 => ⟨hG _ _ _ hg S1, h2, fun H2 S2 => ⟨rfl, by rw [dint]; exact ⟨_, rfl, z H2 (S1.trans S2)⟩⟩⟩⟩
theorem pI_leT {i j : Int} (hG : GS G) (hm : behindInMarks .LtE b = false) (ha : PE X a (TI G i s1)) (hb : PE X b (TI G j s2)) : PT X (.Compare a [.LtE] [b] pos) (TBt G (decide (i ≤ j)) (s1 ∧ s2)) :=
  pt_weak (pt_cmpR op_le ha hb hm) fun σ H Q ⟨hg, ⟨h1, h2⟩, z⟩ => ⟨hg, h1, fun H1 S1 => ⟨hG _ _ _ hg S1, h2, fun H2 S2 => ⟨_, _, rfl, rfl, ⟨_, rfl, z H2 (S1.trans S2)⟩⟩⟩⟩
theorem pI_gtT {i j : Int} (hG : GS G) (hm : behindInMarks .Gt b = false) (ha : PE X a (TI G i s1)) (hb : PE X b (TI G j s2)) : PT X (.Compare a [.Gt] [b] pos) (TBt G (decide (i > j)) (s1 ∧ s2)) :=
  pt_weak (pt_cmpR op_gt ha hb hm) fun σ H Q ⟨hg, ⟨h1, h2⟩, z⟩ => ⟨hg, h1, fun H1 S1 => ⟨hG _ _ _ hg S1, h2, fun H2 S2 => ⟨_, _, rfl, rfl, ⟨_, rfl, z H2 (S1.trans S2)⟩⟩⟩⟩
end
end SQ
namespace SQ
theorem rat_pow_add (q : Rat) (m : Nat) : ∀ n : Nat, q ^ (m + n) = q ^ m * q ^ n
  | 0 => by rw [Nat.add_zero, Rat.pow_zero, Rat.mul_one]
  | n + 1 => by rw [← Nat.add_assoc, Rat.pow_succ, rat_pow_add q m n, Rat.pow_succ, Rat.mul_assoc]
theorem rat_zpow_add {q : Rat} {i j : Int} (h : q ≠ 0 ∨ (0 ≤ i ∧ 0 ≤ j)) : q ^ i * q ^ j = q ^ (i + j) := by
  rcases h with h | ⟨hi, hj⟩
  · exact (Rat.zpow_add h i j).symm
  · obtain ⟨m, rfl⟩ := Int.eq_ofNat_of_zero_le hi
    obtain ⟨n, rfl⟩ := Int.eq_ofNat_of_zero_le hj
    have e : ((m : Int) + (n : Int)) = ((m + n : Nat) : Int) := by omega
    rw [e, Rat.zpow_natCast, Rat.zpow_natCast, Rat.zpow_natCast, rat_pow_add]
theorem zpow1 (q : Rat) : q ^ (1 : Int) = q := Rat.zpow_one q
theorem zpow0 (q : Rat) : q ^ (0 : Int) = 1 := Rat.zpow_zero q
theorem zpow2 (q : Rat) : q ^ (2 : Int) = q * q := by
  show q ^ ((2 : Nat) : Int) = _
  rw [Rat.zpow_natCast, Rat.pow_succ, Rat.pow_one]
theorem zpow3 (q : Rat) : q ^ (3 : Int) = q * q * q := by
  show q ^ ((3 : Nat) : Int) = _
  rw [Rat.zpow_natCast, Rat.pow_succ, Rat.pow_succ, Rat.pow_one]
theorem abs_mul (a b : Rat) : (a * b).abs = a.abs * b.abs := by
  by_cases ha : 0 ≤ a <;> by_cases hb : 0 ≤ b
  · rw [Rat.abs_of_nonneg ha, Rat.abs_of_nonneg hb, Rat.abs_of_nonneg (Rat.mul_nonneg ha hb)]
  · have hb' : 0 ≤ -b := by grind
    rw [Rat.abs_of_nonneg ha, ← Rat.abs_neg (x := b), Rat.abs_of_nonneg hb', ← Rat.abs_neg, ← Rat.mul_neg, Rat.abs_of_nonneg (Rat.mul_nonneg ha hb')]
  · have ha' : 0 ≤ -a := by grind
    rw [Rat.abs_of_nonneg hb, ← Rat.abs_neg (x := a), Rat.abs_of_nonneg ha', ← Rat.abs_neg, ← Rat.neg_mul, Rat.abs_of_nonneg (Rat.mul_nonneg ha' hb)]
  · have ha' : 0 ≤ -a := by grind
    have hb' : 0 ≤ -b := by grind
    rw [← Rat.abs_neg (x := a), ← Rat.abs_neg (x := b), Rat.abs_of_nonneg ha', Rat.abs_of_nonneg hb']
    have e : a * b = -a * -b := by grind
    rw [e, Rat.abs_of_nonneg (Rat.mul_nonneg ha' hb')]
/-- the quotient and the remainder -/
theorem div_rem {a b : Rat} (h : b ≠ 0) : (0 < b → 0 ≤ a - b * ((a / b).floor : Rat) ∧ a - b * ((a / b).floor : Rat) < b) ∧ (b < 0 → a - b * ((a / b).floor : Rat) ≤ 0 ∧ b < a - b * ((a / b).floor : Rat)) := by
  have f1 := Rat.floor_le (a / b)
  have f2 := Rat.lt_floor_add_one (a / b)
  rw [Rat.intCast_add] at f2
  generalize ((a / b).floor : Rat) = f at f1 f2
  have e : a / b * b = a := Rat.div_mul_cancel h
  generalize a / b = d at f1 f2 e
  constructor
  · intro hb
    have m1 := Rat.mul_le_mul_of_nonneg_right f1 (Rat.le_of_lt hb)
    have m2 := Rat.mul_lt_mul_of_pos_right f2 hb
    rw [e] at m1 m2
    have c1 : ((1 : Int) : Rat) = 1 := rfl
    rw [c1] at m2
    constructor <;> grind
  · intro hb
    have hb' : 0 < -b := by grind
    have m1 := Rat.mul_le_mul_of_nonneg_right f1 (Rat.le_of_lt hb')
    have m2 := Rat.mul_lt_mul_of_pos_right f2 hb'
    have c1 : ((1 : Int) : Rat) = 1 := rfl
    rw [c1] at m2
    constructor <;> grind
theorem pos_num {q : Rat} : 0 < q.num ↔ 0 < q := by
  have h := Rat.lt_iff 0 q
  simp at h
  exact h.symm
end SQ

/-! Pairs of ints compared; a class method that reads a text. -/
namespace SQ
open PySem PySem.Spec PyProof.Rows L2 SF
section
variable {X : Cx} {C : Addr} {G : L2.St → Hp → Prop} {a b c d e : Expr} {n m : Nat} {q r : Rat} {s s1 s2 s3 s4 : Prop} {pos p1 p2 : Pos} {k1 k2 : Nat} {i j i' j' : Int}
/-- (a, b) == (c, d) -/
theorem pT_eq (hu : X.A.units + 64 < cLine) (hG : GS G) (hm : behindInMarks .Eq (.Tuple [c, d] k2 p2) = false) (ha : PE X a (TI G i s1)) (hb : PE X b (TI G j s2)) (hc : PE X c (TI G i' s3)) (hd : PE X d (TI G j' s4))
    (h1 : starEach (a :: [b]) X.env = (false, eval a X.env) :: starEach [b] X.env := by rfl) (h2 : starEach (b :: []) X.env = (false, eval b X.env) :: starEach [] X.env := by rfl)
    (h3 : starEach (c :: [d]) X.env = (false, eval c X.env) :: starEach [d] X.env := by rfl) (h4 : starEach (d :: []) X.env = (false, eval d X.env) :: starEach [] X.env := by rfl) :
    PE X (.Compare (.Tuple [a, b] k1 p1) [.Eq] [.Tuple [c, d] k2 p2] pos) (TB G (decide (i = i') && decide (j = j')) (s1 ∧ s2 ∧ s3 ∧ s4)) :=
  pe_weak (pe_cmpR (op_eqD hu) (pe_tup (pa_cons ha (pa_cons hb pa_nil h2) h1)) (pe_tup (pa_cons hc (pa_cons hd pa_nil h4) h3)) hm) fun σ H Q ⟨hg, ⟨x1, x2, x3, x4⟩, z⟩ =>
    ⟨hg, x1, fun H1 S1 => ⟨hG _ _ _ hg S1, x2, fun H2 S2 => ⟨(by show 2 ≤ sizeLine; decide), fun p np => by
      have S3 : Same H2 (upd H2 p (.tup [.int i, .int j])) := same_new (Same.refl _) np
      refine ⟨hG _ _ _ (hG _ _ _ (hG _ _ _ hg S1) S2) S3, x3, fun H3 S4 => ⟨hG _ _ _ (hG _ _ _ (hG _ _ _ (hG _ _ _ hg S1) S2) S3) S4, x4, fun H4 S5 => ⟨(by show 2 ≤ sizeLine; decide), fun p' np' => ?_⟩⟩⟩
      have S6 : Same H4 (upd H4 p' (.tup [.int i', .int j'])) := same_new (Same.refl _) np'
      have e1 : upd H4 p' (.tup [.int i', .int j']) p = some (.tup [.int i, .int j]) := S6 _ _ (S5 _ _ (S4 _ _ upd_same))
      refine ⟨.tuple [.int i, .int j], .tuple [.int i', .int j'], .tup (SqT.of e1) (.cons (.int i) (.cons (.int j) .nil)), .tup (SqT.of upd_same) (.cons (.int i') (.cons (.int j') .nil)), rfl, rfl, ?_⟩
      have e2 : PyData.eqv (.tuple [.int i, .int j]) (.tuple [.int i', .int j']) = (decide (i = i') && decide (j = j')) := by
        show (i == i' && (j == j' && true)) = _
        rw [Bool.and_true]
        rfl
      rw [e2]
      exact z _ ((((((S1.trans S2).trans S3).trans S4).trans S5)).trans S6)⟩⟩⟩
/-- C.read(e) -/
theorem pq_read {l : Nat} {pl : Sem Bool} {o : Expr} {apos : Pos} {p g : Addr} {fd : FuncData} {ps : List Str} {mc : Value} {x : Str} (ho : PE X o (tC (.ref C))) (r : ClX.CRead X.K C mc) (cm : ClX.CMet X.K C mc "read" p g) (F : FnOk X.prog X.w X.K X.mg X.base CX0 l g fd ps (spRd C)) (hb : Binds X.K fd ps []) (hr : Room l X.A)
    (ha : PE X a (TS G x s))
    (hst : starEach (a :: []) X.env = (false, eval a X.env) :: starEach [] X.env := by rfl) (hpl : (backTo pos (starEach [] X.env)).any (·.1) = false := by rfl)
    (ht : eval (.Call (.Attribute o "read" apos) (a :: []) [] pos) X.env = (do
      let ov ← eval o X.env
      standAt apos.atName
      let (f, first) ← holding [ov] (getMethod ov "read" pl)
      callWith pos f first (backTo pos (starEach (a :: []) X.env)) (backToKw pos (keywordEach [] X.env))) := by rfl) :
    PE X (.Call (.Attribute o "read" apos) [a] [] pos) (TQ C G true RDN (rdq x) (s ∧ isTx x = true ∧ x.length ≤ 640)) :=
  pe_weak (ClX.pe_cmeth (E := E0) ho r cm (F.raw hb .nil) hr pass0 (pa_cons ha pa_nil hst) hst hpl ht) fun σ H Q ⟨hg, ⟨h1, h2, h3⟩, z⟩ =>
    ⟨rfl, hg, h1, fun H1 S1 => ⟨x, rfl, h3, h2, fun p H2 S2 rq => z _ H2 (S1.trans S2) rq.nv⟩⟩
theorem pss_weak {X : Cx} {st : List Stmt} {t t' : L2.TS} (h : PSs X st t) (i : ∀ D σ H, t' D σ H → t D σ H) : PSs X st t' := ⟨fun pins s σ H D I x => h.run pins s σ H D I (i _ _ _ x)⟩
/-- a block whose reading has a number that is known only at its start -/
theorem pss_ex {α : Type} {X : Cx} {st : List Stmt} {t : α → L2.TS} (h : ∀ i, PSs X st (t i)) : PSs X st (fun D σ H => ∃ i, t i D σ H) := ⟨fun pins s σ H D I ⟨i, x⟩ => (h i).run pins s σ H D I x⟩
end
theorem rstr_len {q : Rat} {n : Nat} (h1 : (tx q.num).length ≤ n) (h2 : (tx q.den).length ≤ n) : (rstr q).length ≤ 2 * n + 1 := by
  unfold rstr
  split
  · omega
  · simp only [Str.length_append]
    have e1 : Str.empty.length = 0 := rfl
    have e2 : ("/" : Str).length = 1 := rfl
    omega
theorem tx_short {i : Int} (h : i.natAbs < 2 ^ 800) : (tx i).length ≤ 250 := by
  have hb : i.natAbs < 10 ^ 249 := Nat.lt_of_lt_of_le h (by decide +kernel)
  rcases tx_cases i with ⟨n, rfl, e⟩ | ⟨n, _, rfl, e⟩
  · rw [TL.len_tl, e]
    exact Nat.le_trans (TL.numL_len (k := 249) (by decide) (by simpa using hb)) (by decide)
  · rw [TL.len_tl, e, List.length_cons]
    have := TL.numL_len (n := n) (k := 249) (by decide) (by simpa using hb)
    omega
end SQ

/-! try .. except (A, B, C) as n, where each error is one of them; defs that are called with the error in hand. -/
namespace SFT
open PySem PySem.Spec PyProof.Rows L2 SF L2H
theorem flyingZ_keeps {B h h' : Heap} {l : List Env} {e : Addr} {Z : Obj → Prop} (x : HandSPX.FlyingZ B l e Z h) (k : ∀ b o, h.get? b = some o → h'.get? b = some o) : HandSPX.FlyingZ B l e Z h' := by
  obtain ⟨f1, f2, f3, oe, vs, T, oT, ts, he, hz, hd, h1, hn, hne, hT, hdT, h3⟩ := x
  exact ⟨fun b o q => k b o (f1 b o q), f2, f3.of_keeps fun b o q _ => ⟨o, k b o q, rfl⟩, oe, vs, T, oT, ts, k _ _ he, hz, hd, h1, hn, hne, k _ _ hT, hdT, h3⟩
/-- what the clause 'except (..) as n' wishes of an exception of the body -/
def wTup (K : PySem.W.Frag) (cs : List Value) (i : Nat) (ts : Addr → Value → Option Addr → TS) (D : Ends) : WX := fun cls d σ H =>
  PySem.W.exmAny K cls cs = some true ∧ ∀ a, H a = none → ts a cls d { nx := fun σ' H' => D.nx (σ'.set i none) H', rt := D.rt, bk := fun σ' H' => D.bk (σ'.set i none) H', ct := fun σ' H' => D.ct (σ'.set i none) H' } (σ.set i (some (.ref a))) H
section
variable {X : Cx} {x1 x2 x3 n : Str} {c1 c2 c3 : Value} {i kk : Nat} {body suite : List Stmt} {b₀ : Stmt} {np1 np2 np3 tpos pos pos' : Pos} {tb : WX → TS} {ts : Addr → Value → Option Addr → TS}
theorem ps_try_tup3 (hs : X.stack = X.env :: X.outer) (hf : X.env.frame = some X.env.locals) (hN : X.N.Nodup) (hi : X.N[i]? = some n) (hln : X.env.kindOf n = some .local) (hc1 : Names X x1 c1) (hc2 : Names X x2 c2) (hc3 : Names X x3 c3)
    (hb : ∀ (W : WX) (pn : List (Addr × Obj)) (xe : Value → Shared → Prop), (∀ q ∈ X.pn, q ∈ pn) → Takes (X.tr pn xe) W → PassesOwn (model X.prog X.w) X.A X.env xe → PSs (X.tr pn xe) body (tb W))
    (hsu : ∀ (a : Addr) (oe : Obj) (cls : Value) (d : Option Addr) (pn : List (Addr × Obj)), Zc cls d oe → (∃ vs, oe.data = .fields vs) → PSs (X.suite a ((a, oe) :: pn)) (b₀ :: suite) (ts a cls d)) :
    PS X (.Try body [.ExceptHandler (some (.Tuple [.Name x1 np1, .Name x2 np2, .Name x3 np3] kk tpos)) (some n) (b₀ :: suite) pos'] [] [] pos) (fun D σ H => tb (wTup X.K [c1, c2, c3] i ts D) D σ H) := by
  refine ⟨fun pins s σ H D I h => ?_⟩
  have ok := I.ok
  have hfr : X.A.frames = some (X.env :: X.outer) := by rw [ok.frames, hs]
  have hloc : Loc X.env.scope n := .inl hln
  refine wpAny_Try_except ?_
  refine wpAny_mono ((hb (wTup X.K [c1, c2, c3] i ts D) (X.pn ++ pins) (fun e s₁ => wpAny (model X.prog X.w) X.A (noteFrame e X.env) (fun _ s₂ => wpAny (model X.prog X.w) X.A (setFlight e none) (fun _ s₃ =>
    wpAny (model X.prog X.w) X.A (handleBy e X.env [.ExceptHandler (some (.Tuple [.Name x1 np1, .Name x2 np2, .Name x3 np3] kk tpos)) (some n) (b₀ :: suite) pos']) (SP X pins D) X.xe s₃) X.xe s₂) X.xe s₁) (fun q hq => List.mem_append_left _ hq) (fun u s' xx => ?_) PassesOwn.looking).run [] s σ H D (I.toTry _) h) (fun f s1 hsp => ?_) (fun e s1 he => he)
  · -- the catch
    obtain ⟨a, B, sI, pins', σ', H', cls, d, rfl, J', nb, up, sky, na, os, ag, hb1, hyes⟩ := xx
    have J : Inv X pins σ' H' sI := J'.ofTry ok
    have sky' : Sky B (X.env :: X.outer) a (Zc cls d) X.env.locals s'.heap := by rw [← hs]; exact sky
    show wpAny (model X.prog X.w) X.A (noteFrame (.ref a) X.env) _ _ _
    refine Sky.land Zc.steady hfr hf sky' fun h3 fl3 up3 => ?_
    have J3 : Inv X pins σ' H' { s' with heap := h3 } := J.landed nb fl3.1 (up.trans up3) os ag
    obtain ⟨oe3, vs3, he3, hz3, hd3⟩ := fl3.there
    have notFr : ∀ {h : Heap} {o : Obj} {vs : Array Value}, h.FunFrames B (X.env :: X.outer) → h.get? a = some o → o.data = .fields vs → a ∉ frs (X.env :: X.outer) := fun {h o vs} ff e dd hm => by
      obtain ⟨_, o', e', hnf⟩ := ff.mem hm
      rw [e] at e'; cases e'
      exact hnf _ dd
    have nfr := notFr fl3.2.2.1 he3 hd3
    have nL : a ≠ X.env.locals := fun z => nfr (List.mem_filterMap.mpr ⟨X.env, List.mem_cons_self, by rw [hf, z]⟩)
    have nF : a ∉ X.fs := fun hm => by
      obtain ⟨e, he, q⟩ := List.mem_filterMap.mp hm
      exact nfr (List.mem_filterMap.mpr ⟨e, List.mem_cons_of_mem _ he, q⟩)
    have S3 := J3.suite he3 hd3 na nL nF
    refine wpAny_handleBy_cons (codeAny_handlers_test ?_) (by intro q; cases q)
    have LT : PySem.W.Looks (model X.prog X.w) h3 (typeOf (.ref a)) cls := fun A Q E s k q => wpAny_typeOf_ref (k _ _ he3) (by rw [hz3.1]; exact q)
    have test : ∀ {x : Str} {c : Value} {np : Pos} {Q : Value → Shared → Prop} {E : Value → Shared → Prop}, Names X x c → Q c { s' with heap := h3 } → wpAny (model X.prog X.w) (X.A.mark (some (.ref a))) (eval (.Name x np) X.env) Q E { s' with heap := h3 } := fun {x c np Q E} hc q => by
      obtain ⟨hg, hdbg, hm | ⟨hm, hv, hnn⟩⟩ := hc
      · exact ld_glob (X := X.suite a ((a, oe3) :: (X.pn ++ pins))) S3 hg hm q hdbg
      · exact ld_blt (X := X.suite a ((a, oe3) :: (X.pn ++ pins))) S3 hg hm hv q hnn hdbg
    refine wpAny_Tuple ?_
    refine wpAny_items_cons (test hc1 ?_)
    refine wpAny_items_cons (test hc2 ?_)
    refine wpAny_items_cons (test hc3 ?_)
    refine wpAny_items_nil ⟨by size_fits, ?_⟩
    have kp : ∀ q o, h3.get? q = some o → (h3.push { cls := .type "tuple", data := .seq [c1, c2, c3].toArray }).get? q = some o := fun _ _ z => Heap.get?_push_of_some _ z
    have fl3' := flyingZ_keeps fl3 kp
    have LM := PySem.W.exm_tup3 (M := model X.prog X.w) ((J3.kIn).keeps kp) (LT.keeps kp) (Heap.get?_push_size h3 rfl) hb1
    refine LM.here ?_
    refine codeAny_handlers_suite_as ?_
    refine HandSPX.lands_againZ (s := { s' with heap := h3.push { cls := .type "tuple", data := .seq [c1, c2, c3].toArray } }) fl3' fun h4 fl4 up4 => ?_
    have J4 : Inv X pins σ' H' { s' with heap := h4 } := J.landed nb fl4.1 (((up.trans up3).trans (Heap.UpToSlots.of_keeps kp)).trans up4) os ag
    obtain ⟨oe4, vs4, he4, hz4, hd4⟩ := fl4.there
    have S4 := J4.suite he4 hd4 na nL nF
    refine store_ok (X := X.suite a ((a, oe4) :: (X.pn ++ pins))) (v := .ref a) S4 hN hi hloc rfl (fun s5 S5 => ?_) (.inr hln)
    refine wpAny_mono ((hsu a oe4 cls d (X.pn ++ pins) hz4 ⟨_, hd4⟩).run [] s5 _ H' _ S5 (hyes a na)) (fun f s6 hsp => ?_) (fun _ _ z => False.elim z)
    have end_ : ∀ {σ6 : L2.St} {H6 : Hp} {Q : Shared → Prop}, Inv (X.suite a ((a, oe4) :: (X.pn ++ pins))) [] σ6 H6 s6 → (∀ s7, Inv X pins (σ6.set i none) H6 s7 → Q s7) →
        wpAny (model X.prog X.w) X.A (do bindName X.env n .none; unbindBehindTheSuite X.env n pos') (fun _ s7 => Q s7) X.xe s6 := fun {σ6 H6 Q} S6 hq => gone_ok (S6.unsuite ok) hN hi hln hq
    cases f with
    | next =>
      obtain ⟨σ6, H6, S6, q6⟩ := hsp
      exact end_ S6 fun s7 J7 => ⟨_, _, J7, q6⟩
    | brk =>
      obtain ⟨σ6, H6, S6, q6⟩ := hsp
      exact end_ S6 fun s7 J7 => ⟨_, _, J7, q6⟩
    | cont =>
      obtain ⟨σ6, H6, S6, q6⟩ := hsp
      exact end_ S6 fun s7 J7 => ⟨_, _, J7, q6⟩
    | ret u =>
      obtain ⟨v6, σ6, H6, S6, r6, q6⟩ := hsp
      exact end_ S6 fun s7 J7 => ⟨_, _, _, J7, r6, q6⟩
  · cases f with
    | next =>
      obtain ⟨σ', H', J', q⟩ := hsp
      exact wpAny_execs_nil ⟨σ', H', J'.ofTry ok, q⟩
    | brk =>
      obtain ⟨σ', H', J', q⟩ := hsp
      exact ⟨σ', H', J'.ofTry ok, q⟩
    | cont =>
      obtain ⟨σ', H', J', q⟩ := hsp
      exact ⟨σ', H', J'.ofTry ok, q⟩
    | ret u =>
      obtain ⟨v, σ', H', J', r, q⟩ := hsp
      exact ⟨v, σ', H', J'.ofTry ok, r, q⟩
end
/-! ### a def that is called with the error p in hand -/
structure FnP (P : Program) (w : World) (K : PySem.W.Frag) (mg : Str → Option Value) (base : Heap) (CX : CXT) (k : Nat) (p : Addr × Obj) (f : Addr) (fd : FuncData) (ps : List Str) (sp : Sp) : Prop where
  len : ∀ vs H Q E, sp vs H Q E → vs.length = ps.length
  run : ∀ (A : Around) (outer : List Env) (s : Shared) (H : Hp) (args : Args) (us : List Value) (vs : List V) (Q : VK) (E : XK), A.guards = some [] → RoomH k A → PinOk outer H s p → Env0 P w K mg base A outer s H → BindsTo s fd args (ps.zip us) → Vals vs us → sp vs H Q E →
    codeAny (model P w) A (.call (.ref f) args) (CR CX outer P w H s Q E) s
theorem fn_ofP {CX : CXT} {P : Program} {w : World} {K : PySem.W.Frag} {mg : Str → Option Value} {base : Heap} {k : Nat} {f : Addr} {name qual : Str} {params : Arguments} {body : List Stmt} {scope : Scope} {dV kV doc pm cdv ct oc : Value} {an od : Option Addr}
    {osl : Array (Option Value)} {N ps : List Str} {sp : Sp} {p : Addr × Obj} (lk : K.lookup f = some ⟨oc, od, .func (PySem.W.fnOf name qual params body scope dV kV doc pm an cdv ct), osl⟩) (hcd : PySem.W.codeIn K cdv qual = true) (S : FnScope N ps scope)
    (len : ∀ vs H Q E, sp vs H Q E → vs.length = ps.length)
    (hbody : ∀ (A : Around) (outer : List Env) (s : Shared) (H : Hp) (vs : List V) (Q : VK) (E : XK), A.guards = some [] → RoomH k (A.deeper (envOfC qual scope s.heap.objs.size f cdv)) → sp vs H Q E →
      ∃ t, PSs (cxH CX P w K mg base N qual scope f cdv A outer s H E p) body t ∧ t { nx := fun _ H' => Q .non H', rt := Q } (L2.start N vs) H) :
    FnP P w K mg base CX (k + 1) p f (PySem.W.fnOf name qual params body scope dV kV doc pm an cdv ct) ps sp := by
  refine ⟨len, fun A outer s H args us vs Q E hgd hr hpin e0 hb r hsp => ?_⟩
  have hl := len _ _ _ _ hsp
  have KX : K.In s.heap := e0.mod.kin.keeps fun b o e => (e0.bs b o e).1
  have lim : s.heap.NoLimit := e0.mod.nolimit.keeps fun b o e => (e0.bs b o e).1
  have hkind : ∀ y ∈ ps.zip us, scope.names.lookup y.1 = some .local ∨ (scope.names.lookup y.1 = some .cell ∧ ((cellsFrom (s.heap.objs.size + 1) scope.names []).lookup y.1).isSome = true) := fun ⟨n, v⟩ hy => by
    rcases S.par n (List.of_mem_zip hy).1 with q | q
    · exact .inl q
    · exact .inr ⟨q, PySem.W.cellsFrom_some _ _ _ (.inl q)⟩
  refine codeAny_call_function hr.depth (KX _ _ lk) rfl S.co S.gen rfl (PySem.W.codeRec_of KX hcd) (hb _ _ _ _ ?_)
  refine wpAny_newFunctionEnv_cells S.kind hkind fun env he s1 x => ?_
  subst he
  refine ⟨lim.keeps x.toInCall.keep, codeAny_func ?_⟩
  obtain ⟨t, ht, hq⟩ := hbody A outer s H vs Q E hgd (hr.deeper _) hsp
  have I : Inv (cxH CX P w K mg base N qual scope f cdv A outer s H E p) [] (L2.start N vs) H s1 := inv_startH S hpin e0 hl r x
  refine wpAny_mono (ht.run [] s1 (L2.start N vs) H _ I hq) (fun fl s' hs => ?_) fun e s' hs => hs
  have fin : ∀ {σ' : L2.St} {H' : Hp} {v : V} {u : Value}, Inv (cxH CX P w K mg base N qual scope f cdv A outer s H E p) [] σ' H' s' → RelV v u → Q v H' → CE outer P w H s Q u s' :=
    fun {σ' H' v u} J rv q => ⟨v, H', J.os, J.bare, J.base, J.hok, rv, q⟩
  cases fl with
  | ret u =>
    obtain ⟨v, σ', H', J, rv, q⟩ := hs
    exact fin J rv q
  | next =>
    obtain ⟨σ', H', J, q⟩ := hs
    exact fin (v := V.non) (u := Value.none) J rfl q
  | brk =>
    obtain ⟨_, _, _, q⟩ := hs
    exact False.elim q
  | cont =>
    obtain ⟨_, _, _, q⟩ := hs
    exact False.elim q
section
variable {X : Cx} {CX : CXT} {k : Nat} {f C : Addr} {fd : FuncData} {ps : List Str} {sp : Sp} {E : L2.St → XK} {x m : Str} {q pos apos : Pos} {e o : Expr} {es : List Expr} {ta : TE} {t : TA} {p : Addr × Obj}
theorem run_fnP {pins : List (Addr × Obj)} {σ : L2.St} {H : Hp} {s : Shared} {Q : VK} {us : List Value} {vs : List V} (F : FnP X.prog X.w X.K X.mg X.base CX k p f fd ps sp) (hgd : X.A.guards = some []) (hr : RoomH k X.A) (hp : p ∈ X.pn) (hb : Binds X.K fd ps []) (hx : PassesAt CX X σ (E σ))
    (I : Inv X pins σ H s) (r : Vals vs us) (h : sp vs H Q (E σ)) : wpAny (model X.prog X.w) X.A (call (.ref f) us) (EP X pins σ Q) X.xe s := by
  have hl : us.length = ps.length := by rw [← r.length]; exact F.len _ _ _ _ h
  have b := hb s us I.kIn (by rw [List.append_nil]; exact hl)
  rw [List.append_nil] at b
  have P1 := I.pin p (List.mem_append_left _ hp)
  have hpin : PinOk X.stack H s p := ⟨P1.1, P1.2.1, fun hm => (List.mem_cons.mp (I.stkSub p.1 hm)).elim P1.2.2.1 P1.2.2.2.1, P1.2.2.2.2⟩
  refine wpAny_call (codeAny_mono (F.run X.A X.stack s H ⟨us, []⟩ us vs Q (E σ) hgd hr hpin I.env0 b r h) fun r s' hq => ?_)
  cases r with
  | error e => exact hx pins H s e s' I hq
  | ok fl =>
    cases fl with
    | ret u => exact I.after hq
    | next => exact False.elim hq
    | brk => exact False.elim hq
    | cont => exact False.elim hq
theorem pe_callP (F : FnP X.prog X.w X.K X.mg X.base CX k p f fd ps sp) (hgd : X.A.guards = some []) (hr : RoomH k X.A) (hp : p ∈ X.pn) (hg : Gl X x) (hm : X.mg x = some (.ref f)) (hk : PySem.W.keepIn X.K (.ref f) = true) (hb : Binds X.K fd ps []) (hx : ∀ σ, PassesAt CX X σ (E σ))
    (ha : PA X (e :: es) t) (hdb : (x == ("__debug__" : Str)) = false := by decide) (he : starEach (e :: es) X.env = (false, eval e X.env) :: starEach es X.env := by rfl) (hpl : (backTo pos (starEach es X.env)).any (·.1) = false := by rfl) :
    PE X (.Call (.Name x q) (e :: es) [] pos) (tCallS sp E t) := by
  refine ⟨fun pins s σ H Q I h => ?_⟩
  refine wpAny_Call_Name_kw (ld_glob I hg hm ?_ hdb)
  refine PySem.W.callWith_K (h₀ := X.base) I.ok.mod.kin hk (thn (ha.run pos pins s σ H _ I h) fun us s1 ⟨vs, H1, I1, r, q⟩ => ⟨I1.kIn, ?_⟩) he hpl
  exact run_fnP F hgd hr hp hb (hx σ) I1 r q
end
/-! ### isinstance, fields of the error in hand -/
theorem call_isP {X : Cx} {a D : Addr} {oe : Obj} (C : ExcC X.K D) (hz : Zc (.ref D) none oe) (hf : ∃ vs, oe.data = .fields vs) (hp : (a, oe) ∈ X.pn) : CallR X (.builtin "isinstance") (rIsE X.K D a) := by
  intro pins s σ H xs us Q I r h
  obtain ⟨c, cv, b, rfl, hcv, e, q⟩ := h
  cases r with
  | cons rx rr =>
    cases rr with
    | cons rt rr =>
      cases rr
      cases rx
      have ec := hcv _ rt
      subst ec
      obtain ⟨hget, _⟩ := I.pin (a, oe) (List.mem_append.mpr (.inl hp))
      obtain ⟨vs, hv⟩ := hf
      have J : PySem.W.InstAt s.heap a oe D none := by
        obtain ⟨oc, od, oda, osl⟩ := oe
        obtain ⟨h1, h2⟩ := hz
        dsimp only at h1 h2 hv
        subst h1 h2 hv
        exact ⟨hget, rfl, rfl, trivial⟩
      exact PySem.W.kia_one (PySem.W.handS_kitx_exc C.hg C.hk C.hs C.hd C.ha C.hn C.ht C.hm) I.kIn J e (fun z => nomatch z) fun tk => ⟨.bl b, H, I.kept (t' := tk) fun _ _ z => z, rfl, q⟩
theorem pe_xfP {X : Cx} {a C : Addr} {oe : Obj} {cls : Value} {d : Option Addr} {e : Expr} {te : TE} {pos : Pos} {n : Str} (T : XfC X.K C) (hno : PySem.W.findIn X.K (.ref C) n = some none)
    (hz : Zc cls d oe) (hf : ∃ vs, oe.data = .fields vs) (hp : (a, oe) ∈ X.pn) (he : PE X e te) (hb : attributeBase e n X.env (eval e X.env) = eval e X.env := by rfl) :
    PE X (.Attribute e n pos) (tXf a cls d C n te) := by
  refine ⟨fun pins s σ H Q I h => ?_⟩
  refine attr_of hb (thn (he.run pins s σ H _ I h) fun u s1 hh => ?_)
  obtain ⟨x, H1, I1, rx, ex, ec, dd, fs, v, ed, ea, l, q⟩ := hh
  subst ex
  obtain rfl : u = Value.ref a := rx
  subst ec
  subst ed
  obtain ⟨ha, _⟩ := I1.pin (a, oe) (List.mem_append_left _ hp)
  obtain ⟨vs, hd⟩ := hf
  have hx : ObjOk X.prog X.w H1 s1.heap dd (.xd fs) := I1.hok dd _ ea
  obtain ⟨mA, hns, hr⟩ := hx
  obtain ⟨od, ho, hl⟩ := lookIn_ns hns
  obtain ⟨u, hu, ru⟩ := RelO.some_of (v := v) (o := mA n) (by rw [← l]; exact hr n)
  have J : PySem.W.InstAt s1.heap a oe C (some od) := ⟨ha, hz.1, by unfold PySem.W.notCls; rw [hd] <;> rfl, by rw [hz.2]; exact ho⟩
  exact HandSPX.exc_get I1.kIn J T.ga T.gg T.exC (PySem.W.findObj_own T.hdC hno rfl (by rw [hl, hu])) (handed_of ru) ⟨v, H1, I1.tok _, ru, q⟩
end SFT

/-! Own exceptions held as values: isinstance and fields. -/
namespace SX
open PySem PySem.Spec PySem.W PySem.Calls PyProof.Rows L2 SF
/-- at a: an exception of the own class at D, not raised; fs: what it was given -/
def ExA (H : Hp) (a D : Addr) (fs : List (Str × V)) : Prop := (∃ d, H a = some (exo a D (some d)) ∧ H d = some (exd d fs)) ∨ (fs = [] ∧ H a = some (ExO (.ref D) a))
theorem ExA.same {H H' : Hp} {a D : Addr} {fs : List (Str × V)} (e : ExA H a D fs) (s : ∀ b o, H b = some o → H' b = some o) : ExA H' a D fs := by
  rcases e with ⟨d, h1, h2⟩ | ⟨h0, h1⟩
  · exact .inl ⟨d, s _ _ h1, s _ _ h2⟩
  · exact .inr ⟨h0, s _ _ h1⟩
section
variable {prog : Program} {w : World} {A : Around} {E : Value → Shared → Prop} {s : Shared} {K : Frag} {x D : Addr} {ox : Obj} {od : Option Obj}
theorem find_data {a g : Value} {name : Str} (hc : (clsIn K D).isSome = true) (ha : findIn K (.ref D) name = some (some a)) (hg : specialIn K a "__get__" = some (some g)) (ht : takesIn K a = some true) : findObj K D od name = some (.bind g a) := by
  obtain ⟨cd, hc⟩ := Option.isSome_iff_exists.mp hc
  unfold findObj
  rw [hc, Option.bind_some, ha, Option.bind_some]
  simp [hg, ht]
theorem cls_isSome (h : hasDictIn K D = true) : (clsIn K D).isSome = true := by
  obtain ⟨cd, hc, _⟩ := any_some h
  rw [hc]
  rfl
/-- x.__class__, whatever dict the exception has -/
theorem class_ask {Q : Option Value → Shared → Prop} (C : ExcC K D) (X : K.In s.heap) (I : InstAt s.heap x ox D od) (h : Q (some (.ref D)) { s with toks := s.toks + 1 }) : wpAny (model prog w) A (getAttr? (.ref x) "__class__") Q E s := by
  have hf : findObj K D od "__class__" = some (.bind (.builtin "getset_descriptor.__get__") (.builtin "object.__class__")) := find_data (cls_isSome C.hd) C.ha C.hn C.ht
  obtain ⟨hp, g, d, t, os⟩ := s
  have L0 := I.type (M := model prog w)
  have L1 := looks_findIn (M := model prog w) X C.hg
  have L2 := looks_findIn (M := model prog w) X C.hk
  have L3 := looks_find (M := model prog w) X I hf
  have sub : Looks (model prog w) hp (isInstance (.ref x) (.type "BaseException")) true := L0.andThen (looks_subIn X C.hs)
  have n0 : (false && onTheHeap (Value.builtin "BaseException.__getattribute__")) = false := rfl
  have n2 : (Value.builtin "BaseException.__getattribute__" == Value.builtin "object.__getattribute__") = false := by decide +kernel
  have n1 : (onTheHeap (Value.ref D) && Value.builtin "BaseException.__getattribute__" == Value.builtin "object.__getattribute__") = false := by rw [n2]; rfl
  unfold getAttr? getAttrBy? getAttrBy
  refine wpAny_bind (wpAny_mkText (wpAny_bind (wpAny_attempt (wpAny_holding (wpAny_bind (L0.at (wpAny_bind (L1.at ?_))))))))
  show wpAny _ _ (if (onTheHeap (Value.ref D) && Value.builtin "BaseException.__getattribute__" == Value.builtin "object.__getattribute__") = true then _ else _) _ _ _
  rw [n1, if_neg Bool.false_ne_true]
  unfold getAttrByItsOwn hookBefore
  refine wpAny_bind ?_
  rw [if_pos (show onTheHeap (Value.ref D) = true from rfl)]
  refine L2.at ?_
  refine wpAny_bind (wpAny_attempt (wpAny_holding ?_))
  unfold callGetattribute
  rw [n0, if_neg Bool.false_ne_true]
  unfold boundAndCalled
  rw [PySem.F.excAttr_ValueError.ga.bind (.ref x)]
  refine wpAny_bind (wpAny_pure ?_)
  show wpAny _ _ (call (.builtin "BaseException.__getattribute__") [.ref x, .str "__class__" t]) _ _ _
  refine wpAny_call (codeAny_call_builtin PySem.F.excAttr_ValueError.ga.plain PySem.F.entry_bexc_ga ?_)
  refine @check_slot (model prog w) _ _ ⟨hp, g, d, t + 1, os⟩ "BaseException.__getattribute__" "BaseException" "__getattribute__" (.ref x) [.str "__class__" t] [] _ (by decide +kernel) (by decide +kernel) sub (PySem.F.args_bexc_ga (.ref x) (.str "__class__" t)) ?_
  unfold Builtin.«object.__getattribute__»
  refine wpAny_bind (wpAny_of_eq (a := ((Value.ref x : Value), [Value.str "__class__" t])) (by first | rfl | (simp only [slotArgs]; rfl)) ?_)
  refine wpAny_bind (wpAny_pure (wpAny_bind (L0.at (wpAny_bind (L3.at ?_)))))
  show wpAny _ _ (holding [Value.builtin "object.__class__"] (call (.builtin "getset_descriptor.__get__") [.builtin "object.__class__", .ref x, .ref D]) >>= ret) _ _ _
  refine wpAny_bind (wpAny_holding (wpAny_call (class_get (s := ⟨hp, g, d, t + 1, os⟩) (ox := ox) (od := od) X I C.hm ?_)))
  refine wpAny_pure ?_
  show wpAny _ _ (handedOut (.ref D)) _ _ _
  rw [handedOut_of (v := .ref D) rfl]
  first
    | exact wpAny_pure (wpAny_pure h)
    | exact wpAny_pure h
    | exact wpAny_pure (wpAny_bind (wpAny_pure (wpAny_pure h)))
theorem cls_obj (hd : hasDictIn K D = true) : ∃ cls dict cd sl, K.lookup D = some ⟨cls, dict, .cls cd, sl⟩ := by
  have h := cls_isSome hd
  unfold clsIn at h
  split at h
  · rename_i c' d' cd' sl' ho
    exact ⟨c', d', cd', sl', ho⟩
  · cases h
theorem kit_exc (C : ExcC K D) : KitX K (.ref x) (.ref D) (fun h => InstAt h x ox D od) where
  ty := fun _ _ _ I => I.type
  it := fun _ _ X _ => by
    obtain ⟨_, _, _, _, ho⟩ := cls_obj C.hd
    intro A' Q' E' s' k q
    unfold isType loadHead
    exact wpAny_bind (wpAny_loadPart (k _ _ (X _ _ ho)) (wpAny_pure q))
  ne := fun h tp dd its n sl X htp => by
    obtain ⟨_, _, _, _, ho⟩ := cls_obj C.hd
    refine Bool.eq_false_iff.mpr fun q => ?_
    have e : D = tp := Value.ref.inj (beq_iff_eq.mp q)
    subst e
    have z := (X _ _ ho).symm.trans htp
    cases z
  ca := fun X I k => class_ask C X I k
end
section
variable {X : Cx} {pins : List (Addr × Obj)} {σ : L2.St} {H : Hp} {s : Shared} {a D : Addr} {fs : List (Str × V)}
/-- the exception's object, its dict's object -/
theorem exA_inst (I : Inv X pins σ H s) (e : ExA H a D fs) : ∃ (ox : Obj) (od : Option Obj), InstAt s.heap a ox D od ∧ ∀ f v, fs.lookup f = some v → ∃ o u, od = some o ∧ lookIn f o = some (some u) ∧ RelV v u := by
  rcases e with ⟨d, h1, h2⟩ | ⟨rfl, h1⟩
  · obtain ⟨t1, ho⟩ := exo_at I.hok h1
    obtain ⟨mA, hns, hr⟩ := exd_at I.hok h2
    obtain ⟨od, hod, hl⟩ := lookIn_ns hns
    refine ⟨_, some od, ⟨ho, rfl, rfl, hod⟩, fun f v hf => ?_⟩
    obtain ⟨u, hu, ru⟩ := RelO.some_of (v := v) (o := mA f) (by rw [← hf]; exact hr f)
    exact ⟨od, u, rfl, by rw [hl, hu], ru⟩
  · obtain ⟨⟨oe, vs, ho, hz, hd, _⟩, _, _⟩ := I.hok a _ h1
    refine ⟨oe, none, ⟨ho, hz.1, by unfold PySem.W.notCls; rw [hd] <;> rfl, by rw [hz.2]; trivial⟩, fun f v hf => ?_⟩
    cases hf
/-- isinstance(e, C) -/
def rIsX (K : PySem.W.Frag) : List V → Hp → VK → Prop := fun xs H Q => ∃ (a D : Addr) (fs : List (Str × V)) (c : V) (u : Value) (b : Bool), xs = [.ref a, c] ∧ ClsV c u ∧ ExA H a D fs ∧ ExcC K D ∧ PySem.W.kitOne K (.ref D) u = some b ∧ Q (.bl b) H
theorem call_isX : CallR X (.builtin "isinstance") (rIsX X.K) := by
  intro pins s σ H xs us Q I r h
  obtain ⟨a, D, fs, c, u, b, rfl, k, ea, C, e, q⟩ := h
  obtain ⟨u1, u2, rfl, r1, r2⟩ := vals2 r
  have e2 := k.eq r2
  subst e2
  cases (show u1 = Value.ref a from r1)
  obtain ⟨ox, od, J, _⟩ := exA_inst I ea
  exact PySem.W.kia_one (kit_exc C) I.kIn J e (fun z => nomatch z) fun tk => ⟨.bl b, H, I.tok tk, rfl, q⟩
/-- e.f -/
def tFldX (K : PySem.W.Frag) (f : Str) (te : TE) : TE := fun σ H Q => te σ H fun x H1 => ∃ (a D : Addr) (fs : List (Str × V)) (v : V), x = .ref a ∧ ExA H1 a D fs ∧ XfC K D ∧ PySem.W.findIn K (.ref D) f = some none ∧ fs.lookup f = some v ∧ Q v H1
theorem pe_fldX {e : Expr} {te : TE} {pos : Pos} {n : Str} (he : PE X e te) (hb : attributeBase e n X.env (eval e X.env) = eval e X.env := by rfl) : PE X (.Attribute e n pos) (tFldX X.K n te) := by
  refine ⟨fun pins s σ H Q I h => ?_⟩
  refine attr_of hb (thn (he.run pins s σ H _ I h) fun u s1 hh => ?_)
  obtain ⟨x, H1, I1, rx, a, D, fs, v, rfl, ea, T, hno, l, q⟩ := hh
  obtain rfl : u = Value.ref a := rx
  obtain ⟨ox, od, J, hl⟩ := exA_inst I1 ea
  obtain ⟨o, u, rfl, hu, ru⟩ := hl n v l
  exact HandSPX.exc_get I1.kIn J T.ga T.gg T.exC (PySem.W.findObj_own T.hdC hno rfl hu) (handed_of ru) ⟨v, H1, I1.tok _, ru, q⟩
end
end SX

/-! Own exceptions made as values, by position and by name. -/
namespace SX
open PySem PySem.HandSPX
section
variable {M : Model} {A : Around} {E : Value → Shared → Prop} {h : Heap} {g : Array GenState} {d : Drawn} {t : Nat} {os : OsState}
variable {nm q : Str} {C N : Addr} {bs bm bmB : List Value} {hdct : Bool} {sn : List Str} {sub : List Value} {ab : Bool} {col : Option Bool} {dd : Option Addr} {k0 k1 k2 k3 k5 : Option Value} {B newId initId : String}
theorem check_new_kw (F : ExcBaseFacts B newId initId bmB) (hT : ∀ X : String, bm.contains (.type X) = bmB.contains (.type X)) {rest : List Value} {kw : List (Str × Value)} {Q : Unit → Shared → Prop}
    (hC : h.get? C = some (excClassObj nm q C N bs bm hdct sn sub ab col dd k0 k1 k2 k3 k5 newId)) (hq : Q () ⟨h, g, d, t, os⟩) : wpAny M A (checkBuiltinCall newId ⟨.ref C :: rest, kw⟩) Q E ⟨h, g, d, t, os⟩ := by
  have hcont : (Value.ref C :: bm).contains (.type B) = true := by rw [List.contains_cons, hT, F.hasB, Bool.or_true]
  have hstar := F.noStar
  simp only [checkBuiltinCall, F.newKind, F.newSplit, F.newRow]
  repeat (first | refine wpAny_loadPart_at hC ?_ | (refine wpAny_isSubtype_exc hC ?_; rw [hcont]) | refine wpAny_staticBase_exc hC ?_ | refine wpAny_madeBy_exc hC ?_ | simp only [bne_self_eq_false, Bool.false_eq_true, if_false] | wp_step)
  exact hq
end
section
variable {prog : Program} {w : World} {A : Around} {E : Value → Shared → Prop} {R : Result → Shared → Prop} {h : Heap} {g : Array GenState} {d : Drawn} {t : Nat} {os : OsState}
variable {nm q : Str} {C N : Addr} {bs bm bmB : List Value} {hdct : Bool} {sn : List Str} {sub : List Value} {ab : Bool} {col : Option Bool} {dd : Option Addr} {k0 k1 k2 k3 k5 : Option Value} {B newId initId : String}
theorem new_kw (F : ExcBaseFacts B newId initId bmB) (hT : ∀ X : String, bm.contains (.type X) = bmB.contains (.type X)) {rest : List Value} {kw : List (Str × Value)}
    (hC : h.get? C = some (excClassObj nm q C N bs bm hdct sn sub ab col dd k0 k1 k2 k3 k5 newId))
    (hq : R (.ok (.ret (.ref (h.objs.size + 1)))) ⟨(h.push { cls := .type "tuple", data := .seq rest.toArray }).push
      { cls := .ref C, data := .fields #[.ref h.objs.size, .none, .none, .none, .bool false, .none] }, g, d, t, os⟩) (hrest : rest.length ≤ sizeLine) :
    codeAny (model prog w) A (.builtin newId ⟨.ref C :: rest, kw⟩) R ⟨h, g, d, t, os⟩ := by
  have hends := F.ends
  have hcB : (Value.ref C :: bm).contains (.type B) = true := by rw [List.contains_cons, hT, F.hasB, Bool.or_true]
  have hcA : (Value.ref C :: bm).contains (.type "AttributeError") = false := by rw [List.contains_cons, hT, F.noAttr]; rfl
  have hcN : (Value.ref C :: bm).contains (.type "NameError") = false := by rw [List.contains_cons, hT, F.noName]; rfl
  refine codeAny_builtinAt F.entry ?_
  unfold Builtin.«BaseException.__new__»
  refine wpAt_bind ?_
  show wpAt _ _ _ (stack >>= _) _ _ _
  refine wpAt_bind (wpAt_stack fun p below => wpAt_of_wpAny ?_)
  wp_walk
  refine wpAt_of_wpAny ?_
  rw [F.owner]
  repeat (first | with_reducible refine wpAny_madeHere_exc F.canon hC ?_ | with_reducible refine wpAny_loadPart_at hC ?_ | (with_reducible refine wpAny_isSubtype_exc hC ?_; first | rw [hcB] | rw [hcA] | rw [hcN]) | wp_step)
  show R _ _
  rw [Heap.size_push]
  exact hq

theorem type_call_kw (F : ExcBaseFacts B newId initId bmB) (hT : ∀ X : String, bm.contains (.type X) = bmB.contains (.type X)) {rest : List Value} {kw : List (Str × Value)} {fI : Addr} {Q : Fin → Shared → Prop}
    (hC : h.get? C = some (excClassObj nm q C N bs bm hdct sn sub ab col dd k0 k1 k2 k3 k5 newId))
    (hi : W.Looks (model prog w) h (typeLookup (.ref C) "__init__") (some (.ref fI))) (hb : ∀ self, W.Looks (model prog w) h (bindSpecial (.ref fI) self) (.ref fI, [self])) (hrest : rest.length ≤ sizeLine)
    (hq : codeAny (model prog w) A (.call (.ref fI) ⟨.ref (h.objs.size + 1) :: rest, kw⟩)
      (fun r s' => match r with | .ok (.ret v) => v = .none ∧ Q (.done (.ret (.ref (h.objs.size + 1)))) s' | .ok _ => False | .error e => E e s')
      ⟨(h.push (W.kdv_tup rest)).push (excO C h.objs.size), g, d, t, os⟩) :
    wpAny (model prog w) A (Builtin.«type.__call__» ⟨.ref C :: rest, kw⟩) Q E ⟨h, g, d, t, os⟩ := by
  repeat (first | with_reducible refine wpAny_loadPart_at hC ?_ | with_reducible refine wpAny_madeBy_exc hC ?_ | wp_step)
  refine codeAny_call_builtin_code (Code.quiet_builtin _ F.quiet) (check_new_kw F hT hC ?_)
  refine new_kw F hT hC ?_ hrest
  show wpAny _ _ _ _ _ _
  have k : ∀ b o, h.get? b = some o → ((h.push (W.kdv_tup rest)).push (excO C h.objs.size)).get? b = some o := fun b o e => Heap.get?_push_of_some _ (Heap.get?_push_of_some _ e)
  have hC₁ := k _ _ hC
  have hget : ((h.push (W.kdv_tup rest)).push (excO C h.objs.size)).get? (h.objs.size + 1) = some (excO C h.objs.size) := by heap_get
  have hcC : (Value.ref C :: bm).contains (.ref C) = true := by simp
  have i1 := hi.keeps k
  have b1 := (hb (.ref (h.objs.size + 1))).keeps k
  unfold isInstance
  repeat (first | with_reducible refine wpAny_loadPart_at hget ?_ | (with_reducible refine wpAny_isSubtype_exc hC₁ ?_; rw [hcC]) | wp_step)
  show wpAny _ _ (typeLookup (.ref C) _) _ _ _
  refine i1.at ?_
  refine wpAny_holding (wpAny_bind (b1.at ?_))
  refine wpAny_bind (wpAny_call (codeAny_mono hq fun r s' z => ?_))
  rcases r with e | (v | _ | _ | _) <;> first | exact z | exact z.elim | skip
  obtain ⟨rfl, z⟩ := z
  first
    | exact wpAny_pure (wpAny_pure z)
    | (wp_walk; exact z)
/-- a call of the class with keywords, too -/
theorem call_kw (F : ExcBaseFacts B newId initId bmB) (hT : ∀ X : String, bm.contains (.type X) = bmB.contains (.type X)) {rest : List Value} {kw : List (Str × Value)} {fI : Addr}
    (hC : h.get? C = some (excClassObj nm q C N bs bm hdct sn sub ab col dd k0 k1 k2 k3 k5 newId))
    (hi : W.Looks (model prog w) h (typeLookup (.ref C) "__init__") (some (.ref fI))) (hb : ∀ self, W.Looks (model prog w) h (bindSpecial (.ref fI) self) (.ref fI, [self])) (hrest : rest.length ≤ sizeLine)
    (hq : codeAny (model prog w) (A.under (.builtin "type.__call__" ⟨.ref C :: rest, kw⟩)) (.call (.ref fI) ⟨.ref (h.objs.size + 1) :: rest, kw⟩) (W.InitBack (h.objs.size + 1) R)
      ⟨(h.push (W.kdv_tup rest)).push (excO C h.objs.size), g, d, t, os⟩) :
    codeAny (model prog w) A (.call (.ref C) ⟨rest, kw⟩) R ⟨h, g, d, t, os⟩ := by
  have f1 := tc_lookup
  have f2 := tc_bind (.ref C)
  have hTy : (⟨h, g, d, t, os⟩ : Shared).TypeIs (.ref C) "type" := ⟨_, hC, rfl⟩
  refine codeAny_of_tree ?_
  show wpAny _ _ (callAny (.ref C) _) _ _ _
  repeat (any_goals (first | assumption | with_reducible refine wpAny_loadPart_at hC ?_ | wp_step))
  refine ⟨rfl, ?_⟩
  refine codeAny_call_builtin_at (Code.quiet_builtin _ (by decide +kernel)) entry_typeCall (wpAny_check_type_call_sub hC (type_call_kw F hT hC hi hb hrest ?_))
  refine codeAny_mono hq fun r s' z => ?_
  rcases r with e | (v | _ | _ | _) <;> exact z
end
end SX

namespace SX
open PySem PySem.Spec PySem.W PySem.Calls PyProof.Rows L2 SF
/-- what the written part says of an own class of exceptions -/
structure ExK (K : Frag) (C : Addr) : Prop where
  b : ∃ (B newId initId : String) (bmB : List Value), ExcBaseFacts B newId initId bmB ∧ StoreFacts B bmB "object.__setattr__" "object" ∧ excInitIn K C bmB newId = true ∧ excOver K C bmB = true
  hd : hasDictIn K C = true
  sa : findIn K (.ref C) "__setattr__" = some (some (.builtin "object.__setattr__"))
  kC : keepIn K (.ref C) = true
section
variable {X : Cx} {pins : List (Addr × Obj)} {σ : L2.St} {H : Hp} {s : Shared} {a C dx : Addr} {f : Str} {y : V} {u : Value} {fs : List (Str × V)} {Q : Unit → Shared → Prop} {E : Value → Shared → Prop} {A : Around}
/-- self.f = y, the first one: the object's own dict is made -/
theorem set_new (T : ExK X.K C) (I : Inv X pins σ H s) (e : H a = some (exo a C none)) (hno : NoAttr X.K C f) (ry : RelV y u)
    (h : ∀ dx s', H dx = none → dx ≠ a → Inv X pins σ (upd (upd H dx (exd dx [(f, y)])) a (exo a C (some dx))) s' → Q () s') : wpAny (model X.prog X.w) A (setAttr (.ref a) f u) Q E s := by
  obtain ⟨B, newId, initId, bmB, _, SF, _, ho⟩ := T.b
  obtain ⟨t1, hx⟩ := exo_at I.hok e
  obtain ⟨cd, hc, hd'⟩ := any_some T.hd
  obtain ⟨hp, g, d, t, os⟩ := s
  refine set_plain I.kIn (ox := { cls := .ref C, dict := none, data := .fields #[.ref t1, .none, .none, .none, .bool false, .none] }) (od := none) ⟨hx, rfl, rfl, trivial⟩ T.sa ?_
  refine osa_openX (s := ⟨hp, g, d, t + 1, os⟩) (od := none) SF I.kIn ⟨hx, rfl, rfl, trivial⟩ ho hno.taker fun b => ?_
  have hxs : a ≠ hp.objs.size := Nat.ne_of_lt (Heap.lt_size hx)
  have hnd : H hp.objs.size = none := I.hok.fresh (Nat.le_refl _)
  refine wpAny_bind (wpAny_pure (wpAny_bind (instanceDict_exc (s := ⟨hp, g, d, t + 1, os⟩) hx (looks_clsIn I.kIn hc) hd' ?_)))
  show wpAny _ _ (Builtin.ObjectAttr.storeInDict hp.objs.size (.str f t) f u) _ _ _
  refine HandSPX.store_in_new ⟨_, #[], _, (Heap.get?_update_ne _ _ _ _ hxs.symm).trans (Heap.get?_push_at rfl rfl), rfl, fun e he => absurd he (by simp), fun _ => rfl⟩ fun h' tk' hn' hs => ?_
  have hx1 : (hp.push { cls := .type "dict", data := .dict #[] }).get? a = some { cls := .ref C, data := .fields #[.ref t1, .none, .none, .none, .bool false, .none] } := Heap.get?_push_of_some _ hx
  have k : ∀ b o, b ≠ a → hp.get? b = some o → h'.get? b = some o := fun b o hb q => (hs.2 b (Nat.ne_of_lt (Heap.lt_size q))).trans ((Heap.get?_update_ne _ _ _ _ hb).trans (Heap.get?_push_of_some _ q))
  have hx2 : h'.get? a = some { cls := .ref C, dict := some hp.objs.size, data := .fields #[.ref t1, .none, .none, .none, .bool false, .none] } := (hs.2 a hxs).trans (Heap.get?_update_self _ hx1 rfl)
  have nd : ∀ {b : Addr} {o : Obj}, hp.get? b = some o → b ≠ hp.objs.size := fun {b o} q => Nat.ne_of_lt (Heap.lt_size q)
  have na : ∀ {b : Addr}, H b = none → b ≠ a := fun {b} n z => by
    rw [z, e] at n
    cases n
  have U : Un X.fs [] H (upd (upd H hp.objs.size (exd hp.objs.size [(f, y)])) a (exo a C (some hp.objs.size))) hp h' := {
    keep := fun b o q n _ _ => k b o (na n) q
    slot := fun b o q n _ _ => ⟨o.slots, k b o (na n) q⟩
    free := fun b o q n _ => by rw [upd_ne (na n), upd_ne (nd q)]; exact n
    there := fun b o q _ => by
      by_cases hb : b = a
      · exact ⟨_, by rw [hb]; exact hx2⟩
      · exact ⟨o, k b o hb q⟩
    tups := fun b xs q => by rw [upd_ne (at_ne e q exo_tup), upd_ne (ne_of_none q hnd)]; exact q
    frzs := fun b o v q => by rw [upd_ne (at_ne e q exo_frz), upd_ne (ne_of_none q hnd)]; exact q
    tbls := fun b ps q => ⟨#[], by rw [upd_ne (at_ne e q exo_tbl), upd_ne (ne_of_none q hnd), q]; simp⟩ }
  refine h hp.objs.size _ hnd hxs.symm (I.un (t' := tk') U fun b o q => ?_)
  by_cases hb : b = a
  · subst hb
    rw [upd_same] at q
    cases q
    exact exo_ok hx2
  · rw [upd_ne hb] at q
    by_cases hd : b = hp.objs.size
    · subst hd
      rw [upd_same] at q
      cases q
      exact exd_ok hn' (relO_put (fs := []) ry fun g => True.intro)
    · rw [upd_ne hd] at q
      exact (I.hok b o q).stay (fun c v hc z => k c v (by
          rcases hc with hc | hc
          · rw [hc]
            exact hb
          · exact at_ne e hc exo_own) z)
        (fun c hc => by rw [upd_ne (at_ne e hc exo_own), upd_ne (ne_of_none hc hnd)]; exact hc) (fun c xs hc => by rw [upd_ne (at_ne e hc exo_tup), upd_ne (ne_of_none hc hnd)]; exact hc)
/-- self.f = y, a further one -/
theorem set_more (T : ExK X.K C) (I : Inv X pins σ H s) (e : H a = some (exo a C (some dx))) (ed : H dx = some (exd dx fs)) (hl : fs.length ≤ 900) (hno : NoAttr X.K C f) (ry : RelV y u)
    (h : ∀ s', Inv X pins σ (upd H dx (exd dx ((f, y) :: fs))) s' → Q () s') : wpAny (model X.prog X.w) A (setAttr (.ref a) f u) Q E s := by
  obtain ⟨B, newId, initId, bmB, _, SF, _, ho⟩ := T.b
  obtain ⟨t1, hx⟩ := exo_at I.hok e
  obtain ⟨mA, hns, rel⟩ := exd_at I.hok ed
  obtain ⟨cd, hc, hd'⟩ := any_some T.hd
  have hw := within_of rel
  obtain ⟨hp, g, d, t, os⟩ := s
  obtain ⟨oD, _, _, hoD, _, _⟩ := hns.count hw
  refine set_plain I.kIn (ox := { cls := .ref C, dict := some dx, data := .fields #[.ref t1, .none, .none, .none, .bool false, .none] }) (od := some oD) ⟨hx, rfl, rfl, hoD⟩ T.sa ?_
  refine osa_openX (s := ⟨hp, g, d, t + 1, os⟩) (od := some oD) SF I.kIn ⟨hx, rfl, rfl, hoD⟩ ho hno.taker fun b => ?_
  refine wpAny_bind (wpAny_pure (wpAny_bind (wpAny_bind (wpAny_loadPart hx (wpAny_bind ((looks_clsIn I.kIn hc).at ?_))))))
  rw [hd']
  refine wpAny_pure (a := some dx) ?_
  show wpAny _ _ (Builtin.ObjectAttr.storeInDict dx (.str f t) f u) _ _ _
  refine PySem.OEX.store_in_old hns hw (by rw [List.length_map]; omega) fun h' tk' hn hs => ?_
  have hd : ∃ o, h'.get? dx = some o := by
    obtain ⟨o, _, _, e', _⟩ := hn
    exact ⟨o, e'⟩
  exact h _ (I.write (t' := tk') (x := dx) (e := dx) (o := exd dx ((f, y) :: fs)) (by rw [ed]; exact True.intro) (.inl rfl) (fun b o hb q => (hs.2 b hb).trans q) hd (exd_ok hn (relO_put ry rel)))
end
/-- self.f = e of such an exception -/
def tSetX (K : PySem.W.Frag) (f : Str) (to te : TE) : TS := fun D σ H => te σ H fun y H1 => to σ H1 fun x H2 => ∃ a C : Addr, x = .ref a ∧ ExK K C ∧ NoAttr K C f ∧
  ((H2 a = some (exo a C none) ∧ ∀ dx, H2 dx = none → dx ≠ a → D.nx σ (upd (upd H2 dx (exd dx [(f, y)])) a (exo a C (some dx)))) ∨
    ∃ (dx : Addr) (fs : List (Str × V)), H2 a = some (exo a C (some dx)) ∧ H2 dx = some (exd dx fs) ∧ fs.length ≤ 900 ∧ D.nx σ (upd H2 dx (exd dx ((f, y) :: fs))))
/-- C(e, ..), the instance a value -/
def tMkX (C : Addr) (n m : Nat) (sp : Sp) (gV : List V → List V → List V) (t tk : TA) : TE := fun σ H Q => t σ H fun vs H1 => tk σ H1 fun zs H2 => vs.length = n ∧ zs.length = m ∧ n ≤ 1000 ∧
  ∀ a, H2 a = none → sp (gV (.ref a :: vs) zs) (upd H2 a (exo a C none)) (fun v H3 => v = .non ∧ Q (.ref a) H3) (fun _ _ _ => False)
section
variable {X : Cx} {CX : CXT} {k n : Nat} {fI C : Addr} {fd : FuncData} {ps ks : List Str} {sp : Sp} {x f : Str} {p p' pos : Pos} {e o : Expr} {es : List Expr} {kws : List Keyword} {to te : TE} {t tk : TA} {g : List Value → List Value → List Value} {gV : List V → List V → List V}
theorem ps_setX (ho : PE X o to) (he : PE X e te) (hs : swapsWith e (some (.Attribute o f p')) pos.line X.env = pure false := by rfl) : PS X (.Assign [.Attribute o f p'] e pos) (tSetX X.K f to te) := by
  refine ⟨fun pins s σ H D I h => ?_⟩
  refine plainObj_wpAny_Assign_Attribute (thn (he.run pins s σ H _ I h) fun v s1 ⟨y, H1, I1, r1, q1⟩ => thn (ho.run pins s1 σ H1 _ I1 q1) fun u s2 ⟨x, H2, I2, r2, a, C, ex, T, hno, q⟩ => ?_) hs
  subst ex
  obtain rfl : u = Value.ref a := r2
  rcases q with ⟨ea, q⟩ | ⟨dx, fs, ea, ed, hl, q⟩
  · exact set_new T I2 ea hno r1 fun dx s' n ne J => ⟨σ, _, J, q dx n ne⟩
  · exact set_more T I2 ea ed hl hno r1 fun s' J => ⟨σ, _, J, q⟩
theorem run_mkX {pins : List (Addr × Obj)} {σ : L2.St} {H : Hp} {s : Shared} {Q : VK} {us ws : List Value} {vs zs : List V} (T : ExK X.K C) (iC : PySem.W.findIn X.K (.ref C) "__init__" = some (some (.ref fI))) (tI : PySem.W.typeIn X.K (.ref fI) = some (.type "function"))
    (F : FnOk X.prog X.w X.K X.mg X.base CX k fI fd ps sp) (hr : Room (k + 1) X.A) (hb : KBn X.K fd ps (n + 1) ks g gV) (hx : Passes CX X (fun _ _ _ => False)) (I : Inv X pins σ H s) (r : Vals vs us) (rz : Vals zs ws) (l1 : vs.length = n) (l2 : zs.length = ks.length) (l3 : n ≤ 1000)
    (h : ∀ a, H a = none → sp (gV (.ref a :: vs) zs) (upd H a (exo a C none)) (fun v H3 => v = .non ∧ Q (.ref a) H3) (fun _ _ _ => False)) :
    wpAny (model X.prog X.w) X.A (call (.ref C) us (ks.zip ws)) (EP X pins σ Q) X.xe s := by
  obtain ⟨B, newId, initId, bmB, FB, _, hq, _⟩ := T.b
  obtain ⟨hp, gg, dr, tk, os⟩ := s
  obtain ⟨nm, N', qn, bs, bm, hdct, sn, sub, ab, col, dd, k0, k1, k2, k3, k5, hC, hT⟩ := excInit_of I.kIn hq
  have hsz : hp.objs.size ≤ hp.objs.size + 1 := Nat.le_succ _
  have hn : H (hp.objs.size + 1) = none := I.hok.fresh hsz
  have hq := h (hp.objs.size + 1) hn
  have kk : ∀ b o, hp.get? b = some o → ((hp.push (PySem.W.kdv_tup us)).push (PySem.HandSPX.excO C hp.objs.size)).get? b = some o := fun b o e => Heap.get?_push_of_some _ (Heap.get?_push_of_some _ e)
  have hget : ((hp.push (PySem.W.kdv_tup us)).push (PySem.HandSPX.excO C hp.objs.size)).get? (hp.objs.size + 1) = some (PySem.HandSPX.excO C hp.objs.size) := by heap_get
  have I2 : Inv X pins σ (upd H (hp.objs.size + 1) (exo (hp.objs.size + 1) C none)) ⟨(hp.push (PySem.W.kdv_tup us)).push (PySem.HandSPX.excO C hp.objs.size), gg, dr, tk, os⟩ :=
    I.laid (t' := tk) (a := hp.objs.size + 1) (o := exo (hp.objs.size + 1) C none) (h' := (hp.push (PySem.W.kdv_tup us)).push (PySem.HandSPX.excO C hp.objs.size)) kk hsz (exo_ok hget)
  have r1 : Vals (V.ref (hp.objs.size + 1) :: vs) (Value.ref (hp.objs.size + 1) :: us) := .cons rfl r
  have r2 := hb.rel r1 rz
  have n1 : (Value.ref (hp.objs.size + 1) :: us).length = n + 1 := by
    rw [List.length_cons, ← r.length, l1]
  have hus : us.length ≤ sizeLine := by
    rw [← r.length, sizeLine_eq]
    omega
  refine wpAny_call (call_kw FB hT hC (PySem.W.looks_findIn I.kIn iC) (fun self => PySem.W.bind_fn I.kIn self tI) hus
    (codeAny_mono (F.run _ X.stack _ _ ⟨Value.ref (hp.objs.size + 1) :: us, ks.zip ws⟩ (g (Value.ref (hp.objs.size + 1) :: us) ws) _ _ (fun _ _ _ => False) (hr.make C us (ks.zip ws)) (I2.env0.make C us (ks.zip ws))
      (hb.to _ (Value.ref (hp.objs.size + 1) :: us) ws I2.kIn n1 (rz.length.symm.trans l2)) r2 hq) fun r s' hq' => ?_))
  cases r with
  | error er => exact hx pins σ _ _ er s' I2 hq'
  | ok fl =>
    cases fl with
    | ret u =>
      obtain ⟨v, H', I3, rv, ev, q3⟩ := I2.after hq'
      subst ev
      exact ⟨rv, ⟨V.ref (hp.objs.size + 1), H', I3, rfl, q3⟩⟩
    | next => exact False.elim hq'
    | brk => exact False.elim hq'
    | cont => exact False.elim hq'
/-- a def without defaults, called by position alone -/
theorem kbn_of (hb : Binds X.K fd ps []) (hl : ps.length = n) : KBn X.K fd ps n [] (fun us _ => us) (fun vs _ => vs) :=
  ⟨fun s us ws KX h1 h2 => by
    have e : ws = [] := List.length_eq_zero_iff.mp h2
    subst e
    have z := hb s us KX (by rw [List.append_nil, h1, hl])
    rw [List.append_nil] at z
    exact z, fun r _ => r⟩
/-- C(e, ..) -/
theorem pe_mkX (T : ExK X.K C) (iC : PySem.W.findIn X.K (.ref C) "__init__" = some (some (.ref fI))) (tI : PySem.W.typeIn X.K (.ref fI) = some (.type "function"))
    (F : FnOk X.prog X.w X.K X.mg X.base CX k fI fd ps sp) (hr : Room (k + 1) X.A) (hg : Gl X x) (hm : X.mg x = some (.ref C)) (hb : Binds X.K fd ps []) (hl : ps.length = n + 1) (hx : Passes CX X (fun _ _ _ => False))
    (ha : PA X (e :: es) t) (hdb : (x == ("__debug__" : Str)) = false := by decide) (he : starEach (e :: es) X.env = (false, eval e X.env) :: starEach es X.env := by rfl) (hpl : (backTo pos (starEach es X.env)).any (·.1) = false := by rfl) :
    PE X (.Call (.Name x p) (e :: es) [] pos) (tMkX C n 0 sp (fun vs _ => vs) t tNil) := by
  refine ⟨fun pins s σ H Q I h => ?_⟩
  refine wpAny_Call_Name_kw (ld_glob I hg hm ?_ hdb)
  refine PySem.W.callWith_K (h₀ := X.base) I.ok.mod.kin T.kC (thn (ha.run pos pins s σ H _ I h) fun us s1 ⟨vs, H1, I1, r, q⟩ => ⟨I1.kIn, ?_⟩) he hpl
  obtain ⟨q1, q2, q3, q4⟩ := q
  exact run_mkX (ks := []) (ws := []) T iC tI F hr (kbn_of hb hl) hx I1 r .nil q1 rfl q3 q4
/-- C(f = e, ..) -/
theorem pe_mkXK (T : ExK X.K C) (iC : PySem.W.findIn X.K (.ref C) "__init__" = some (some (.ref fI))) (tI : PySem.W.typeIn X.K (.ref fI) = some (.type "function"))
    (F : FnOk X.prog X.w X.K X.mg X.base CX k fI fd ps sp) (hr : Room (k + 1) X.A) (hg : Gl X x) (hm : X.mg x = some (.ref C)) (hb : KBn X.K fd ps 1 ks g gV) (hx : Passes CX X (fun _ _ _ => False)) (hkw : PK X kws tk)
    (hall : (backToKw pos (keywordEach kws X.env)).all (·.1.isSome) = true := by rfl) (hks : (backToKw pos (keywordEach kws X.env)).filterMap (·.1) = ks := by rfl) (hdb : (x == ("__debug__" : Str)) = false := by decide)
    (hpl : ((backTo pos (starEach [] X.env)).any (·.1) || (backToKw pos (keywordEach kws X.env)).any (·.1.isNone)) = false := by rfl) :
    PE X (.Call (.Name x p) [] kws pos) (tMkX C 0 ks.length sp gV tNil tk) := by
  refine ⟨fun pins s σ H Q I h => ?_⟩
  refine wpAny_Call_Name_kw (ld_glob I hg hm ?_ hdb)
  refine PySem.W.callWith_KW0 (h₀ := X.base) I.ok.mod.kin T.kC hall ?_ hpl
  refine thn (hkw.run pos pins s σ H _ I h) fun ws s2 ⟨zs, H2, I2, rz, l1, l2, l3, q2⟩ => ⟨I2.kIn, ?_⟩
  rw [hks]
  exact run_mkX (us := []) (vs := []) T iC tI F hr hb hx I2 .nil rz rfl l2 (by decide) q2
/-- C(), a class without own __init__ -/
theorem pe_mkX0 {bmB : List Value} {B newId initId : String} (F : ExcBaseFacts B newId initId bmB) (q : PySem.W.excIn X.K C bmB newId = true) (hm : X.mg x = some (.ref C)) (kC : PySem.W.keepIn X.K (.ref C) = true) (hg : Gl X x) (hdb : (x == ("__debug__" : Str)) = false := by decide) :
    PE X (.Call (.Name x p) [] [] pos) (fun σ H Q => ∀ a, H a = none → Q (.ref a) (upd H a (ExO (.ref C) a))) := by
  refine ⟨fun pins s σ H Q I h => ?_⟩
  refine wpAny_Call_Name_kw (ld_glob I hg hm ?_ hdb)
  refine PySem.W.callWith_K0 I.kIn kC ?_
  show wpAny _ _ (call (.ref C) []) _ _ _
  obtain ⟨bm, N, nm, qn, bs, hdct, sn, sub, ab, col, dd, k0, k1, k2, k3, k5, mN, hC, hN, hni, T⟩ := exc_obj I.kIn q
  refine wpAny_call_exc_subT F T hC hN hni (fun h' a hm => ?_) (by show 0 ≤ sizeLine; exact Nat.zero_le _)
  have hn : H a = none := I.hok.gone hm.new
  obtain ⟨t, ht, _, _⟩ := hm.there
  exact ⟨.ref a, upd H a (ExO (.ref C) a), I.laidN hm.keeps hm.new hn (exO_ok ht ⟨rfl, rfl⟩ rfl rfl rfl (show 4 < 6 by decide)), rfl, h a hn⟩
end
end SX

/-! list.count of flat things; repr of things of any depth. -/
namespace SX
open PySem PySem.Spec PyProof.Rows PyProof.V L2 SF
section
variable {X : Cx}
theorem count_eqU {y : V} : ∀ {xs : List V} {us : List Value}, Vals xs us → xs.all flatV = true → us.countP (eqU y) = xs.countP (fun z => eqV z y)
  | _, _, .nil, _ => rfl
  | x :: xs, u :: us, .cons r t, f => by
    rw [List.all_cons, Bool.and_eq_true] at f
    rw [List.countP_cons, List.countP_cons, count_eqU t f.2, eqU_of r f.1]
/-- xs.count(y), flat -/
def rCountF (K : PySem.W.Frag) : V → List V → Hp → VK → Prop := fun x xs H Q => ∃ (a : Addr) (ys : List V) (y : V), x = .ref a ∧ xs = [y] ∧ SqL K H a ys ∧ flatV y = true ∧ ys.all flatV = true ∧ Q (.int (ys.countP (fun z => eqV z y) : Nat)) H
theorem mt_countF : MtR X "list.count" (rCountF X.K) := by
  intro pins s σ H x xs v us Q I rx rxs h
  obtain ⟨a, ys, y, rfl, rfl, hs, fy, fys, q⟩ := h
  cases rx
  obtain ⟨u, rfl, ru⟩ := rxs.one
  obtain ⟨its, rv, ⟨⟨cls, dd, data, sl⟩, n, ho, hc, hdn, hd⟩, hlen⟩ := I.list hs
  simp only at hc hd
  subst hc hd
  refine call_meets PySem.F.slot_list_count ⟨_, ho, rfl⟩ PySem.F.entry_list_count (PySem.F.args_list_count_2 _ _)
    (SeqAt.list_countAt a its.toArray n dd sl u (eqU y)) ⟨ho, fun u' hu' => mem_eqAt ru fy rv fys u' (by simpa using hu'), ?_⟩
  have ec : its.toArray.toList.countP (eqU y) = ys.countP (fun z => eqV z y) := count_eqU rv fys
  refine ⟨.int (ys.countP (fun z => eqV z y) : Nat), H, I.tok _, ⟨s.toks, ?_⟩, q⟩
  show Value.int ((its.toArray.toList.countP (eqU y) : Nat) : Int) s.toks = _
  rw [ec]
/-- a list's display; its place is told not to be the table of modules -/
def tLstS (t : TA) : TE := fun σ H Q => t σ H fun xs H1 => xs.length ≤ sizeLine ∧ ∀ p, H1 p = none → p ≠ sysModules → Q (.ref p) (upd H1 p (.lst xs))
theorem pe_lstS {es : List Expr} {pos : Pos} {t : TA} (h : PA X es t) : PE X (.List es pos) (tLstS t) := by
  refine ⟨fun pins s σ H Q I hq => ?_⟩
  refine wpAny_List_spliced (thn (h.run pos pins s σ H _ I hq) fun us s1 ⟨xs, H1, I1, r, z, q⟩ => ⟨by rw [← r.length]; exact z, ?_⟩)
  have hf : H1 s1.heap.objs.size = none := I1.hok.fresh (Nat.le_refl _)
  refine ⟨.ref s1.heap.objs.size, upd H1 s1.heap.objs.size (.lst xs), I1.laid (t' := s1.toks) (fun b u e => Heap.get?_push_of_some _ e) (Nat.le_refl _) ?_, rfl, q _ hf (Nat.ne_of_gt I1.big)⟩
  exact ⟨z, us, 0, r, Heap.get?_push_size _ rfl⟩
end
/-! ### repr of things of any depth -/
def keyD : Key → PyData
  | .inl i => .int i
  | .inr x => .str x
mutual
/-- what stands there, lists and dicts apart from the table of modules -/
inductive Sd (H : Hp) : V → PyData → Prop
  | non : Sd H .non .none
  | bl (b : Bool) : Sd H (.bl b) (.bool b)
  | int (i : Int) : Sd H (.int i) (.int i)
  | str (x : Str) : Sd H (.str x) (.str x)
  | lst {a : Addr} {xs : List V} {ds : List PyData} : a ≠ sysModules → H a = some (.lst xs) → SdAll H xs ds → Sd H (.ref a) (.list ds)
  | tup {a : Addr} {xs : List V} {ds : List PyData} : H a = some (.tup xs) → SdAll H xs ds → Sd H (.ref a) (.tuple ds)
  | dct {a : Addr} {kvs : List (Key × V)} {D : List (PyData × PyData)} : H a = some (.dK kvs) → SdP H kvs D → Sd H (.ref a) (.dict D)
inductive SdAll (H : Hp) : List V → List PyData → Prop
  | nil : SdAll H [] []
  | cons {v : V} {vs : List V} {d : PyData} {ds : List PyData} : Sd H v d → SdAll H vs ds → SdAll H (v :: vs) (d :: ds)
inductive SdP (H : Hp) : List (Key × V) → List (PyData × PyData) → Prop
  | nil : SdP H [] []
  | cons {k : Key} {v : V} {kvs : List (Key × V)} {d : PyData} {D : List (PyData × PyData)} : Sd H v d → SdP H kvs D → SdP H ((k, v) :: kvs) ((keyD k, d) :: D)
end
mutual
theorem Sd.same {H H' : Hp} (s : ∀ b o, H b = some o → H' b = some o) : ∀ {v : V} {d : PyData}, Sd H v d → Sd H' v d
  | _, _, .non => .non
  | _, _, .bl b => .bl b
  | _, _, .int i => .int i
  | _, _, .str x => .str x
  | _, _, .lst n e h => .lst n (s _ _ e) (SdAll.same s h)
  | _, _, .tup e h => .tup (s _ _ e) (SdAll.same s h)
  | _, _, .dct e h => .dct (s _ _ e) (SdP.same s h)
theorem SdAll.same {H H' : Hp} (s : ∀ b o, H b = some o → H' b = some o) : ∀ {vs : List V} {ds : List PyData}, SdAll H vs ds → SdAll H' vs ds
  | _, _, .nil => .nil
  | _, _, .cons a b => .cons (Sd.same s a) (SdAll.same s b)
theorem SdP.same {H H' : Hp} (s : ∀ b o, H b = some o → H' b = some o) : ∀ {vs : List (Key × V)} {ds : List (PyData × PyData)}, SdP H vs ds → SdP H' vs ds
  | _, _, .nil => .nil
  | _, _, .cons a b => .cons (Sd.same s a) (SdP.same s b)
end
theorem keyReads {P : Program} {w : World} {h : Heap} (k : Key) (key : Value) (e : (mixKind P w).is k key = true) : Reads h key (keyD k) [] := by
  rcases keyIs_shape (show keyIs k key = true from e) with ⟨i, t, rfl, rfl⟩ | ⟨x, t, rfl, rfl⟩
  · exact .int i t
  · exact .str x t
section
variable {P : Program} {w : World} {H : Hp} {h : Heap}
mutual
theorem Sd.reads (ok : HOk P w H h) : ∀ {v : V} {d : PyData} {u : Value}, Sd H v d → RelV v u → ∃ as, Reads h u d as ∧ sysModules ∉ as
  | _, _, _, .non, r => by cases (show _ = Value.none from r); exact ⟨_, .none, by simp⟩
  | _, _, _, .bl b, r => by cases (show _ = Value.bool b from r); exact ⟨_, .bool b, by simp⟩
  | _, _, u, .int i, r => by obtain ⟨t, rfl⟩ := (show ∃ t, u = Value.int i t from r); exact ⟨_, .int i t, by simp⟩
  | _, _, u, .str x, r => by obtain ⟨t, rfl⟩ := (show ∃ t, u = Value.str x t from r); exact ⟨_, .str x t, by simp⟩
  | _, _, u, .lst (a := a) (xs := xs) n e q, r => by
    cases (show u = Value.ref a from r)
    obtain ⟨_, its, m, rv, e1⟩ := (show ObjOk P w H h a (.lst xs) from ok a _ e)
    obtain ⟨as, b, z⟩ := SdAll.reads ok q rv
    exact ⟨_, .list e1 rfl rfl (by simpa using b), by simp [Ne.symm n, z]⟩
  | _, _, u, .tup (a := a) (xs := xs) e q, r => by
    cases (show u = Value.ref a from r)
    obtain ⟨_, its, rv, o, e1, e2, m, e3⟩ := (show ObjOk P w H h a (.tup xs) from ok a _ e)
    obtain ⟨as, b, z⟩ := SdAll.reads ok q rv
    exact ⟨_, .tuple e1 e2 e3 (by simpa using b), z⟩
  | _, _, u, .dct (a := a) (kvs := kvs) e q, r => by
    cases (show u = Value.ref a from r)
    obtain ⟨_, hm, vs, rv, e1⟩ := (show ObjOk P w H h a (.dK kvs) from ok a _ e)
    obtain ⟨bs, b, z⟩ := SdP.reads ok q rv
    have na : sysModules ≠ a := fun y => by rw [y] at hm; simp at hm
    exact ⟨_, reads_dictOf (keyReads (P := P) (w := w)) e1 b, by simp [na, z]⟩
theorem SdAll.reads (ok : HOk P w H h) : ∀ {vs : List V} {ds : List PyData} {us : List Value}, SdAll H vs ds → Vals vs us → ∃ as, ReadsAll h us ds as ∧ sysModules ∉ as
  | _, _, _, .nil, .nil => ⟨_, .nil, by simp⟩
  | _, _, _, .cons a b, .cons r t => by
    obtain ⟨as, h1, z1⟩ := Sd.reads ok a r
    obtain ⟨bs, h2, z2⟩ := SdAll.reads ok b t
    exact ⟨_, .cons h1 h2, by simp [z1, z2]⟩
theorem SdP.reads (ok : HOk P w H h) : ∀ {kvs : List (Key × V)} {D : List (PyData × PyData)} {vs : List (Key × Value)}, SdP H kvs D → KV kvs vs → ∃ bs, PairsRead h keyD vs D bs ∧ sysModules ∉ bs
  | _, _, _, .nil, .nil => ⟨_, .nil, by simp⟩
  | (k, v) :: _, _, (k', u) :: _, .cons a b, .cons r t => by
    obtain ⟨rk, rv⟩ := r
    dsimp only at rk rv
    subst rk
    obtain ⟨as, h1, z1⟩ := Sd.reads ok a rv
    obtain ⟨bs, h2, z2⟩ := SdP.reads ok b t
    exact ⟨_, .cons h1 h2, by simp [z1, z2]⟩
end
end
section
variable {X : Cx}
/-- repr of a list, a tuple or a dict -/
def rReprS : List V → Hp → VK → Prop := fun xs H Q => ∃ (a : Addr) (d : PyData), xs = [V.ref a] ∧ Sd H (.ref a) d ∧ d.showable = true ∧ d.depth ≤ 8 ∧ d.shown.length ≤ sizeLine ∧ Q (.str d.shown) H
theorem call_reprS {k : Nat} (hg : X.A.guards = some []) (hr : Room k X.A) : CallR X (.builtin "repr") rReprS := by
  intro pins s σ H xs us Q I r h
  obtain ⟨a, d, rfl, hd, h1, h2, h3, q⟩ := h
  obtain ⟨u, rfl, ru⟩ := r.one
  cases (show u = Value.ref a from ru)
  obtain ⟨as, R, hm⟩ := Sd.reads I.hok hd (u := .ref a) rfl
  refine repr_of_reads' R h1 (fun _ => hm) hg (by have := hr.units; omega) (fun _ _ e => e) (fun h' u tk hk => ?_) h3
  exact ⟨.str _, H, I.kept hk, ⟨u, rfl⟩, q⟩
end
end SX

/-! The error in hand: its class, its fields. -/
namespace SFT
open PySem PySem.Spec PyProof.Rows L2 SF L2H SX
/-- what the error's dict holds -/
def EdOk (H : Hp) (d : Option Addr) (fs : List (Str × V)) : Prop := (d = none ∧ fs = []) ∨ ∃ dd, d = some dd ∧ H dd = some (.xd fs)
theorem EdOk.same {H H' : Hp} {d : Option Addr} {fs : List (Str × V)} (h : EdOk H d fs) (s : ∀ b o, H b = some o → H' b = some o) : EdOk H' d fs := by
  rcases h with h | ⟨dd, e, h⟩
  · exact .inl h
  · exact .inr ⟨dd, e, s _ _ h⟩
section
variable {X : Cx} {a D : Addr} {oe : Obj} {d : Option Addr} {cls : Value}
theorem ed_inst {pins : List (Addr × Obj)} {σ : L2.St} {H : Hp} {s : Shared} {fs : List (Str × V)} (I : Inv X pins σ H s) (hz : Zc (.ref D) d oe) (hf : ∃ vs, oe.data = .fields vs) (hp : (a, oe) ∈ X.pn) (h : EdOk H d fs) :
    ∃ od : Option Obj, PySem.W.InstAt s.heap a oe D od ∧ ∀ f v, fs.lookup f = some v → ∃ o u, od = some o ∧ PySem.W.lookIn f o = some (some u) ∧ RelV v u := by
  obtain ⟨hget, _⟩ := I.pin (a, oe) (List.mem_append.mpr (.inl hp))
  obtain ⟨vs, hv⟩ := hf
  rcases h with ⟨rfl, rfl⟩ | ⟨dd, rfl, h⟩
  · refine ⟨none, ⟨hget, hz.1, by unfold PySem.W.notCls; rw [hv] <;> rfl, by rw [hz.2]; trivial⟩, fun f v e => by cases e⟩
  · obtain ⟨mA, hns, hr⟩ := (show ObjOk X.prog X.w H s.heap dd (.xd fs) from I.hok dd _ h)
    obtain ⟨od, ho, hl⟩ := lookIn_ns hns
    refine ⟨some od, ⟨hget, hz.1, by unfold PySem.W.notCls; rw [hv] <;> rfl, by rw [hz.2]; exact ho⟩, fun f v e => ?_⟩
    obtain ⟨u, hu, ru⟩ := RelO.some_of (v := v) (o := mA f) (by rw [← e]; exact hr f)
    exact ⟨od, u, rfl, by rw [hl, hu], ru⟩
/-- isinstance(e, C) -/
def rIsP (K : PySem.W.Frag) (a D : Addr) (d : Option Addr) : List V → Hp → VK → Prop := fun xs H Q => ∃ (c : V) (u : Value) (b : Bool) (fs : List (Str × V)), xs = [.ref a, c] ∧ ClsV c u ∧ EdOk H d fs ∧ PySem.W.kitOne K (.ref D) u = some b ∧ Q (.bl b) H
theorem call_isP2 (C : ExcC X.K D) (hz : Zc (.ref D) d oe) (hf : ∃ vs, oe.data = .fields vs) (hp : (a, oe) ∈ X.pn) : CallR X (.builtin "isinstance") (rIsP X.K a D d) := by
  intro pins s σ H xs us Q I r h
  obtain ⟨c, u, b, fs, rfl, k, ed, e, q⟩ := h
  obtain ⟨u1, u2, rfl, r1, r2⟩ := vals2 r
  have e2 := k.eq r2
  subst e2
  cases (show u1 = Value.ref a from r1)
  obtain ⟨od, J, _⟩ := ed_inst I hz hf hp ed
  exact PySem.W.kia_one (kit_exc C) I.kIn J e (fun z => nomatch z) fun tk => ⟨.bl b, H, I.tok tk, rfl, q⟩
/-- e.f -/
def tFldP (a : Addr) (d : Option Addr) (f : Str) (te : TE) : TE := fun σ H Q => te σ H fun x H1 => ∃ (fs : List (Str × V)) (v : V), x = .ref a ∧ EdOk H1 d fs ∧ fs.lookup f = some v ∧ Q v H1
theorem pe_fldP {e : Expr} {te : TE} {pos : Pos} {n : Str} (T : XfC X.K D) (hno : PySem.W.findIn X.K (.ref D) n = some none) (hz : Zc (.ref D) d oe) (hf : ∃ vs, oe.data = .fields vs) (hp : (a, oe) ∈ X.pn) (he : PE X e te) (hb : attributeBase e n X.env (eval e X.env) = eval e X.env := by rfl) :
    PE X (.Attribute e n pos) (tFldP a d n te) := by
  refine ⟨fun pins s σ H Q I h => ?_⟩
  refine attr_of hb (thn (he.run pins s σ H _ I h) fun u s1 hh => ?_)
  obtain ⟨x, H1, I1, rx, fs, v, rfl, ed, l, q⟩ := hh
  obtain rfl : u = Value.ref a := rx
  obtain ⟨od, J, hl⟩ := ed_inst I1 hz hf hp ed
  obtain ⟨o, u, rfl, hu, ru⟩ := hl n v l
  exact HandSPX.exc_get I1.kIn J T.ga T.gg T.exC (PySem.W.findObj_own T.hdC hno rfl hu) (handed_of ru) ⟨v, H1, I1.tok _, ru, q⟩
theorem call_reprH {k : Nat} (hg : X.A.guards = some []) (hr : RoomH k X.A) : CallR X (.builtin "repr") rReprS := by
  intro pins s σ H xs us Q I r h
  obtain ⟨a, d, rfl, hd, h1, h2, h3, q⟩ := h
  obtain ⟨u, rfl, ru⟩ := r.one
  cases (show u = Value.ref a from ru)
  obtain ⟨as, R, hm⟩ := Sd.reads I.hok hd (u := .ref a) rfl
  refine repr_of_reads' R h1 (fun _ => hm) hg (by have := hr.un; omega) (fun _ _ e => e) (fun h' u tk hk => ?_) h3
  exact ⟨.str _, H, I.kept hk, ⟨u, rfl⟩, q⟩
end
/-! ### a def of the text -/
section
variable {P : Program} {w : World} {K : PySem.W.Frag} {mg : Str → Option Value} {base : Heap}
theorem Fun.okP {x qual : Str} {st : Stmt} {f : Addr} {fd : FuncData} {N ps : List Str} {k : Nat} {sp : Sp} {p : Addr × Obj} (F : Fun K x qual st f fd) (S : FnScope N ps (defScope st)) (len : ∀ vs H Q E, sp vs H Q E → vs.length = ps.length)
    (hbody : ∀ (cdv : Value) (A : Around) (outer : List Env) (s : Shared) (H : Hp) (vs : List V) (Q : VK) (E : XK), A.guards = some [] → RoomH k (A.deeper (envOfC qual (defScope st) s.heap.objs.size f cdv)) → sp vs H Q E →
      ∃ t, PSs (cxH CX0 P w K mg base N qual (defScope st) f cdv A outer s H E p).nox (defBody st) t ∧ t { nx := fun _ H' => Q .non H', rt := Q } (start N vs) H) : FnP P w K mg base CX0 (k + 1) p f fd ps sp := by
  obtain ⟨oc, od, kV, doc, pm, an, cdv, ct, osl, rfl, lk, hcd⟩ := F.ex
  refine fn_ofP lk hcd S len fun A outer s H vs Q E hgd hr hsp => ?_
  obtain ⟨t, h, q⟩ := hbody cdv A outer s H vs Q E hgd hr hsp
  exact ⟨t, h.nox, q⟩
end
theorem passA {X : Cx} {σ : L2.St} : PassesAt CX0 X σ E0 := fun _ _ _ _ _ _ h => h.elim
/-! ### the twelve classes of errors -/
def cnms : List Str := ["InvalidNumber", "InvalidText", "InvalidCount", "InvalidName", "InvalidTruth", "InvalidEntries", "NotAFormula", "TextError", "UnknownName", "Clash", "DividedByZero", "TooLarge"]
def cnm (i : Nat) : Str := cnms.getD i ""
def cbns : List Str := ["GivenError", "NameProblem", "AnswerError"]
/-- the field that is asked of an error -/
def cfl (i : Nat) : Str := if i = 7 then "place" else if i = 11 then "limit" else "given"
def cfs : List Str := ["given", "place", "limit"]
structure CErr (K : PySem.W.Frag) (mg : Str → Option Value) (cs bs : Nat → Addr) : Prop where
  g : ∀ i, i < 12 → mg (cnm i) = some (.ref (cs i))
  gb : ∀ j, j < 3 → mg (cbns.getD j "") = some (.ref (bs j))
  ex : ∀ i, i < 12 → ExcC K (cs i)
  xf : ∀ i, i < 12 → XfC K (cs i)
  no : ∀ i, i < 12 → ∀ f ∈ cfs, PySem.W.findIn K (.ref (cs i)) f = some none
  kit : ∀ i j, i < 12 → j < 12 → PySem.W.kitOne K (.ref (cs i)) (.ref (cs j)) = some (decide (i = j))
  cat : ∀ i, i < 12 → PySem.W.exmAny K (.ref (cs i)) [.ref (bs 0), .ref (bs 1), .ref (bs 2)] = some true
  isi : mg "isinstance" = none
  rep : mg "repr" = none
/-- what a caught error is shown by -/
def given (i : Nat) (fs : List (Str × V)) : Option (List V) := if i = 10 then some [] else (fs.lookup (cfl i)).map fun v => [v]
end SFT
namespace SFT
open PySem PySem.Spec PyProof.Rows L2 SF L2H SX
/-- what is shown, behind its word -/
def tShow (told : Str) (R : List V → Hp → VK → Prop) (Q : VK) (v : V) (H : Hp) : Prop := R [v] H (fun z H1 => ∃ s, z = .str s ∧ ∀ L H2, (∀ b o, H1 b = some o → H2 b = some o) → H1 L = none → H2 L = some (.lst [.str told, .str s]) → Q (.ref L) H2)
/-- the error's wish -/
def XKc (cs : Nat → Addr) (R : List V → Hp → VK → Prop) (Q : VK) : XK := fun cls d H1 => ∃ (i : Nat) (fs : List (Str × V)) (ys : List V), i < 12 ∧ cls = .ref (cs i) ∧ EdOk H1 d fs ∧ given i fs = some ys ∧ ∀ p H2, (∀ b o, H1 b = some o → H2 b = some o) → H2 p = some (.tup ys) → tShow (cnm i) R Q (.ref p) H2
/-- told, or the error that was caught -/
def TTc (cs : Nat → Addr) (RV RP : List V → Hp → VK → Prop) : (XK → Hp → VK → Prop) → Hp → VK → Prop := fun tl H Q => ∀ Q0 : VK, (∀ v H1, tShow "told" RV Q v H1 → Q0 v H1) → tl (XKc cs RP Q) H Q0
def Mono (R : List V → Hp → VK → Prop) : Prop := ∀ (xs : List V) (H : Hp) (Q Q' : VK), (∀ v H', Q v H' → Q' v H') → R xs H Q → R xs H Q'
theorem FnP.mono {P : Program} {w : World} {K : PySem.W.Frag} {mg : Str → Option Value} {base : Heap} {CX : CXT} {k k' : Nat} {p : Addr × Obj} {f : Addr} {fd : FuncData} {ps : List Str} {sp : Sp} (F : FnP P w K mg base CX k p f fd ps sp) (h : k ≤ k') : FnP P w K mg base CX k' p f fd ps sp :=
  ⟨F.len, fun A outer s H args us vs Q E hg hr => F.run A outer s H args us vs Q E hg (hr.mono h)⟩
theorem mono_reprS : Mono rReprS := fun xs H Q Q' h ⟨a, d, e, h1, h2, h3, h4, q⟩ => ⟨a, d, e, h1, h2, h3, h4, h _ _ q⟩
theorem pss_of {X : Cx} {st : List Stmt} {t' : TS} (h : ∀ pins s σ H D, Inv X pins σ H s → t' D σ H → ∃ t, PSs X st t ∧ t D σ H) : PSs X st t' := ⟨fun pins s σ H D I x => let ⟨_, p, y⟩ := h pins s σ H D I x; p.run pins s σ H D I y⟩
theorem len4 {α : Type} {σ : List α} (h : σ.length = 4) : ∃ a b c d, σ = [a, b, c, d] := by
  match σ, h with
  | [a, b, c, d], _ => exact ⟨a, b, c, d, rfl⟩
end SFT
namespace SFT
open PySem PySem.Spec PyProof.Rows L2
/-- the twelve classes of errors, their three bases: one truth value over the written part -/
def exB1 (K : PySem.W.Frag) (D : Addr) : Bool := decide (PySem.W.findIn K (.ref D) "__getattribute__" = some (some (.builtin "BaseException.__getattribute__"))) && (decide (PySem.W.findIn K (.ref D) "__getattr__" = some none) && (decide (PySem.W.subIn K (.ref D) (.type "BaseException") = some true) && (PySem.W.hasDictIn K D &&
  (decide (PySem.W.findIn K (.ref D) "__class__" = some (some (.builtin "object.__class__"))) && (decide (PySem.W.specialIn K (.builtin "object.__class__") "__get__" = some (some (.builtin "getset_descriptor.__get__"))) && (decide (PySem.W.takesIn K (.builtin "object.__class__") = some true) && decide (PySem.W.mroIn K D (.type "object") = some true)))))))
theorem exB1_ok {K : PySem.W.Frag} {D : Addr} (h : exB1 K D = true) : ExcC K D ∧ XfC K D := by
  unfold exB1 at h
  simp only [Bool.and_eq_true, decide_eq_true_eq] at h
  obtain ⟨h1, h2, h3, h4, h5, h6, h7, h8⟩ := h
  exact ⟨⟨h1, h2, h3, h4, h5, h6, h7, h8⟩, ⟨h1, h2, h3, h4⟩⟩
def upB (n : Nat) (p : Nat → Bool) : Bool := (List.range n).all p
theorem upB_ok {n : Nat} {p : Nat → Bool} (h : upB n p = true) : ∀ i, i < n → p i = true := fun i hi => List.all_eq_true.mp h i (List.mem_range.mpr hi)
def cerrB (K : PySem.W.Frag) (cs bs : List Addr) : Bool :=
  upB 12 (fun i => exB1 K (cs.getD i 0)) && (upB 12 (fun i => cfs.all fun f => decide (PySem.W.findIn K (.ref (cs.getD i 0)) f = some none)) && (upB 12 (fun i => upB 12 fun j => decide (PySem.W.kitOne K (.ref (cs.getD i 0)) (.ref (cs.getD j 0)) = some (decide (i = j)))) &&
    upB 12 (fun i => decide (PySem.W.exmAny K (.ref (cs.getD i 0)) [.ref (bs.getD 0 0), .ref (bs.getD 1 0), .ref (bs.getD 2 0)] = some true))))
theorem cerrB_ok {K : PySem.W.Frag} {mg : Str → Option Value} {cs bs : List Addr} (h : cerrB K cs bs = true) (g : ∀ i, i < 12 → mg (cnm i) = some (.ref (cs.getD i 0))) (gb : ∀ j, j < 3 → mg (cbns.getD j "") = some (.ref (bs.getD j 0))) (hi : mg "isinstance" = none) (hr : mg "repr" = none) :
    CErr K mg (fun i => cs.getD i 0) (fun j => bs.getD j 0) := by
  obtain ⟨h1, h⟩ := Bool.and_eq_true_iff.mp h
  obtain ⟨h2, h⟩ := Bool.and_eq_true_iff.mp h
  obtain ⟨h3, h4⟩ := Bool.and_eq_true_iff.mp h
  exact { g := g, gb := gb, ex := fun i hi => (exB1_ok (upB_ok h1 i hi)).1, xf := fun i hi => (exB1_ok (upB_ok h1 i hi)).2, no := fun i hi f hf => of_decide_eq_true (List.all_eq_true.mp (upB_ok h2 i hi) f hf), kit := fun i j hi hj => of_decide_eq_true (upB_ok (upB_ok h3 i hi) j hj), cat := fun i hi => of_decide_eq_true (upB_ok h4 i hi), isi := hi, rep := hr }
end SFT

/-! Defs that let an own error out: the error as an expression's only end. -/
namespace SQ
open PySem PySem.Spec PyProof.Rows L2 SF
section
variable {P : Program} {w : World} {K : PySem.W.Frag} {mg : Str → Option Value} {base : Heap}
theorem Fun.okX {CX : CXT} {x qual : Str} {st : Stmt} {f : Addr} {fd : FuncData} {N ps : List Str} {k : Nat} {sp : Sp} (F : Fun K x qual st f fd) (S : FnScope N ps (defScope st)) (len : ∀ vs H Q E, sp vs H Q E → vs.length = ps.length)
    (hbody : ∀ (cdv : Value) (A : Around) (outer : List PySem.Env) (s : Shared) (H : Hp) (vs : List V) (Q : VK) (E : XK), Room k (A.deeper (envOfC qual (defScope st) s.heap.objs.size f cdv)) → sp vs H Q E →
      ∃ t, PSs (cxOf CX P w K mg base N qual (defScope st) f cdv A outer s H E) (defBody st) t ∧ t { nx := fun _ H' => Q .non H', rt := Q } (start N vs) H) : FnOk P w K mg base CX (k + 1) f fd ps sp := by
  obtain ⟨oc, od, kV, doc, pm, an, cdv, ct, osl, rfl, lk, hcd⟩ := F.ex
  exact fn_of lk hcd S len fun A outer s H vs Q E hr hsp => hbody cdv A outer s H vs Q E hr hsp
end
section
variable {X : Cx} {C : Addr} {bmB : List Value} {B newId initId : String}
/-- X() -/
theorem pmk_own0 {x : Str} {p pos : Pos} (F : ExcBaseFacts B newId initId bmB) (q : PySem.W.excIn X.K C bmB newId = true) (gC : X.mg x = some (.ref C)) (kC : PySem.W.keepIn X.K (.ref C) = true) (r : Raises X (.ref C)) (hg : Gl X x)
    (hdb : (x == ("__debug__" : Str)) = false := by decide) : PMk X (.Call (.Name x p) [] [] pos) (fun _ H Q => Q (.ref C) none H) := by
  intro pins s σ H Q I h
  refine wpAny_Call_Name_kw (ld_glob I hg gC ?_ hdb)
  refine PySem.W.callWith_K0 I.kIn kC ?_
  show wpAny _ _ (call (.ref C) []) _ _ _
  obtain ⟨bm, N, nm, qn, bs, hdct, sn, sub, ab, col, dd, k0, k1, k2, k3, k5, mN, hC, hN, hni, T⟩ := exc_obj I.kIn q
  refine wpAny_call_exc_subT F T hC hN hni (fun h' e hm => ?_) (by show 0 ≤ sizeLine; exact Nat.zero_le _)
  exact mk_of I hm r h (I.hok.gone hm.new)
end
/-- e lets the error of the class at D out -/
def TZ (E : XK) (D : Addr) (G : L2.St → Hp → Prop) (s : Prop) : TE := fun σ H _ => G σ H ∧ s ∧ ∀ H', Same H H' → E (.ref D) none H'
def spZI (D : Addr) : Sp := fun vs H _ E => ∃ (p : Addr) (t : Int), vs = [.ref p, .int t, .int 0] ∧ ∀ H', Same H H' → E (.ref D) none H'
def spZ1 (C D : Addr) : Sp := fun vs H _ E => ∃ a n, vs = [.ref a] ∧ RQ C H a n 0 ∧ n ≤ LIM ∧ ∀ H', Same H H' → E (.ref D) none H'
def spZ2 (C D : Addr) : Sp := fun vs H _ E => ∃ a b n m q, vs = [.ref a, .ref b] ∧ RQ C H a n q ∧ RQ C H b m 0 ∧ n ≤ LIM ∧ m ≤ LIM ∧ ∀ H', Same H H' → E (.ref D) none H'
/-- a fraction, and the number 0 -/
def spZM (C D : Addr) : Sp := fun vs H _ E => ∃ a k v n m q, vs = [.ref a, v] ∧ RQ C H a n q ∧ NV C H k v m 0 ∧ n ≤ LIM ∧ m ≤ LIM ∧ ∀ H', Same H H' → E (.ref D) none H'
/-- the fraction 0, and a number -/
def spZR (C D : Addr) : Sp := fun vs H _ E => ∃ a k v n m q, vs = [.ref a, v] ∧ RQ C H a n 0 ∧ NV C H k v m q ∧ n ≤ LIM ∧ m ≤ LIM ∧ ∀ H', Same H H' → E (.ref D) none H'
def spZP (C D : Addr) : Sp := fun vs H _ E => ∃ a n e, vs = [.ref a, .int e] ∧ RQ C H a n 0 ∧ -20 ≤ e ∧ e < 0 ∧ n ≤ LIM ∧ ∀ H', Same H H' → E (.ref D) none H'
section
variable {X : Cx} {C D : Addr} {E : XK} {CX : CXT} {G : L2.St → Hp → Prop} {a b e : Expr} {k k1 k2 : Bool} {n m : Nat} {q r : Rat} {s s1 s2 : Prop} {pos p1 p2 : Pos} {l : Nat} {x : Str} {ps : List Str} {fd : FuncData} {f : Addr}
/-- the second argument fails -/
theorem pz_call2 {side : Rat → Rat → Prop} {fn : Rat → Rat → Rat} {g : Nat → Nat → Nat} (F : FnOk X.prog X.w X.K X.mg X.base CX0 l f fd ps (sp2 C side fn g)) (hr : Room l X.A) (hg : Gl X x) (hm : X.mg x = some (.ref f)) (hk : PySem.W.keepIn X.K (.ref f) = true) (hb : Binds X.K fd ps []) (hG : GS G)
    (ha : PE X a (TQ C G k n q s1)) (hb' : PE X b (TZ E D G s2)) (hdb : (x == ("__debug__" : Str)) = false := by decide)
    (he : starEach (a :: [b]) X.env = (false, eval a X.env) :: starEach [b] X.env := by rfl) (he2 : starEach (b :: []) X.env = (false, eval b X.env) :: starEach [] X.env := by rfl) (hpl : (backTo pos (starEach [b] X.env)).any (·.1) = false := by rfl) :
    PE X (.Call (.Name x p1) [a, b] [] pos) (TZ E D G (s1 ∧ s2)) :=
  pe_weak (pe_call (E := E0) F hr hg hm hk hb .nil pass0 (pa_cons ha (pa_cons hb' pa_nil he2) he) hdb he hpl) fun σ H Q ⟨hg, ⟨h1, h2⟩, z⟩ => ⟨hg, h1, fun v H1 S1 nv => ⟨hG _ _ _ hg S1, h2, fun H2 S2 => z H2 (S1.trans S2)⟩⟩
theorem pz_un (ha : PE X a (TZ E D G s1)) : PE X (.UnaryOp .USub a pos) (TZ E D G s1) := pe_weak (pe_un un_neg ha) fun σ H Q h => h
theorem pz_callZ1 (F : FnOk X.prog X.w X.K X.mg X.base CX l f fd ps (spZ1 C D)) (hx : Passes CX X E) (hr : Room l X.A) (hg : Gl X x) (hm : X.mg x = some (.ref f)) (hk : PySem.W.keepIn X.K (.ref f) = true) (hb : Binds X.K fd ps [])
    (ha : PE X a (TQ C G true n 0 s1)) (hdb : (x == ("__debug__" : Str)) = false := by decide)
    (he : starEach (a :: []) X.env = (false, eval a X.env) :: starEach [] X.env := by rfl) (hpl : (backTo pos (starEach [] X.env)).any (·.1) = false := by rfl) : PE X (.Call (.Name x p1) [a] [] pos) (TZ E D G (s1 ∧ n ≤ LIM)) :=
  pe_weak (pe_call (E := E) F hr hg hm hk hb .nil hx (pa_cons ha pa_nil he) hdb he hpl) fun σ H Q ⟨hg, ⟨h1, h2⟩, z⟩ => ⟨hg, h1, fun v H1 S1 nv => by
    obtain ⟨a, rfl, y⟩ := nv_true nv
    exact ⟨a, n, rfl, y, h2, fun H2 S2 => z H2 (S1.trans S2)⟩⟩
theorem pz_callZ2 (F : FnOk X.prog X.w X.K X.mg X.base CX l f fd ps (spZ2 C D)) (hx : Passes CX X E) (hr : Room l X.A) (hg : Gl X x) (hm : X.mg x = some (.ref f)) (hk : PySem.W.keepIn X.K (.ref f) = true) (hb : Binds X.K fd ps []) (hG : GS G)
    (ha : PE X a (TQ C G true n q s1)) (hb' : PE X b (TQ C G true m 0 s2)) (hdb : (x == ("__debug__" : Str)) = false := by decide)
    (he : starEach (a :: [b]) X.env = (false, eval a X.env) :: starEach [b] X.env := by rfl) (he2 : starEach (b :: []) X.env = (false, eval b X.env) :: starEach [] X.env := by rfl) (hpl : (backTo pos (starEach [b] X.env)).any (·.1) = false := by rfl) :
    PE X (.Call (.Name x p1) [a, b] [] pos) (TZ E D G (s1 ∧ s2 ∧ n ≤ LIM ∧ m ≤ LIM)) :=
  pe_weak (pe_call (E := E) F hr hg hm hk hb .nil hx (pa_cons ha (pa_cons hb' pa_nil he2) he) hdb he hpl) fun σ H Q ⟨hg, ⟨h1, h2, h3, h4⟩, z⟩ => ⟨hg, h1, fun v H1 S1 nv => ⟨hG _ _ _ hg S1, h2, fun u H2 S2 nu => by
    obtain ⟨a, rfl, y⟩ := nv_true nv
    obtain ⟨b, rfl, y'⟩ := nv_true nu
    exact ⟨a, b, n, m, q, rfl, y.same S2, y', h3, h4, fun H3 S3 => z H3 ((S1.trans S2).trans S3)⟩⟩⟩
/-- Ratio(e, 0) -/
theorem pz_make {i : Int} (M : Mk X.K C f) (F : FnOk X.prog X.w X.K X.mg X.base CX l f fd ["self", "top", "bottom"] (spZI D)) (hx : Passes CX X E) (hb : Binds X.K fd ["self", "top", "bottom"] []) (hr : Room (l + 1) X.A) (hg : Gl X x) (hm : X.mg x = some (.ref C)) (hG : GS G)
    (ha : PE X a (TI G i s1)) (hb' : PE X b (TI G 0 s2)) (hdb : (x == ("__debug__" : Str)) = false := by decide)
    (he : starEach (a :: [b]) X.env = (false, eval a X.env) :: starEach [b] X.env := by rfl) (he2 : starEach (b :: []) X.env = (false, eval b X.env) :: starEach [] X.env := by rfl) (hpl : (backTo pos (starEach [b] X.env)).any (·.1) = false := by rfl) :
    PE X (.Call (.Name x p1) [a, b] [] pos) (TZ E D G (s1 ∧ s2)) :=
  pe_weak (pe_make (E := E) M F hr hg hm hb .nil hx (pa_cons ha (pa_cons hb' pa_nil he2) he) hdb he hpl) fun σ H Q ⟨hg, ⟨h1, h2⟩, z⟩ =>
    ⟨hg, h1, fun H1 S1 => ⟨hG _ _ _ hg S1, h2, fun H2 S2 x dx hx hd hn => ⟨x, i, rfl, fun H3 S3 => z H3 (((S1.trans S2).trans (same_new (same_new (Same.refl _) hd) (by rw [upd_ne (Ne.symm hn)]; exact hx))).trans S3)⟩⟩⟩
/-- return e, x = e -/
theorem qz_ret {σ : L2.St} {H : Hp} {Dn : Ends} (hg : G σ H) (hs : s) (z : ∀ H', Same H H' → E (.ref D) none H') : tRet (TZ E D G s) Dn σ H := ⟨hg, hs, z⟩
end
end SQ
namespace SQ
open PySem PySem.Spec PyProof.Rows L2 SF
/-- the class DividedByZero at D -/
structure DZ (K : PySem.W.Frag) (mg : Str → Option Value) (D : Addr) : Prop where
  g : mg "DividedByZero" = some (.ref D)
  q : PySem.W.excIn K D [.type "ArithmeticError", .type "Exception", .type "BaseException", .type "object"] "ArithmeticError.__new__" = true
  k : PySem.W.keepIn K (.ref D) = true
  b : PySem.W.subIn K (.ref D) (.type "BaseException") = some true
  t : PySem.W.typeIn K (.ref D) = some (.type "type")
theorem ps_dz {X : Cx} {D : Addr} {W : WX} {p pos rpos : Pos} (Z : DZ X.K X.mg D) (hc : X.calm = true) (tk : Takes X W) (hg : Gl X "DividedByZero") : PS X (.Raise (some (.Call (.Name "DividedByZero" p) [] [] pos)) none rpos) (fun _ σ H => W (.ref D) none σ H) :=
  ps_raise hc tk (pmk_own0 PySem.F.excBase_ArithmeticError Z.q Z.g Z.k (raises_own Z.b Z.t) hg)
end SQ
namespace SQ
open PySem PySem.Spec PyProof.Rows L2 SF
def dzB (K : PySem.W.Frag) (D : Addr) : Bool := PySem.W.excIn K D [.type "ArithmeticError", .type "Exception", .type "BaseException", .type "object"] "ArithmeticError.__new__" && (PySem.W.keepIn K (.ref D) && (decide (PySem.W.subIn K (.ref D) (.type "BaseException") = some true) && decide (PySem.W.typeIn K (.ref D) = some (.type "type"))))
theorem dzB_ok {K : PySem.W.Frag} {mg : Str → Option Value} {D : Addr} (h : dzB K D = true) (g : mg "DividedByZero" = some (.ref D)) : DZ K mg D := by
  obtain ⟨h1, h⟩ := Bool.and_eq_true_iff.mp h
  obtain ⟨h2, h⟩ := Bool.and_eq_true_iff.mp h
  obtain ⟨h3, h4⟩ := Bool.and_eq_true_iff.mp h
  exact ⟨g, h1, h2, of_decide_eq_true h3, of_decide_eq_true h4⟩
def ndB (K : PySem.W.Frag) : Bool := PySem.W.nsOkIn K cStatics && decide (PySem.W.nsIn K cStatics "sys.int_max_str_digits" = some none)
end SQ

/-! Texts of ints of up to 4300 digits. -/
namespace SQ
open PySem PySem.Spec PyProof.Rows L2 SF
structure ND (K : PySem.W.Frag) : Prop where
  o : PySem.W.nsOkIn K cStatics = true
  n : PySem.W.nsIn K cStatics "sys.int_max_str_digits" = some none
theorem ND.noDigits {K : PySem.W.Frag} {h : Heap} (N : ND K) (X : K.In h) : h.NoDigits := ⟨_, .of_isNs (PySem.W.isNs_of_in X N.o), PySem.W.nsMap_none_of_in X N.o N.n⟩
theorem p4300 : 2 ^ LIM ≤ 10 ^ 4300 := by decide +kernel
theorem big43 {i : Int} {n : Nat} (h : i.natAbs < 2 ^ n) (hn : n ≤ LIM) : i.natAbs < 10 ^ 4300 := Nat.lt_of_lt_of_le h (Nat.le_trans (two_le hn) p4300)
section
variable {X : Cx}
def tFmtB (te : TE) : TE := fun σ H Q => te σ H fun x H1 => ∃ i : Int, x = .int i ∧ i.natAbs < 10 ^ 4300 ∧ Q (.str (toString i)) H1
/-- {x}: an int of up to 4300 digits -/
theorem pe_fmtB {e : Expr} {te : TE} {pos : Pos} (N : ND X.K) (hc : X.calm = true) (he : PE X e te) : PE X (.FormattedValue e (-1) none pos) (tFmtB te) := by
  refine ⟨fun pins s σ H Q I h => ?_⟩
  refine wpAny_FormattedValue_plain (thn (he.run pins s σ H _ I h) fun v s1 hv => ?_)
  obtain ⟨x, H1, I1, r1, i, rfl, hz, q⟩ := hv
  obtain ⟨t, rfl⟩ := r1
  refine PyProof.Rows.formatField_int (I1.ok.hd hc) (N.noDigits I1.kIn) (fun _ => ⟨.str (toString i), H1, I1.tok _, ⟨_, rfl⟩, q⟩) (fun hge => ?_)
  generalize 10 ^ 4300 = z at hz hge
  omega
/-- str(x) -/
theorem call_strB (N : ND X.K) (hc : X.calm = true) : CallR X (.type "str") (fun xs H Q => ∃ i, xs = [.int i] ∧ i.natAbs < 10 ^ 4300 ∧ Q (.str (toString i)) H) := by
  intro pins s σ H xs us Q I r h
  obtain ⟨i, rfl, hz, q⟩ := h
  obtain ⟨u, rfl, t, rfl⟩ := vals1 r
  refine PyProof.Rows.str_of_int_or (I.ok.hd hc) (N.noDigits I.kIn) (fun _ => ⟨.str (toString i), H, I.tok _, ⟨_, rfl⟩, q⟩) (fun hge => ?_)
  generalize 10 ^ 4300 = z at hz hge
  omega
end
def spStrB (C : Addr) : Sp := fun vs H Q _ => ∃ a n q, vs = [.ref a] ∧ RQ C H a n q ∧ n ≤ LIM ∧ Q (.str (rstr q)) H
def spReprB (C : Addr) : Sp := fun vs H Q _ => ∃ a n q, vs = [.ref a] ∧ RQ C H a n q ∧ n ≤ LIM ∧ Q (.str (rrepr q)) H
theorem tx_lenB {i : Int} {n : Nat} (h : i.natAbs < 2 ^ n) (hn : n ≤ LIM) : (Str.ofString (toString i)).length ≤ LIM + 1 := by
  have e := int_text_length_le (k := LIM) (a := i) (by decide) (PySem.Flt.log2_lt_of (k := LIM) (by decide) (Nat.lt_of_lt_of_le h (two_le hn)))
  rw [PySem.ofString_length]
  omega
section
variable {X : Cx} {C : Addr} {G : L2.St → Hp → Prop} {a b e : Expr} {k k1 k2 : Bool} {l n m : Nat} {q r : Rat} {s s1 s2 : Prop} {pos p1 p2 : Pos} {ps : List Str}
theorem pS_strB {x : Str} (D : Df X.prog X.w X.K X.mg X.base l ps (spStrB C)) (hs : Has X.K C "__str__" D.f) (hr : Room (l + 2) X.A)
    (hg : Gl X x) (hm : X.mg x = none) (hv : bootBuiltins x = some (.type "str")) (ha : PE X a (TQ C G true n q s)) (hn : x ≠ "__name__" := by decide) (hdb : (x == ("__debug__" : Str)) = false := by decide)
    (he : starEach (a :: []) X.env = (false, eval a X.env) :: starEach [] X.env := by rfl) (hpl : (backTo pos (starEach [] X.env)).any (·.1) = false := by rfl) : PE X (.Call (.Name x p1) [a] [] pos) (TS G (rstr q) (s ∧ n ≤ LIM)) :=
  pe_weak (pe_callTy (call_strOwn (E := E0) hs.h hs.i D.G D.b hr pass0) hg hm hv (pa_cons ha pa_nil he) hn hdb he hpl) fun σ H Q ⟨hg, ⟨h1, h2⟩, z⟩ =>
    ⟨hg, h1, fun v H1 S1 nv => by
      obtain ⟨a, rfl, y'⟩ := nv_true nv
      obtain ⟨⟨dx, e⟩, _⟩ := id y'
      exact ⟨a, dx, _, rfl, e, a, n, q, rfl, y', h2, _, rfl, z H1 S1⟩⟩
theorem pS_reprB {x : Str} (D : Df X.prog X.w X.K X.mg X.base l ps (spReprB C)) (hs : Has X.K C "__repr__" D.f) (hr : Room (l + 1) X.A)
    (hg : Gl X x) (hm : X.mg x = none) (hv : bootBuiltins x = some (.builtin "repr")) (ha : PE X a (TQ C G true n q s)) (hn : x ≠ "__name__" := by decide) (hdb : (x == ("__debug__" : Str)) = false := by decide)
    (he : starEach (a :: []) X.env = (false, eval a X.env) :: starEach [] X.env := by rfl) (hpl : (backTo pos (starEach [] X.env)).any (·.1) = false := by rfl) : PE X (.Call (.Name x p1) [a] [] pos) (TS G (rrepr q) (s ∧ n ≤ LIM)) :=
  pe_weak (pe_callB (call_reprOwn (E := E0) hs.h hs.i D.G D.b hr pass0) hg hm hv (pa_cons ha pa_nil he) hn hdb he hpl) fun σ H Q ⟨hg, ⟨h1, h2⟩, z⟩ =>
    ⟨hg, h1, fun v H1 S1 nv => by
      obtain ⟨a, rfl, y'⟩ := nv_true nv
      obtain ⟨⟨dx, e⟩, _⟩ := id y'
      exact ⟨a, dx, _, rfl, e, a, n, q, rfl, y', h2, _, rfl, z H1 S1⟩⟩
theorem pS_strI {x : Str} {i : Int} (N : ND X.K) (hc : X.calm = true) (hg : Gl X x) (hm : X.mg x = none) (hv : bootBuiltins x = some (.type "str")) (ha : PE X a (TI G i s)) (hn : x ≠ "__name__" := by decide) (hdb : (x == ("__debug__" : Str)) = false := by decide)
    (he : starEach (a :: []) X.env = (false, eval a X.env) :: starEach [] X.env := by rfl) (hpl : (backTo pos (starEach [] X.env)).any (·.1) = false := by rfl) : PE X (.Call (.Name x p1) [a] [] pos) (TS G (tx i) (s ∧ i.natAbs < 10 ^ 4300)) :=
  pe_weak (pe_callTy (call_strB N hc) hg hm hv (pa_cons ha pa_nil he) hn hdb he hpl) fun σ H Q ⟨hg, ⟨h1, h2⟩, z⟩ => ⟨hg, h1, fun H1 S1 => ⟨i, rfl, h2, z H1 S1⟩⟩
end
end SQ
namespace SQ
open PySem PySem.Spec PyProof.Rows L2 SF
theorem ndB_ok {K : PySem.W.Frag} (h : ndB K = true) : ND K := ⟨(Bool.and_eq_true_iff.mp h).1, of_decide_eq_true (Bool.and_eq_true_iff.mp h).2⟩
end SQ

/-! What was told, and what was caught, of a fraction. -/
namespace SQ
open PySem PySem.Spec PyProof.Rows L2 SF SFT LamX
/-- kept by all but the tables' growth -/
def GN (G : L2.St → Hp → Prop) : Prop := ∀ σ H H', G σ H → ExtN H H' → G σ H'
theorem RQ.extN {C : Addr} {H H' : Hp} {a : Addr} {n : Nat} {q : Rat} (x : RQ C H a n q) (s : ExtN H H') : RQ C H' a n q := let ⟨⟨dx, e⟩, y⟩ := x; ⟨⟨dx, s _ _ e (fun ps z => by cases z)⟩, y⟩
theorem NV.extN {C : Addr} {H H' : Hp} {k : Bool} {v : V} {n : Nat} {q : Rat} (x : NV C H k v n q) (s : ExtN H H') : NV C H' k v n q := by
  cases k with
  | true => obtain ⟨a, e, y⟩ := x; exact ⟨a, e, y.extN s⟩
  | false => exact x
theorem Sl.extN {C : Addr} {H H' : Hp} {s : Sl} {o : Option V} (h : s.ok C H o) (S : ExtN H H') : s.ok C H' o := by
  cases s with
  | fr n q => obtain ⟨a, e, r⟩ := h; exact ⟨a, e, r.extN S⟩
  | nv k n q => obtain ⟨v, e, r⟩ := h; exact ⟨v, e, r.extN S⟩
  | i z => exact h
  | pr n q => obtain ⟨p, e, r, z⟩ := h; exact ⟨p, e, S _ _ r (fun ps z => by cases z), z⟩
  | ls l => obtain ⟨p, e, r⟩ := h; exact ⟨p, e, S _ _ r (fun ps z => by cases z)⟩
  | any => trivial
theorem Env.gn {C : Addr} : ∀ {L : List Sl}, GN (Env C L)
  | [], _, _, _, _, _ => trivial
  | _ :: L, _ :: σ, H, H', h, S => ⟨Sl.extN h.1 S, Env.gn σ H H' h.2 S⟩
  | _ :: _, [], _, _, h, _ => h
/-- e is the list [w, x] of two texts, made anew; the tables of code objects may have grown -/
def TC (T : List (Addr × Str)) (G : L2.St → Hp → Prop) (w x : Str) (s : Prop) : TE := fun σ H Q => G σ H ∧ Tabs T H ∧ s ∧ ∀ p H', ExtN H H' → Tabs T H' → H' p = some (.lst [.str w, .str x]) → Q (.ref p) H'
section
variable {X : Cx} {C : Addr} {T : List (Addr × Str)} {G : L2.St → Hp → Prop} {cs : Nat → Addr} {e : Expr} {n : Nat} {q : Rat} {s : Prop}
abbrev rOwnR (C : Addr) : List V → Hp → VK → Prop := rOwnStr C (spReprB C) E0
theorem mono_ownR : Mono (rOwnR C) := fun xs H Q Q' h ⟨a, dx, fs, e1, e2, b, n, q, e3, r, hn, y, e4, z⟩ => ⟨a, dx, fs, e1, e2, b, n, q, e3, r, hn, y, e4, h _ _ z⟩
theorem pc_told {RP : List V → Hp → VK → Prop} (h : PE X e (tLam T (TTc cs (rOwnR C) RP) (fun _ => TQ C G true n q s))) (hG : GN G) : PE X e (TC T G "told" (rrepr q) (s ∧ n ≤ LIM)) :=
  pe_weak h fun σ H Q ⟨hg, hT, ⟨h1, h2⟩, z⟩ => ⟨hT, fun H1 S1 T1 Q0 hQ0 => ⟨hG _ _ _ hg S1, h1, fun v H2 S2 nv => hQ0 v H2 (by
    obtain ⟨a, rfl, y⟩ := nv_true nv
    obtain ⟨⟨dx, ea⟩, _⟩ := id y
    exact ⟨a, dx, _, rfl, ea, a, n, q, rfl, y, h2, _, rfl, _, rfl, fun L H3 S3 nL eL => z L H3 (S1.trans (ExtN.of fun b o z => S3 b o (S2 b o z))) (T1.ext fun b o z => S3 b o (S2 b o z)) eL⟩)⟩⟩
theorem pc_fail {RV : List V → Hp → VK → Prop} (h : PE X e (tLam T (TTc cs RV SX.rReprS) (fun E => TZ E (cs 10) G s))) (hG : GN G) : PE X e (TC T G "DividedByZero" "()" s) :=
  pe_weak h fun σ H Q ⟨hg, hT, h1, z⟩ => ⟨hT, fun H1 S1 T1 Q0 hQ0 => ⟨hG _ _ _ hg S1, h1, fun H2 S2 => ⟨10, [], [], by decide, rfl, .inl ⟨rfl, rfl⟩, rfl, fun p H3 S3 ep =>
    ⟨p, .tuple [], rfl, .tup ep .nil, rfl, (by decide), (by decide +kernel), _, rfl, fun L H4 S4 nL eL => z L H4 (S1.trans (ExtN.of fun b o z => S4 b o (S3 b o (S2 b o z)))) (T1.ext fun b o z => S4 b o (S3 b o (S2 b o z))) eL⟩⟩⟩⟩
end
/-! ### a def whose code object is known -/
section
variable {P : Program} {w : World} {K : PySem.W.Frag} {mg : Str → Option Value} {base : Heap}
theorem okGc {x qual : Str} {st : Stmt} {f c : Addr} {fd : FuncData} {N ps : List Str} {k : Nat} {sp : Sp} (F : Fun K x qual st f fd) (hc : fd.code = .ref c) (S : FnScope N ps (defScope st)) (len : ∀ vs H Q E, sp vs H Q E → vs.length = ps.length)
    (hbody : ∀ (A : Around) (outer : List PySem.Env) (s : Shared) (H : Hp) (vs : List V) (Q : VK) (E : XK), A.guards = some [] → Room k (A.deeper (envOfC qual (defScope st) s.heap.objs.size f (.ref c))) → sp vs H Q E →
      ∃ t, PSs (cxOf CX0 P w K mg base N qual (defScope st) f (.ref c) A outer s H E).nox (defBody st) t ∧ t { nx := fun _ H' => Q .non H', rt := Q } (start N vs) H) : FnG P w K mg base CX0 (k + 1) f fd ps sp := by
  obtain ⟨oc, od, kV, doc, pm, an, cdv, ct, osl, rfl, lk, hcd⟩ := F.ex
  cases (show cdv = Value.ref c from hc)
  refine fn_ofG lk hcd S len fun A outer s H vs Q E hgd hr hsp => ?_
  obtain ⟨t, h, q⟩ := hbody A outer s H vs Q E hgd hr hsp
  exact ⟨t, h.nox, q⟩
end
end SQ

/-! Pairs of numerator and denominator, as the laws keep them. -/
namespace SQ
open PySem PySem.Spec PyProof.Rows L2 SF
theorem PQ.same {H H' : Hp} {p : Addr} {n : Nat} {q : Rat} (h : PQ H p n q) (s : Same H H') : PQ H' p n q := ⟨s _ _ h.1, h.2⟩
/-- e is the pair of q, of n binary digits, if s -/
def TP (G : L2.St → Hp → Prop) (n : Nat) (q : Rat) (s : Prop) : TE := fun σ H Q => G σ H ∧ s ∧ ∀ p H', Same H H' → PQ H' p n q → Q (.ref p) H'
def spP2 (side : Rat → Rat → Prop) (f : Rat → Rat → Rat) (g : Nat → Nat → Nat) : Sp := fun vs H Q _ => ∃ a b n m q r, vs = [.ref a, .ref b] ∧ PQ H a n q ∧ PQ H b m r ∧ side q r ∧ g n m ≤ LIM ∧ ∀ p H', Same H H' → PQ H' p (g n m) (f q r) → Q (.ref p) H'
def spP1 (f : Rat → Rat) : Sp := fun vs H Q _ => ∃ a n q, vs = [.ref a] ∧ PQ H a n q ∧ n ≤ LIM ∧ ∀ p H', Same H H' → PQ H' p n (f q) → Q (.ref p) H'
def spPI (side : Rat → Int → Prop) (f : Rat → Int → Rat) (g : Nat → Int → Nat) : Sp := fun vs H Q _ => ∃ a n q i, vs = [.ref a, .int i] ∧ PQ H a n q ∧ side q i ∧ n ≤ LIM ∧ g n i ≤ LIM ∧ ∀ p H', Same H H' → PQ H' p (g n i) (f q i) → Q (.ref p) H'
def spShown : Sp := fun vs H Q _ => ∃ a n q, vs = [.ref a] ∧ PQ H a n q ∧ n ≤ LIM ∧ ∀ H', Same H H' → Q (.str (rrepr q)) H'
section
variable {X : Cx} {C : Addr} {G : L2.St → Hp → Prop} {a b e : Expr} {l n m : Nat} {q r : Rat} {s s1 s2 : Prop} {pos p1 p2 : Pos} {i j : Int} {x : Str} {D : Addr} {fd : FuncData} {ps : List Str}
theorem vP (L : List Sl) (j : Nat) (h : PE X e (tVar j)) (hL : L[j]? = some (.pr n q)) : PE X e (TP (Env C L) n q True) :=
  pe_weak h fun σ H Q ⟨hg, _, z⟩ => by
    obtain ⟨o, e1, p, rfl, r⟩ := hg.at hL
    exact ⟨_, e1, z p H (Same.refl _) r⟩
/-- e[0], e[1] -/
theorem pI_p0 {k : Nat} {pc : Pos} (ha : PE X a (TP G n q s)) : PE X (.Subscript a (.Constant (.int 0) k pc) pos) (TI G q.num s) :=
  pe_weak (pe_ix ix_tup ha pe_int (fun _ _ => rfl)) fun σ H Q ⟨hg, h1, z⟩ => ⟨hg, h1, fun p H1 S1 r => ⟨p, _, 0, _, rfl, rfl, SqT.of r.1, at_of (j := 0) rfl rfl, z H1 S1⟩⟩
theorem pI_p1 {k : Nat} {pc : Pos} (ha : PE X a (TP G n q s)) : PE X (.Subscript a (.Constant (.int 1) k pc) pos) (TI G (q.den : Int) s) :=
  pe_weak (pe_ix ix_tup ha pe_int (fun _ _ => rfl)) fun σ H Q ⟨hg, h1, z⟩ => ⟨hg, h1, fun p H1 S1 r => ⟨p, _, 1, _, rfl, rfl, SqT.of r.1, at_of (j := 1) rfl rfl, z H1 S1⟩⟩
/-- (e, f) -/
theorem pP_tup {k : Nat} (hG : GS G) (ha : PE X a (TI G i s1)) (hb : PE X b (TI G j s2)) (hi : i = q.num) (hj : j = (q.den : Int)) (sz : Sz n q)
    (he : starEach (a :: [b]) X.env = (false, eval a X.env) :: starEach [b] X.env := by rfl) (he2 : starEach (b :: []) X.env = (false, eval b X.env) :: starEach [] X.env := by rfl) : PE X (.Tuple [a, b] k pos) (TP G n q (s1 ∧ s2)) :=
  pe_weak (pe_tup (pa_cons ha (pa_cons hb pa_nil he2) he)) fun σ H Q ⟨hg, ⟨h1, h2⟩, z⟩ => ⟨hg, h1, fun H1 S1 => ⟨hG _ _ _ hg S1, h2, fun H2 S2 => ⟨(by show 2 ≤ sizeLine; decide), fun p np => z p _ (same_new (S1.trans S2) np) ⟨by rw [upd_same, hi, hj], sz⟩⟩⟩⟩
theorem pP_call2 {side : Rat → Rat → Prop} {f : Rat → Rat → Rat} {g : Nat → Nat → Nat} (F : FnOk X.prog X.w X.K X.mg X.base CX0 l D fd ps (spP2 side f g)) (hr : Room l X.A) (hg : Gl X x) (hm : X.mg x = some (.ref D)) (hk : PySem.W.keepIn X.K (.ref D) = true) (hb : Binds X.K fd ps []) (hG : GS G)
    (ha : PE X a (TP G n q s1)) (hb' : PE X b (TP G m r s2)) (hdb : (x == ("__debug__" : Str)) = false := by decide)
    (he : starEach (a :: [b]) X.env = (false, eval a X.env) :: starEach [b] X.env := by rfl) (he2 : starEach (b :: []) X.env = (false, eval b X.env) :: starEach [] X.env := by rfl) (hpl : (backTo pos (starEach [b] X.env)).any (·.1) = false := by rfl) :
    PE X (.Call (.Name x p1) [a, b] [] pos) (TP G (g n m) (f q r) (s1 ∧ s2 ∧ side q r ∧ g n m ≤ LIM)) :=
  pe_weak (pe_call (E := E0) F hr hg hm hk hb .nil pass0 (pa_cons ha (pa_cons hb' pa_nil he2) he) hdb he hpl) fun σ H Q ⟨hg, ⟨h1, h2, h3, h4⟩, z⟩ =>
    ⟨hg, h1, fun v H1 S1 nv => ⟨hG _ _ _ hg S1, h2, fun u H2 S2 nu => ⟨v, u, n, m, q, r, rfl, nv.same S2, nu, h3, h4, fun p H3 S3 rq => z _ H3 ((S1.trans S2).trans S3) rq⟩⟩⟩
theorem pP_call1 {f : Rat → Rat} (F : FnOk X.prog X.w X.K X.mg X.base CX0 l D fd ps (spP1 f)) (hr : Room l X.A) (hg : Gl X x) (hm : X.mg x = some (.ref D)) (hk : PySem.W.keepIn X.K (.ref D) = true) (hb : Binds X.K fd ps [])
    (ha : PE X a (TP G n q s1)) (hdb : (x == ("__debug__" : Str)) = false := by decide)
    (he : starEach (a :: []) X.env = (false, eval a X.env) :: starEach [] X.env := by rfl) (hpl : (backTo pos (starEach [] X.env)).any (·.1) = false := by rfl) : PE X (.Call (.Name x p1) [a] [] pos) (TP G n (f q) (s1 ∧ n ≤ LIM)) :=
  pe_weak (pe_call (E := E0) F hr hg hm hk hb .nil pass0 (pa_cons ha pa_nil he) hdb he hpl) fun σ H Q ⟨hg, ⟨h1, h2⟩, z⟩ => ⟨hg, h1, fun v H1 S1 nv => ⟨v, n, q, rfl, nv, h2, fun p H3 S3 rq => z _ H3 (S1.trans S3) rq⟩⟩
theorem pP_callI {side : Rat → Int → Prop} {f : Rat → Int → Rat} {g : Nat → Int → Nat} (F : FnOk X.prog X.w X.K X.mg X.base CX0 l D fd ps (spPI side f g)) (hr : Room l X.A) (hg : Gl X x) (hm : X.mg x = some (.ref D)) (hk : PySem.W.keepIn X.K (.ref D) = true) (hb : Binds X.K fd ps []) (hG : GS G)
    (ha : PE X a (TP G n q s1)) (hb' : PE X b (TI G i s2)) (hdb : (x == ("__debug__" : Str)) = false := by decide)
    (he : starEach (a :: [b]) X.env = (false, eval a X.env) :: starEach [b] X.env := by rfl) (he2 : starEach (b :: []) X.env = (false, eval b X.env) :: starEach [] X.env := by rfl) (hpl : (backTo pos (starEach [b] X.env)).any (·.1) = false := by rfl) :
    PE X (.Call (.Name x p1) [a, b] [] pos) (TP G (g n i) (f q i) (s1 ∧ s2 ∧ side q i ∧ n ≤ LIM ∧ g n i ≤ LIM)) :=
  pe_weak (pe_call (E := E0) F hr hg hm hk hb .nil pass0 (pa_cons ha (pa_cons hb' pa_nil he2) he) hdb he hpl) fun σ H Q ⟨hg, ⟨h1, h2, h3, h4, h5⟩, z⟩ =>
    ⟨hg, h1, fun v H1 S1 nv => ⟨hG _ _ _ hg S1, h2, fun H2 S2 => ⟨v, n, q, i, rfl, nv.same S2, h3, h4, h5, fun p H3 S3 rq => z _ H3 ((S1.trans S2).trans S3) rq⟩⟩⟩
theorem pS_shown (F : FnOk X.prog X.w X.K X.mg X.base CX0 l D fd ps spShown) (hr : Room l X.A) (hg : Gl X x) (hm : X.mg x = some (.ref D)) (hk : PySem.W.keepIn X.K (.ref D) = true) (hb : Binds X.K fd ps [])
    (ha : PE X a (TP G n q s1)) (hdb : (x == ("__debug__" : Str)) = false := by decide)
    (he : starEach (a :: []) X.env = (false, eval a X.env) :: starEach [] X.env := by rfl) (hpl : (backTo pos (starEach [] X.env)).any (·.1) = false := by rfl) : PE X (.Call (.Name x p1) [a] [] pos) (TS G (rrepr q) (s1 ∧ n ≤ LIM)) :=
  pe_weak (pe_call (E := E0) F hr hg hm hk hb .nil pass0 (pa_cons ha pa_nil he) hdb he hpl) fun σ H Q ⟨hg, ⟨h1, h2⟩, z⟩ => ⟨hg, h1, fun v H1 S1 nv => ⟨v, n, q, rfl, nv, h2, fun H3 S3 => z H3 (S1.trans S3)⟩⟩
/-- _law_lowest(e, f) -/
theorem pP_low (F : FnOk X.prog X.w X.K X.mg X.base CX0 l D fd ps (fun vs H Q _ => ∃ u l : Int, vs = [.int u, .int l] ∧ l ≠ 0 ∧ l.natAbs < 2 ^ LIM ∧ ∀ p, H p = none → Q (.ref p) (upd H p (.tup [.int (nt u l), .int (nb u l)])))) (hr : Room l X.A) (hg : Gl X x) (hm : X.mg x = some (.ref D)) (hk : PySem.W.keepIn X.K (.ref D) = true) (hb : Binds X.K fd ps []) (hG : GS G)
    (ha : PE X a (TI G i s1)) (hb' : PE X b (TI G j s2)) (hi : i.natAbs < 2 ^ n) (hj : j.natAbs < 2 ^ n) (hdb : (x == ("__debug__" : Str)) = false := by decide)
    (he : starEach (a :: [b]) X.env = (false, eval a X.env) :: starEach [b] X.env := by rfl) (he2 : starEach (b :: []) X.env = (false, eval b X.env) :: starEach [] X.env := by rfl) (hpl : (backTo pos (starEach [b] X.env)).any (·.1) = false := by rfl) :
    PE X (.Call (.Name x p1) [a, b] [] pos) (TP G n (Rat.divInt i j) (s1 ∧ s2 ∧ j ≠ 0 ∧ n ≤ LIM)) :=
  pe_weak (pe_call (E := E0) F hr hg hm hk hb .nil pass0 (pa_cons ha (pa_cons hb' pa_nil he2) he) hdb he hpl) fun σ H Q ⟨hg, ⟨h1, h2, h3, h4⟩, z⟩ =>
    ⟨hg, h1, fun H1 S1 => ⟨hG _ _ _ hg S1, h2, fun H2 S2 => ⟨i, j, rfl, h3, Nat.lt_of_lt_of_le hj (two_le h4), fun p np => z p _ (same_new (S1.trans S2) np) ⟨by rw [upd_same, nt_rat h3, nb_rat h3], Sz.of h3 hi hj⟩⟩⟩⟩
/-- int(e) -/
theorem pI_intc (hg : Gl X x) (hm : X.mg x = none) (hv : bootBuiltins x = some (.type "int")) (ha : PE X a (TI G i s)) (hn : x ≠ "__name__" := by decide) (hdb : (x == ("__debug__" : Str)) = false := by decide)
    (he : starEach (a :: []) X.env = (false, eval a X.env) :: starEach [] X.env := by rfl) (hpl : (backTo pos (starEach [] X.env)).any (·.1) = false := by rfl) : PE X (.Call (.Name x p1) [a] [] pos) (TI G i s) :=
  pe_weak (pe_callTy call_int1 hg hm hv (pa_cons ha pa_nil he) hn hdb he hpl) fun σ H Q ⟨hg, h1, z⟩ => ⟨hg, h1, fun H1 S1 => .inl ⟨i, rfl, z H1 S1⟩⟩
/-- texts joined -/
theorem pS_add {y z : Str} (hG : GS G) (ha : PE X a (TS G y s1)) (hb : PE X b (TS G z s2)) : PE X (.BinOp a .Add b pos) (TS G (y ++ z) (s1 ∧ s2 ∧ y.length + z.length ≤ sizeLine)) :=
  pe_weak (pe_op op_add_str ha hb) fun σ H Q ⟨hg, ⟨h1, h2, h3⟩, w⟩ => ⟨hg, h1, fun H1 S1 => ⟨hG _ _ _ hg S1, h2, fun H2 S2 => ⟨_, _, rfl, rfl, h3, w H2 (S1.trans S2)⟩⟩⟩
theorem pS_lit {y : Str} {k : Nat} : PE X (.Constant (.str y) k pos) (TS G y True) := pe_weak pe_str fun σ H Q ⟨hg, _, z⟩ => z H (Same.refl _)
/-- return e -/
theorem qp_ret {σ : L2.St} {H : Hp} {D : Ends} (hg : G σ H) (hs : s) (z : ∀ p H', Same H H' → PQ H' p n q → D.rt (.ref p) H') : tRet (TP G n q s) D σ H := ⟨hg, hs, z⟩
end
/-- a block whose reading has a number that is known only at its start -/
def tEx {α : Type} (t : α → L2.TS) : L2.TS := fun D σ H => ∃ i, t i D σ H
theorem pss_exT {α : Type} {X : Cx} {st : List Stmt} {t : α → L2.TS} (h : ∀ i, PSs X st (t i)) : PSs X st (tEx t) := pss_ex h
end SQ

/-! Lists of texts. -/
namespace SQ
open PySem PySem.Spec PyProof.Rows L2 SF LamX
theorem ok_app {x y : PySem.Str} (h : PyData.strOk x = true) (k : PyData.strOk y = true) : PyData.strOk (x ++ y) = true := by
  show (x.cps ++ y.cps).all (· < 0x110000) = true
  rw [Array.all_append]
  exact Bool.and_eq_true_iff.mpr ⟨h, k⟩
theorem ch_lt (c : Char) : c.toNat < 0x110000 := by
  rcases c.valid with h | ⟨_, h⟩
  · exact Nat.lt_trans h (by decide)
  · exact h
theorem ok_of (s : String) : PyData.strOk (Str.ofString s) = true := by
  unfold PyData.strOk
  rw [Str.ofString_eq_toList]
  refine Array.all_eq_true.mpr fun i hi => decide_eq_true ?_
  simp only [List.getElem_toArray, List.getElem_map]
  exact ch_lt _
theorem ok_rrepr (q : Rat) : PyData.strOk (rrepr q) = true := by
  unfold rrepr
  exact ok_app (ok_app (ok_app (ok_app (ok_app (by decide +kernel) (ok_of _)) (ok_of _)) (ok_of _)) (ok_of _)) (ok_of _)
theorem eqv_strs : ∀ xs ys : List PySem.Str, PyData.eqvAll (xs.map .str) (ys.map .str) = decide (xs = ys)
  | [], [] => rfl
  | [], _ :: _ => rfl
  | _ :: _, [] => rfl
  | x :: xs, y :: ys => by
    show (x == y && PyData.eqvAll (xs.map .str) (ys.map .str)) = _
    rw [eqv_strs xs ys]
    by_cases h : x = y
    · subst h; simp
    · simp [h]
theorem depth_strs : ∀ xs : List PySem.Str, PyData.depthAll (xs.map .str) = 0
  | [] => rfl
  | x :: xs => by
    show max (PyData.depth (.str x)) (PyData.depthAll (xs.map .str)) = 0
    rw [depth_strs xs]
    rfl
theorem shaped_strs {xs : List PySem.Str} (h : xs.all PyData.strOk = true) : SeqAt.shaped (.list (xs.map .str)) = true := by
  unfold SeqAt.shaped
  refine Bool.and_eq_true_iff.mpr ⟨?_, decide_eq_true ?_⟩
  · show PyData.canLayAll0 (xs.map .str) = true
    rw [canLayAll_strs']
    exact h
  · show PyData.depthAll (xs.map .str) + 1 ≤ 64
    rw [depth_strs]
    decide
theorem dp_strs {K : PySem.W.Frag} {H : Hp} : ∀ xs : List PySem.Str, DpAll K H (xs.map V.str) (xs.map .str)
  | [] => .nil
  | x :: xs => .cons (.str x) (dp_strs xs)
/-- e is a new list of these texts, if s -/
def TL (G : L2.St → Hp → Prop) (xs : List PySem.Str) (s : Prop) : TE := fun σ H Q => G σ H ∧ s ∧ ∀ p H', Same H H' → H' p = some (.lst (xs.map V.str)) → Q (.ref p) H'
def TAS (G : L2.St → Hp → Prop) (xs : List PySem.Str) (s : Prop) : TA := fun σ H Q => G σ H ∧ s ∧ ∀ H', Same H H' → Q (xs.map V.str) H'
section
variable {X : Cx} {G : L2.St → Hp → Prop} {a b e : Expr} {es : List Expr} {s s1 s2 : Prop} {pos : Pos} {x : PySem.Str} {xs ys : List PySem.Str}
theorem vL {C : Addr} (L : List Sl) (j : Nat) (h : PE X e (tVar j)) (hL : L[j]? = some (.ls xs)) : PE X e (TL (Env C L) xs True) :=
  pe_weak h fun σ H Q ⟨hg, _, z⟩ => by
    obtain ⟨o, e1, p, rfl, r⟩ := hg.at hL
    exact ⟨_, e1, z p H (Same.refl _) r⟩
theorem pa_weak {t t' : TA} (h : PA X es t) (i : ∀ σ H Q, t' σ H Q → t σ H Q) : PA X es t' := ⟨fun p pins st σ H Q I x => h.run p pins st σ H Q I (i _ _ _ x)⟩
theorem pas_nil : PA X [] (TAS G [] True) := pa_weak pa_nil fun σ H Q ⟨hg, _, z⟩ => z H (Same.refl _)
theorem pas_cons (hG : GS G) (ha : PE X a (TS G x s1)) (hr : PA X es (TAS G xs s2)) (he : starEach (a :: es) X.env = (false, eval a X.env) :: starEach es X.env := by rfl) : PA X (a :: es) (TAS G (x :: xs) (s1 ∧ s2)) :=
  pa_weak (pa_cons ha hr he) fun σ H Q ⟨hg, ⟨h1, h2⟩, z⟩ => ⟨hg, h1, fun H1 S1 => ⟨hG _ _ _ hg S1, h2, fun H2 S2 => z H2 (S1.trans S2)⟩⟩
theorem pL_lst (h : PA X es (TAS G xs s)) : PE X (.List es pos) (TL G xs (s ∧ xs.length ≤ sizeLine)) :=
  pe_weak (pe_lst h) fun σ H Q ⟨hg, ⟨h1, h2⟩, z⟩ => ⟨hg, h1, fun H1 S1 => ⟨by rw [List.length_map]; exact h2, fun p np => z p _ (same_new S1 np) upd_same⟩⟩
theorem pL_cat (hG : GS G) (ha : PE X a (TL G xs s1)) (hb : PE X b (TL G ys s2)) : PE X (.BinOp a .Add b pos) (TL G (xs ++ ys) (s1 ∧ s2 ∧ xs.length + ys.length ≤ sizeLine)) :=
  pe_weak (pe_op op_cat ha hb) fun σ H Q ⟨hg, ⟨h1, h2, h3⟩, z⟩ => ⟨hg, h1, fun p H1 S1 e1 => ⟨hG _ _ _ hg S1, h2, fun u H2 S2 e2 => ⟨p, u, _, _, rfl, rfl, S2 _ _ e1, e2, (by rw [List.length_map, List.length_map]; exact h3), fun w nw => z w _ (same_new (S1.trans S2) nw) (by rw [upd_same, List.map_append])⟩⟩⟩
theorem pb_neL (hu : X.A.units + 64 < cLine) (hG : GS G) (hm : behindInMarks .NotEq b = false) (ha : PE X a (TL G xs s1)) (hb : PE X b (TL G ys s2)) (hx : xs.all PyData.strOk = true) (hy : ys.all PyData.strOk = true) :
    PE X (.Compare a [.NotEq] [b] pos) (TB G (!decide (xs = ys)) (s1 ∧ s2)) :=
  pe_weak (pe_cmpR (op_neD hu) ha hb hm) fun σ H Q ⟨hg, ⟨h1, h2⟩, z⟩ => ⟨hg, h1, fun p H1 S1 e1 => ⟨hG _ _ _ hg S1, h2, fun u H2 S2 e2 =>
    ⟨_, _, .lst (SqL.of (S2 _ _ e1)) (dp_strs xs), .lst (SqL.of e2) (dp_strs ys), shaped_strs hx, shaped_strs hy, by
      show Q (.bl (!PyData.eqvAll (xs.map .str) (ys.map .str))) H2
      rw [eqv_strs]
      exact z H2 (S1.trans S2)⟩⟩⟩
theorem pb_neLT (hu : X.A.units + 64 < cLine) (hG : GS G) (hm : behindInMarks .NotEq b = false) (ha : PE X a (TL G xs s1)) (hb : PE X b (TL G ys s2)) (hx : xs.all PyData.strOk = true) (hy : ys.all PyData.strOk = true) :
    PT X (.Compare a [.NotEq] [b] pos) (TBt G (!decide (xs = ys)) (s1 ∧ s2)) :=
  pt_weak (pt_cmpR (op_neD hu) ha hb hm) fun σ H Q ⟨hg, ⟨h1, h2⟩, z⟩ => ⟨hg, h1, fun p H1 S1 e1 => ⟨hG _ _ _ hg S1, h2, fun u H2 S2 e2 =>
    ⟨_, _, .lst (SqL.of (S2 _ _ e1)) (dp_strs xs), .lst (SqL.of e2) (dp_strs ys), shaped_strs hx, shaped_strs hy, _, rfl, by
      show Q (!PyData.eqvAll (xs.map .str) (ys.map .str)) H2
      rw [eqv_strs]
      exact z H2 (S1.trans S2)⟩⟩⟩
end
end SQ

/-! Calls by keyword alone: own defs, methods of own instances. -/
namespace SF
open PySem PySem.Spec PyProof.Rows L2
def tCallK (n : Nat) (sp : Sp) (gV : List V → List V → List V) (E : XK) (tk : TA) : TE := fun σ H Q => tk σ H fun zs H1 => zs.length = n ∧ sp (gV [] zs) H1 Q E
def tMethK (C : Addr) (m : Str) (n : Nat) (sp : Sp) (gV : List V → List V → List V) (E : XK) (ta : TE) (tk : TA) : TE := fun σ H Q => ta σ H fun x H1 => ∃ a dx fs, x = .ref a ∧ H1 a = some (.ins C dx fs) ∧ fs.lookup m = none ∧ tk σ H1 fun zs H2 => zs.length = n ∧ sp (gV [x] zs) H2 Q E
section
variable {X : Cx} {CX : CXT} {k n : Nat} {f C : Addr} {fd : FuncData} {ps ks : List Str} {sp : Sp} {E : XK} {x m : Str} {p pos apos : Pos} {o : Expr} {kws : List Keyword} {ta : TE} {tk : TA} {g : List Value → List Value → List Value} {gV : List V → List V → List V}
theorem run_kw {pins : List (Addr × Obj)} {σ : L2.St} {H : Hp} {s : Shared} {Q : VK} {us ws : List Value} {vs zs : List V} (F : FnOk X.prog X.w X.K X.mg X.base CX k f fd ps sp) (hr : Room k X.A) (hb : KBn X.K fd ps n ks g gV) (hx : Passes CX X E)
    (I : Inv X pins σ H s) (r : Vals vs us) (rz : Vals zs ws) (l1 : us.length = n) (l2 : zs.length = ks.length) (h : sp (gV vs zs) H Q E) : wpAny (model X.prog X.w) X.A (call (.ref f) us (ks.zip ws)) (EP X pins σ Q) X.xe s := by
  refine wpAny_call (codeAny_mono (F.run X.A X.stack s H ⟨us, ks.zip ws⟩ (g us ws) (gV vs zs) Q E hr I.env0 (hb.to s us ws I.kIn l1 (rz.length.symm.trans l2)) (hb.rel r rz) h) fun r s' hq => ?_)
  cases r with
  | error e => exact hx pins σ H s e s' I hq
  | ok fl =>
    cases fl with
    | ret u => exact I.after hq
    | next => exact False.elim hq
    | brk => exact False.elim hq
    | cont => exact False.elim hq
/-- x(f = e, ..) -/
theorem pe_callKW (F : FnOk X.prog X.w X.K X.mg X.base CX k f fd ps sp) (hr : Room k X.A) (hg : Gl X x) (hm : X.mg x = some (.ref f)) (hk : PySem.W.keepIn X.K (.ref f) = true) (hb : KBn X.K fd ps 0 ks g gV) (hx : Passes CX X E) (hkw : PK X kws tk)
    (hall : (backToKw pos (keywordEach kws X.env)).all (·.1.isSome) = true := by rfl) (hks : (backToKw pos (keywordEach kws X.env)).filterMap (·.1) = ks := by rfl) (hdb : (x == ("__debug__" : Str)) = false := by decide)
    (hpl : ((backTo pos (starEach [] X.env)).any (·.1) || (backToKw pos (keywordEach kws X.env)).any (·.1.isNone)) = false := by rfl) :
    PE X (.Call (.Name x p) [] kws pos) (tCallK ks.length sp gV E tk) := by
  refine ⟨fun pins s σ H Q I h => ?_⟩
  refine wpAny_Call_Name_kw (ld_glob I hg hm ?_ hdb)
  refine PySem.W.callWith_KW0 (h₀ := X.base) I.ok.mod.kin hk hall ?_ hpl
  refine thn (hkw.run pos pins s σ H _ I h) fun ws s2 ⟨zs, H2, I2, rz, l2, q2⟩ => ⟨I2.kIn, ?_⟩
  rw [hks]
  exact run_kw (us := []) (vs := []) F hr hb hx I2 .nil rz rfl l2 q2
/-- o.m(f = e, ..) -/
theorem pe_methKW {pl : Sem Bool} (he : PE X o ta) (c : Cls X.K C) (hm : Meth X.K C m f) (F : FnOk X.prog X.w X.K X.mg X.base CX k f fd ps sp) (hr : Room k X.A) (hb : KBn X.K fd ps 1 ks g gV) (hx : Passes CX X E) (hkw : PK X kws tk)
    (hall : (backToKw pos (keywordEach kws X.env)).all (·.1.isSome) = true := by rfl) (hks : (backToKw pos (keywordEach kws X.env)).filterMap (·.1) = ks := by rfl)
    (hpl : ((backTo pos (starEach [] X.env)).any (·.1) || (backToKw pos (keywordEach kws X.env)).any (·.1.isNone)) = false := by rfl)
    (ht : eval (.Call (.Attribute o m apos) [] kws pos) X.env = (do
      let ov ← eval o X.env
      standAt apos.atName
      let (f, first) ← holding [ov] (getMethod ov m pl)
      callWith pos f first (backTo pos (starEach [] X.env)) (backToKw pos (keywordEach kws X.env))) := by rfl) :
    PE X (.Call (.Attribute o m apos) [] kws pos) (tMethK C m ks.length sp gV E ta tk) := by
  refine ⟨fun pins s σ H Q I h => ?_⟩
  refine PySem.W.methodCall_KW (pl := pl) (thn (he.run pins s σ H _ I h) fun u s1 ⟨x, H1, I1, rx, a, dx, fs, ex, ea, l, q⟩ => ?_) ht
  subst ex
  obtain rfl : u = Value.ref a := rx
  refine getmeth_ok I1 ea c hm l ?_
  refine PySem.W.callWith_KW0 (first := [.ref a]) (h₀ := X.base) I.ok.mod.kin hm.kp hall ?_ hpl
  refine thn (hkw.run pos pins s1 σ H1 _ I1 q) fun ws s2 ⟨zs, H2, I2, rz, l2, q2⟩ => ⟨I2.kIn, ?_⟩
  rw [hks]
  exact run_kw (us := [.ref a]) (vs := [.ref a]) F hr hb hx I2 (.cons rfl .nil) rz rfl l2 q2
end
end SF

/-! Tests of what was told or caught. -/
namespace SQ
open PySem PySem.Spec PyProof.Rows L2 SF LamX
/-- a test whose answer is known, behind which tables of code objects may have grown -/
def TCt (T : List (Addr × PySem.Str)) (G : L2.St → Hp → Prop) (b : Bool) (s : Prop) : TT := fun σ H Q => G σ H ∧ Tabs T H ∧ s ∧ ∀ H', ExtN H H' → Tabs T H' → Q b H'
section
variable {X : Cx} {T : List (Addr × PySem.Str)} {G : L2.St → Hp → Prop} {a b : Expr} {s1 s2 : Prop} {pos : Pos} {w x : PySem.Str} {ys : List PySem.Str} {b1 b2 : Bool} {rest : List Expr}
theorem ext_tabs {H H' : Hp} (t : Tabs T H) (s : Same H H') : Tabs T H' := t.ext s
/-- _law_caught(..) != e -/
theorem pc_neT (hu : X.A.units + 64 < cLine) (hG : GN G) (hm : behindInMarks .NotEq b = false) (ha : PE X a (TC T G w x s1)) (hb : PE X b (TL G ys s2)) (hx : [w, x].all PyData.strOk = true) (hy : ys.all PyData.strOk = true) :
    PT X (.Compare a [.NotEq] [b] pos) (TCt T G (!decide ([w, x] = ys)) (s1 ∧ s2)) :=
  pt_weak (pt_cmpR (op_neD hu) ha hb hm) fun σ H Q ⟨hg, hT, ⟨h1, h2⟩, z⟩ => ⟨hg, hT, h1, fun p H1 S1 T1 e1 => ⟨hG _ _ _ hg S1, h2, fun u H2 S2 e2 =>
    ⟨_, _, .lst (SqL.of (S2 _ _ e1)) (dp_strs [w, x]), .lst (SqL.of e2) (dp_strs ys), shaped_strs hx, shaped_strs hy, _, rfl, by
      show Q (!PyData.eqvAll ([w, x].map .str) (ys.map .str)) H2
      rw [eqv_strs]
      exact z H2 (S1.trans (ExtN.of S2)) (T1.ext S2)⟩⟩⟩
theorem pc_or1 (ha : PT X a (TCt T G b1 s1)) : PW X (.BoolOp .Or [a] pos) (TCt T G b1 s1) := pw_or1 ha
theorem pc_and1 (ha : PT X a (TCt T G b1 s1)) : PW X (.BoolOp .And [a] pos) (TCt T G b1 s1) := pw_and1 ha
theorem pc_or (hG : GN G) (ha : PT X a (TCt T G b1 s1)) (hb : PW X (.BoolOp .Or (b :: rest) pos) (TBt G b2 s2)) : PW X (.BoolOp .Or (a :: b :: rest) pos) (TCt T G (b1 || b2) (s1 ∧ (b1 = false → s2))) :=
  pw_weak (pw_or ha hb) fun σ H Q ⟨hg, hT, ⟨h1, h2⟩, z⟩ => ⟨hg, hT, h1, fun H1 S1 T1 => by
    cases b1 with
    | true => exact iteT (by simpa using z H1 S1 T1)
    | false => exact iteF ⟨hG _ _ _ hg S1, h2 rfl, fun H2 S2 => by simpa using z H2 (S1.trans (ExtN.of S2)) (T1.ext S2)⟩⟩
theorem pc_and (hG : GS G) (ha : PT X a (TBt G b1 s1)) (hb : PW X (.BoolOp .And (b :: rest) pos) (TCt T G b2 s2)) : PW X (.BoolOp .And (a :: b :: rest) pos) (TCt T G (b1 && b2) (s1 ∧ (b1 = true → s2))) :=
  pw_weak (pw_and ha hb) fun σ H Q ⟨hg, hT, ⟨h1, h2⟩, z⟩ => by
    refine ⟨hg, h1, fun H1 S1 => ?_⟩
    cases b1 with
    | false => exact iteF (by simpa using z H1 (ExtN.of S1) (hT.ext S1))
    | true => exact iteT ⟨hG _ _ _ hg S1, hT.ext S1, h2 rfl, fun H2 S2 T2 => by simpa using z H2 ((ExtN.of S1).trans S2) T2⟩
end
end SQ

/-! Comprehensions of texts over lists whose items are known by slots. -/
namespace SQ
open PySem PySem.Spec PyProof.Rows L2 SF LamX
def tExE {α : Type} (t : α → TE) : TE := fun σ H Q => ∃ i, t i σ H Q
theorem pe_exT {α : Type} {X : Cx} {e : Expr} {t : α → TE} (h : ∀ i, PE X e (t i)) : PE X e (tExE t) := ⟨fun pins s σ H Q I ⟨i, z⟩ => (h i).run pins s σ H Q I z⟩
theorem Env.set {C : Addr} {z : Sl} {w : V} {H : Hp} : ∀ {L : List Sl} {σ : L2.St} {j : Nat}, Env C L σ H → z.ok C H (some w) → Env C (L.set j z) (σ.set j (some w)) H
  | [], σ, j, h, k => trivial
  | _ :: L, [], j, h, k => h.elim
  | _ :: L, _ :: σ, 0, h, k => ⟨k, h.2⟩
  | _ :: L, _ :: σ, j + 1, h, k => ⟨h.1, Env.set h.2 k⟩
theorem Env.setAny {C : Addr} {o : Option V} {H : Hp} : ∀ {L : List Sl} {σ : L2.St} {j : Nat}, Env C L σ H → L[j]? = some .any → Env C L (σ.set j o) H
  | [], σ, j, h, k => trivial
  | _ :: L, [], j, h, k => h.elim
  | _ :: L, _ :: σ, 0, h, k => by cases k; exact ⟨trivial, h.2⟩
  | _ :: L, _ :: σ, j + 1, h, k => ⟨h.1, Env.setAny h.2 k⟩
/-- e is a thing of this slot -/
def TSl (C : Addr) (G : L2.St → Hp → Prop) (z : Sl) (s : Prop) : TE := fun σ H Q => G σ H ∧ s ∧ ∀ w H', Same H H' → z.ok C H' (some w) → Q w H'
def Oks (C : Addr) (H : Hp) (sl : List Sl) (ws : List V) : Prop := ws.length = sl.length ∧ ∀ (t : Nat) (z : Sl) (w : V), sl[t]? = some z → ws[t]? = some w → z.ok C H (some w)
def TAsl (C : Addr) (G : L2.St → Hp → Prop) (sl : List Sl) (s : Prop) : TA := fun σ H Q => G σ H ∧ s ∧ ∀ ws H', Same H H' → Oks C H' sl ws → Q ws H'
def TLs (C : Addr) (G : L2.St → Hp → Prop) (sl : List Sl) (s : Prop) : TE := fun σ H Q => G σ H ∧ s ∧ ∀ p ws H', Same H H' → H' p = some (.lst ws) → Oks C H' sl ws → Q (.ref p) H'
theorem Oks.same {C : Addr} {H H' : Hp} {sl : List Sl} {ws : List V} (h : Oks C H sl ws) (S : Same H H') : Oks C H' sl ws := ⟨h.1, fun t z w a b => Sl.same (h.2 t z w a b) S⟩
theorem Oks.cons {C : Addr} {H : Hp} {z : Sl} {w : V} {sl : List Sl} {ws : List V} (h : z.ok C H (some w)) (r : Oks C H sl ws) : Oks C H (z :: sl) (w :: ws) :=
  ⟨by rw [List.length_cons, List.length_cons, r.1], fun t => match t with
    | 0 => fun z w a b => by cases a; cases b; exact h
    | t + 1 => fun z w a b => r.2 t z w a b⟩
section
variable {X : Cx} {C : Addr} {G : L2.St → Hp → Prop} {a e : Expr} {es : List Expr} {s s1 s2 : Prop} {pos : Pos} {z : Sl} {sl : List Sl} {n : Nat} {q : Rat} {i : Int} {L : List Sl}
theorem sl_i (h : PE X e (TI G i s)) : PE X e (TSl C G (.i i) s) := pe_weak h fun σ H Q ⟨hg, h1, w⟩ => ⟨hg, h1, fun H' S => w _ H' S rfl⟩
theorem sl_p (h : PE X e (TP G n q s)) : PE X e (TSl C G (.pr n q) s) := pe_weak h fun σ H Q ⟨hg, h1, w⟩ => ⟨hg, h1, fun p H' S r => w _ H' S ⟨p, rfl, r⟩⟩
theorem psl_nil : PA X [] (TAsl C G [] True) := pa_weak pa_nil fun σ H Q ⟨hg, _, z⟩ => z [] H (Same.refl _) ⟨rfl, fun t z w a => by cases a⟩
theorem psl_cons (hG : GS G) (ha : PE X a (TSl C G z s1)) (hr : PA X es (TAsl C G sl s2)) (he : starEach (a :: es) X.env = (false, eval a X.env) :: starEach es X.env := by rfl) : PA X (a :: es) (TAsl C G (z :: sl) (s1 ∧ s2)) :=
  pa_weak (pa_cons ha hr he) fun σ H Q ⟨hg, ⟨h1, h2⟩, k⟩ => ⟨hg, h1, fun w H1 S1 kw => ⟨hG _ _ _ hg S1, h2, fun ws H2 S2 kws => k _ H2 (S1.trans S2) (.cons (Sl.same kw S2) kws)⟩⟩
theorem pls_lst (h : PA X es (TAsl C G sl s)) : PE X (.List es pos) (TLs C G sl (s ∧ sl.length ≤ sizeLine)) :=
  pe_weak (pe_lst h) fun σ H Q ⟨hg, ⟨h1, h2⟩, z⟩ => ⟨hg, h1, fun ws H1 S1 k => ⟨by have e := k.1; omega, fun p np => z p ws _ (same_new S1 np) upd_same (k.same (same_new (Same.refl _) np))⟩⟩
/-- [elt for y in iter]: a list of texts -/
theorem pL_comp {elt tg iter : Expr} {scope : Scope} {y : Str} {j : Nat} {xs : List Str} {se : Nat → Prop} (hc : X.calm = true) (hN : X.N.Nodup) (hi : PE X iter (TLs C G sl s)) (ok : BlkOk X.N X.env.scope scope [(y, j)]) (hGL : ∀ σ H, G σ H → Env C L σ H) (hG : GS G) (hL : L[j]? = some .any) (hlen : xs.length = sl.length)
    (hg : ∀ (s : Shared) (H : Hp) (C : Addr) (cl : List (Str × Addr)) (fp : List Addr), PG (X.blk s H scope (compEnvC scope cl C X.env) fp) tg (gName j))
    (he : ∀ (t : Fin sl.length) (s : Shared) (H : Hp) (D : Addr) (cl : List (Str × Addr)) (fp : List Addr), PE (X.blk s H scope (compEnvC scope cl D X.env) fp) elt (TS (Env C (L.set j sl[t.1])) (xs[t.1]'(by rw [hlen]; exact t.2)) (se t.1)))
    (hs : ∀ x, foldedSetIterable iter X.env x = pure x := by intro _; rfl) :
    PE X (.ListComp elt [⟨tg, iter, [], 0⟩] scope pos) (TL (fun _ _ => True) xs True |> fun _ => fun σ H Q => G σ H ∧ (s ∧ (∀ t, t < sl.length → se t) ∧ sl.length ≤ sizeLine) ∧ ∀ p H', Same H H' → H' p = some (.lst (xs.map V.str)) → Q (.ref p) H') := by
  refine pe_weak (pe_lc hc hN (pi_list hi) ok hg (fun _ _ _ _ _ => pts_nil) (fun s H D cl fp => pe_exT fun t => he t s H D cl fp) hs) ?_
  rintro σ H Q ⟨hg', ⟨h1, h2, h3⟩, z⟩
  refine ⟨hg', h1, fun p ws H1 S1 e1 kw => ⟨p, rfl, ⟨_, SqL.of e1⟩, fun D hD => lc_list (a := p) (xs := ws) (fun k H2 => Same H1 H2 ∧ H2 D = some (.lst ((xs.take k).map V.str))) ⟨same_new (Same.refl _) hD, upd_same⟩ (fun k H2 _ ⟨S, _⟩ => SqL.of (S _ _ e1)) (fun k w H2 hk ⟨S2, g2⟩ => ?_) (fun H2 ⟨S2, g2⟩ => ?_)⟩⟩
  · have hkl : k < sl.length := by rw [← kw.1]; exact (List.getElem?_eq_some_iff.mp hk).1
    refine ⟨by simp [wipe, List.set_set], ⟨k, hkl⟩, ?_, h2 k hkl, fun H4 S4 => ⟨_, S4 _ _ g2, ?_, ?_, ?_⟩⟩
    · have ev := hGL _ _ (hG _ _ _ hg' (S1.trans S2))
      have kz : (sl[k]).ok C H2 (some w) := Sl.same (kw.2 k _ w (List.getElem?_eq_getElem hkl) hk) S2
      exact Env.set (Env.setAny ev hL) kz
    · rw [List.length_map, List.length_take]
      exact Nat.lt_of_lt_of_le (by omega) h3
    · intro b o e
      have nb : b ≠ D := ne_of_none e hD
      rw [upd_ne nb]
      exact S4 _ _ (S2 _ _ e)
    · rw [upd_same, List.take_add_one, List.getElem?_eq_getElem (by rw [hlen]; exact hkl), List.map_append]
      rfl
  · have hz : H2 D = some (.lst (xs.map V.str)) := by
      rw [kw.1, ← hlen, List.take_length] at g2
      exact g2
    exact z D H2 (S1.trans S2) hz
end
end SQ

/-! for place, x in enumerate(t); comprehensions that only make objects; != with an own instance on the right; entries (gaps and fractions) compared. -/
namespace SK
open PySem PySem.Spec PyProof.Rows L2 SF SQ
def iEnumT (K : PySem.W.Frag) (ta : TA) : TI := fun σ H R => ta σ H fun vs H1 => ∃ a xs, vs = [.ref a] ∧ SqT K H1 a xs ∧ R (ItEt K a) H1
theorem pi_enumT {X : Cx} {e : Expr} {ta : TA} {p pos tpos : Pos} {elts : List Expr} {kk : Nat} (hg : Gl X "enumerate") (hm : X.mg "enumerate" = none) (ha : PA X [e] ta) (hs : starEach [e] X.env = [(false, eval e X.env)] := by rfl) :
    PI X (.Tuple elts kk tpos) (.Call (.Name "enumerate" p) [e] [] pos) (iEnumT X.K ta) := by
  refine ⟨fun pins s σ H R I h => ?_⟩
  refine Call_ (ld_blt I hg hm boot_enumerate (PyProof.Rows.callWith_type1 (thn (ha.run pos pins s σ H _ I h) fun us s1 ⟨vs, H1, I1, r1, q1⟩ => ?_) hs rfl))
  obtain ⟨a, xs, ex, hq, q⟩ := q1
  subst ex
  cases r1 with
  | cons r rr =>
    cases rr
    cases r
    obtain ⟨its, rv, p', hz⟩ := I1.tuple hq
    have p' : s1.heap.IsTuple a its.toArray := p'
    have hal : a < s1.heap.objs.size := by obtain ⟨_, g, _⟩ := p'; exact Heap.lt_size g
    refine SKx.call_enumT p' fun h' he hit hk => wpAny_pyIter_enum he ?_
    have I2 : Inv X pins σ H1 { s1 with heap := h' } := I1.kept (t' := s1.toks) hk
    refine ⟨s1.heap.objs.size + 1, [s1.heap.objs.size + 1, s1.heap.objs.size], _, _, H1, rfl, I2, turn_enumT a (s1.heap.objs.size + 1) s1.heap.objs.size (Nat.ne_of_lt hal) (Nat.ne_of_lt (Nat.lt_succ_of_lt hal)), ⟨⟨.none, he⟩, hit, Nat.succ_ne_self _⟩, fun b hb => ?_, q⟩
    have e' : b = s1.heap.objs.size + 1 ∨ b = s1.heap.objs.size := by simpa using hb
    have hle : s1.heap.objs.size ≤ b := by
      rcases e' with z | z
      · rw [z]; exact Nat.le_add_right _ _
      · rw [z]; exact Nat.le_refl _
    exact I1.fpOk hle (I1.hok.fresh hle)
/-- a comprehension over enumerate(a tuple) -/
theorem lc_enumT {K : PySem.W.Frag} {a : Addr} {xs : List V} {g : TG} {tt : TT} {te : TE} {vs : List Nat} {σ : L2.St} {H1 : Hp} {D : Addr} {Qd : Hp → Prop} (Pv : Nat → Hp → Prop) (h0 : Pv 0 (upd H1 D (.lst []))) (hl : ∀ i H, Pv i H → SqT K H a xs)
    (hs : ∀ (i : Nat) x T H, xs[i]? = some x → Pv i H → H T = none → g (.ref T) (wipe σ vs) (upd H T (.tup [.int (i : Nat), x])) fun σ2 H2 => wipe σ2 vs = wipe σ vs ∧ tt σ2 H2 fun b H3 =>
      if b = true then te σ2 H3 fun y H4 => ∃ acc, H4 D = some (.lst acc) ∧ acc.length < sizeLine ∧ Pv (i + 1) (upd H4 D (.lst (acc ++ [y]))) else Pv (i + 1) H3) (hd : ∀ H, Pv xs.length H → Qd H) :
    ∃ W : Nat → Nat → Hp → Prop, (∃ m, W 0 m (upd H1 D (.lst []))) ∧ ∀ i m H, W i m H →
      ((ItEt K a).stop i H ∧ Qd H) ∨ ((ItEt K a).go i H ∧ ∃ Nx : Hp → Prop, (∀ H', Nx H' → ∃ m', m' < m ∧ W (i + 1) m' H') ∧ ∀ x H', (ItEt K a).yld i H x H' → g x (wipe σ vs) H' fun σ2 H2 => wipe σ2 vs = wipe σ vs ∧ tt σ2 H2 fun b H3 =>
        if b = true then te σ2 H3 fun y H4 => ∃ acc, H4 D = some (.lst acc) ∧ acc.length < sizeLine ∧ Nx (upd H4 D (.lst (acc ++ [y]))) else Nx H3) := by
  refine ⟨fun i m H => m = xs.length - i ∧ i ≤ xs.length ∧ Pv i H, ⟨xs.length, rfl, Nat.zero_le _, h0⟩, ?_⟩
  rintro i m H ⟨rfl, hi, p⟩
  have q := hl i H p
  by_cases hlt : i < xs.length
  · have hx : xs[i]? = some xs[i] := List.getElem?_eq_getElem hlt
    refine .inr ⟨⟨xs, xs[i], q, hx⟩, Pv (i + 1), fun H' p' => ⟨xs.length - (i + 1), by omega, rfl, hlt, p'⟩, fun v H' y => ?_⟩
    obtain ⟨T, x', rfl, hT, rfl, f1⟩ := y
    exact hs i x' T H (f1 xs q) p hT
  · have e : i = xs.length := by omega
    subst e
    exact .inl ⟨⟨xs, q, Nat.le_refl _⟩, hd H p⟩
theorem wipe1 (σ : L2.St) (j : Nat) (o : Option V) : wipe ((wipe σ [j]).set j o) [j] = wipe σ [j] := by simp [wipe, List.set_set]
/-- what a comprehension that only makes objects has made so far -/
def Made (P : Nat → V → Hp → Prop) (H0 : Hp) (D : Addr) (i : Nat) (H : Hp) : Prop := Same H0 H ∧ ∃ ys, H D = some (.lst ys) ∧ ys.length = i ∧ ∀ k y, ys[k]? = some y → P k y H
theorem Made.start {P : Nat → V → Hp → Prop} {H0 : Hp} {D : Addr} (hD : H0 D = none) : Made P H0 D 0 (upd H0 D (.lst [])) := ⟨same_new (Same.refl _) hD, [], upd_same, rfl, fun k y h => by simp at h⟩
theorem Made.step {P : Nat → V → Hp → Prop} (mono : ∀ k y H H', Same H H' → P k y H → P k y H') (off : ∀ k y H D xs zs, H D = some (.lst xs) → P k y H → P k y (upd H D (.lst zs))) {H0 H H4 : Hp} {D : Addr} {i : Nat} {y : V} (hD : H0 D = none) (m : Made P H0 D i H) (S : Same H H4) (p : P i y H4) (hi : i < sizeLine) :
    ∃ acc, H4 D = some (.lst acc) ∧ acc.length < sizeLine ∧ Made P H0 D (i + 1) (upd H4 D (.lst (acc ++ [y]))) := by
  obtain ⟨S0, ys, hy, hl, hp⟩ := m
  have hy4 := S _ _ hy
  refine ⟨ys, hy4, by rw [hl]; exact hi, fun b o e => ?_, ys ++ [y], upd_same, by rw [List.length_append, hl]; rfl, fun k z hk => ?_⟩
  · rw [upd_ne (ne_of_none e hD)]
    exact S _ _ (S0 _ _ e)
  · refine off _ _ _ _ _ _ hy4 ?_
    by_cases hlt : k < ys.length
    · rw [List.getElem?_append_left hlt] at hk
      exact mono _ _ _ _ S (hp k z hk)
    · have e : k = ys.length := by
        have h2 := (List.getElem?_eq_some_iff.mp hk).1
        rw [List.length_append] at h2
        simp at h2
        omega
      subst e
      rw [List.getElem?_append_right (Nat.le_refl _)] at hk
      simp at hk
      subst hk
      rw [hl]
      exact p
section
variable {K : PySem.W.Frag} {a D : Addr} {xs : List V} {te : TE} {j : Nat} {σ : L2.St} {H1 : Hp} {Qd : Hp → Prop} {P : Nat → V → Hp → Prop}
theorem lcS_list (mono : ∀ k y H H', Same H H' → P k y H → P k y H') (off : ∀ k y H D xs zs, H D = some (.lst xs) → P k y H → P k y (upd H D (.lst zs))) (hl : SqL K H1 a xs) (hz : xs.length ≤ sizeLine) (hD : H1 D = none)
    (step : ∀ i x H Q, xs[i]? = some x → Same H1 H → (∀ y H', Same H H' → P i y H' → Q y H') → te ((wipe σ [j]).set j (some x)) H Q) (fin : ∀ H ys, Same H1 H → H D = some (.lst ys) → ys.length = xs.length → (∀ k y, ys[k]? = some y → P k y H) → Qd H) :
    ∃ W : Nat → Nat → Hp → Prop, (∃ m, W 0 m (upd H1 D (.lst []))) ∧ ∀ i m H, W i m H →
      ((Itl K a).stop i H ∧ Qd H) ∨ ((Itl K a).go i H ∧ ∃ Nx : Hp → Prop, (∀ H', Nx H' → ∃ m', m' < m ∧ W (i + 1) m' H') ∧ ∀ x H', (Itl K a).yld i H x H' → gName j x (wipe σ [j]) H' fun σ2 H2 => wipe σ2 [j] = wipe σ [j] ∧ tYes σ2 H2 fun b H3 =>
        if b = true then te σ2 H3 fun y H4 => ∃ acc, H4 D = some (.lst acc) ∧ acc.length < sizeLine ∧ Nx (upd H4 D (.lst (acc ++ [y]))) else Nx H3) :=
  lc_list (fun i H => Made P H1 D i H) (Made.start hD) (fun i H _ m => hl.ext m.1) (fun i x H hx m => ⟨wipe1 _ _ _, iteT (B := Made P H1 D (i + 1) H) (step i x H _ hx m.1 fun y H' S p =>
    Made.step mono off hD m S p (Nat.lt_of_lt_of_le (List.getElem?_eq_some_iff.mp hx).1 hz))⟩) (fun H m => let ⟨S, ys, h1, h2, h3⟩ := m; fin H ys S h1 h2 h3)
theorem lcS_tup (mono : ∀ k y H H', Same H H' → P k y H → P k y H') (off : ∀ k y H D xs zs, H D = some (.lst xs) → P k y H → P k y (upd H D (.lst zs))) (hl : SqT K H1 a xs) (hz : xs.length ≤ sizeLine) (hD : H1 D = none)
    (step : ∀ i x H Q, xs[i]? = some x → Same H1 H → (∀ y H', Same H H' → P i y H' → Q y H') → te ((wipe σ [j]).set j (some x)) H Q) (fin : ∀ H ys, Same H1 H → H D = some (.lst ys) → ys.length = xs.length → (∀ k y, ys[k]? = some y → P k y H) → Qd H) :
    ∃ W : Nat → Nat → Hp → Prop, (∃ m, W 0 m (upd H1 D (.lst []))) ∧ ∀ i m H, W i m H →
      ((Itt K a).stop i H ∧ Qd H) ∨ ((Itt K a).go i H ∧ ∃ Nx : Hp → Prop, (∀ H', Nx H' → ∃ m', m' < m ∧ W (i + 1) m' H') ∧ ∀ x H', (Itt K a).yld i H x H' → gName j x (wipe σ [j]) H' fun σ2 H2 => wipe σ2 [j] = wipe σ [j] ∧ tYes σ2 H2 fun b H3 =>
        if b = true then te σ2 H3 fun y H4 => ∃ acc, H4 D = some (.lst acc) ∧ acc.length < sizeLine ∧ Nx (upd H4 D (.lst (acc ++ [y]))) else Nx H3) :=
  lc_tup (fun i H => Made P H1 D i H) (Made.start hD) (fun i H _ m => hl.ext m.1) (fun i x H hx m => ⟨wipe1 _ _ _, iteT (B := Made P H1 D (i + 1) H) (step i x H _ hx m.1 fun y H' S p =>
    Made.step mono off hD m S p (Nat.lt_of_lt_of_le (List.getElem?_eq_some_iff.mp hx).1 hz))⟩) (fun H m => let ⟨S, ys, h1, h2, h3⟩ := m; fin H ys S h1 h2 h3)
end
/-! ### != with an own instance on the right -/
section
variable {prog : Program} {w : World} {A : Around} {R : Result → Shared → Prop} {s : Shared} {K : PySem.W.Frag} {x C l : Addr} {ox : Obj} {od : Option Obj}
open AutoSeq1 (wpAny_loadPart')
theorem str_ne_decl (b : PySem.Str) (u : Tok) (l C dx : Addr) : Meets (Builtin.«str.__ne__» ⟨[.str b u, .ref l], []⟩) (fun _ R s => s.heap.get? l = some (PySem.W.instObj C dx) ∧ R (.ok (.ret .notImplemented)) s) :=
  .of_wp fun prog w A R s q => by obtain ⟨h0, h1, h2, h3, h4⟩ := s; obtain ⟨hi, q⟩ := q; wp_walk using wpAny_loadPart' hi, wpAny_load hi; exact ⟨_, rfl, q⟩
theorem list_ne_declK (X : K.In s.heap) (I : PySem.W.InstAt s.heap x ox C od) (hsub : PySem.W.subIn K (.ref C) (.type "list") = some false) (q : R (.ok (.ret .notImplemented)) s) :
    wpAny (model prog w) A.in1 (Builtin.«list.__ne__» ⟨[.ref l, .ref x], []⟩) (GQ.FinOf prog w A R) (fun z s' => R (.error z) s') s := by
  unfold Builtin.«list.__ne__»
  show wpAny _ _ (do
    let k ← isInstance (.ref x) (.type "list")
    _) _ _ s
  exact wpAny_bind (ref_isInst X I hsub (wpAny_pure q))
theorem tup_ne_declK (X : K.In s.heap) (I : PySem.W.InstAt s.heap x ox C od) (hsub : PySem.W.subIn K (.ref C) (.type "tuple") = some false) (q : R (.ok (.ret .notImplemented)) s) :
    wpAny (model prog w) A.in1 (Builtin.«tuple.__ne__» ⟨[.ref l, .ref x], []⟩) (GQ.FinOf prog w A R) (fun z s' => R (.error z) s') s := by
  unfold Builtin.«tuple.__ne__»
  show wpAny _ _ (do
    let k ← isInstance (.ref x) (.type "tuple")
    _) _ _ s
  exact wpAny_bind (ref_isInst X I hsub (wpAny_pure q))
end
/-- the kinds that stand on the left of != here -/
inductive DecN (H : Hp) : V → String → Prop where
  | non : DecN H .non "NoneType"
  | int (i : Int) : DecN H (.int i) "int"
  | str (x : PySem.Str) : DecN H (.str x) "str"
  | lst {a : Addr} {xs : List V} (e : H a = some (.lst xs)) : DecN H (.ref a) "list"
  | tup {a : Addr} {xs : List V} (e : H a = some (.tup xs)) : DecN H (.ref a) "tuple"
theorem DecN.dec {H : Hp} {x : V} {T : String} (d : DecN H x T) : Dec H x T := by cases d with
  | non => exact .non
  | int i => exact .int i
  | str x => exact .str x
  | lst e => exact .lst e
  | tup e => exact .tup e
section
variable {X : Cx} {CX : CXT} {n : Nat} {C g : Addr} {fd : FuncData} {ps : List PySem.Str} {sp : Sp} {E : XK}
theorem decN_try {pins : List (Addr × Obj)} {σ : L2.St} {H : Hp} {s : Shared} {x : V} {v : Value} {T : String} {a dx : Addr} {od : Option Obj} (I : Inv X pins σ H s) (r : RelV x v) (d : DecN H x T)
    (J : PySem.W.InstAt s.heap a (PySem.W.instObj C dx) C od) (hsub : PySem.W.subIn X.K (.ref C) (.type T) = some false) {A : Around} {E : Value → Shared → Prop} {R : Option Value → Shared → Prop} (q : R none s) :
    wpAny (model X.prog X.w) A (tryCompare v "__ne__" (.ref a)) R E s := by
  cases d with
  | non =>
    cases (show v = Value.none from r)
    exact wpAny_tryCompare_declines (T := "NoneType") rfl F.slot_NoneType_ne (call_gives F.slot_NoneType_ne rfl F.entry_NoneType_ne (F.args_NoneType_ne_2 _ _) (PySem.SeqAt.NoneType___ne___none_ref_0 a) ⟨rfl, q⟩)
  | int i =>
    obtain ⟨t, e⟩ := (show ∃ t, v = Value.int i t from r)
    cases e
    exact wpAny_tryCompare_declines (typeIs_int s i t) F.slot_int_ne (call_meets F.slot_int_ne (typeIs_int s i t) F.entry_int_ne (F.args_int_ne_2 _ _) (int_ne_decl i t a C dx) ⟨J.at_, rfl, q⟩)
  | str y =>
    obtain ⟨t, e⟩ := (show ∃ t, v = Value.str y t from r)
    cases e
    exact wpAny_tryCompare_declines (typeIs_str s y t) F.slot_str_ne (call_meets F.slot_str_ne (typeIs_str s y t) F.entry_str_ne (F.args_str_ne_2 _ _) (str_ne_decl y t a C dx) ⟨J.at_, rfl, q⟩)
  | @lst b xs e =>
    cases (show v = Value.ref b from r)
    obtain ⟨_, its, k, _, h1⟩ := (show ObjOk X.prog X.w H s.heap b (.lst xs) from I.hok b _ e)
    exact wpAny_tryCompare_declines ⟨_, h1, rfl⟩ F.slot_list_ne (GQ.call_here F.slot_list_ne ⟨_, h1, rfl⟩ F.entry_list_ne (F.args_list_ne_2 _ _) (list_ne_declK I.kIn J hsub ⟨rfl, q⟩))
  | @tup b xs e =>
    cases (show v = Value.ref b from r)
    obtain ⟨_, its, _, o, h1, h2, _⟩ := (show ObjOk X.prog X.w H s.heap b (.tup xs) from I.hok b _ e)
    have hT : s.TypeIs (.ref b) "tuple" := ⟨o, h1, h2⟩
    exact wpAny_tryCompare_declines hT F.slot_tuple_ne (GQ.call_here F.slot_tuple_ne hT F.entry_tuple_ne (F.args_tuple_ne_2 _ _) (tup_ne_declK I.kIn J hsub ⟨rfl, q⟩))
def rOwnNeD (C : Addr) (sp : Sp) (E : XK) : R2 := fun x y H Q => ∃ T a dx fs, y = .ref a ∧ H a = some (.ins C dx fs) ∧ DecN H x T ∧ sp [y, x] H (neQ Q) E
theorem op_ownNeD (hne : PySem.W.findIn X.K (.ref C) "__ne__" = some (some (.builtin "object.__ne__"))) (hm : PySem.W.mroIn X.K C (.type "object") = some true)
    (hs : PySem.W.findIn X.K (.ref C) "__eq__" = some (some (.ref g))) (hf : PySem.W.isFn X.K (.ref g) = true) (hN : NoSub X.K C)
    (F : FnOk X.prog X.w X.K X.mg X.base CX n g fd ps sp) (hb : Binds X.K fd ps []) (hr : Room (n + 1) X.A) (hx : Passes CX X E) : OpR X (compareOp .NotEq) (rOwnNeD C sp E) := by
  intro pins s σ H x y v u Q I rx ry h
  obtain ⟨T, a, dx, fs, rfl, ha, d, q⟩ := h
  cases (show u = Value.ref a from ry)
  obtain ⟨od, J⟩ := inst_of I ha
  obtain ⟨P, kt, hP, _⟩ := kit_of I rx d.dec.typ
  have hsub := hN.all T d.dec.mem
  show wpAny (model X.prog X.w) X.A (richCompare .NotEq v (.ref a)) (EP X pins σ Q) X.xe s
  refine cmp_KR (op := .NotEq) (T := T) hr.units0 (dec_one rx d.dec _ _) (kt.ty _ _ I.kIn hP) I.kIn J hsub (fun E R hR => decN_try I rx d J hsub hR) ?_
  unfold tryCompare
  refine wpAny_bind (ifBound_B I.kIn J hne PySem.F.cmp_object.ne.bind (objNe_own hr.in1.units0 I.kIn J hm hs hf ?_))
  refine wpAny_mono (run_fnA (us := [.ref a, v]) (vs := [.ref a, x]) F hr.in1 rfl hb hx I (.cons rfl (.cons rx .nil)) q) (fun w s' z => ?_) fun _ _ x => x
  obtain ⟨z', H', I', rz, k, ez, qz⟩ := z
  subst ez
  cases (show w = Value.bool _ from rz)
  exact ⟨k, rfl, wpAny_pure ⟨_, rfl, .bl _, H', I', rfl, qz⟩⟩
end
end SK

/-! Entries (gaps and fractions), compared item by item; series; rows of the law. -/
namespace SK
open PySem PySem.Spec PyProof.Rows L2 SF SQ
abbrev Ent := Option Rat
/-- v is the entry o: None, or a fraction of at most n binary digits -/
def EN (C : Addr) (n : Nat) (H : Hp) (v : V) : Ent → Prop
  | none => v = .non
  | some q => ∃ a, v = .ref a ∧ RQ C H a n q
/-- .. or a whole number -/
def GN (C : Addr) (n : Nat) (H : Hp) (v : V) : Ent → Prop
  | none => v = .non
  | some q => ∃ k, NV C H k v n q
/-- as the law keeps it: None or a pair -/
def RN (n : Nat) (H : Hp) (v : V) : Ent → Prop
  | none => v = .non
  | some q => ∃ p, v = .ref p ∧ PQ H p n q
def All2 (P : V → Ent → Prop) (vs : List V) (rs : List Ent) : Prop := vs.length = rs.length ∧ ∀ (i : Nat) v r, vs[i]? = some v → rs[i]? = some r → P v r
theorem All2.get {P : V → Ent → Prop} {vs : List V} {rs : List Ent} (h : All2 P vs rs) {i : Nat} {v : V} (e : vs[i]? = some v) : ∃ r, rs[i]? = some r ∧ P v r := by
  have hl := (List.getElem?_eq_some_iff.mp e).1
  rw [h.1] at hl
  exact ⟨_, List.getElem?_eq_getElem hl, h.2 i v _ e (List.getElem?_eq_getElem hl)⟩
theorem All2.imp {P Q : V → Ent → Prop} {vs : List V} {rs : List Ent} (h : All2 P vs rs) (f : ∀ v r, P v r → Q v r) : All2 Q vs rs := ⟨h.1, fun i v r a b => f v r (h.2 i v r a b)⟩
theorem All2.nil {P : V → Ent → Prop} : All2 P [] [] := ⟨rfl, fun i v r h _ => by simp at h⟩
theorem All2.snoc {P : V → Ent → Prop} {vs : List V} {rs : List Ent} {v : V} {r : Ent} (h : All2 P vs rs) (p : P v r) : All2 P (vs ++ [v]) (rs ++ [r]) := by
  refine ⟨by rw [List.length_append, List.length_append, h.1]; rfl, fun i x y hx hy => ?_⟩
  by_cases hi : i < vs.length
  · rw [List.getElem?_append_left hi] at hx
    rw [List.getElem?_append_left (by rw [← h.1]; exact hi)] at hy
    exact h.2 i x y hx hy
  · have e : i = vs.length := by
      have h2 := (List.getElem?_eq_some_iff.mp hx).1
      rw [List.length_append] at h2
      simp at h2
      omega
    subst e
    rw [List.getElem?_append_right (Nat.le_refl _)] at hx
    rw [List.getElem?_append_right (by rw [h.1]; exact Nat.le_refl _), ← h.1] at hy
    simp at hx hy
    subst hx hy
    exact p
section
variable {C : Addr} {n : Nat} {H H' : Hp} {v : V} {r : Ent}
theorem EN.same (h : EN C n H v r) (s : Same H H') : EN C n H' v r := by
  cases r with
  | none => exact h
  | some q => obtain ⟨a, e, x⟩ := h; exact ⟨a, e, x.same s⟩
theorem GN.same (h : GN C n H v r) (s : Same H H') : GN C n H' v r := by
  cases r with
  | none => exact h
  | some q => obtain ⟨k, x⟩ := h; exact ⟨k, x.same s⟩
theorem RN.same (h : RN n H v r) (s : Same H H') : RN n H' v r := by
  cases r with
  | none => exact h
  | some q => obtain ⟨p, e, x⟩ := h; exact ⟨p, e, x.same s⟩
theorem rq_off {H : Hp} {a D : Addr} {o u : HO} {q : Rat} (h : RQ C H a n q) (hd : H D = some o) (ho : ∀ dx t b, o ≠ .ins C dx (rf t b)) : RQ C (upd H D u) a n q := by
  obtain ⟨⟨dx, e⟩, sz⟩ := h
  have ne : a ≠ D := fun z => by subst z; rw [e] at hd; exact ho _ _ _ (Option.some.inj hd).symm
  exact ⟨⟨dx, by rw [upd_ne ne]; exact e⟩, sz⟩
theorem EN.off {D : Addr} {o u : HO} (h : EN C n H v r) (hd : H D = some o) (ho : ∀ dx t b, o ≠ .ins C dx (rf t b)) : EN C n (upd H D u) v r := by
  cases r with
  | none => exact h
  | some q => obtain ⟨a, e, x⟩ := h; exact ⟨a, e, rq_off x hd ho⟩
theorem EN.offL {D : Addr} {xs zs : List V} (h : EN C n H v r) (hd : H D = some (.lst xs)) : EN C n (upd H D (.lst zs)) v r := h.off hd fun _ _ _ z => by cases z
theorem GN.offL {D : Addr} {xs zs : List V} (h : GN C n H v r) (hd : H D = some (.lst xs)) : GN C n (upd H D (.lst zs)) v r := by
  cases r with
  | none => exact h
  | some q =>
    obtain ⟨k, x⟩ := h
    refine ⟨k, ?_⟩
    cases k with
    | true => obtain ⟨a, e, x⟩ := x; exact ⟨a, e, rq_off x hd fun _ _ _ z => by cases z⟩
    | false => exact x
theorem RN.offL {D : Addr} {xs zs : List V} (h : RN n H v r) (hd : H D = some (.lst xs)) : RN n (upd H D (.lst zs)) v r := by
  cases r with
  | none => exact h
  | some q =>
    obtain ⟨p, e, x, sz⟩ := h
    refine ⟨p, e, ?_, sz⟩
    rw [upd_ne (fun z => by subst z; rw [x] at hd; cases hd)]
    exact x
end
/-! ### entries compared -/
def DEnt (C : Addr) (n : Nat) : EqD := fun x y H k => ∃ o o', EN C n H x o ∧ EN C n H y o' ∧ k = decide (o = o')
theorem DEnt.same {C : Addr} {n : Nat} (x y : V) (H H' : Hp) (k : Bool) (S : Same H H') (h : DEnt C n x y H k) : DEnt C n x y H' k := let ⟨o, o', a, b, c⟩ := h; ⟨o, o', a.same S, b.same S, c⟩
theorem eqBool_neq {prog : Program} {w : World} {A : Around} {E : Value → Shared → Prop} {s : Shared} {u v : Value} {Q : Bool → Shared → Prop} (hne : (u == v) = false) (hf : ∀ b t, u ≠ .float b t) (h : wpAny (model prog w) A (richCompare .Eq u v) (fun r s' => ∃ k, r = .bool k ∧ Q k s') E s) : wpAny (model prog w) A (eqBool u v) Q E s := by
  unfold eqBool
  refine wpAny_holding (wpAny_ite_split (fun z => by rw [hne] at z; cases z) fun _ => ?_)
  dsimp only
  split
  · rename_i h1
    exact absurd (congrArg Prod.fst h1) (hf _ _)
  · refine wpAny_bind (wpAny_mono h (fun r s' z => ?_) fun _ _ x => x)
    obtain ⟨k, rfl, q⟩ := z
    exact wpAny_truthy_bool q
section
variable {X : Cx} {C : Addr} {l n : Nat} {ps : List PySem.Str} {sp : Sp}
theorem own_eqL (D : Df X.prog X.w X.K X.mg X.base l ps sp) (hs : Has X.K C "__eq__" D.f) {A : Around} (sb : Sub X l A) {pins : List (Addr × Obj)} {s : Shared} {σ : L2.St} {H : Hp} {a dx : Addr} {fs : List (PySem.Str × V)} {y : V} {v tb : Value} {k : Bool} (I : Inv X pins σ H s) (ha : H a = some (.ins C dx fs)) (ry : RelV y v) (ty : TyX X.K H y tb) (hn : PySem.W.notFirst X.K C tb = true) (hsp : ∀ Q : VK, Q (.bl k) H → sp [.ref a, y] H Q E0) :
    wpAny (model X.prog X.w) A (richCompare .Eq (.ref a) v) (fun r s' => ∃ k', r = .bool k' ∧ (k' = k ∧ ∃ H', Inv X pins σ H' s' ∧ Same H H')) X.xe s := by
  obtain ⟨od, J⟩ := inst_of I ha
  obtain ⟨P, kt, hP, _⟩ := kit_of I ry ty
  obtain ⟨m, hF⟩ := I.fr
  refine PySem.W.cmp_K (op := .Eq) (tb := tb) sb.room.units0 hF I.ok.mod.kin J (kt.ty _ _ I.kIn hP) hn hs.h hs.i ?_
  refine wpAny_mono (run_fnA (us := [.ref a, v]) (vs := [.ref a, y]) D.G sb.room sb.fr D.b pass0 I (.cons rfl (.cons ry .nil)) (hsp (fun z H' => z = .bl k ∧ Same H H') ⟨rfl, Same.refl _⟩)) (fun w s' z => ?_) fun _ _ x => x
  obtain ⟨z', H', I', rz, ez, S⟩ := z
  subst ez
  cases (show w = Value.bool _ from rz)
  exact ⟨_, rfl, rfl, H', I', S⟩
theorem own_eqR (D : Df X.prog X.w X.K X.mg X.base l ps sp) (hs : Has X.K C "__eq__" D.f) (hN : NoSub X.K C) {A : Around} (sb : Sub X l A) {pins : List (Addr × Obj)} {s : Shared} {σ : L2.St} {H : Hp} {a dx : Addr} {fs : List (PySem.Str × V)} {x : V} {T : String} {v : Value} {k : Bool} (I : Inv X pins σ H s) (ha : H a = some (.ins C dx fs)) (rx : RelV x v) (d : Dec H x T) (hsp : ∀ Q : VK, Q (.bl k) H → sp [.ref a, x] H Q E0) :
    wpAny (model X.prog X.w) A (richCompare .Eq v (.ref a)) (fun r s' => ∃ k', r = .bool k' ∧ (k' = k ∧ ∃ H', Inv X pins σ H' s' ∧ Same H H')) X.xe s := by
  obtain ⟨od, J⟩ := inst_of I ha
  obtain ⟨P, kt, hP, _⟩ := kit_of I rx d.typ
  have hsub := hN.all T d.mem
  refine cmp_KR (op := .Eq) (T := T) sb.room.units0 (dec_one rx d _ _) (kt.ty _ _ I.kIn hP) I.kIn J hsub (fun E R hR => dec_try I rx d J hsub hR) ?_
  unfold tryCompare
  refine wpAny_bind (PySem.W.ifBound_K I.kIn J hs.h hs.i ?_)
  refine wpAny_mono (run_fnA (us := [.ref a, v]) (vs := [.ref a, x]) D.G sb.room sb.fr D.b pass0 I (.cons rfl (.cons rx .nil)) (hsp (fun z H' => z = .bl k ∧ Same H H') ⟨rfl, Same.refl _⟩)) (fun w s' z => ?_) fun _ _ x => x
  obtain ⟨z', H', I', rz, ez, S⟩ := z
  subst ez
  cases (show w = Value.bool _ from rz)
  exact wpAny_pure ⟨_, rfl, _, rfl, rfl, H', I', S⟩
theorem eqB_ent (T : RC X.K X.mg C) (hz : PySem.W.subIn X.K (.type "NoneType") (.ref C) = some false) (hN : NoSub X.K C) (D : Df X.prog X.w X.K X.mg X.base l ps (spEq C)) (hs : Has X.K C "__eq__" D.f) : EqB X l (DEnt C n) := by
  intro A pins s σ H x y u v k sb I rx ry d
  obtain ⟨o, o', ex, ey, rfl⟩ := d
  have nfN : PySem.W.notFirst X.K C (.type "NoneType") = true := by simp [PySem.W.notFirst, hz]
  cases o with
  | none =>
    have ex : x = .non := ex
    subst ex
    cases (show u = Value.none from rx)
    cases o' with
    | none =>
      have ey : y = .non := ey
      subst ey
      cases (show v = Value.none from ry)
      exact SeqAt.EqAt.same (A := A) (s := s) .none X.prog X.w X.xe _ ⟨by simp, H, I, Same.refl _⟩
    | some q =>
      obtain ⟨b, rfl, ⟨dx, hb⟩, sz⟩ := ey
      cases (show v = Value.ref b from ry)
      refine eqBool_neq rfl (fun _ _ z => by cases z) (own_eqR D hs hN sb I hb rx .non fun Q z => ⟨b, n, q, .non, rfl, ⟨⟨dx, hb⟩, sz⟩, .inr ⟨_, .non, ?_⟩⟩)
      simpa [eqO] using z
  | some q =>
    obtain ⟨a, rfl, ⟨dx, ha⟩, sz⟩ := ex
    cases (show u = Value.ref a from rx)
    cases o' with
    | none =>
      have ey : y = .non := ey
      subst ey
      cases (show v = Value.none from ry)
      refine eqBool_neq rfl (fun _ _ z => by cases z) (own_eqL D hs sb I ha ry (Dec.typ .non) nfN fun Q z => ⟨a, n, q, .non, rfl, ⟨⟨dx, ha⟩, sz⟩, .inr ⟨_, .non, ?_⟩⟩)
      simpa [eqO] using z
    | some r =>
      obtain ⟨b, rfl, rb⟩ := ey
      cases (show v = Value.ref b from ry)
      by_cases hab : a = b
      · subst hab
        have e : q = r := by
          obtain ⟨⟨dy, hb⟩, _⟩ := rb
          rw [ha] at hb
          injection hb with hb
          injection hb with _ _ hf
          have e1 : q.num = r.num := by
            have := congrArg (fun f => List.lookup ("_top" : PySem.Str) f) hf
            simp only [rf_top] at this
            exact V.int.inj (Option.some.inj this)
          have e2 : (q.den : Int) = (r.den : Int) := by
            have := congrArg (fun f => List.lookup ("_bottom" : PySem.Str) f) hf
            simp only [rf_bot] at this
            exact V.int.inj (Option.some.inj this)
          exact Rat.ext e1 (Int.ofNat.inj e2)
        subst e
        exact SeqAt.EqAt.same (A := A) (s := s) (.ref a) X.prog X.w X.xe _ ⟨by simp, H, I, Same.refl _⟩
      · refine eqBool_neq (by simpa using hab) (fun _ _ z => by cases z) (own_eqL D hs sb I ha ry (RC.typ T rb.1) nfC fun Q z => ⟨a, n, q, .ref b, rfl, ⟨⟨dx, ha⟩, sz⟩, .inl ⟨true, n, r, ⟨b, rfl, rb⟩, ?_⟩⟩)
        simpa using z
end
end SK

/-! Class methods called by keyword alone. -/
namespace SF
open PySem PySem.Spec PyProof.Rows L2
def tCMethK (C : Addr) (n : Nat) (sp : Sp) (gV : List V → List V → List V) (E : XK) (ta : TE) (tk : TA) : TE := fun σ H Q => ta σ H fun x H1 => x = .ref C ∧ tk σ H1 fun zs H2 => zs.length = n ∧ sp (gV [.ref C] zs) H2 Q E
section
variable {X : Cx} {CX : CXT} {k : Nat} {C q f : Addr} {mc : Value} {fd : FuncData} {ps ks : List Str} {sp : Sp} {E : XK} {m : Str} {pos apos : Pos} {o : Expr} {kws : List Keyword} {ta : TE} {tk : TA} {g : List Value → List Value → List Value} {gV : List V → List V → List V}
/-- C.m(f = e, ..), m a class method -/
theorem pe_cmethKW {pl : Sem Bool} (he : PE X o ta) (r : ClX.CRead X.K C mc) (c : ClX.CMet X.K C mc m q f) (F : FnOk X.prog X.w X.K X.mg X.base CX k f fd ps sp) (hr : Room k X.A) (hb : KBn X.K fd ps 1 ks g gV) (hx : Passes CX X E) (hkw : PK X kws tk)
    (hall : (backToKw pos (keywordEach kws X.env)).all (·.1.isSome) = true := by rfl) (hks : (backToKw pos (keywordEach kws X.env)).filterMap (·.1) = ks := by rfl)
    (hpl : ((backTo pos (starEach [] X.env)).any (·.1) || (backToKw pos (keywordEach kws X.env)).any (·.1.isNone)) = false := by rfl)
    (ht : eval (.Call (.Attribute o m apos) [] kws pos) X.env = (do
      let ov ← eval o X.env
      standAt apos.atName
      let (f, first) ← holding [ov] (getMethod ov m pl)
      callWith pos f first (backTo pos (starEach [] X.env)) (backToKw pos (keywordEach kws X.env))) := by rfl) :
    PE X (.Call (.Attribute o m apos) [] kws pos) (tCMethK C ks.length sp gV E ta tk) := by
  refine ⟨fun pins s σ H Q I h => ?_⟩
  refine PySem.W.methodCall_KW (pl := pl) (thn (he.run pins s σ H _ I h) fun u s1 ⟨x, H1, I1, rx, ex, z⟩ => ?_) ht
  subst ex
  obtain rfl : u = Value.ref C := rx
  refine ClX.getmethcm_ok I1 r c fun s2 I2 => ?_
  refine callwith_met (a := C) (g := f) hpl c.fi ?_
  refine PyProof.Rows.evalArgs_kw2_nil hall (thn (hkw.run pos _ s2 σ H1 _ I2 z) fun ws s3 ⟨zs, H2, I3, rz, l2, q2⟩ => ⟨⟨ClX.pin_at I3, I3.kIn⟩, ?_⟩)
  rw [hks]
  refine wpAny_call (codeAny_mono (PySem.W.method_call (ClX.pin_at I3) (F.run X.A X.stack s3 H2 ⟨[.ref C], ks.zip ws⟩ (g [.ref C] ws) (gV [.ref C] zs) Q E hr I3.env0 (hb.to s3 [.ref C] ws I3.kIn rfl (rz.length.symm.trans l2)) (hb.rel (.cons rfl .nil) rz) q2)) fun r s' hq => ?_)
  cases r with
  | error e => exact hx _ σ H2 s3 e s' I3 hq
  | ok fl =>
    cases fl with
    | ret u => exact ClX.unpinE (I3.after hq)
    | next => exact False.elim hq
    | brk => exact False.elim hq
    | cont => exact False.elim hq
end
end SF

/-! What stands in the text for the class of series; where a series stands. -/
namespace SK
open PySem PySem.Spec PyProof.Rows L2 SF SQ
/-- no built-in kind is derived from the class, nor it from one -/
structure NoSubs (K : PySem.W.Frag) (C : Addr) : Prop where
  up : NoSub K C
  dn : ∀ T ∈ kinds, PySem.W.subIn K (.type T) (.ref C) = some false
structure SerK (K : PySem.W.Frag) (S : Addr) : Prop where
  ns : NoSubs K S
  kB : ∀ T ∈ kinds, PySem.W.kitOne K (.type T) (.ref S) = some false
  kS : PySem.W.kitOne K (.ref S) (.ref S) = some true
  ca : PySem.W.findIn K (.ref S) "__class__" = some (some (.builtin "object.__class__"))
  cn : PySem.W.specialIn K (.builtin "object.__class__") "__get__" = some (some (.builtin "getset_descriptor.__get__"))
  ct : PySem.W.takesIn K (.builtin "object.__class__") = some true
  cm : PySem.W.mroIn K S (.type "object") = some true
  ne : PySem.W.findIn K (.ref S) "__ne__" = some (some (.builtin "object.__ne__"))
  nb : PySem.W.findIn K (.ref S) "__bool__" = some none
theorem NoSubs.nf {K : PySem.W.Frag} {C : Addr} (h : NoSubs K C) {T : String} (m : T ∈ kinds) : PySem.W.notFirst K C (.type T) = true := by simp [PySem.W.notFirst, h.dn T m]
/-- the fields of a series -/
abbrev sf1 (t : Addr) : List (PySem.Str × V) := putF "_entries" (.ref t) []
/-- the series of these entries stands at a -/
def SerAt (C S : Addr) (n : Nat) (H : Hp) (a : Addr) (rs : List Ent) : Prop := ∃ dx t vs, H a = some (.ins S dx (sf1 t)) ∧ H t = some (.tup vs) ∧ All2 (EN C n H) vs rs ∧ rs.length ≤ 400
def TupE (C : Addr) (n : Nat) (H : Hp) (t : Addr) (rs : List Ent) : Prop := ∃ vs, H t = some (.tup vs) ∧ All2 (EN C n H) vs rs
def TupG (C : Addr) (n : Nat) (H : Hp) (t : Addr) (rs : List Ent) : Prop := ∃ vs, H t = some (.tup vs) ∧ All2 (GN C n H) vs rs
def RowAt (n : Nat) (H : Hp) (p : Addr) (rs : List Ent) : Prop := ∃ vs, H p = some (.lst vs) ∧ All2 (RN n H) vs rs
theorem SerAt.same {C S : Addr} {n : Nat} {H H' : Hp} {a : Addr} {rs : List Ent} (h : SerAt C S n H a rs) (s : Same H H') : SerAt C S n H' a rs := let ⟨dx, t, vs, h1, h2, h3, h4⟩ := h; ⟨dx, t, vs, s _ _ h1, s _ _ h2, h3.imp fun _ _ z => z.same s, h4⟩
theorem TupE.same {C : Addr} {n : Nat} {H H' : Hp} {a : Addr} {rs : List Ent} (h : TupE C n H a rs) (s : Same H H') : TupE C n H' a rs := let ⟨vs, h2, h3⟩ := h; ⟨vs, s _ _ h2, h3.imp fun _ _ z => z.same s⟩
theorem TupG.same {C : Addr} {n : Nat} {H H' : Hp} {a : Addr} {rs : List Ent} (h : TupG C n H a rs) (s : Same H H') : TupG C n H' a rs := let ⟨vs, h2, h3⟩ := h; ⟨vs, s _ _ h2, h3.imp fun _ _ z => z.same s⟩
theorem RowAt.same {n : Nat} {H H' : Hp} {a : Addr} {rs : List Ent} (h : RowAt n H a rs) (s : Same H H') : RowAt n H' a rs := let ⟨vs, h2, h3⟩ := h; ⟨vs, s _ _ h2, h3.imp fun _ _ z => z.same s⟩
theorem EN.gn {C : Addr} {n : Nat} {H : Hp} {v : V} {r : Ent} (h : EN C n H v r) : GN C n H v r := by
  cases r with
  | none => exact h
  | some q => obtain ⟨a, e, x⟩ := h; exact ⟨true, a, e, x⟩
theorem TupE.g {C : Addr} {n : Nat} {H : Hp} {a : Addr} {rs : List Ent} (h : TupE C n H a rs) : TupG C n H a rs := let ⟨vs, h2, h3⟩ := h; ⟨vs, h2, h3.imp fun _ _ z => z.gn⟩
theorem SerAt.tup {C S : Addr} {n : Nat} {H : Hp} {a : Addr} {rs : List Ent} (h : SerAt C S n H a rs) : ∃ dx t, H a = some (.ins S dx (sf1 t)) ∧ TupE C n H t rs ∧ rs.length ≤ 400 := let ⟨dx, t, vs, h1, h2, h3, h4⟩ := h; ⟨dx, t, h1, ⟨vs, h2, h3⟩, h4⟩
def estr : Ent → PySem.Str
  | none => ("_" : PySem.Str)
  | some q => rstr q
def erep : Ent → PySem.Str
  | none => ("None" : PySem.Str)
  | some q => rrepr q
def line (rs : List Ent) : PySem.Str := Txt.join (" " : PySem.Str) (rs.map estr)
end SK

/-! Texts of series: shown, split, quoted. -/
namespace SK
open PySem PySem.Spec PyProof.Rows L2 SF SQ TL
open Builtin Builtin.Str
/-- signs that are shown as they are: between the space and the tilde, no quote, no backslash -/
def plainC (c : Nat) : Bool := decide (32 ≤ c) && decide (c < 127) && !decide (c = 39) && !decide (c = 92) && !decide (c = 34)
theorem printable_ascii : ∀ c : Nat, c < 127 → 32 ≤ c → Unicode.isPrintable c = true := by decide +kernel
theorem reprChar_plain {c : Nat} (h : plainC c = true) : reprChar 39 c = [c] := by
  simp only [plainC, Bool.and_eq_true, decide_eq_true_eq, Bool.not_eq_true', decide_eq_false_iff_not] at h
  obtain ⟨⟨⟨⟨h1, h2⟩, h3⟩, h4⟩, h5⟩ := h
  unfold reprChar
  have hp := printable_ascii c h2 h1
  have e1 : (c == 39 || c == 92) = false := by simp [h3, h4]
  have e2 : (c == 10) = false := by simp; omega
  have e3 : (c == 13) = false := by simp; omega
  have e4 : (c == 9) = false := by simp; omega
  simp [e1, e2, e3, e4, hp]
theorem fold_plain : ∀ (l : List Nat) (acc : Array Nat), (∀ c ∈ l, plainC c = true) → (l.foldl (fun out c => out ++ (reprChar 39 c).toArray) acc).toList = acc.toList ++ l
  | [], acc, _ => by simp
  | c :: r, acc, h => by
    rw [List.foldl_cons, fold_plain r _ fun d hd => h d (List.mem_cons_of_mem _ hd), reprChar_plain (h c List.mem_cons_self)]
    simp
theorem reprText_plain {x : Str} (h : ∀ c ∈ tl x, plainC c = true) : reprText x = (("'" : Str) ++ x) ++ ("'" : Str) := by
  have hq : reprQuote x = 39 := by
    unfold reprQuote
    have : x.cps.contains 39 = false := by
      rw [Array.contains_eq_mem]
      refine decide_eq_false fun hm => ?_
      have := h 39 (by rw [show tl x = x.cps.toList from rfl]; exact Array.mem_toList_iff.mpr hm)
      simp [plainC] at this
    rw [this]
    rfl
  have e : tl (reprText x) = tl ((("'" : Str) ++ x) ++ ("'" : Str)) := by
    rw [tl_append, tl_append]
    unfold reprText
    rw [hq]
    show ((x.cps.foldl (fun out c => out ++ (reprChar 39 c).toArray) #[39]).push 39).toList = _
    rw [Array.toList_push, ← Array.foldl_toList, fold_plain _ _ (fun c hc => h c hc)]
    rfl
  exact (List.cons.inj (map_tl_inj (l := [_]) (m := [_]) (by rw [List.map_cons, List.map_cons, e]))).1
theorem tx_plain (i : Int) : ∀ c ∈ tl (tx i), plainC c = true ∧ c ≠ 32 := by
  intro c hc
  have hd : c = 45 ∨ (48 ≤ c ∧ c ≤ 57) := by
    rcases tx_cases i with ⟨n, _, e⟩ | ⟨n, _, _, e⟩
    · rw [e] at hc
      rcases Nat.lt_or_ge c 48 with h | h
      · exact absurd hc (numL_free (.inl h))
      · rcases Nat.lt_or_ge 57 c with h2 | h2
        · exact absurd hc (numL_free (.inr h2))
        · exact .inr ⟨h, h2⟩
    · rw [e] at hc
      rcases List.mem_cons.mp hc with rfl | hc
      · exact .inl rfl
      rcases Nat.lt_or_ge c 48 with h | h
      · exact absurd hc (numL_free (.inl h))
      · rcases Nat.lt_or_ge 57 c with h2 | h2
        · exact absurd hc (numL_free (.inr h2))
        · exact .inr ⟨h, h2⟩
  rcases hd with rfl | ⟨h1, h2⟩
  · exact ⟨by decide, by decide⟩
  · refine ⟨?_, by omega⟩
    simp only [plainC, Bool.and_eq_true, decide_eq_true_eq, Bool.not_eq_true', decide_eq_false_iff_not]
    omega
theorem rstr_plain (q : Rat) : ∀ c ∈ tl (rstr q), plainC c = true ∧ c ≠ 32 := by
  intro c hc
  rw [rstr_tl] at hc
  split at hc
  · exact tx_plain _ c hc
  · rcases List.mem_append.mp hc with h | h
    · exact tx_plain _ c h
    · rcases List.mem_cons.mp h with rfl | h
      · exact ⟨by decide, by decide⟩
      · exact tx_plain _ c h
theorem estr_plain (r : Ent) : ∀ c ∈ tl (estr r), plainC c = true ∧ c ≠ 32 := by
  cases r with
  | none =>
    intro c hc
    have hc : c ∈ [95] := hc
    rw [List.mem_singleton.mp hc]
    exact ⟨by decide, by decide⟩
  | some q => exact rstr_plain q
theorem tx_ne (i : Int) : tl (tx i) ≠ [] := by
  rcases tx_cases i with ⟨n, _, e⟩ | ⟨n, _, _, e⟩
  · rw [e]; exact numL_ne n
  · rw [e]; simp
theorem tx_ne95 (i : Int) : tl (tx i) ≠ [95] := by
  intro h
  have := tx_free (i := i) (s := 95) (by omega)
  rw [h] at this
  exact this List.mem_cons_self
theorem rstr_us (q : Rat) : rstr q ≠ ("_" : Str) := by
  intro h
  have e : tl (rstr q) = [95] := by rw [h]; rfl
  rw [rstr_tl] at e
  split at e
  · exact tx_ne95 _ e
  · have := congrArg List.length e
    have h2 : 0 < (tl (tx q.num)).length := List.length_pos_iff.mpr (tx_ne _)
    rw [List.length_append, List.length_cons, List.length_singleton] at this
    have h3 : 0 < (tl (tx (q.den : Int))).length := List.length_pos_iff.mpr (tx_ne _)
    omega
theorem rstr_ne (q : Rat) : tl (rstr q) ≠ [] := by
  rw [rstr_tl]
  split
  · exact tx_ne _
  · simp
theorem estr_ne (r : Ent) : tl (estr r) ≠ [] := by
  cases r with
  | none => show [95] ≠ []; simp
  | some q => exact rstr_ne q
theorem tl_line (rs : List Ent) : tl (line rs) = joinL [32] ((rs.map estr).map tl) := by
  unfold line
  rw [join_eq, tl_join] <;> rfl
theorem joinL_mem {y : List Nat} : ∀ {xs : List (List Nat)} {c : Nat}, c ∈ joinL y xs → c ∈ y ∨ ∃ x ∈ xs, c ∈ x
  | [], c, h => by cases h
  | [x], c, h => .inr ⟨x, List.mem_cons_self, h⟩
  | x :: z :: r, c, h => by
    have h : c ∈ x ++ (y ++ joinL y (z :: r)) := h
    rcases List.mem_append.mp h with h | h
    · exact .inr ⟨x, List.mem_cons_self, h⟩
    · rcases List.mem_append.mp h with h | h
      · exact .inl h
      · rcases joinL_mem h with h | ⟨w, hw, hc⟩
        · exact .inl h
        · exact .inr ⟨w, List.mem_cons_of_mem _ hw, hc⟩
theorem line_plain (rs : List Ent) : ∀ c ∈ tl (line rs), plainC c = true := by
  intro c hc
  rw [tl_line] at hc
  rcases joinL_mem hc with h | ⟨x, hx, h⟩
  · rw [List.mem_singleton.mp h]; decide
  · obtain ⟨y, hy, rfl⟩ := List.mem_map.mp hx
    obtain ⟨r, _, rfl⟩ := List.mem_map.mp hy
    exact (estr_plain r c h).1
theorem line_nil : line [] = ("" : Str) := rfl
theorem line_ne {rs : List Ent} (h : rs ≠ []) : line rs ≠ ("" : Str) := by
  intro z
  have e : tl (line rs) = [] := by rw [z]; rfl
  rw [tl_line] at e
  cases rs with
  | nil => exact h rfl
  | cons r t =>
    cases t with
    | nil => exact estr_ne r e
    | cons r2 t2 =>
      have e2 : tl (estr r) ++ ([32] ++ joinL [32] ((estr r2 :: t2.map estr).map tl)) = [] := e
      exact estr_ne r (List.append_eq_nil_iff.mp e2).1
theorem line_split {rs : List Ent} (h : rs ≠ []) : Txt.split (line rs) (" " : Str) = rs.map estr := by
  refine split_join (s := 32) (S := []) rfl (by decide +kernel) (by simpa using h) fun p hp => ?_
  obtain ⟨r, _, rfl⟩ := List.mem_map.mp hp
  exact fun hc => (estr_plain r 32 hc).2 rfl
theorem line_repr (rs : List Ent) : reprText (line rs) = (("'" : Str) ++ line rs) ++ ("'" : Str) := reprText_plain (line_plain rs)
theorem ok_plain {x : Str} (h : ∀ c ∈ tl x, plainC c = true) : PyData.strOk x = true := by
  unfold PyData.strOk
  rw [Array.all_eq_true_iff_forall_mem]
  intro c hc
  have := h c (Array.mem_toList_iff.mpr hc)
  simp only [plainC, Bool.and_eq_true, decide_eq_true_eq] at this
  simp
  omega
/-! ### lengths -/
def SzE (n : Nat) (rs : List Ent) : Prop := ∀ q, some q ∈ rs → Sz n q
theorem estr_len {r : Ent} (h : ∀ q, r = some q → Sz 800 q) : (estr r).length ≤ 501 := by
  cases r with
  | none => show 1 ≤ 501; omega
  | some q =>
    have s := h q rfl
    exact rstr_len (n := 250) (tx_short s.1) (tx_short (show (q.den : Int).natAbs < 2 ^ 800 from s.2))
theorem sum_le {k : Nat} : ∀ {xs : List Nat}, (∀ x ∈ xs, x ≤ k) → xs.sum ≤ xs.length * k
  | [], _ => by simp
  | x :: r, h => by
    have := sum_le (k := k) fun y hy => h y (List.mem_cons_of_mem _ hy)
    have := h x List.mem_cons_self
    simp only [List.sum_cons, List.length_cons, Nat.add_mul, Nat.one_mul]
    omega
theorem line_sum {rs : List Ent} (h : SzE 800 rs) : ((rs.map estr).map (·.length)).sum ≤ rs.length * 501 := by
  have := sum_le (k := 501) (xs := (rs.map estr).map (·.length)) fun x hx => by
    obtain ⟨y, hy, rfl⟩ := List.mem_map.mp hx
    obtain ⟨r, hr, rfl⟩ := List.mem_map.mp hy
    exact estr_len fun q e => h q (e ▸ hr)
  simpa using this
theorem line_len {rs : List Ent} (h : SzE 800 rs) : (line rs).length ≤ rs.length * 502 := by
  unfold line
  rw [join_eq]
  refine Nat.le_trans (StrLaws.join_length_le _ _) ?_
  have := line_sum h
  have e : (" " : Str).length = 1 := rfl
  rw [List.length_map, e]
  omega
end SK

/-! What is seen of a series, as the law lists it. -/
namespace SK
open PySem PySem.Spec PyProof.Rows L2 SF SQ TL
def gapsTo (rs : List Ent) (i : Nat) : List Nat := (List.range i).filter fun k => decide (rs[k]? = some none)
theorem gaps_step (rs : List Ent) (i : Nat) : gapsTo rs (i + 1) = gapsTo rs i ++ (if rs[i]? = some none then [i] else []) := by
  unfold gapsTo
  rw [List.range_succ, List.filter_append]
  congr 1
  by_cases h : rs[i]? = some none
  · rw [if_pos h]; simp [h]
  · rw [if_neg h]; simp [h]
theorem gaps_len (rs : List Ent) (i : Nat) : (gapsTo rs i).length ≤ i := by
  unfold gapsTo
  refine Nat.le_trans (List.length_filter_le _ _) ?_
  simp
theorem gaps_lt (rs : List Ent) (i : Nat) : ∀ k ∈ gapsTo rs i, k < i := by
  intro k hk
  unfold gapsTo at hk
  exact List.mem_range.mp (List.mem_filter.mp hk).1
def gapV (rs : List Ent) : List V := (gapsTo rs rs.length).map fun k => V.int (k : Nat)
def gapD (rs : List Ent) : List PyData := (gapsTo rs rs.length).map fun k => PyData.int (k : Nat)
def srepr (rs : List Ent) : PySem.Str := ((Str.empty ++ ("Series(" : PySem.Str)) ++ ((("'" : PySem.Str) ++ line rs) ++ ("'" : PySem.Str))) ++ (")" : PySem.Str)
def seenD (rs : List Ent) : PyData := .list [.tuple (gapD rs), .int (rs.length : Nat), .str (line rs), .str (srepr rs), .bool (((rs.length : Nat) : Int) != 0), .bool true]
theorem srepr_is (rs : List Ent) : srepr rs = (("Series('" : PySem.Str) ++ line rs) ++ ("')" : PySem.Str) := by
  have e : tl (srepr rs) = tl ((("Series('" : PySem.Str) ++ line rs) ++ ("')" : PySem.Str)) := by
    unfold srepr
    simp only [tl_append, List.append_assoc]
    rfl
  exact (List.cons.inj (map_tl_inj (l := [_]) (m := [_]) (by rw [List.map_cons, List.map_cons, e]))).1
theorem srepr_len (rs : List Ent) : (srepr rs).length = (line rs).length + 10 := by
  rw [srepr_is, Str.length_append, Str.length_append]
  have e1 : ("Series('" : PySem.Str).length = 8 := rfl
  have e2 : ("')" : PySem.Str).length = 2 := rfl
  omega
theorem sd_gaps {H : Hp} : ∀ l : List Nat, SX.SdAll H (l.map fun k => V.int (k : Nat)) (l.map fun k => PyData.int (k : Nat))
  | [] => .nil
  | k :: r => .cons (.int _) (sd_gaps r)
theorem log_small {k : Nat} (h : k ≤ 1000) : ((k : Nat) : Int).natAbs.log2 < 1920 := by
  refine Nat.lt_of_le_of_lt (Nat.log2_le_self _) ?_
  simp
  omega
theorem show_ints : ∀ l : List Nat, (∀ k ∈ l, k ≤ 1000) → PyData.showableAll (l.map fun k => PyData.int (k : Nat)) = true ∧ PyData.depthAll (l.map fun k => PyData.int (k : Nat)) = 0 ∧ PyData.leavesShortAll 8 (l.map fun k => PyData.int (k : Nat)) = true
  | [], _ => ⟨rfl, rfl, rfl⟩
  | k :: r, h => by
    obtain ⟨a, b, c⟩ := show_ints r fun x hx => h x (List.mem_cons_of_mem _ hx)
    have hk := h k List.mem_cons_self
    have hlen : (PyData.shown (.int ((k : Nat) : Int))).length ≤ 8 := by
      show (tx ((k : Nat) : Int)).length ≤ 8
      rw [len_tl, tx_nat]
      exact Nat.le_trans (numL_len (n := k) (k := 4) (by decide) (by omega)) (by decide)
    refine ⟨?_, ?_, ?_⟩
    · simp only [List.map_cons, PyData.showableAll, PyData.showable, a, Bool.and_true]
      exact decide_eq_true (log_small hk)
    · simp only [List.map_cons, PyData.depthAll, b, PyData.depth]
      rfl
    · simp only [List.map_cons, PyData.leavesShortAll, c, Bool.and_true, PyData.leavesShort]
      exact decide_eq_true hlen
theorem weight_int {k : Nat} (h : k ≤ 1000) : PyData.weight (.int (k : Nat)) ≤ 10 := by
  show (if ((k : Nat) : Int) == 0 then 0 else ((k : Nat) : Int).natAbs.log2 + 1) ≤ 10
  split
  · omega
  · rename_i hk
    have h0 : k ≠ 0 := fun z => hk (by subst z; rfl)
    have : ((k : Nat) : Int).natAbs.log2 < 10 := (Nat.log2_lt (by simpa using h0)).mpr (by simp; omega)
    omega
theorem weight_ints : ∀ l : List Nat, (∀ k ∈ l, k ≤ 1000) → PyData.weightAll (l.map fun k => PyData.int (k : Nat)) ≤ 11 * l.length
  | [], _ => Nat.le_refl _
  | k :: r, h => by
    have h1 := weight_ints r fun x hx => h x (List.mem_cons_of_mem _ hx)
    have h2 := weight_int (h k List.mem_cons_self)
    simp only [List.map_cons, PyData.weightAll, List.length_cons]
    omega
theorem big_chars {x : PySem.Str} (h : ∀ c ∈ tl x, c < 1000) : (x.cps.toList.all fun c => decide (c < 16 ^ 8)) = true := by
  rw [List.all_eq_true]
  intro c hc
  have := h c hc
  exact decide_eq_true (Nat.lt_of_lt_of_le this (by decide))
theorem line_lt (rs : List Ent) : ∀ c ∈ tl (line rs), c < 1000 := by
  intro c hc
  have := line_plain rs c hc
  simp only [plainC, Bool.and_eq_true, decide_eq_true_eq] at this
  omega
theorem srepr_lt (rs : List Ent) : ∀ c ∈ tl (srepr rs), c < 1000 := by
  intro c hc
  rw [srepr_is, tl_append, tl_append] at hc
  rcases List.mem_append.mp hc with h | h
  · rcases List.mem_append.mp h with h | h
    · exact (by decide : ∀ c ∈ tl ("Series('" : PySem.Str), c < 1000) c h
    · exact line_lt rs c h
  · exact (by decide : ∀ c ∈ tl ("')" : PySem.Str), c < 1000) c h
theorem seen_ok {rs : List Ent} (hl : rs.length ≤ 400) (sz : SzE 800 rs) : (seenD rs).showable = true ∧ (seenD rs).depth ≤ 8 ∧ (seenD rs).shown.length ≤ sizeLine := by
  have hb : ∀ k ∈ gapsTo rs rs.length, k ≤ 1000 := fun k hk => by have := gaps_lt rs _ k hk; omega
  obtain ⟨g1, g2, g3⟩ := show_ints _ hb
  have g4 := weight_ints _ hb
  have g5 := gaps_len rs rs.length
  have ll := line_len sz
  have sl := srepr_len rs
  have wl := weight_int (k := rs.length) (by omega)
  obtain ⟨w1, w2, w3⟩ := show_ints [rs.length] (by intro k hk; rw [List.mem_singleton.mp hk]; omega)
  refine ⟨?_, ?_, ?_⟩
  · simp only [seenD, PyData.showable, PyData.showableAll, gapD, g1, Bool.true_and, Bool.and_true]
    exact decide_eq_true (log_small (by omega))
  · simp only [seenD, PyData.depth, PyData.depthAll, gapD, g2]
    decide
  · have le : (seenD rs).leavesShort 8 = true := by
      have wl' : PyData.leavesShort 8 (.int (rs.length : Nat)) = true := by simpa [PyData.leavesShortAll] using w3
      simp only [seenD, PyData.leavesShort, PyData.leavesShortAll, gapD, g3, Bool.true_and, Bool.and_true] at wl' ⊢
      rw [wl', big_chars (line_lt rs), big_chars (srepr_lt rs)]
      rfl
    have h1 := PyData.shown_le 8 (Nat.le_refl _) (seenD rs) le
    have h2 : (seenD rs).weight ≤ 402100 + 4500 := by
      simp only [seenD, PyData.weight, PyData.weightAll, gapD] at wl ⊢
      have e1 : (line rs).cps.size = (line rs).length := rfl
      have e2 : (srepr rs).cps.size = (srepr rs).length := rfl
      omega
    have h3 : sizeLine = 16777216 := rfl
    omega
end SK

/-! repr of a tuple of own instances, also where an error is in hand. -/
namespace SFx
open PySem PySem.Spec PyProof.Rows PySem.W
section
variable {prog : Program} {w : World} {A : Around} {E : Value → Shared → Prop} {s : Shared} {K : Frag} {x C f : Addr} {ox : Obj} {od : Option Obj}
/-- a special method of an own instance, by whatever runs it last -/
theorem boundBy_fn {M : Model} {name : Str} {last : Value → List Value → Sem Value} {Q : Option Value → Shared → Prop} (X : K.In s.heap) (I : InstAt s.heap x ox C od) (hs : findIn K (.ref C) name = some (some (.ref f))) (hf : isFn K (.ref f) = true)
    (h : wpAny M A (last (.ref f) [.ref x]) (fun v => Q (some v)) E s) : wpAny M A (callSpecialIfBoundBy? last (.ref x) name) Q E s := by
  simp only [callSpecialIfBoundBy?, bindSpecialIfBound?]
  refine wpAny_holding (wpAny_bind (wpAny_bind (wpAny_bind (I.type.here ((looks_findIn X hs).here ?_)))))
  refine wpAny_bind (wpAny_askSetting (wpAny_ite ?_))
  have fin : wpAny M A (last (.ref f) [.ref x] >>= fun v => pure (some v)) Q E s := wpAny_bind (wpAny_mono h (fun v s' h' => wpAny_pure h') fun _ _ h' => h')
  split
  · exact wpAny_bind ((bind_fn X _ (beq_iff_eq.mp hf)).here (wpAny_pure (by exact fin)))
  · exact wpAny_tryCatch (wpAny_bind ((bind_fn X _ (beq_iff_eq.mp hf)).here (wpAny_pure (by exact fin))))
/-- repr of an own instance below another repr -/
theorem under_own {Q : Str → Shared → Prop} {b : Nat} (hb : b ≤ sizeLine) (hu : A.units < cLine) (X : K.In s.heap) (I : InstAt s.heap x ox C od) (hs : findIn K (.ref C) "__repr__" = some (some (.ref f))) (hf : isFn K (.ref f) = true)
    (h : wpAny (model prog w) A (call (.ref f) [.ref x]) (fun v s' => ∃ y t, v = .str y t ∧ Q y s') E s) : wpAny (model prog w) A (pyReprUnder b (.ref x)) Q E s := by
  refine wpAny_pyReprUnder_ref hb ?_
  unfold pyReprObjUnder pyReprObjBy
  refine wpAny_bind (wpAny_cRoomFor hu ?_)
  refine wpAny_bind (wpAny_bind (I.type.here ((looks_findIn X hs).here ?_)))
  show wpAny _ _ (if (some (Value.ref f)).isNone = true then _ else _) _ _ _
  rw [if_neg (by simp)]
  refine wpAny_bind (m := callSpecialIfBoundBy? _ (.ref x) (Str.ofString "__repr__")) (boundBy_fn X I hs hf ?_)
  show wpAny _ _ (call (.ref f) ([.ref x] ++ [])) _ _ _
  rw [List.append_nil]
  refine wpAny_mono h (fun v s' hv => ?_) fun _ _ e => e
  obtain ⟨y, t, rfl, hq⟩ := hv
  refine wpAny_bind (wpAny_isInstance (typeIs_str _ _ _) isSubtype_str_str ?_)
  first
    | exact wpAny_pure ⟨_, _, rfl, hq⟩
    | (rw [if_pos rfl]; exact wpAny_pure ⟨_, _, rfl, hq⟩)
    | (simp only [if_true]; exact wpAny_pure ⟨_, _, rfl, hq⟩)
end
end SFx
namespace SFx
open PySem PySem.Spec PyProof.Rows PySem.W PySem.Builtin
section
variable {prog : Program} {w : World}
/-- repr of u below other reprs is t, and what J says stays -/
def ItemJ (prog : Program) (w : World) (A : Around) (E : Value → Shared → Prop) (J : Shared → Prop) (u : Value) (t : Str) : Prop :=
  ∀ (b : Nat) (s : Shared) (Q : Str → Shared → Prop), b + t.length ≤ sizeLine → J s → (∀ s', J s' → Q t s') → wpAny (model prog w) A (pyReprUnder b u) Q E s
inductive ItemsJ (prog : Program) (w : World) (A : Around) (E : Value → Shared → Prop) (J : Shared → Prop) : List Value → List Str → Prop
  | nil : ItemsJ prog w A E J [] []
  | cons {u : Value} {t : Str} {us : List Value} {ts : List Str} : ItemJ prog w A E J u t → ItemsJ prog w A E J us ts → ItemsJ prog w A E J (u :: us) (t :: ts)
variable {A : Around} {E : Value → Shared → Prop} {J : Shared → Prop}
theorem ItemsJ.len {us : List Value} {ts : List Str} (h : ItemsJ prog w A E J us ts) : ts.length = us.length := by
  induction h with
  | nil => rfl
  | cons _ _ ih => simp [ih]
theorem foldJ {us : List Value} {ts : List Str} (h : ItemsJ prog w A E J us ts) : ∀ (acc : Array Str) (n : Nat) (s : Shared) (Q : (Array Str × Nat) → Shared → Prop), n + piled ts ≤ sizeLine → J s → (∀ s', J s' → Q ⟨acc ++ ts.toArray, n + piled ts⟩ s') →
    wpAny (model prog w) A (forIn us (⟨acc, n⟩ : (Array Str × Nat)) tupBody) Q E s := by
  induction h with
  | nil =>
    intro acc n s Q _ j k
    simp only [List.forIn_nil]
    exact wpAny_pure (by simpa [piled] using k s j)
  | @cons u t us ts hu _ ih =>
    intro acc n s Q hn j k
    rw [piled_cons] at hn
    rw [List.forIn_cons]
    refine wpAny_bind (wpAny_bind (hu (n + 1) s _ (by omega) j fun s1 j1 => wpAny_pure ?_))
    refine ih (acc.push t) (n + (t.length + 2)) s1 Q (by omega) j1 fun s2 j2 => ?_
    have k2 := k s2 j2
    have e : n + piled (t :: ts) = n + (t.length + 2) + piled ts := by rw [piled_cons]; omega
    rw [e] at k2
    simpa using k2
theorem tupOwnJ {a : Addr} {o : Obj} {items : Array Value} {n : Nat} {ts : List Str} {g : List Code} {s : Shared} {R : Result → Shared → Prop} {base : Nat} {id : String} {rest : List Value}
    (hd : o.data = .seq items n) (ho : s.heap.get? a = some o) (ht : ∀ (s : Shared) (k : Nat), J s → J { s with toks := k }) (hcg : (Code.builtin id ⟨.ref a :: rest, []⟩).isGuard = true) (hg : A.guards = some g) (hca : Clear g a)
    (hT : ItemsJ prog w (A.under (.builtin id ⟨.ref a :: rest, []⟩)) (fun e s' => R (.error e) s') J items.toList ts) (j : J s) (hR : ∀ s' u, J s' → R (.ok (.ret (.str (tupleText ts) u))) s') (hsz : base + (tupleText ts).length ≤ sizeLine) :
    wpOwn (model prog w) A (.builtin id ⟨.ref a :: rest, []⟩) (Builtin.tupleReprAt base ⟨[.ref a], []⟩) (fun fin s' => match fin with | .done f => R (.ok f) s' | .again c' => c'.quiet = true ∧ codeAny (model prog w) A c' R s') (fun e s' => R (.error e) s') s := by
  have hlen : ts.length = items.size := by simpa using hT.len
  have hp := piled_le_tupleText ts
  have hsz0 : (tupleText ts).length ≤ sizeLine := by omega
  rw [tuple_repr_tree, tupleReprUnderWay_eq]
  refine wpOwn_bind (wpOwn_stackTailAny hg (tupGuardF_off _) (tupGuardF_pos _) ?_)
  have hn : (g.any fun c => tupGuardF (.ref a) (c, default)) = false := by
    rw [List.any_eq_false]
    intro c hcm
    rw [tupGuardF_of_clear hca c hcm]
    exact Bool.false_ne_true
  rw [hn]
  refine wpOwn_of_wpAny ?_
  show wpAny _ _ (tupleReprRest base (.ref a)) _ _ s
  unfold tupleReprRest Builtin.Tuple.tupleItemsOf
  refine wpAny_bind (wpAny_bind (wpAny_seqItems ho hd (wpAny_pure ?_)))
  rw [← Array.forIn_toList]
  refine wpAny_bind (foldJ hT _ _ _ _ (by omega) j fun s1 j1 => ?_)
  refine wpAny_bind (wpAny_mkStr (wpAny_pure ?_) (by simpa [tupleText, hlen] using hsz0))
  have h1 := hR _ s1.toks (ht s1 (s1.toks + 1) j1)
  simpa [tupleText, hlen] using h1
/-- tuple.__repr__ -/
theorem call_tupJ {a : Addr} {o : Obj} {items : Array Value} {n : Nat} {ts : List Str} {g : List Code} {s : Shared} {Q : Value → Shared → Prop}
    (hc : o.cls = .type "tuple") (hd : o.data = .seq items n) (ho : s.heap.get? a = some o) (ht : ∀ (s : Shared) (k : Nat), J s → J { s with toks := k }) (hg : A.guards = some g) (hca : Clear g a)
    (hT : ItemsJ prog w (A.under (.builtin "tuple.__repr__" ⟨[.ref a], []⟩)) E J items.toList ts) (j : J s) (hQ : ∀ s' u, J s' → Q (.str (tupleText ts) u) s') (hsz : (tupleText ts).length ≤ sizeLine) :
    wpAny (model prog w) A (call (.builtin "tuple.__repr__") [.ref a]) Q E s :=
  wpAny_call (codeAny_call_builtin_own (Code.quiet_builtin _ (by decide +kernel)) F.entry_tuple_repr (F.slot_tuple_repr.check _ _ _ _ _ _ _ _ ⟨o, ho, hc⟩ (F.args_tuple_repr_1 _)
    (tupOwnJ (base := 0) (R := callEnd Q E) hd ho ht (isGuard_tuple_repr _) hg hca hT j hQ (by omega))))
/-- the same below another repr -/
theorem under_tupJ {a : Addr} {ts : List Str} {g : List Code} (hu : A.units < cLine) (ht : ∀ (s : Shared) (k : Nat), J s → J { s with toks := k }) (hg : A.guards = some g) (hca : Clear g a)
    (hJ : ∀ s, J s → ∃ (o : Obj) (items : Array Value) (n : Nat), s.heap.get? a = some o ∧ o.cls = .type "tuple" ∧ o.data = .seq items n ∧ ∀ b : Nat, ItemsJ prog w (A.under (.builtin "tuple.__repr__.under" ⟨[.ref a, rawInt b], []⟩)) E J items.toList ts) : ItemJ prog w A E J (.ref a) (tupleText ts) := by
  intro b s Q hb j k
  obtain ⟨o, items, n, ho, hc, hd, hT⟩ := hJ s j
  refine wpAny_pyReprUnder_ref (by omega) (wpAny_pyReprObjUnder_twin (twin := "tuple.__repr__.under") ⟨o, ho, hc⟩ F.slot_tuple_repr rfl hu ?_)
  exact call_twin_own (F.quiet_tuple_repr_under _) F.entry_tuple_repr_under F.check_tuple_repr_under ⟨o, ho, hc⟩ F.slot_tuple_repr (F.args_tuple_repr_1 _)
    (tupOwnJ (R := callEnd _ E) hd ho ht (isGuard_tuple_repr_under _) hg hca (hT b) j (fun s' u j' => ⟨⟨_, _, rfl⟩, _, _, rfl, k s' j'⟩) hb)
end
end SFx
namespace SF
open PySem PySem.Spec PyProof.Rows L2 SFT L2H
/-- a def that runs in any surroundings of the context -/
def RunAny (X : Cx) (k : Nat) (f : Addr) (sp : Sp) (E : XK) : Prop := ∀ (A : Around) (pins : List (Addr × Obj)) (σ : L2.St) (H : Hp) (s : Shared) (Q : VK) (us : List Value) (vs : List V), A.frames = X.A.frames → A.handled = X.A.handled → RoomH k A →
  Inv X pins σ H s → Vals vs us → sp vs H Q E → wpAny (model X.prog X.w) A (call (.ref f) us) (EP X pins σ Q) X.xe s
theorem runAny_of {X : Cx} {CX : CXT} {n : Nat} {f : Addr} {fd : FuncData} {ps : List Str} {sp : Sp} {E : XK} (F : FnOk X.prog X.w X.K X.mg X.base CX n f fd ps sp) (hb : Binds X.K fd ps []) (hx : Passes CX X E) (hh : X.A.handled = none) : RunAny X n f sp E :=
  fun A pins σ H s Q us vs hA hd hr I r h => run_fnA F ⟨hd.trans hh, hr.dp, hr.un⟩ hA hb hx I r h
theorem frames_u {A : Around} {c : Code} (h : c.envs = []) : (A.under c).frames = A.frames := by
  unfold Around.under
  show pushEnvs c.envs A.frames = _
  rw [h]
  cases A.frames <;> rfl
section
variable {X : Cx} {C f : Addr} {k : Nat} {sp : Sp} {E : XK}
/-- what repr makes of v within containers: a builtin thing, or an instance whose __repr__ gives it -/
def Shw (C : Addr) (sp : Sp) (E : XK) (H : Hp) (v : V) (y : Str) : Prop := ∃ a dx fs, v = .ref a ∧ H a = some (.ins C dx fs) ∧ ∀ Q : VK, Q (.str y) H → sp [.ref a] H Q E
def rTupOwn (C : Addr) (sp : Sp) (E : XK) : List V → Hp → VK → Prop := fun xs H Q => ∃ (p : Addr) (v : V) (y : Str), xs = [V.ref p] ∧ H p = some (.tup [v]) ∧ Shw C sp E H v y ∧ (tupleText [y]).length ≤ sizeLine ∧ Q (.str (tupleText [y])) H
theorem depth_tr {A : Around} {args : Args} : (A.under (.builtin "tuple.__repr__" args)).depth = A.depth + 1 := by
  first | rfl | simp [Around.under, Code.weight, Code.isCreation, Code.isGuard, Code.isCaller, Code.frames, Code.isFrame, guardIds]
theorem handled_u {A : Around} {c : Code} : (A.under c).handled = A.handled := rfl
theorem call_reprTup (hg : X.A.guards = some []) (hr : RoomH (k + 2) X.A) (hs : PySem.W.findIn X.K (.ref C) "__repr__" = some (some (.ref f))) (hf : PySem.W.isFn X.K (.ref f) = true) (R : RunAny X k f sp E) : CallR X (.builtin "repr") (rTupOwn C sp E) := by
  intro pins s σ H xs us Q I r h
  obtain ⟨p, v, y, rfl, ep, ⟨a, dx, fs, rfl, ea, hq⟩, hz, q⟩ := h
  obtain ⟨u, rfl, ru⟩ := r.one
  cases (show u = Value.ref p from ru)
  obtain ⟨_, its, rv, o, e1, e2, m, e3⟩ := (show ObjOk X.prog X.w H s.heap p (.tup [.ref a]) from I.hok p _ ep)
  obtain ⟨u1, rfl, r1⟩ := rv.one
  cases (show u1 = Value.ref a from r1)
  have hu := hr.un
  refine call_repr_slot (by omega) ⟨o, e1, e2⟩ F.slot_tuple_repr ?_
  refine SFx.call_tupJ (J := fun s' => Inv X pins σ H s') (g := []) e2 e3 e1 (fun s' t I' => I'.tok _) hg (Clear.nil _) (.cons (fun b s' Q' hb I' k' => ?_) .nil) I (fun s' t I' => ⟨_, _, rfl, .str _, H, I', ⟨t, rfl⟩, q⟩) hz
  obtain ⟨od, J'⟩ := inst_of I' ea
  refine SFx.under_own (by omega) ?_ I'.kIn J' hs hf ?_
  · rw [units_under_tuple_repr]
    show X.A.units + 1 + 1 < cLine
    omega
  · refine wpAny_mono (R _ pins σ H s' (fun v H' => v = .str y ∧ H' = H) [.ref a] [.ref a] (frames_u rfl) rfl ⟨?_, ?_⟩ I' (.cons rfl .nil) (hq _ ⟨rfl, rfl⟩)) (fun v s2 z => ?_) fun _ _ e => e
    · have := hr.dp
      have hd := depth_tr (A := X.A.in1) (args := ⟨[.ref p], []⟩)
      have h1 : X.A.in1.depth = X.A.depth := rfl
      omega
    · rw [units_under_tuple_repr]
      show X.A.units + 1 + 1 + 16 * k + 200 < cLine
      omega
    · obtain ⟨v', H', I2, rv2, rfl, rfl⟩ := z
      obtain ⟨t, rfl⟩ := (show ∃ t, v = Value.str y t from rv2)
      exact ⟨y, t, rfl, k' s2 I2⟩
end
end SF
namespace SFT
open PySem PySem.Spec PyProof.Rows L2 SF L2H
structure FnQ (P : Program) (w : World) (K : PySem.W.Frag) (mg : Str → Option Value) (base : Heap) (CX : CXT) (k : Nat) (p : Addr × Obj) (f : Addr) (fd : FuncData) (ps : List Str) (sp : Sp) : Prop where
  len : ∀ vs H Q E, sp vs H Q E → vs.length = ps.length
  run : ∀ (A : Around) (outer : List Env) (s : Shared) (H : Hp) (args : Args) (us : List Value) (vs : List V) (Q : VK) (E : XK), RoomH k A → PinOk outer H s p → Env0 P w K mg base A outer s H → BindsTo s fd args (ps.zip us) → Vals vs us → sp vs H Q E →
    codeAny (model P w) A (.call (.ref f) args) (CR CX outer P w H s Q E) s
theorem fn_ofQ {CX : CXT} {P : Program} {w : World} {K : PySem.W.Frag} {mg : Str → Option Value} {base : Heap} {k : Nat} {f : Addr} {name qual : Str} {params : Arguments} {body : List Stmt} {scope : Scope} {dV kV doc pm cdv ct oc : Value} {an od : Option Addr}
    {osl : Array (Option Value)} {N ps : List Str} {sp : Sp} {p : Addr × Obj} (lk : K.lookup f = some ⟨oc, od, .func (PySem.W.fnOf name qual params body scope dV kV doc pm an cdv ct), osl⟩) (hcd : PySem.W.codeIn K cdv qual = true) (S : FnScope N ps scope)
    (len : ∀ vs H Q E, sp vs H Q E → vs.length = ps.length)
    (hbody : ∀ (A : Around) (outer : List Env) (s : Shared) (H : Hp) (vs : List V) (Q : VK) (E : XK), RoomH k (A.deeper (envOfC qual scope s.heap.objs.size f cdv)) → sp vs H Q E →
      ∃ t, PSs (cxH CX P w K mg base N qual scope f cdv A outer s H E p) body t ∧ t { nx := fun _ H' => Q .non H', rt := Q } (L2.start N vs) H) :
    FnQ P w K mg base CX (k + 1) p f (PySem.W.fnOf name qual params body scope dV kV doc pm an cdv ct) ps sp := by
  refine ⟨len, fun A outer s H args us vs Q E hr hpin e0 hb r hsp => ?_⟩
  have hl := len _ _ _ _ hsp
  have KX : K.In s.heap := e0.mod.kin.keeps fun b o e => (e0.bs b o e).1
  have lim : s.heap.NoLimit := e0.mod.nolimit.keeps fun b o e => (e0.bs b o e).1
  have hkind : ∀ y ∈ ps.zip us, scope.names.lookup y.1 = some .local ∨ (scope.names.lookup y.1 = some .cell ∧ ((cellsFrom (s.heap.objs.size + 1) scope.names []).lookup y.1).isSome = true) := fun ⟨n, v⟩ hy => by
    rcases S.par n (List.of_mem_zip hy).1 with q | q
    · exact .inl q
    · exact .inr ⟨q, PySem.W.cellsFrom_some _ _ _ (.inl q)⟩
  refine codeAny_call_function hr.depth (KX _ _ lk) rfl S.co S.gen rfl (PySem.W.codeRec_of KX hcd) (hb _ _ _ _ ?_)
  refine wpAny_newFunctionEnv_cells S.kind hkind fun env he s1 x => ?_
  subst he
  refine ⟨lim.keeps x.toInCall.keep, codeAny_func ?_⟩
  obtain ⟨t, ht, hq⟩ := hbody A outer s H vs Q E (hr.deeper _) hsp
  have I : Inv (cxH CX P w K mg base N qual scope f cdv A outer s H E p) [] (L2.start N vs) H s1 := inv_startH S hpin e0 hl r x
  refine wpAny_mono (ht.run [] s1 (L2.start N vs) H _ I hq) (fun fl s' hs => ?_) fun e s' hs => hs
  have fin : ∀ {σ' : L2.St} {H' : Hp} {v : V} {u : Value}, Inv (cxH CX P w K mg base N qual scope f cdv A outer s H E p) [] σ' H' s' → RelV v u → Q v H' → CE outer P w H s Q u s' :=
    fun {σ' H' v u} J rv q => ⟨v, H', J.os, J.bare, J.base, J.hok, rv, q⟩
  cases fl with
  | ret u =>
    obtain ⟨v, σ', H', J, rv, q⟩ := hs
    exact fin J rv q
  | next =>
    obtain ⟨σ', H', J, q⟩ := hs
    exact fin (v := V.non) (u := Value.none) J rfl q
  | brk =>
    obtain ⟨_, _, _, q⟩ := hs
    exact False.elim q
  | cont =>
    obtain ⟨_, _, _, q⟩ := hs
    exact False.elim q

section
variable {P : Program} {w : World} {K : PySem.W.Frag} {mg : Str → Option Value} {base : Heap}
theorem Fun.okQ {x qual : Str} {st : Stmt} {f : Addr} {fd : FuncData} {N ps : List Str} {k : Nat} {sp : Sp} {p : Addr × Obj} (F : Fun K x qual st f fd) (S : FnScope N ps (defScope st)) (len : ∀ vs H Q E, sp vs H Q E → vs.length = ps.length)
    (hbody : ∀ (cdv : Value) (A : Around) (outer : List Env) (s : Shared) (H : Hp) (vs : List V) (Q : VK) (E : XK), RoomH k (A.deeper (envOfC qual (defScope st) s.heap.objs.size f cdv)) → sp vs H Q E →
      ∃ t, PSs (cxH CX0 P w K mg base N qual (defScope st) f cdv A outer s H E p).nox (defBody st) t ∧ t { nx := fun _ H' => Q .non H', rt := Q } (start N vs) H) : FnQ P w K mg base CX0 (k + 1) p f fd ps sp := by
  obtain ⟨oc, od, kV, doc, pm, an, cdv, ct, osl, rfl, lk, hcd⟩ := F.ex
  refine fn_ofQ lk hcd S len fun A outer s H vs Q E hr hsp => ?_
  obtain ⟨t, h, q⟩ := hbody cdv A outer s H vs Q E hr hsp
  exact ⟨t, h.nox, q⟩
end
theorem runAny_ofQ {X : Cx} {k : Nat} {f : Addr} {fd : FuncData} {ps : List Str} {sp : Sp} {p : Addr × Obj} (F : FnQ X.prog X.w X.K X.mg X.base CX0 k p f fd ps sp) (hp : p ∈ X.pn) (hb : Binds X.K fd ps []) : RunAny X k f sp E0 := fun A pins σ H s Q us vs hA _ hr I r h => by
  have hl : us.length = ps.length := by rw [← r.length]; exact F.len _ _ _ _ h
  have b := hb s us I.kIn (by rw [List.append_nil]; exact hl)
  rw [List.append_nil] at b
  have P1 := I.pin p (List.mem_append_left _ hp)
  have hpin : PinOk X.stack H s p := ⟨P1.1, P1.2.1, fun hm => (List.mem_cons.mp (I.stkSub p.1 hm)).elim P1.2.2.1 P1.2.2.2.1, P1.2.2.2.2⟩
  have e0 : Env0 X.prog X.w X.K X.mg X.base A X.stack s H := by
    have e := I.env0
    exact ⟨hA.trans e.frames, e.mod, e.bs, e.bsz, e.funs, e.frf, e.hok, e.bare⟩
  refine wpAny_call (codeAny_mono (F.run A X.stack s H ⟨us, []⟩ us vs Q E0 hr hpin e0 b r h) fun r s' hq => ?_)
  cases r with
  | error e => exact False.elim hq
  | ok fl =>
    cases fl with
    | ret u => exact I.after hq
    | next => exact False.elim hq
    | brk => exact False.elim hq
    | cont => exact False.elim hq
end SFT

/-! Raising an own error over ValueError that keeps what it is given. -/
namespace SQ
open PySem PySem.Spec PyProof.Rows L2 SF
/-- the __init__ of an error of the class at C: given is kept -/
def spOI (C : Addr) : Sp := fun vs H Q _ => ∃ (p : Addr) (y : V), vs = [.ref p, y] ∧ H p = some (exo p C none) ∧ ∀ dx, H dx = none → dx ≠ p → Q .non (upd (upd H dx (exd dx [("given", y)])) p (exo p C (some dx)))
/-- the error's class by its name -/
structure OE (P : Program) (w : World) (K : PySem.W.Frag) (mg : Str → Option Value) (base : Heap) (nm : Str) (C fI : Addr) (fd : FuncData) : Prop where
  g : mg nm = some (.ref C)
  T : OexC K C
  iC : PySem.W.findIn K (.ref C) "__init__" = some (some (.ref fI))
  tI : PySem.W.typeIn K (.ref fI) = some (.type "function")
  F : FnOk P w K mg base CX0 1 fI fd ["self", "given"] (spOI C)
  b : Binds K fd ["self", "given"] []
/-- the error goes out, with v in hand -/
def ErrG (E : XK) (C : Addr) (v : V) (H : Hp) : Prop := ∀ dx H', Same H H' → H' dx = some (.xd [("given", v)]) → E (.ref C) (some dx) H'
theorem ErrG.mono {E : XK} {C : Addr} {v : V} {H H' : Hp} (h : ErrG E C v H) (S : Same H H') : ErrG E C v H' := fun dx H2 S2 e => h dx H2 (S.trans S2) e
section
variable {X : Cx} {C fI : Addr} {fd : FuncData} {nm : Str} {W : WX} {e : Expr} {te : TE} {p pos rpos : Pos}
theorem ps_oe (O : OE X.prog X.w X.K X.mg X.base nm C fI fd) (hc : X.calm = true) (tk : Takes X W) (hr : Room 2 X.A) (hg : Gl X nm) (he : PE X e te) (hm : ∀ σ H Q Q', (∀ v H', Q v H' → Q' v H') → te σ H Q → te σ H Q') (hdb : (nm == ("__debug__" : Str)) = false := by decide)
    (hs : starEach (e :: []) X.env = (false, eval e X.env) :: starEach [] X.env := by rfl) (hpl : (backTo pos (starEach [] X.env)).any (·.1) = false := by rfl) :
    PS X (.Raise (some (.Call (.Name nm p) [e] [] pos)) none rpos) (fun _ σ H => te σ H fun v H1 => ErrG (fun c d H' => W c d σ H') C v H1) := by
  have h1 : PS X (.Raise (some (.Call (.Name nm p) [e] [] pos)) none rpos) _ := ps_raise hc tk (pmk_oex O.T O.iC O.tI O.F hr O.b .nil pass0 hg O.g (pa_cons he pa_nil hs) hdb hs hpl)
  refine ⟨fun pins s σ H D I h => h1.run pins s σ H D I ?_⟩
  refine hm _ _ _ _ (fun v H1 z => ?_) h
  refine ⟨by show 1 ≤ 1000; decide, fun a na => ⟨a, v, rfl, upd_same, fun dx nd ne => ⟨rfl, dx, _, upd_same, ?_, ?_, z _ _ ?_ upd_same⟩⟩⟩
  · rw [upd_ne ne]
    exact upd_same
  · rw [← nd, upd_ne ne]
  · intro b o e
    have n1 : b ≠ a := ne_of_none e na
    have nd' : H1 dx = none := by rw [← nd, upd_ne ne]
    have n2 : b ≠ dx := ne_of_none e nd'
    rw [upd_ne n2, del_ne n1, upd_ne n1, upd_ne n2, upd_ne n1]
    exact e
end
end SQ
namespace SQ
open PySem PySem.Spec PyProof.Rows L2 SF
/-- OexC as one truth value -/
def oexcB (K : PySem.W.Frag) (C : Addr) : Bool := match K.lookup C with
  | some ⟨.type "type", _, .cls cd, sl⟩ => (match cd.mro, sl.toList with
    | .ref C' :: bm, [_, _, _, _, some (.builtin n), _] => C' == C && (n == "ValueError.__new__" && (!cd.hasDel && (cd.hasDict && PySem.HandSPX.refsVE bm)))
    | _, _ => false)
  | _ => false
theorem oexcB_ok {K : PySem.W.Frag} {C : Addr} (q : oexcB K C = true) : ∃ nm q N bs bm sn sub ab col dd k0 k1 k2 k3 k5, K.lookup C = some (excClassObj nm q C N bs bm true sn sub ab col dd k0 k1 k2 k3 k5 "ValueError.__new__") ∧ PySem.HandSPX.refsVE bm = true := by
  unfold oexcB at q
  split at q
  · rename_i dd cd sl ho
    split at q
    · rename_i C' bm k0 k1 k2 k3 n k5 hm hs
      simp only [Bool.and_eq_true, beq_iff_eq, Bool.not_eq_true'] at q
      obtain ⟨rfl, rfl, hdel, hdi, ht⟩ := q
      obtain ⟨nm, bs, mro, ns, qn, hd, sn, sub, ab, col, del⟩ := cd
      dsimp only at hm hdel hdi
      subst hm hdel hdi
      have hsl : sl = #[k0, k1, k2, k3, some (.builtin "ValueError.__new__"), k5] := by
        obtain ⟨l⟩ := sl
        simp only at hs
        rw [hs]
      subst hsl
      exact ⟨nm, qn, ns, bs, bm, sn, sub, ab, col, dd, k0, k1, k2, k3, k5, ho, ht⟩
    · cases q
  · cases q
def oexB (K : PySem.W.Frag) (C fI : Addr) : Bool := oexcB K C && (decide (PySem.W.findIn K (.ref C) "__setattr__" = some (some (.builtin "object.__setattr__"))) && (decide (PySem.W.subIn K (.ref C) (.type "BaseException") = some true) && (decide (PySem.W.typeIn K (.ref C) = some (.type "type")) && (PySem.W.keepIn K (.ref C) &&
  (decide (PySem.W.findIn K (.ref C) "__init__" = some (some (.ref fI))) && (decide (PySem.W.typeIn K (.ref fI) = some (.type "function")) && decide (PySem.W.findIn K (.ref C) "given" = some none)))))))
theorem oexB_ok {K : PySem.W.Frag} {C fI : Addr} (h : oexB K C fI = true) : OexC K C ∧ PySem.W.findIn K (.ref C) "__init__" = some (some (.ref fI)) ∧ PySem.W.typeIn K (.ref fI) = some (.type "function") ∧ PySem.W.findIn K (.ref C) "given" = some none := by
  unfold oexB at h
  simp only [Bool.and_eq_true, decide_eq_true_eq] at h
  obtain ⟨h1, h2, h3, h4, h5, h6, h7, h8⟩ := h
  exact ⟨⟨oexcB_ok h1, h2, h3, h4, h5⟩, h6, h7, h8⟩
section
variable {P : Program} {w : World} {K : PySem.W.Frag} {mg : Str → Option Value} {base : Heap} {C fI : Addr} {fd : FuncData} {nm : Str}
/-- what the written part says of an error that keeps what it is given; at i: its __init__ -/
structure OEK (K : PySem.W.Frag) (mg : Str → Option Value) (nm qn : Str) (st : Stmt) (C fI : Addr) (fd : FuncData) : Prop where
  g : mg nm = some (.ref C)
  x : oexB K C fI = true
  F : Fun K "__init__" qn st fI fd
  b : Binds K fd ["self", "given"] []
end
end SQ

/-! Things of many sorts: whole or not, the text of their tuple; defs that refuse them; what is caught then. -/
namespace SQ
open PySem PySem.Spec PyProof.Rows L2 SF SFT LamX
/-- v is a thing, whole or not -/
def IsWh (C : Addr) (H : Hp) (v : V) (b : Bool) : Prop := (∃ T, Dec H v T ∧ isI v = b) ∨ (IsIns C H v ∧ b = false)
theorem isw_if {C : Addr} {H : Hp} {v : V} {b : Bool} {i : Nat} {σ : L2.St} {D : Ends} {ts te : L2.TS} (e : σ[i]? = some (some v)) (h : IsWh C H v b) (q : if (!b) = true then ts D σ H else te D σ H) :
    tIfS (tNot (tB (tCall (spIsW C) [] E0 (tCons (tVar i) tNil)))) ts te D σ H := by
  rcases h with ⟨T, d, rfl⟩ | ⟨d, rfl⟩
  · exact ⟨_, e, _, rfl, .inl ⟨_, d, _, rfl, q⟩⟩
  · exact ⟨_, e, _, rfl, .inr ⟨d, _, rfl, q⟩⟩
/-- making with what is no integer; D: InvalidNumber -/
def spWI (C D : Addr) : Sp := fun vs H _ E => ∃ (p : Addr) (t b : V), vs = [.ref p, t, b] ∧ ((IsWh C H t false ∧ ErrG E D t H) ∨ (∃ i, t = .int i ∧ IsWh C H b false ∧ ErrG E D b H))
/-- over what is no number -/
def spWO (D : Addr) : Sp := fun vs H _ E => ∃ (a v : V), vs = [a, v] ∧ (∃ T, Dec H v T ∧ isI v = false) ∧ ErrG E D v H
/-- power with what is no integer from -20 to 20 -/
def spWP (C D : Addr) : Sp := fun vs H _ E => ∃ (a v : V), vs = [a, v] ∧ (IsWh C H v false ∨ ∃ e, v = .int e ∧ (e < -20 ∨ e > 20)) ∧ ErrG E D v H
/-- reading what is no string -/
def spWR (C D : Addr) : Sp := fun vs H _ E => ∃ v : V, vs = [.ref C, v] ∧ ((∃ T, Dec H v T ∧ T ≠ "str") ∨ IsIns C H v) ∧ ErrG E D v H
/-- ** with what is no integer from -20 to 20 -/
def spWQ (C D : Addr) : Sp := fun vs H _ E => ∃ (a : Addr) (n : Nat) (q : Rat) (e : Int), vs = [.ref a, .int e] ∧ RQ C H a n q ∧ (e < -20 ∨ e > 20) ∧ ErrG E D (.int e) H
/-- repr of a thing's tuple: of built-in things, or of a fraction -/
def rTh (C : Addr) : List V → Hp → VK → Prop := fun xs H Q => SX.rReprS xs H Q ∨ rTupOwn C (spRepr C) E0 xs H Q
theorem mono_rTh {C : Addr} : Mono (rTh C) := fun xs H Q Q' h z => z.imp (SFT.mono_reprS xs H Q Q' h) (fun ⟨p, v, y, e1, e2, e3, e4, q⟩ => ⟨p, v, y, e1, e2, e3, e4, h _ _ q⟩)
theorem callR_or {X : Cx} {f : Value} {r1 r2 : List V → Hp → VK → Prop} (h1 : CallR X f r1) (h2 : CallR X f r2) : CallR X f (fun xs H Q => r1 xs H Q ∨ r2 xs H Q) := fun pins s σ H xs us Q I r h => h.elim (h1 pins s σ H xs us Q I r) (h2 pins s σ H xs us Q I r)
mutual
theorem Sd.extN {H H' : Hp} (s : ExtN H H') : ∀ {v : V} {d : PyData}, SX.Sd H v d → SX.Sd H' v d
  | _, _, .non => .non
  | _, _, .bl b => .bl b
  | _, _, .int i => .int i
  | _, _, .str x => .str x
  | _, _, .lst n e h => .lst n (s _ _ e (fun ps z => by cases z)) (SdAll.extN s h)
  | _, _, .tup e h => .tup (s _ _ e (fun ps z => by cases z)) (SdAll.extN s h)
  | _, _, .dct e h => .dct (s _ _ e (fun ps z => by cases z)) (SdP.extN s h)
theorem SdAll.extN {H H' : Hp} (s : ExtN H H') : ∀ {vs : List V} {ds : List PyData}, SX.SdAll H vs ds → SX.SdAll H' vs ds
  | _, _, .nil => .nil
  | _, _, .cons a b => .cons (Sd.extN s a) (SdAll.extN s b)
theorem SdP.extN {H H' : Hp} (s : ExtN H H') : ∀ {vs : List (Key × V)} {ds : List (PyData × PyData)}, SX.SdP H vs ds → SX.SdP H' vs ds
  | _, _, .nil => .nil
  | _, _, .cons a b => .cons (Sd.extN s a) (SdP.extN s b)
end
/-- the repr of the tuple (v,) is t -/
def TxtV (C : Addr) (H : Hp) (v : V) (t : Str) : Prop := (∃ d : PyData, SX.Sd H v d ∧ (PyData.tuple [d]).showable = true ∧ (PyData.tuple [d]).depth ≤ 8 ∧ (PyData.tuple [d]).shown.length ≤ sizeLine ∧ t = (PyData.tuple [d]).shown) ∨
  ∃ a n q, v = .ref a ∧ RQ C H a n q ∧ n ≤ 1900 ∧ (tupleText [rrepr q]).length ≤ sizeLine ∧ t = tupleText [rrepr q]
theorem TxtV.extN {C : Addr} {H H' : Hp} {v : V} {t : Str} (h : TxtV C H v t) (S : ExtN H H') : TxtV C H' v t := by
  rcases h with ⟨d, a, b⟩ | ⟨a, n, q, e, r, b⟩
  · exact .inl ⟨d, Sd.extN S a, b⟩
  · exact .inr ⟨a, n, q, e, r.extN S, b⟩
theorem TxtV.same {C : Addr} {H H' : Hp} {v : V} {t : Str} (h : TxtV C H v t) (S : Same H H') : TxtV C H' v t := h.extN (ExtN.of S)
theorem rTh_of {C p : Addr} {H : Hp} {v : V} {t : Str} {Q : VK} (h : TxtV C H v t) (ep : H p = some (.tup [v])) (q : Q (.str t) H) : rTh C [.ref p] H Q := by
  rcases h with ⟨d, a, b1, b2, b3, rfl⟩ | ⟨a, n, x, rfl, r, hn, hl, rfl⟩
  · exact .inl ⟨p, .tuple [d], rfl, .tup ep (.cons a .nil), b1, b2, b3, q⟩
  · obtain ⟨⟨dx, ea⟩, _⟩ := id r
    exact .inr ⟨p, .ref a, rrepr x, rfl, ep, ⟨a, dx, _, rfl, ea, fun Q h => ⟨a, n, x, rfl, r, hn, h⟩⟩, hl, q⟩
/-- kinds of things -/
inductive TK where
  | whole (i : Int) | num (n : Nat) (q : Rat) | other
def Thing (C : Addr) (H : Hp) (v : V) (t : Str) : TK → Prop
  | .whole i => v = .int i ∧ TxtV C H v t
  | .num n q => (∃ a, v = .ref a ∧ RQ C H a n q) ∧ TxtV C H v t
  | .other => (∃ T, Dec H v T ∧ isI v = false) ∧ TxtV C H v t
theorem Thing.txt {C : Addr} {H : Hp} {v : V} {t : Str} {k : TK} (h : Thing C H v t k) : TxtV C H v t := by
  cases k <;> exact h.2
theorem Dec.extN {H H' : Hp} (s : ExtN H H') {v : V} {T : String} (d : Dec H v T) : Dec H' v T := by
  cases d with
  | non => exact .non
  | bl b => exact .bl b
  | int i => exact .int i
  | str x => exact .str x
  | lst e => exact .lst (s _ _ e (fun ps z => by cases z))
  | tup e => exact .tup (s _ _ e (fun ps z => by cases z))
  | dK e => exact .dK (s _ _ e (fun ps z => by cases z))
theorem Thing.extN {C : Addr} {H H' : Hp} {v : V} {t : Str} {k : TK} (h : Thing C H v t k) (S : ExtN H H') : Thing C H' v t k := by
  cases k with
  | whole i => exact ⟨h.1, h.2.extN S⟩
  | num n q => obtain ⟨⟨a, e, r⟩, x⟩ := h; exact ⟨⟨a, e, r.extN S⟩, x.extN S⟩
  | other => obtain ⟨⟨T, d, e⟩, x⟩ := h; exact ⟨⟨T, Dec.extN S d, e⟩, x.extN S⟩
theorem Thing.isw {C : Addr} {H : Hp} {v : V} {t : Str} {k : TK} (h : Thing C H v t k) (hk : ∀ i, k ≠ .whole i) : IsWh C H v false := by
  cases k with
  | whole i => exact absurd rfl (hk i)
  | num n q => obtain ⟨⟨a, rfl, r⟩, _⟩ := h; exact .inr ⟨r.ins, rfl⟩
  | other => obtain ⟨⟨T, d, e⟩, _⟩ := h; exact .inl ⟨T, d, e⟩
/-- e is the thing -/
def TV (C : Addr) (G : L2.St → Hp → Prop) (k : TK) (t : Str) (s : Prop) : TE := fun σ H Q => G σ H ∧ s ∧ ∀ v H', Same H H' → Thing C H' v t k → Q v H'
/-- e lets the error of the class at D out, which holds a thing with the text t -/
def TW (E : XK) (D C : Addr) (G : L2.St → Hp → Prop) (t : Str) (s : Prop) : TE := fun σ H _ => G σ H ∧ s ∧ ∀ v H', Same H H' → TxtV C H' v t → ErrG E D v H'
section
variable {X : Cx} {C : Addr} {T : List (Addr × Str)} {G : L2.St → Hp → Prop} {cs : Nat → Addr} {e : Expr} {s : Prop} {t : Str}
theorem pc_wrong {RV : List V → Hp → VK → Prop} {j : Nat} (hj : j < 12) (hgv : ∀ v, given j [("given", v)] = some [v]) (h : PE X e (tLam T (TTc cs RV (rTh C)) (fun E => TW E (cs j) C G t s))) (hG : GN G) : PE X e (TC T G (cnm j) t s) :=
  pe_weak h fun σ H Q ⟨hg, hT, h1, z⟩ => ⟨hT, fun H1 S1 T1 Q0 hQ0 => ⟨hG _ _ _ hg S1, h1, fun v H2 S2 tx dx H3 S3 ex => ⟨j, [("given", v)], [v], hj, rfl, .inr ⟨dx, rfl, ex⟩, hgv v, fun p H4 S4 ep =>
    rTh_of ((tx.same S3).same S4) ep ⟨_, rfl, fun L H5 S5 nL eL => z L H5 (S1.trans (ExtN.of fun b o z => S5 b o (S4 b o (S3 b o (S2 b o z))))) (T1.ext fun b o z => S5 b o (S4 b o (S3 b o (S2 b o z)))) eL⟩⟩⟩⟩
end
end SQ

/-! repr(None). -/
namespace SK
open PySem PySem.Spec PyProof.Rows L2 SF SQ
section
variable {X : Cx}
theorem call_reprN : CallR X (.builtin "repr") (fun xs H Q => xs = [V.non] ∧ Q (.str ("None" : PySem.Str)) H) := by
  intro pins s σ H xs us Q I r h
  obtain ⟨rfl, q⟩ := h
  obtain ⟨u, rfl, ru⟩ := r.one
  cases (show u = Value.none from ru)
  exact PySem.P.repr_of_none ⟨.str _, H, I.tok _, ⟨_, rfl⟩, q⟩
end
theorem ixT {X : Cx} {K : PySem.W.Frag} (h : X.K = K) : IxR X (rIxT K) := by
  subst h
  exact ix_tup
end SK
namespace SK
open PySem PySem.Spec PyProof.Rows L2
def isStr (K : PySem.W.Frag) (x y : PySem.Str) : Bool := match PySem.W.nsIn K mainGlobals x with
  | some (some (.str z _)) => decide (z = y)
  | _ => false
theorem isStr_ok {K : PySem.W.Frag} {h : Heap} {mg : PySem.Str → Option Value} (X : K.In h) (G : h.Ns mainGlobals mg) {x y : PySem.Str} (c : isStr K x y = true) : ∃ t, mg x = some (.str y t) := by
  unfold isStr at c
  cases e : PySem.W.nsIn K mainGlobals x with
  | none => rw [e] at c; cases c
  | some r =>
    cases r with
    | none => rw [e] at c; cases c
    | some v =>
      rw [e] at c
      cases v with
      | str z t =>
        have c : decide (z = y) = true := c
        have q := of_decide_eq_true c
        subst q
        exact ⟨t, PySem.W.mg_of X G e⟩
      | _ => cases c
end SK

/-! Rows as data, compared; slices of rows. -/
namespace SK
open PySem PySem.Spec PyProof.Rows L2 SF SQ
def entD : Ent → PyData
  | none => .none
  | some q => .tuple [.int q.num, .int (q.den : Int)]
def rowD (rs : List Ent) : PyData := .list (rs.map entD)
theorem ent_eqv (r r' : Ent) : PyData.eqv (entD r) (entD r') = decide (r = r') := by
  cases r with
  | none => cases r' with
    | none => rfl
    | some q => rfl
  | some q => cases r' with
    | none => rfl
    | some q' =>
      show (PyData.eqv (.int q.num) (.int q'.num) && (PyData.eqv (.int (q.den : Int)) (.int (q'.den : Int)) && true)) = _
      have e1 : ∀ i j : Int, PyData.eqv (.int i) (.int j) = decide (i = j) := fun i j => by
        show (i == j) = _
        by_cases h : i = j
        · subst h; simp
        · simp [h]
      rw [e1, e1, Bool.and_true]
      by_cases h : q = q'
      · subst h; simp
      · have h2 : ¬ (some q = some q') := fun z => h (Option.some.inj z)
        rw [decide_eq_false h2]
        by_cases h3 : q.num = q'.num
        · have h4 : ¬ ((q.den : Int) = (q'.den : Int)) := fun z => h (Rat.ext h3 (Int.ofNat.inj z))
          rw [decide_eq_false h4, Bool.and_false]
        · rw [decide_eq_false h3, Bool.false_and]
theorem row_eqvAll : ∀ rs rs' : List Ent, PyData.eqvAll (rs.map entD) (rs'.map entD) = decide (rs = rs')
  | [], [] => rfl
  | [], _ :: _ => rfl
  | _ :: _, [] => rfl
  | r :: t, r' :: t' => by
    show (PyData.eqv (entD r) (entD r') && PyData.eqvAll (t.map entD) (t'.map entD)) = _
    rw [ent_eqv, row_eqvAll t t']
    by_cases h : r = r'
    · subst h
      by_cases h2 : t = t'
      · subst h2; simp
      · simp [h2]
    · simp [h]
theorem row_eqv (rs rs' : List Ent) : PyData.eqv (rowD rs) (rowD rs') = decide (rs = rs') := row_eqvAll rs rs'
theorem shaped_ent (r : Ent) : SeqAt.shaped (entD r) = true := by
  cases r with
  | none => rfl
  | some q => rfl
theorem ent_depth (r : Ent) : (entD r).depth ≤ 1 := by
  cases r with
  | none => decide
  | some q => show max 0 (max 0 0) + 1 ≤ 1; decide
theorem rows_depth : ∀ rs : List Ent, PyData.depthAll (rs.map entD) ≤ 1
  | [] => by decide
  | r :: t => by
    show max (entD r).depth (PyData.depthAll (t.map entD)) ≤ 1
    have := ent_depth r
    have := rows_depth t
    omega
theorem rows_lay : ∀ rs : List Ent, PyData.canLayAll0 (rs.map entD) = true
  | [] => rfl
  | r :: t => by
    show (PyData.canLay0 (entD r) && PyData.canLayAll0 (t.map entD)) = true
    rw [rows_lay t, Bool.and_true]
    cases r <;> rfl
theorem shaped_row (rs : List Ent) : SeqAt.shaped (rowD rs) = true := by
  unfold SeqAt.shaped
  refine Bool.and_eq_true_iff.mpr ⟨rows_lay rs, decide_eq_true ?_⟩
  show PyData.depthAll (rs.map entD) + 1 ≤ 64
  have := rows_depth rs
  omega
theorem dp_ent {K : PySem.W.Frag} {n : Nat} {H : Hp} {v : V} {r : Ent} (h : RN n H v r) : Dp K H v (entD r) := by
  cases r with
  | none =>
    have h : v = .non := h
    subst h
    exact .non
  | some q =>
    obtain ⟨p, rfl, e, _⟩ := h
    exact .tup (SqT.of e) (.cons (.int _) (.cons (.int _) .nil))
theorem dp_ents {K : PySem.W.Frag} {n : Nat} {H : Hp} : ∀ {vs : List V} {rs : List Ent}, All2 (RN n H) vs rs → DpAll K H vs (rs.map entD)
  | [], [], _ => .nil
  | [], _ :: _, h => by cases h.1
  | _ :: _, [], h => by cases h.1
  | v :: vs, r :: rs, h => .cons (dp_ent (h.2 0 v r rfl rfl)) (dp_ents ⟨by have := h.1; simpa using this, fun i x y hx hy => h.2 (i + 1) x y (by simpa using hx) (by simpa using hy)⟩)
theorem dp_row {K : PySem.W.Frag} {n : Nat} {H : Hp} {p : Addr} {rs : List Ent} (h : RowAt n H p rs) : Dp K H (.ref p) (rowD rs) := let ⟨vs, e, hv⟩ := h; .lst (SqL.of e) (dp_ents hv)
theorem mem_cut {xs : List V} {a b : Option Int} {v : V} (h : v ∈ cutV xs a b) : v ∈ xs := List.mem_of_mem_drop (List.mem_of_mem_take h)
theorem cut_front (xs : List V) {k : Nat} (h : k ≤ xs.length) : (cutV xs none (some (k : Int))).length ≤ k := by
  unfold cutV
  rw [List.length_take, HT.sIx_nat, HT.sIx_none]
  omega
theorem cut_back (xs : List V) {k : Nat} : (cutV xs (some ((k : Int) + 1)) none).length ≤ xs.length - (k + 1) := by
  unfold cutV
  have e : ((k : Int) + 1) = ((k + 1 : Nat) : Int) := by omega
  rw [List.length_take, List.length_drop, e, HT.sIx_nat, HT.sIx_none]
  omega
end SK

/-! [e for x in it] where e may let an own error out of a call. -/
namespace SK
open PySem PySem.Spec PyProof.Rows L2 SF SQ
section
variable {h B B0 : Heap} {l l0 : List PySem.Env} {a L : Addr} {Z Z0 : Obj → Prop}
/-- what flies by the call's word is neither new nor held -/
theorem sky_fly (f : PySem.HandSPX.FlyingZ B0 l0 a Z0 h) (k : Sky B l a Z L h) : PySem.HandSPX.FlyingZ B l a Z h := by
  obtain ⟨_, _, _, o1, v1, T1, t1, w1, e1, _, d1, g1, _, _, k1, m1, n1⟩ := f
  rcases k with ⟨_, _, _, o2, v2, e2, _, d2, g2⟩ | f2 | ⟨_, _, _, o2, v2, T2, t2, w2, e2, _, d2, g2, _, _, k2, m2, n2⟩
  · rw [e1] at e2; cases e2
    rw [d1] at d2; cases d2
    rw [g1] at g2; cases g2
  · exact f2
  · rw [e1] at e2; cases e2
    rw [d1] at d2; cases d2
    rw [g1] at g2; cases g2
    rw [k1] at k2; cases k2
    rw [m1] at m2; cases m2
    rw [n1] at n2
    simp [rawInt] at n2
theorem note_frame {e : Value} {v u : PySem.Env} (hf : v.frame = u.frame) : noteFrame e v = noteFrame e u := by
  unfold noteFrame PySem.frameOf
  rw [hf]
/-- held over a ground without the block's names, the block let go -/
theorem held_hide {C : Addr} {h' : Heap} (x : PySem.HandSPX.HeldZ B l a Z L h) (sb : Heap.SameBut C h h') (hC : ∃ o, h.get? C = some o ∧ ∀ vs, o.data ≠ .fields vs) (nl : C ∉ frs l) : PySem.HandSPX.HeldZ (PySem.W.hideAll B [C]) l a Z L h' := by
  obtain ⟨x1, x2, x3, oe, vs, T, oT, ts, he, hz, hd, g1, hnT, hTe, hT, hdT, g3⟩ := x
  obtain ⟨oC, eC, nC⟩ := hC
  have keep : ∀ b o, b ≠ C → h.get? b = some o → h'.get? b = some o := fun b o n e => (sb.2 b n).trans e
  have neC : ∀ b o w, h.get? b = some o → o.data = .fields w → b ≠ C := fun b o w e d z => by
    rw [z, eC] at e
    cases e
    exact nC _ d
  have hn : ∀ b, B.get? b = none → (PySem.W.hideAll B [C]).get? b = none := fun b e => by
    cases q : (PySem.W.hideAll B [C]).get? b with
    | none => rfl
    | some o =>
      rw [PySem.W.of_hideAll _ q] at e
      cases e
  refine ⟨fun b o e => ?_, hn _ x2, ?_, oe, vs, T, oT, ts, keep _ _ (neC _ _ _ he hd) he, hz, hd, g1, hn _ hnT, hTe, keep _ _ (neC _ _ _ hT hdT) hT, hdT, g3⟩
  · by_cases z : b = C
    · rw [z, PySem.W.hideAll_none _ (by simp)] at e
      cases e
    · exact keep b o z (x1 b o (PySem.W.of_hideAll _ e))
  · have k1 : h'.FunFrames B l := by
      clear g3 g1
      induction l with
      | nil => trivial
      | cons env r ih =>
        obtain ⟨f1, ⟨L1, o1, f2, f3, f4, f5⟩, f6⟩ := x3
        refine ⟨f1, ⟨L1, o1, f2, f3, keep _ _ (fun z => nl (List.mem_filterMap.mpr ⟨env, List.mem_cons_self, by rw [f2, z]⟩)) f4, f5⟩, ih (fun z => nl ?_) f6⟩
        obtain ⟨q1, q2, q3⟩ := List.mem_filterMap.mp z
        exact List.mem_filterMap.mpr ⟨q1, List.mem_cons_of_mem _ q2, q3⟩
    exact funFrames_none k1 fun b hb => hn _ (k1.mem hb).1
end
/-- the block of a comprehension whose element may let an error out -/
abbrev blkX (X : Cx) (s : Shared) (H : Hp) (scope : Scope) (cenv : PySem.Env) (fp : List Addr) (pn : List (Addr × Obj)) (xe : Value → Shared → Prop) : Cx := (X.blk s H scope cenv fp).tr pn xe
section
variable {X : Cx} {Ex : XK}
/-- an error flies out of the block, the block is let go, it flies on in the def -/
theorem blk_fails {pins pn' : List (Addr × Obj)} {σ σ' : L2.St} {H H' : Hp} {s3 s s' : Shared} {scope : Scope} {ce : PySem.Env} {fp : List Addr} {pn : List (Addr × Obj)} {xe : Value → Shared → Prop} {e : Value}
    (hs : X.stack = X.env :: X.outer) (hf : X.env.frame = some X.env.locals) (tk : Takes X (fun cls d _ H => Ex cls d H)) (hce : ce.frame = X.env.frame)
    (back : ∀ {σ' : L2.St} {H' : Hp} {pn' : List (Addr × Obj)} {s' : Shared}, Inv (blkX X s3 H scope ce fp pn xe) pn' σ' H' s' → Inv X pins σ H' s' ∧ FpOk X pins H' ce.locals)
    (I : Inv (blkX X s3 H scope ce fp pn xe) pn' σ' H' s) (c : L2.CX X.prog X.w X.stack H' s Ex e s') :
    notedBy (model X.prog X.w) X.A ce (fun e s' => CompFails (model X.prog X.w) X.A X.xe ce e s') e s' := by
  obtain ⟨a0, B0, H0, cls0, d0, rfl, fl0, _⟩ := id c
  obtain ⟨a, B, sI, pins2, σ2, H2, cls, d, ea, II, nb, up, sky, na, os, ag, w⟩ := XE.of_call (X := blkX X s3 H scope ce fp pn xe) (W := fun cls d _ H => Ex cls d H) I (fun _ _ _ h => h) c
  cases ea
  have fl := sky_fly fl0 sky
  obtain ⟨IO, f0, f1, f2, f3, f4, f5⟩ := back II
  have hfr : X.A.frames = some (X.env :: X.outer) := by rw [IO.ok.frames, hs]
  have nCs : ce.locals ∉ frs X.stack := fun hm => (List.mem_cons.mp (IO.stkSub _ hm)).elim f1 f2
  have nb : ∀ b o, sI.heap.get? b = some o → b ∉ frs X.stack → B.get? b = some o := nb
  have fl : PySem.HandSPX.FlyingZ B X.stack a0 (Zc cls d) s'.heap := fl
  rw [hs] at fl
  obtain ⟨m0, hn0, _⟩ := II.loc
  have hn0 : sI.heap.Ns ce.locals m0 := hn0
  unfold notedBy
  rw [note_frame hce]
  refine PySem.HandSPX.looks_onZ Zc.steady hfr hf fl fun h1 hh1 up1 => ?_
  obtain ⟨oC, es, ep, eC, dC, rC⟩ := hn0
  have eB : B.get? ce.locals = some oC := nb _ _ eC nCs
  have e1 : h1.get? ce.locals = some oC := hh1.1 _ _ eB
  refine ⟨m0, ⟨oC, es, ep, e1, dC, rC⟩, fun h2 m2 hm2 sb => ?_⟩
  have hh2 := held_hide hh1 sb ⟨oC, e1, fun vs q => by rw [dC] at q; cases q⟩ (by rw [← hs]; exact nCs)
  obtain ⟨k1, k2, k3, oe, vs, T, oT, ts, he, hz, hd, g1, hr⟩ := id hh2
  unfold PySem.passOn
  refine wpAny_bind (wpAny_field he hd g1 ?_)
  rw [if_neg (show ¬ ((Value.ref T == Value.none) = true) from by simp)]
  have fin : wpAny (model X.prog X.w) X.A (setFlight (.ref a0) ce.frame) (fun _ s4 => wpAny (model X.prog X.w) X.A (throw (.ref a0) : Sem Value) (fun _ _ => False) X.xe s4) X.xe { s' with heap := h2 } := by
    rw [hce, hf]
    refine PySem.HandSPX.setFlight_onZ hh2 fun h3 hh3 up3 => wpAny_throw (tk _ _ ?_)
    refine ⟨a0, PySem.W.hideAll B [ce.locals], { sI with heap := PySem.W.hideAll sI.heap [ce.locals] }, pins, σ, H2, cls, d, rfl, IO.turned (t' := sI.toks) (fun b o n e => PySem.W.hideAll_get _ e (by simpa using n)) f0 f1 f3 f4 f5,
      fun b o e n => ?_, fun b o e nf => ?_, .inr (.inr (by rw [hs]; exact hh3)), na, os, ag, w⟩
    · by_cases z : b = ce.locals
      · have e : (PySem.W.hideAll sI.heap [ce.locals]).get? b = some o := e
        rw [z, PySem.W.hideAll_none _ (by simp)] at e
        cases e
      · exact PySem.W.hideAll_get _ (nb b o (PySem.W.of_hideAll _ e) n) (by simpa using z)
    · by_cases z : b = ce.locals
      · have e : (PySem.W.hideAll sI.heap [ce.locals]).get? b = some o := e
        rw [z, PySem.W.hideAll_none _ (by simp)] at e
        cases e
      · obtain ⟨sl, q⟩ := (up.trans up1) b o (PySem.W.of_hideAll _ e) nf
        obtain ⟨sl2, q2⟩ := up3 b { o with slots := sl } ((sb.2 b z).trans q) nf
        exact ⟨sl2, q2⟩
  first
    | exact wpAny_bind (wpAny_pure (wpAny_bind fin))
    | exact wpAny_bind fin
/-- [elt for tg in iter] -/
theorem pe_lcX {elt tg iter : Expr} {scope : Scope} {own : List (Str × Nat)} {pos : Pos} {wi : TI} {g : TG} {te : TE} (hst : X.stack = X.env :: X.outer) (hfr : X.env.frame = some X.env.locals) (tk : Takes X (fun cls d _ H => Ex cls d H)) (hc : X.calm = true) (hN : X.N.Nodup) (hi : PI X tg iter wi) (ok : BlkOk X.N X.env.scope scope own)
    (hg : ∀ (s : Shared) (H : Hp) (C : Addr) (cl : List (Str × Addr)) (fp : List Addr), PG (X.blk s H scope (compEnvC scope cl C X.env) fp) tg g)
    (he : ∀ (s : Shared) (H : Hp) (C : Addr) (cl : List (Str × Addr)) (fp : List Addr) (pn : List (Addr × Obj)) (xe : Value → Shared → Prop), Passes (L2.CX X.prog X.w) (blkX X s H scope (compEnvC scope cl C X.env) fp pn xe) Ex → PE (blkX X s H scope (compEnvC scope cl C X.env) fp pn xe) elt te)
    (hs : ∀ x, foldedSetIterable iter X.env x = pure x := by intro _; rfl) : PE X (.ListComp elt [⟨tg, iter, [], 0⟩] scope pos) (tLc wi g tYes te (own.map (·.2))) := by
  refine ⟨fun pins s σ H Q I h => ?_⟩
  rw [eval_ListComp]
  have free : ∀ y ∈ scope.names, y.2 = .free → ∃ c, X.env.cells.lookup y.1 = some c := fun y hy e => I.ok.has _ ((ok.free y hy e).elim .inl .inr)
  refine comprehension_at (use := none) rfl hs (closure_ok free) ok.kind (fun y hy e => by rw [ok.uniq y hy, e]) (thn (hi.run pins s σ H _ I h) fun xv s1 hx => thn hx fun itv s2 h2 => ?_)
  obtain ⟨it, fp, tn, J, H2, rfl, I2, T, st2, f2, q⟩ := h2
  refine wpAny_newObj_type (newEnv_comp ?_) (by show 0 ≤ sizeLine; decide)
  obtain ⟨D, hD⟩ : ∃ D, s2.heap.objs.size = D := ⟨_, rfl⟩
  have hDn : H2 D = none := I2.hok.fresh (Nat.le_of_eq hD)
  obtain ⟨W, ⟨m0, w0⟩, turn⟩ := q D hDn
  generalize hs3 : ({ s2 with heap := s2.heap.push { cls := .type "list", data := .seq ([] : List Value).toArray } } : Shared) = s3
  have h3 : s3.heap = s2.heap.push { cls := .type "list", data := .seq ([] : List Value).toArray } := by rw [← hs3]
  have I3 : Inv X pins σ (upd H2 D (.lst [])) s3 := by
    subst hs3
    exact I2.laid (t' := s2.toks) (fun b o e => Heap.get?_push_of_some _ e) (Nat.le_of_eq hD) ⟨Nat.zero_le _, [], 0, .nil, by rw [← hD]; exact Heap.get?_push_size _ rfl⟩
  have lt2 : ∀ b ∈ fp, b < s2.heap.objs.size := fun b hb => let ⟨_, e, _⟩ := T.obj _ _ st2 b hb; Heap.lt_size e
  have f3 : ∀ b ∈ fp, FpOk X pins (upd H2 D (.lst [])) b ∧ b < s3.heap.objs.size := fun b hb =>
    ⟨⟨by rw [upd_ne (by rw [← hD]; exact Nat.ne_of_lt (lt2 b hb))]; exact (f2 b hb).1, (f2 b hb).2⟩, by rw [h3, Heap.size_push]; exact Nat.lt_succ_of_lt (lt2 b hb)⟩
  have st3 : tn 0 s3.heap := T.keep _ _ _ st2 fun b _ o e => by rw [h3]; exact Heap.get?_push_of_some _ e
  have I4 := block_start I3 ok hN f3
  have pg := hg s3 (upd H2 D (.lst [])) s3.heap.objs.size (cellsFrom (s3.heap.objs.size + 1) scope.names (cloFrom X.env.cells scope.names [])) fp
  have pe := he s3 (upd H2 D (.lst [])) s3.heap.objs.size (cellsFrom (s3.heap.objs.size + 1) scope.names (cloFrom X.env.cells scope.names [])) fp
  rw [hD]
  show codeAny _ _ (.compStart (.ListComp elt [⟨tg, iter, [], 0⟩] scope pos) 0 (.ref it) (.ref D) (compEnvC scope (cellsFrom (s3.heap.objs.size + 1) scope.names (cloFrom X.env.cells scope.names [])) s3.heap.objs.size X.env))
    (compEnds (model X.prog X.w) X.A X.xe none (EP X pins σ Q) (.ref D) (compEnvC scope (cellsFrom (s3.heap.objs.size + 1) scope.names (cloFrom X.env.cells scope.names [])) s3.heap.objs.size X.env)) { s3 with heap := pushCells (s3.heap.push { cls := .type "dict", data := .dict #[] }) scope.names }
  have nfp : ∀ b ∈ fp, (upd H2 D (.lst [])) b = none := fun b hb => (f3 b hb).1.1
  generalize hce : compEnvC scope (cellsFrom (s3.heap.objs.size + 1) scope.names (cloFrom X.env.cells scope.names [])) s3.heap.objs.size X.env = ce at I4 pg pe ⊢
  have cL : ce.locals = s3.heap.objs.size := by subst hce; rfl
  have cF : ce.frame = X.env.frame := by subst hce; rfl
  generalize hH3 : upd H2 D (.lst []) = H3 at I3 I4 pg pe w0 nfp f3
  generalize hs4 : ({ s3 with heap := pushCells (s3.heap.push { cls := .type "dict", data := .dict #[] }) scope.names } : Shared) = s4 at I4 ⊢
  have st4 : tn 0 s4.heap := T.keep _ _ _ st3 fun b _ o e => by rw [← hs4]; exact pushCells_keeps _ _ _ _ (Heap.get?_push_of_some _ e)
  have stat : ∀ {σ' : L2.St} {H' : Hp} {s' : Shared}, Inv (X.blk s3 H3 scope ce fp) [] σ' H' s' → (∀ b ∈ fp, H' b = none) → ∀ b ∈ fp, FpOk (X.blk s3 H3 scope ce fp) [] H' b := fun {_ _ _} J' hn b hb =>
    ⟨hn b hb, (J'.ok.exf b hb).1, J'.ok.exfs b hb, .inl hb, fun x c e => (J'.ok.exf b hb).2 x c e, fun p hp => by cases hp⟩
  -- from the block back to the def
  have out : ∀ {X' : Cx} {pn' : List (Addr × Obj)} {σ' : L2.St} {H' : Hp} {s' : Shared}, s'.os = s3.os → L2.Un (frs X.stack) fp H3 H' s3.heap s'.heap → HOk X.prog X.w H' s'.heap → AllBare s'.gens → H' ce.locals = none → Inv X pins σ H' s' ∧ FpOk X pins H' ce.locals := fun {_ _ _ _ _} os u hok bare fr =>
    ⟨I3.call' (ch := fp) os u hok bare fun b hb => ⟨(f3 b hb).1.2.2.2.1, (f3 b hb).1.2.1, (f3 b hb).1.2.2.2.2.1, (f3 b hb).1.2.2.2.2.2⟩, I3.fpOk (Nat.le_of_eq cL.symm) fr⟩
  have loop : codeAny (model X.prog X.w) X.A (.compLoop (.ListComp elt [⟨tg, iter, [], 0⟩] scope pos) 0 (.ref it) (.ref D) ce) (compEnds (model X.prog X.w) X.A X.xe none (EP X pins σ Q) (.ref D) ce) s4 := by
    refine compLoop_any (fun n s' => ∃ i H', Inv (X.blk s3 H3 scope ce fp) [] (wipe σ (own.map (·.2))) H' s' ∧ tn i s'.heap ∧ (∀ b ∈ fp, H' b = none) ∧ W i n H') ?_ m0 ⟨0, H3, I4, st4, nfp, w0⟩
    rintro n s5 ⟨i, H5, I5, st5, n5, w5⟩
    rcases turn i n H5 w5 with ⟨stop, qq⟩ | ⟨go, Nx, hNx, step⟩
    · refine thnF (T.done (X.blk s3 H3 scope ce fp) rfl rfl rfl hc i [] s5 _ H5 (fun _ _ => False) I5 (stat I5 n5) st5 stop) fun r s6 ⟨hr, I6⟩ => ?_
      subst hr
      obtain ⟨I7, f7⟩ := out (X' := X) (pn' := []) (σ' := σ) I6.os I6.base I6.hok I6.bare I6.free
      obtain ⟨m, hn, _⟩ := I6.loc
      exact ⟨m, hn, fun h7 sb => ⟨.ref D, H5, I7.turned (t' := s6.toks) (fun b o hb e => (sb.2 b hb).trans e) f7.1 f7.2.1 f7.2.2.2.1 f7.2.2.2.2.1 f7.2.2.2.2.2, rfl, qq⟩⟩
    · refine thnF (T.item (X.blk s3 H3 scope ce fp) rfl rfl rfl hc i [] s5 _ H5 (fun _ _ => False) I5 (stat I5 n5) st5 go) fun r s6 ⟨u, hr, h6⟩ => ?_
      subst hr
      refine thnF h6 fun _ s7 ⟨x, H7, I7, r7, y7, st7, n7⟩ => ?_
      refine thnF (pg.run _ s7 _ H7 x u _ (I7.pinned (stat I7 n7) (T.obj _ _ st7)) r7 (step x H7 y7)) fun _ s8 ⟨σ8, H8, I8, hw8, q8⟩ => wpAny_tests_nil ?_
      have q8 : te σ8 H8 fun y H4 => ∃ acc, H4 D = some (.lst acc) ∧ acc.length < sizeLine ∧ Nx (upd H4 D (.lst (acc ++ [y]))) := q8
      have key := (pe _ (notedBy (model X.prog X.w) X.A ce (fun e s' => CompFails (model X.prog X.w) X.A X.xe ce e s')) (fun pins' σ' H' s e s' I' c => blk_fails hst hfr tk cF (fun {_ _ _ _} J' => out (X' := X) (pn' := []) (σ' := σ) J'.os J'.base J'.hok J'.bare J'.free) I' c)).run [] s8 σ8 H8 _ (I8.toTry _) q8
      refine wpAny_mono key (fun z s10 ⟨yv, H10, I10, r10, acc, hD10, hz10, nx⟩ => ?_) (fun _ _ z => z)
      refine app_ok (X := X.blk s3 H3 scope ce fp) (I10.ofTry I8.ok) hD10 hz10 r10 fun s11 I11 => ?_
      obtain ⟨m', hm, w'⟩ := hNx _ nx
      have pin' : ∀ b ∈ fp, ∀ o, s7.heap.get? b = some o → s11.heap.get? b = some o ∧ (upd H10 D (.lst (acc ++ [yv]))) b = none := fun b hb o e =>
        let z := I11.pin (b, o) (List.mem_append_right _ (List.mem_append_right _ (mem_pinsAt hb e)))
        ⟨z.1, z.2.1⟩
      have hl : (wipe σ (own.map (·.2))).length = σ8.length := by rw [← hw8, wipe_length]
      refine ⟨m', hm, i + 1, _, (I11.unpinned (pins := [])).weak hl (fun j v e => by rw [← hw8] at e; exact (wipe_some e).1), T.keep _ _ _ st7 fun b hb o e => (pin' b hb o e).1, fun b hb => ?_, w'⟩
      obtain ⟨o, e, _⟩ := T.obj _ _ st7 b hb
      exact (pin' b hb o e).2
  exact codeAny_compStart_list loop (T.self X.A 0 _ _ _ st4 loop)
end
end SK

namespace T08
open PySem PySem.Spec PyProof.Rows L2 SF SQ
def top (i : Nat) : Stmt := PySem.Challenge.pw_seriesforms_k08_series_refused.main.body.getD i (.Pass ⟨0, 0, 0, 0⟩)
abbrev sIni : Stmt := inClass (top 22) 0
abbrev sRd : Stmt := inClass (top 22) 1
abbrev sSI : Stmt := inClass (top 34) 0
abbrev sSR : Stmt := inClass (top 34) 1
abbrev sETxt : Stmt := inClass (top 5) 0
abbrev sEEnt : Stmt := inClass (top 9) 0
abbrev sIsW : Stmt := top 20
theorem scIsW : FnScope ["value"] ["value"] (defScope sIsW) := ⟨rfl, rfl, rfl, by decide +kernel, rfl, by decide +kernel, by decide +kernel⟩
abbrev sIsN : Stmt := top 21
theorem scIsN : FnScope ["value"] ["value"] (defScope sIsN) := ⟨rfl, rfl, rfl, by decide +kernel, rfl, by decide +kernel, by decide +kernel⟩
abbrev sAs : Stmt := top 23
theorem scAs : FnScope ["number"] ["number"] (defScope sAs) := ⟨rfl, rfl, rfl, by decide +kernel, rfl, by decide +kernel, by decide +kernel⟩
abbrev sIsT : Stmt := top 30
theorem scIsT : FnScope ["text", "top", "stroke", "bottom"] ["text"] (defScope sIsT) := ⟨rfl, rfl, rfl, by decide +kernel, rfl, by decide +kernel, by decide +kernel⟩
abbrev sIsP : Stmt := top 31
theorem scIsP : FnScope ["text"] ["text"] (defScope sIsP) := ⟨rfl, rfl, rfl, by decide +kernel, rfl, by decide +kernel, by decide +kernel⟩
abbrev sTop : Stmt := inClass (top 22) 2
theorem scTop : FnScope ["self"] ["self"] (defScope sTop) := ⟨rfl, rfl, rfl, by decide +kernel, rfl, by decide +kernel, by decide +kernel⟩
abbrev sBot : Stmt := inClass (top 22) 3
theorem scBot : FnScope ["self"] ["self"] (defScope sBot) := ⟨rfl, rfl, rfl, by decide +kernel, rfl, by decide +kernel, by decide +kernel⟩
abbrev sEq : Stmt := inClass (top 22) 18
theorem scEq : FnScope ["self", "other"] ["self", "other"] (defScope sEq) := ⟨rfl, rfl, rfl, by decide +kernel, rfl, by decide +kernel, by decide +kernel⟩
abbrev sStr : Stmt := inClass (top 22) 19
theorem scStr : FnScope ["self"] ["self"] (defScope sStr) := ⟨rfl, rfl, rfl, by decide +kernel, rfl, by decide +kernel, by decide +kernel⟩
abbrev sRepr : Stmt := inClass (top 22) 20
theorem scRepr : FnScope ["self"] ["self"] (defScope sRepr) := ⟨rfl, rfl, rfl, by decide +kernel, rfl, by decide +kernel, by decide +kernel⟩
abbrev sSLen : Stmt := inClass (top 34) 4
theorem scSLen : FnScope ["self"] ["self"] (defScope sSLen) := ⟨rfl, rfl, rfl, by decide +kernel, rfl, by decide +kernel, by decide +kernel⟩
abbrev sSEq : Stmt := inClass (top 34) 5
theorem scSEq : FnScope ["self", "other"] ["self", "other"] (defScope sSEq) := ⟨rfl, rfl, rfl, by decide +kernel, rfl, by decide +kernel, by decide +kernel⟩
abbrev sSStr : Stmt := inClass (top 34) 6
theorem scSStr : FnScope ["self", "entry"] ["self"] (defScope sSStr) := ⟨rfl, rfl, rfl, by decide +kernel, rfl, by decide +kernel, by decide +kernel⟩
abbrev sSRepr : Stmt := inClass (top 34) 7
theorem scSRepr : FnScope ["self"] ["self"] (defScope sSRepr) := ⟨rfl, rfl, rfl, by decide +kernel, rfl, by decide +kernel, by decide +kernel⟩
abbrev sSEnt : Stmt := inClass (top 34) 2
theorem scSEnt : FnScope ["self"] ["self"] (defScope sSEnt) := ⟨rfl, rfl, rfl, by decide +kernel, rfl, by decide +kernel, by decide +kernel⟩
abbrev sSMis : Stmt := inClass (top 34) 3
theorem scSMis : FnScope ["self", "place", "entry"] ["self"] (defScope sSMis) := ⟨rfl, rfl, rfl, by decide +kernel, rfl, by decide +kernel, by decide +kernel⟩
abbrev sREnt : Stmt := top 35
theorem scREnt : FnScope ["word", "text"] ["word", "text"] (defScope sREnt) := ⟨rfl, rfl, rfl, by decide +kernel, rfl, by decide +kernel, by decide +kernel⟩
abbrev sCell : Stmt := top 37
theorem scCell : FnScope ["_law_cells", "_law_k", "_law_mixed", "_law_cell_here"] ["_law_cells", "_law_k"] (defScope sCell) := ⟨rfl, rfl, rfl, by decide +kernel, rfl, by decide +kernel, by decide +kernel⟩
abbrev sSrc : Stmt := top 38
theorem scSrc : FnScope ["_law_cell_here", "_law_great"] ["_law_cell_here"] (defScope sSrc) := ⟨rfl, rfl, rfl, by decide +kernel, rfl, by decide +kernel, by decide +kernel⟩
abbrev sDraw : Stmt := top 39
theorem scDraw : FnScope ["_law_source_here", "_law_many", "_law_first", "_law_turned", "_law_digit"] ["_law_source_here", "_law_many"] (defScope sDraw) := ⟨rfl, rfl, rfl, by decide +kernel, rfl, by decide +kernel, by decide +kernel⟩
abbrev sCom : Stmt := top 40
theorem scCom : FnScope ["_law_one", "_law_two", "_law_high", "_law_low"] ["_law_one", "_law_two"] (defScope sCom) := ⟨rfl, rfl, rfl, by decide +kernel, rfl, by decide +kernel, by decide +kernel⟩
abbrev sLow : Stmt := top 41
theorem scLow : FnScope ["_law_upper", "_law_lower", "_law_by"] ["_law_upper", "_law_lower"] (defScope sLow) := ⟨rfl, rfl, rfl, by decide +kernel, rfl, by decide +kernel, by decide +kernel⟩
abbrev sWho : Stmt := top 42
theorem scWho : FnScope ["_law_source_here", "_law_way", "_law_sign", "_law_parts"] ["_law_source_here"] (defScope sWho) := ⟨rfl, rfl, rfl, by decide +kernel, rfl, by decide +kernel, by decide +kernel⟩
abbrev sPair : Stmt := top 43
theorem scPair : FnScope ["_law_source_here", "_law_way", "_law_lower"] ["_law_source_here"] (defScope sPair) := ⟨rfl, rfl, rfl, by decide +kernel, rfl, by decide +kernel, by decide +kernel⟩
abbrev sWord : Stmt := top 46
theorem scWord : FnScope ["_law_e", "_law_sorts", "_law_words"] ["_law_e"] (defScope sWord) := ⟨rfl, rfl, rfl, by decide +kernel, rfl, by decide +kernel, by decide +kernel⟩
abbrev sFields : Stmt := top 47
theorem scFields : FnScope ["_law_e", "_law_word_here"] ["_law_e", "_law_word_here"] (defScope sFields) := ⟨rfl, rfl, rfl, by decide +kernel, rfl, by decide +kernel, by decide +kernel⟩
abbrev sCaught : Stmt := top 48
theorem scCaught : FnScope ["_law_action", "_law_shown", "_law_e", "_law_word_here"] ["_law_action"] (defScope sCaught) := ⟨rfl, rfl, rfl, by decide +kernel, rfl, by decide +kernel, by decide +kernel⟩
abbrev sMkN : Stmt := top 44
theorem scMkN : FnScope ["_law_pair_here"] ["_law_pair_here"] (defScope sMkN) := ⟨rfl, rfl, rfl, by decide +kernel, rfl, by decide +kernel, by decide +kernel⟩
abbrev sNum : Stmt := top 45
theorem scNum : FnScope ["_law_pair_here"] ["_law_pair_here"] (defScope sNum) := ⟨rfl, rfl, rfl, by decide +kernel, rfl, by decide +kernel, by decide +kernel⟩
abbrev sThing : Stmt := top 49
theorem scThing : FnScope ["_law_source_here", "_law_menu"] ["_law_source_here"] (defScope sThing) := ⟨rfl, rfl, rfl, by decide +kernel, rfl, by decide +kernel, by decide +kernel⟩
abbrev sGood : Stmt := top 50
theorem scGood : FnScope ["_law_source_here", "_law_way"] ["_law_source_here"] (defScope sGood) := ⟨rfl, rfl, rfl, by decide +kernel, rfl, by decide +kernel, by decide +kernel⟩
abbrev sEntR : Stmt := top 51
theorem scEntR : FnScope ["_law_source_here", "_law_row", "_law_k", "_law_spot", "_law_thing_here", "_law_bent", "_law_some", "_law_what", "_law_due"] ["_law_source_here"] (defScope sEntR) := ⟨rfl, rfl, rfl, by decide +kernel, rfl, by decide +kernel, by decide +kernel⟩
abbrev sLRead : Stmt := top 52
theorem scLRead : FnScope ["_law_line", "_law_words", "_law_word_here"] ["_law_line"] (defScope sLRead) := ⟨rfl, rfl, rfl, by decide +kernel, rfl, by decide +kernel, by decide +kernel⟩
abbrev sLIsN : Stmt := top 53
theorem scLIsN : FnScope ["_law_word_here", "_law_body", "_law_parts", "_law_bit", "_law_sign"] ["_law_word_here"] (defScope sLIsN) := ⟨rfl, rfl, rfl, by decide +kernel, rfl, by decide +kernel, by decide +kernel⟩
abbrev sTRight : Stmt := top 54
theorem scTRight : FnScope ["_law_line", "_law_due", "_law_seen"] ["_law_line"] (defScope sTRight) := ⟨rfl, rfl, rfl, by decide +kernel, rfl, by decide +kernel, by decide +kernel⟩
abbrev sEntT : Stmt := top 55
theorem scEntT : FnScope ["_law_source_here"] ["_law_source_here"] (defScope sEntT) := ⟨rfl, rfl, rfl, by decide +kernel, rfl, by decide +kernel, by decide +kernel⟩
abbrev sTsR : Stmt := top 56
theorem scTsR : FnScope ["_law_source_here", "_law_words", "_law_k", "_law_line", "_law_turn", "_law_spot", "_law_sign", "_law_bent"] ["_law_source_here"] (defScope sTsR) := ⟨rfl, rfl, rfl, by decide +kernel, rfl, by decide +kernel, by decide +kernel⟩
abbrev sRight : Stmt := top 57
theorem scRight : FnScope ["_law_source_here", "_law_thing_here"] ["_law_source_here"] (defScope sRight) := ⟨rfl, rfl, rfl, by decide +kernel, rfl, by decide +kernel, by decide +kernel⟩
abbrev sLaw : Stmt := top 58
theorem scLaw : FnScope ["_law_cells", "_law_some", "_law_line", "_law_k", "_law_source_here", "_law_turn"] ["_law_cells"] (defScope sLaw) := ⟨rfl, rfl, rfl, by decide +kernel, rfl, by decide +kernel, by decide +kernel⟩
theorem scIni : FnScope ["self", "top", "bottom", "common"] ["self", "top", "bottom"] (defScope sIni) := ⟨rfl, rfl, rfl, by decide +kernel, rfl, by decide +kernel, by decide +kernel⟩
theorem scRd : FnScope ["cls", "text", "top", "stroke", "bottom"] ["cls", "text"] (defScope sRd) := ⟨rfl, rfl, rfl, by decide +kernel, rfl, by decide +kernel, by decide +kernel⟩
theorem scSI : FnScope ["self", "entries", "entry"] ["self", "entries"] (defScope sSI) := ⟨rfl, rfl, rfl, by decide +kernel, rfl, by decide +kernel, by decide +kernel⟩
theorem scSR : FnScope ["cls", "text", "word"] ["cls", "text"] (defScope sSR) := ⟨rfl, rfl, rfl, by decide +kernel, rfl, by decide +kernel, by decide +kernel⟩
/-- the text's facts -/
structure Tx (K : PySem.W.Frag) (mg : Str → Option Value) (C : Addr) where
  rc : RC K mg C
  kI : PySem.W.kitOne K (.ref C) (.type "int") = some false
  len : mg "len" = none
  dvm : mg "divmod" = none
  max_ : mg "max" = none
  min_ : mg "min" = none
  all_ : mg "all" = none
  aIni : Addr
  dIni : FuncData
  dv : List Value
  vv : Vals [V.int 1] dv
  FIni : FunD K "__init__" "Ratio.__init__" (defArgs sIni) (defBody sIni) (defScope sIni) [V.int 1] [] aIni dIni
  M : Mk K C aIni
  b2 : Binds K dIni ["self", "top", "bottom"] []
  b1 : Binds K dIni ["self", "top", "bottom"] dv
  hNe : Ne0 K C
  sIC : NoInt K C
  S : Addr
  gS : mg "Series" = some (.ref S)
  clS : Cls K S
  nE : NoAttr K S "_entries"
  aSI : Addr
  dSI : FuncData
  FSI : Fun K "__init__" "Series.__init__" sSI aSI dSI
  bSI : Binds K dSI ["self", "entries"] []
  MS : Mk K S aSI
  sk : SK.SerK K S
  cS : SK.NoSubs K C
  aSR : Addr
  dSR : FuncData
  FSR : Fun K "read" "Series.read" sSR aSR dSR
  bSR : Binds K dSR ["cls", "text"] []
  pSR : Addr
  mcS : Value
  rSR : ClX.CRead K S mcS
  cSR : ClX.CMet K S mcS "read" pSR aSR
  tkG : Tok
  gap : mg "GAP" = some (.str "_" tkG)
  enum : mg "enumerate" = none
  tup : mg "tuple" = none
  lst : mg "list" = none
  aET : Addr
  gET : mg "InvalidText" = some (.ref aET)
  kST : ∀ k ∈ kinds, PySem.W.kitOne K (.ref S) (.type k) = some false
  kCT : ∀ k ∈ kinds, PySem.W.kitOne K (.ref C) (.type k) = some false
  kSC : PySem.W.kitOne K (.ref S) (.ref C) = some false
  aIsW : Addr
  dIsW : FuncData
  FIsW : Fun K "is_whole" "is_whole" sIsW aIsW dIsW
  bIsW : Binds K dIsW ["value"] []
  gIsW : mg "is_whole" = some (.ref aIsW)
  aIsN : Addr
  dIsN : FuncData
  FIsN : Fun K "is_number" "is_number" sIsN aIsN dIsN
  bIsN : Binds K dIsN ["value"] []
  gIsN : mg "is_number" = some (.ref aIsN)
  aAs : Addr
  dAs : FuncData
  FAs : Fun K "as_ratio" "as_ratio" sAs aAs dAs
  bAs : Binds K dAs ["number"] []
  gAs : mg "as_ratio" = some (.ref aAs)
  aIsT : Addr
  dIsT : FuncData
  FIsT : Fun K "_is_text" "_is_text" sIsT aIsT dIsT
  bIsT : Binds K dIsT ["text"] []
  gIsT : mg "_is_text" = some (.ref aIsT)
  aIsP : Addr
  dIsP : FuncData
  FIsP : Fun K "_is_positive_text" "_is_positive_text" sIsP aIsP dIsP
  bIsP : Binds K dIsP ["text"] []
  gIsP : mg "_is_positive_text" = some (.ref aIsP)
  aTop : Addr
  dTop : FuncData
  FTop : Fun K "top" "Ratio.top" sTop aTop dTop
  bTop : Binds K dTop ["self"] []
  pTop : Addr
  PTop : PropOf K C "top" pTop aTop
  aBot : Addr
  dBot : FuncData
  FBot : Fun K "bottom" "Ratio.bottom" sBot aBot dBot
  bBot : Binds K dBot ["self"] []
  pBot : Addr
  PBot : PropOf K C "bottom" pBot aBot
  aEq : Addr
  dEq : FuncData
  FEq : Fun K "__eq__" "Ratio.__eq__" sEq aEq dEq
  bEq : Binds K dEq ["self", "other"] []
  hEq : Has K C "__eq__" aEq
  aStr : Addr
  dStr : FuncData
  FStr : Fun K "__str__" "Ratio.__str__" sStr aStr dStr
  bStr : Binds K dStr ["self"] []
  hStr : Has K C "__str__" aStr
  aRepr : Addr
  dRepr : FuncData
  FRepr : Fun K "__repr__" "Ratio.__repr__" sRepr aRepr dRepr
  bRepr : Binds K dRepr ["self"] []
  hRepr : Has K C "__repr__" aRepr
  aSLen : Addr
  dSLen : FuncData
  FSLen : Fun K "__len__" "Series.__len__" sSLen aSLen dSLen
  bSLen : Binds K dSLen ["self"] []
  hSLen : Has K S "__len__" aSLen
  aSEq : Addr
  dSEq : FuncData
  FSEq : Fun K "__eq__" "Series.__eq__" sSEq aSEq dSEq
  bSEq : Binds K dSEq ["self", "other"] []
  hSEq : Has K S "__eq__" aSEq
  aSStr : Addr
  dSStr : FuncData
  FSStr : Fun K "__str__" "Series.__str__" sSStr aSStr dSStr
  bSStr : Binds K dSStr ["self"] []
  hSStr : Has K S "__str__" aSStr
  aSRepr : Addr
  dSRepr : FuncData
  FSRepr : Fun K "__repr__" "Series.__repr__" sSRepr aSRepr dSRepr
  bSRepr : Binds K dSRepr ["self"] []
  hSRepr : Has K S "__repr__" aSRepr
  aSEnt : Addr
  dSEnt : FuncData
  FSEnt : Fun K "entries" "Series.entries" sSEnt aSEnt dSEnt
  bSEnt : Binds K dSEnt ["self"] []
  pSEnt : Addr
  PSEnt : PropOf K S "entries" pSEnt aSEnt
  aSMis : Addr
  dSMis : FuncData
  FSMis : Fun K "missing" "Series.missing" sSMis aSMis dSMis
  bSMis : Binds K dSMis ["self"] []
  pSMis : Addr
  PSMis : PropOf K S "missing" pSMis aSMis
  aREnt : Addr
  dREnt : FuncData
  FREnt : Fun K "_read_entry" "_read_entry" sREnt aREnt dREnt
  bREnt : Binds K dREnt ["word", "text"] []
  gREnt : mg "_read_entry" = some (.ref aREnt)
  aCell : Addr
  dCell : FuncData
  FCell : Fun K "_law_cell" "_law_cell" sCell aCell dCell
  bCell : Binds K dCell ["_law_cells", "_law_k"] []
  gCell : mg "_law_cell" = some (.ref aCell)
  aSrc : Addr
  dSrc : FuncData
  FSrc : Fun K "_law_source" "_law_source" sSrc aSrc dSrc
  bSrc : Binds K dSrc ["_law_cell_here"] []
  gSrc : mg "_law_source" = some (.ref aSrc)
  aDraw : Addr
  dDraw : FuncData
  FDraw : Fun K "_law_draw" "_law_draw" sDraw aDraw dDraw
  bDraw : Binds K dDraw ["_law_source_here", "_law_many"] []
  gDraw : mg "_law_draw" = some (.ref aDraw)
  aCom : Addr
  dCom : FuncData
  FCom : Fun K "_law_common" "_law_common" sCom aCom dCom
  bCom : Binds K dCom ["_law_one", "_law_two"] []
  gCom : mg "_law_common" = some (.ref aCom)
  aLow : Addr
  dLow : FuncData
  FLow : Fun K "_law_lowest" "_law_lowest" sLow aLow dLow
  bLow : Binds K dLow ["_law_upper", "_law_lower"] []
  gLow : mg "_law_lowest" = some (.ref aLow)
  aWho : Addr
  dWho : FuncData
  FWho : Fun K "_law_whole" "_law_whole" sWho aWho dWho
  bWho : Binds K dWho ["_law_source_here"] []
  gWho : mg "_law_whole" = some (.ref aWho)
  aPair : Addr
  dPair : FuncData
  FPair : Fun K "_law_pair" "_law_pair" sPair aPair dPair
  bPair : Binds K dPair ["_law_source_here"] []
  gPair : mg "_law_pair" = some (.ref aPair)
  aWord : Addr
  dWord : FuncData
  FWord : Fun K "_law_word" "_law_word" sWord aWord dWord
  bWord : Binds K dWord ["_law_e"] []
  gWord : mg "_law_word" = some (.ref aWord)
  aFields : Addr
  dFields : FuncData
  FFields : Fun K "_law_fields" "_law_fields" sFields aFields dFields
  bFields : Binds K dFields ["_law_e", "_law_word_here"] []
  gFields : mg "_law_fields" = some (.ref aFields)
  aCaught : Addr
  dCaught : FuncData
  FCaught : Fun K "_law_caught" "_law_caught" sCaught aCaught dCaught
  bCaught : Binds K dCaught ["_law_action"] []
  gCaught : mg "_law_caught" = some (.ref aCaught)
  aMkN : Addr
  dMkN : FuncData
  FMkN : Fun K "_law_number" "_law_number" sMkN aMkN dMkN
  bMkN : Binds K dMkN ["_law_pair_here"] []
  gMkN : mg "_law_number" = some (.ref aMkN)
  aNum : Addr
  dNum : FuncData
  FNum : Fun K "_law_number_text" "_law_number_text" sNum aNum dNum
  bNum : Binds K dNum ["_law_pair_here"] []
  gNum : mg "_law_number_text" = some (.ref aNum)
  aThing : Addr
  dThing : FuncData
  FThing : Fun K "_law_thing" "_law_thing" sThing aThing dThing
  bThing : Binds K dThing ["_law_source_here"] []
  gThing : mg "_law_thing" = some (.ref aThing)
  aGood : Addr
  dGood : FuncData
  FGood : Fun K "_law_good" "_law_good" sGood aGood dGood
  bGood : Binds K dGood ["_law_source_here"] []
  gGood : mg "_law_good" = some (.ref aGood)
  aEntR : Addr
  dEntR : FuncData
  FEntR : Fun K "_law_entries_right" "_law_entries_right" sEntR aEntR dEntR
  bEntR : Binds K dEntR ["_law_source_here"] []
  gEntR : mg "_law_entries_right" = some (.ref aEntR)
  aLRead : Addr
  dLRead : FuncData
  FLRead : Fun K "_law_read" "_law_read" sLRead aLRead dLRead
  bLRead : Binds K dLRead ["_law_line"] []
  gLRead : mg "_law_read" = some (.ref aLRead)
  aLIsN : Addr
  dLIsN : FuncData
  FLIsN : Fun K "_law_is_number" "_law_is_number" sLIsN aLIsN dLIsN
  bLIsN : Binds K dLIsN ["_law_word_here"] []
  gLIsN : mg "_law_is_number" = some (.ref aLIsN)
  aTRight : Addr
  dTRight : FuncData
  FTRight : Fun K "_law_text_right" "_law_text_right" sTRight aTRight dTRight
  bTRight : Binds K dTRight ["_law_line"] []
  gTRight : mg "_law_text_right" = some (.ref aTRight)
  aEntT : Addr
  dEntT : FuncData
  FEntT : Fun K "_law_entry_text" "_law_entry_text" sEntT aEntT dEntT
  bEntT : Binds K dEntT ["_law_source_here"] []
  gEntT : mg "_law_entry_text" = some (.ref aEntT)
  aTsR : Addr
  dTsR : FuncData
  FTsR : Fun K "_law_texts_right" "_law_texts_right" sTsR aTsR dTsR
  bTsR : Binds K dTsR ["_law_source_here"] []
  gTsR : mg "_law_texts_right" = some (.ref aTsR)
  aRight : Addr
  dRight : FuncData
  FRight : Fun K "_law_right" "_law_right" sRight aRight dRight
  bRight : Binds K dRight ["_law_source_here"] []
  gRight : mg "_law_right" = some (.ref aRight)
  aLaw : Addr
  dLaw : FuncData
  FLaw : Fun K "law" "law" sLaw aLaw dLaw
  bLaw : Binds K dLaw ["_law_cells"] []
  gLaw : mg "law" = some (.ref aLaw)
  aRd : Addr
  dRd : FuncData
  FRd : Fun K "read" "Ratio.read" sRd aRd dRd
  bRd : Binds K dRd ["cls", "text"] []
  pRd : Addr
  mc : Value
  rRd : ClX.CRead K C mc
  cRd : ClX.CMet K C mc "read" pRd aRd
end T08

/-! The end of a law row whose def is only known to keep its promise where no guard runs. -/
namespace SF
open PySem PySem.Spec PyProof.Rows L2
/-- the script's object as the abstract heap bears it: frozen, unless it is one of the module's own -/
def scriptH (K : PySem.W.Frag) (a : Addr) (vs : List Value) (ns : List Int) : Hp := fun b =>
  if b = a ∧ K.lookup a = none then some (.frz { cls := .type "list", data := .seq vs.toArray } (.lst (ns.map V.int))) else none
section
variable {P : Program} {w : World} {K : PySem.W.Frag} {a : Addr} {vs : List Value} {ns : List Int} {s₁ : Shared}
theorem scriptH_some {b : Addr} {u : HO} (e : scriptH K a vs ns b = some u) : b = a ∧ K.lookup a = none ∧ u = .frz { cls := .type "list", data := .seq vs.toArray } (.lst (ns.map V.int)) := by
  by_cases h : b = a ∧ K.lookup a = none
  · have z : some _ = some u := (if_pos h).symm.trans e
    exact ⟨h.1, h.2, (Option.some.inj z).symm⟩
  · have z : none = some u := (if_neg h).symm.trans e
    cases z
theorem scriptH_seq (KX : K.In s₁.heap) (ha : s₁.heap.get? a = some { cls := .type "list", data := .seq vs.toArray }) (hi : IntsAre vs ns) (hl : ns.length ≤ sizeLine) : SqL K (scriptH K a vs ns) a (ns.map V.int) := by
  cases hk : K.lookup a with
  | none => exact .inl (.inr ⟨_, if_pos ⟨rfl, hk⟩⟩)
  | some o =>
    have z := (KX a o hk).symm.trans ha
    cases z
    have hz : vs.toArray.size ≤ sizeLine := by rw [List.size_toArray, hi.length]; exact hl
    exact .inr ⟨_, vs.toArray, _, hk, rfl, rfl, rfl, hz, by rw [List.toList_toArray]; exact vals_ints hi⟩
theorem scriptH_ok (ha : s₁.heap.get? a = some { cls := .type "list", data := .seq vs.toArray }) (hi : IntsAre vs ns) (hl : ns.length ≤ sizeLine) : HOk P w (scriptH K a vs ns) s₁.heap := fun b u e => by
  obtain ⟨rfl, _, rfl⟩ := scriptH_some e
  exact ⟨ha, by rw [List.length_map]; exact hl, vs, _, vals_ints hi, ha⟩
/-- whatever the written part, a namespace or a dict bears stays in the base -/
theorem scriptH_base {b : Addr} {o : Obj} (e : s₁.heap.get? b = some o) (hn : b = a → K.lookup a ≠ none) : (hidT s₁.heap (scriptH K a vs ns)).get? b = some o := by
  refine hidT_get e ?_
  cases q : scriptH K a vs ns b with
  | none => rfl
  | some u =>
    obtain ⟨z, hk, _⟩ := scriptH_some q
    exact absurd hk (hn z)
theorem scriptH_ns {b : Addr} {m : Str → Option Value} (ha : s₁.heap.get? a = some { cls := .type "list", data := .seq vs.toArray }) (n : s₁.heap.Ns b m) : (hidT s₁.heap (scriptH K a vs ns)).Ns b m := by
  obtain ⟨o, es, ep, e, d, r⟩ := n
  refine ⟨o, es, ep, scriptH_base e (fun z => ?_), d, r⟩
  rw [z, ha] at e
  cases e
  cases d
theorem law_callG {mg mb : Str → Option Value} {k : Nat} {fa : Addr} {fd : FuncData} {x : Str} {sp : Sp}
    (KX : K.In s₁.heap) (hns : s₁.heap.Ns mainGlobals mg) (hb : s₁.heap.Ns builtinsNs mb) (hbb : ∀ x : Str, x ≠ "__name__" → mb x = bootBuiltins x) (hlim : s₁.heap.NoLimit) (hg : s₁.gens = #[])
    (ha : s₁.heap.get? a = some { cls := .type "list", data := .seq vs.toArray }) (hi : IntsAre vs ns) (hl : ns.length ≤ sizeLine) (hr : Room k callerA)
    (F : ∀ base : Heap, K.In base → base.Ns mainGlobals mg → FnG P w K mg base CX0 k fa fd [x] sp) (hbind : ∀ (s : Shared) (u : Value), BindsTo s fd ⟨[u], []⟩ [(x, u)])
    (hsp : ∀ H : Hp, SqL K H a (ns.map V.int) → sp [.ref a] H (fun v _ => v = .bl true) fun _ _ _ => False) :
    codeAny (model P w) callerA (.call (.ref fa) ⟨[.ref a], []⟩) (fun r s' => r = .ok (.ret (.bool true)) ∧ PySem.OldK s₁.heap s'.heap ∧ s'.os = s₁.os ∧ AllBare s'.gens) s₁ := by
  have kb : K.In (hidT s₁.heap (scriptH K a vs ns)) := fun b o e => scriptH_base (KX b o e) fun z n => by
    rw [← z, e] at n
    cases n
  have nb := scriptH_ns (K := K) (ns := ns) ha hns
  have lb : (hidT s₁.heap (scriptH K a vs ns)).NoLimit := by
    obtain ⟨mc, n1, n2⟩ := hlim
    exact ⟨mc, scriptH_ns ha n1, n2⟩
  have okH : HOk P w (scriptH K a vs ns) s₁.heap := scriptH_ok ha hi hl
  have noF : ∀ b, b ∈ frs [] → False := fun b hb => nomatch hb
  have e0 : Env0 P w K mg (hidT s₁.heap (scriptH K a vs ns)) callerA [] s₁ (scriptH K a vs ns) :=
    { frames := rfl, mod := ⟨kb, nb, ⟨mb, scriptH_ns ha hb, hbb⟩, lb⟩, bs := fun b o e => of_hidT e, bsz := Nat.le_of_eq (hidT_size _ _), funs := trivial, frf := fun b z => (noF b z).elim, hok := okH, bare := .of_eq hg }
  have run := (F _ kb nb).run callerA [] s₁ _ ⟨[.ref a], []⟩ [.ref a] [.ref a] _ _ rfl hr e0 (hbind s₁ (.ref a)) (.cons rfl .nil) (hsp _ (scriptH_seq KX ha hi hl))
  refine codeAny_mono run fun r s' q => ?_
  rcases r with e | fl
  · exact False.elim q
  cases fl <;> first | exact False.elim q | skip
  obtain ⟨v, H', os, bare, un, ok', rv, qv⟩ := q
  have ev : v = .bl true := qv
  rw [ev] at rv
  cases rv
  refine ⟨rfl, .of_keep fun b o e => ?_, os, bare⟩
  cases z : scriptH K a vs ns b with
  | none => exact un.keep b o e z (noF b) (by simp)
  | some u =>
    obtain ⟨rfl, _, rfl⟩ := scriptH_some z
    have after := (ok' b _ (un.frzs b _ _ z)).1
    rw [e] at ha
    rw [ha]
    exact after
end
/-- the goal that the head leaves -/
theorem walkG {l : PySem.W.OpenLaw} {n k : Nat} {q : Program} {loose : List Str} {XP : (Str → Option Value) → Heap → Prop} {YP : World → Heap → Prop} {d : DefRec} {K : Params → PySem.W.Frag} {sp : PySem.W.Frag → Sp} {x : Str}
    (hn : l.most = some n) (hn2 : n ≤ sizeLine) (hdf : d.params.defaults = []) (hr : Room k callerA) (hY : ∀ (w : World) (h : Heap), YP w h → (K w.params).In h)
    (F : ∀ (w : World) (mg : Str → Option Value) (fa : Addr) (h : Heap), (K w.params).In h → h.Ns mainGlobals mg → mg d.name = some (.ref fa) →
      ∃ fd : FuncData, (∀ (s : Shared) (u : Value), BindsTo s fd ⟨[u], []⟩ [(x, u)]) ∧ ∀ base : Heap, (K w.params).In base → base.Ns mainGlobals mg → FnG l.prog w (K w.params) mg base CX0 k fa fd [x] (sp (K w.params)))
    (hsp : ∀ (K : PySem.W.Frag) (H : Hp) (a : Addr) (ns : List Int), ns.length ≤ n → SqL K H a (ns.map V.int) → sp K [.ref a] H (fun v _ => v = .bl true) fun _ _ _ => False) :
    PySem.W.WalkO q loose XP YP l.row.toRowW d [] (fun f vs => PySem.call f vs) := by
  refine Att.attach_call hn hdf fun w s₀ s₁ mg mb fa o pm cd doc a vs ns G Y ho hd hcd hmg hobj hints hlen hg => ?_
  obtain ⟨fd, hb, hF⟩ := F w mg fa _ (hY w _ Y) G.T.g hmg
  exact law_callG (hY w _ Y) G.T.g G.T.b G.T.builtins G.T.nolimit hg hobj hints (Nat.le_trans hlen hn2) hr hF hb fun H hS => hsp _ H a ns hlen hS
end SF

/-! The end of a law row whose defs make lambdas: the script and the empty tables of code objects are tracked. -/
namespace SFY
open PySem PySem.Spec PyProof.Rows L2 LamX SF
/-- the script's object and the tables ts, as the abstract heap bears them -/
def startH (K : PySem.W.Frag) (a : Addr) (vs : List Value) (ns : List Int) (ts : List Addr) : Hp := fun b => if b ∈ ts then some (.tbl #[]) else scriptH K a vs ns b
section
variable {P : Program} {w : World} {K : PySem.W.Frag} {a : Addr} {vs : List Value} {ns : List Int} {s₁ : Shared} {ts : List Addr}
theorem startH_in {b : Addr} (h : b ∈ ts) : startH K a vs ns ts b = some (.tbl #[]) := if_pos h
theorem startH_out {b : Addr} (h : b ∉ ts) : startH K a vs ns ts b = scriptH K a vs ns b := if_neg h
/-- whatever is neither the tracked script nor a table stands in the base -/
theorem startH_base {b : Addr} {o : Obj} (e : s₁.heap.get? b = some o) (ht : b ∉ ts) (hn : b = a → K.lookup a ≠ none) : (hidT s₁.heap (startH K a vs ns ts)).get? b = some o := by
  refine hidT_get e ?_
  rw [startH_out ht]
  cases q : scriptH K a vs ns b with
  | none => rfl
  | some u =>
    obtain ⟨z, hk, _⟩ := scriptH_some q
    exact absurd hk (hn z)
theorem law_callTG {mg mb : Str → Option Value} {k : Nat} {fa : Addr} {cs : List (Addr × Addr)} {fd : FuncData} {x : Str} {sp : Sp}
    (KX : K.In s₁.heap) (hns : s₁.heap.Ns mainGlobals mg) (hb : s₁.heap.Ns builtinsNs mb) (hbb : ∀ x : Str, x ≠ "__name__" → mb x = bootBuiltins x) (hlim : s₁.heap.NoLimit) (hg : s₁.gens = #[])
    (hT : ∀ p ∈ cs, s₁.heap.get? p.2 = some (PySem.W.tabObj #[])) (nT : ∀ p ∈ cs, K.lookup p.2 = none) (hC : ∀ p ∈ cs, PySem.W.codeHdIn K p.1 p.2 = true)
    (hbm : ∃ (bm : Addr) (ob : Obj), mg "__builtins__" = some (.ref bm) ∧ bm ≠ builtinsNs ∧ s₁.heap.get? bm = some ob ∧ ob.cls = .type "module" ∧ ob.dict = some builtinsNs ∧ ob.data = .plain)
    (ha : s₁.heap.get? a = some { cls := .type "list", data := .seq vs.toArray }) (hi : IntsAre vs ns) (hl : ns.length ≤ sizeLine) (hr : Room k callerA)
    (F : ∀ base : Heap, K.In base → base.Ns mainGlobals mg → (∀ p ∈ cs, TabB base mg p.1 p.2) → FnG P w K mg base CX0 k fa fd [x] sp) (hbind : ∀ (s : Shared) (u : Value), BindsTo s fd ⟨[u], []⟩ [(x, u)])
    (hsp : ∀ H : Hp, (∀ p ∈ cs, H p.2 = some (.tbl #[])) → SqL K H a (ns.map V.int) → sp [.ref a] H (fun v _ => v = .bl true) fun _ _ _ => False) :
    codeAny (model P w) callerA (.call (.ref fa) ⟨[.ref a], []⟩) (fun r s' => r = .ok (.ret (.bool true)) ∧ PySem.OldK s₁.heap s'.heap ∧ s'.os = s₁.os ∧ AllBare s'.gens) s₁ := by
  generalize ets : cs.map (·.2) = ts
  have tab : ∀ b, b ∈ ts → ∃ p ∈ cs, p.2 = b := fun b hb => by
    rw [← ets] at hb
    exact List.mem_map.mp hb
  have tabG : ∀ b, b ∈ ts → s₁.heap.get? b = some (PySem.W.tabObj #[]) := fun b hb => let ⟨p, hp, e⟩ := tab b hb; e ▸ hT p hp
  have tabIn : ∀ p ∈ cs, p.2 ∈ ts := fun p hp => by rw [← ets]; exact List.mem_map.mpr ⟨p, hp, rfl⟩
  have notT : ∀ {b : Addr} {o : Obj}, s₁.heap.get? b = some o → o.data ≠ (PySem.W.tabObj #[]).data → b ∉ ts := fun {b o} e d hb => by
    rw [tabG b hb] at e
    cases e
    exact d rfl
  have aT : a ∉ ts := notT ha (by intro z; cases z)
  have kT : ∀ {b : Addr} {o : Obj}, K.lookup b = some o → b ∉ ts := fun {b o} e hb => by
    obtain ⟨p, hp, rfl⟩ := tab b hb
    rw [nT p hp] at e
    cases e
  have kb : K.In (hidT s₁.heap (startH K a vs ns ts)) := fun b o e => startH_base (KX b o e) (kT e) fun z n => by
    rw [← z, e] at n
    cases n
  have nsK : ∀ {b : Addr} {m : Str → Option Value}, s₁.heap.Ns b m → (hidT s₁.heap (startH K a vs ns ts)).Ns b m := fun {b m} ⟨o, es, ep, e, d, r⟩ =>
    ⟨o, es, ep, startH_base e (notT e (by rw [d]; intro z; cases z)) (fun z => by
      rw [z, ha] at e
      cases e
      cases d), d, r⟩
  have nb := nsK hns
  have lb : (hidT s₁.heap (startH K a vs ns ts)).NoLimit := let ⟨mc, n1, n2⟩ := hlim; ⟨mc, nsK n1, n2⟩
  have okH : HOk P w (startH K a vs ns ts) s₁.heap := fun b u e => by
    by_cases hb : b ∈ ts
    · rw [startH_in hb] at e
      cases e
      exact tabG b hb
    · rw [startH_out hb] at e
      refine (scriptH_ok (P := P) (w := w) (K := K) ha hi hl b u e).stay (fun c v hc r => r) (fun c r => ?_) fun c xs r => ?_
      · obtain ⟨_, _, z⟩ := scriptH_some r
        cases z
      · obtain ⟨_, _, z⟩ := scriptH_some r
        cases z
  have noF : ∀ b, b ∈ frs [] → False := fun b hb => nomatch hb
  have e0 : Env0 P w K mg (hidT s₁.heap (startH K a vs ns ts)) callerA [] s₁ (startH K a vs ns ts) :=
    { frames := rfl, mod := ⟨kb, nb, ⟨mb, nsK hb, hbb⟩, lb⟩, bs := fun b o e => of_hidT e, bsz := Nat.le_of_eq (hidT_size _ _), funs := trivial, frf := fun b z => (noF b z).elim, hok := okH, bare := .of_eq hg }
  have TB : ∀ p ∈ cs, TabB (hidT s₁.heap (startH K a vs ns ts)) mg p.1 p.2 := fun p hp => by
    have atP := tabG p.2 (tabIn p hp)
    refine ⟨PySem.W.codeHd_of_K kb (hC p hp), ?_, fun z => ?_⟩
    · obtain ⟨bm, ob, b1, b2, b3, b4, b5, b6⟩ := hbm
      refine ⟨bm, ob, b1, b2, fun z => ?_, fun z => ?_, startH_base b3 (notT b3 (by rw [b6]; intro z; cases z)) (fun z => ?_), b4, b5, b6⟩
      · obtain ⟨o, es, ep, e, d, _⟩ := hns
        rw [z, e] at b3
        cases b3
        rw [b6] at d
        cases d
      · rw [z, atP] at b3
        cases b3
        cases b6
      · rw [z, ha] at b3
        cases b3
        cases b6
    · obtain ⟨o, es, ep, e, d, _⟩ := hns
      rw [z, atP] at e
      cases e
      cases d
  have hS : SqL K (startH K a vs ns ts) a (ns.map V.int) := by
    rcases scriptH_seq KX ha hi hl with (h | ⟨o, h⟩) | h
    · exact .inl (.inl (by rw [startH_out aT]; exact h))
    · exact .inl (.inr ⟨o, by rw [startH_out aT]; exact h⟩)
    · exact .inr h
  have run := (F _ kb nb TB).run callerA [] s₁ _ ⟨[.ref a], []⟩ [.ref a] [.ref a] _ _ rfl hr e0 (hbind s₁ (.ref a)) (.cons rfl .nil) (hsp _ (fun p hp => startH_in (tabIn p hp)) hS)
  refine codeAny_mono run fun r s' q => ?_
  rcases r with e | fl
  · exact False.elim q
  cases fl <;> first | exact False.elim q | skip
  obtain ⟨v, H', os, bare, un, ok', rv, qv⟩ := q
  have ev : v = .bl true := qv
  rw [ev] at rv
  cases rv
  have still : ∀ b o, s₁.heap.get? b = some o → b ∉ ts → s'.heap.get? b = some o := fun b o e hb => by
    cases z : startH K a vs ns ts b with
    | none => exact un.keep b o e z (noF b) (by simp)
    | some u =>
      have z2 := z
      rw [startH_out hb] at z2
      obtain ⟨rfl, _, rfl⟩ := scriptH_some z2
      have after := (ok' b _ (un.frzs b _ _ z)).1
      rw [e] at ha
      rw [ha]
      exact after
  have grown : ∀ b, b ∈ ts → ∃ more : Array Value, s'.heap.get? b = some (PySem.W.tabObj more) := fun b hb => by
    obtain ⟨more, z⟩ := un.tbls b #[] (startH_in hb)
    exact ⟨_, ok' b _ z⟩
  refine ⟨rfl, ⟨fun b o e => ?_, fun b o e => ?_⟩, os, bare⟩
  · by_cases hb : b ∈ ts
    · obtain ⟨p, hp, rfl⟩ := tab b hb
      obtain ⟨more, hm⟩ := grown _ hb
      have atP := hT p hp
      rw [atP] at e
      cases e
      exact .inr (.inl ⟨((PySem.W.codeHd_of_K KX (hC p hp)).tab atP).isCodeTable, rfl, #[], more, rfl, by rw [Array.empty_append]; exact hm⟩)
    · exact .inl (still b o e hb)
  · by_cases hb : b ∈ ts
    · obtain ⟨more, hm⟩ := grown b hb
      exact ⟨_, hm⟩
    · exact ⟨o, still b o e hb⟩
end
/-- what is known of the law's def at the head's heap -/
def LawAtG (l : PySem.W.OpenLaw) (w : World) (K : PySem.W.Frag) (k n : Nat) (x : Str) (mg : Str → Option Value) (fa : Addr) (ts : List Addr) : Prop :=
  ∃ (fd : FuncData) (cs : List (Addr × Addr)) (sp : Sp), (∀ p ∈ cs, p.2 ∈ ts ∧ K.lookup p.2 = none ∧ PySem.W.codeHdIn K p.1 p.2 = true) ∧ (∀ (s : Shared) (u : Value), BindsTo s fd ⟨[u], []⟩ [(x, u)]) ∧
    (∀ (H : Hp) (a : Addr) (ns : List Int), ns.length ≤ n → (∀ p ∈ cs, H p.2 = some (.tbl #[])) → SqL K H a (ns.map V.int) → sp [.ref a] H (fun v _ => v = .bl true) fun _ _ _ => False) ∧
    ∀ base : Heap, K.In base → base.Ns mainGlobals mg → (∀ p ∈ cs, TabB base mg p.1 p.2) → FnG l.prog w K mg base CX0 k fa fd [x] sp
/-- the goal that the head leaves -/
theorem walkGT {l : PySem.W.OpenLaw} {n k : Nat} {q : Program} {loose : List Str} {XP : (Str → Option Value) → Heap → Prop} {YP : World → Heap → Prop} {d : DefRec} {K : Params → PySem.W.Frag} {x : Str} {ts : List Addr}
    (hn : l.most = some n) (hn2 : n ≤ sizeLine) (hdf : d.params.defaults = []) (hr : Room k callerA) (hY : ∀ (w : World) (h : Heap), YP w h → (K w.params).In h ∧ ∀ P ∈ ts, h.get? P = some (PySem.W.tabObj #[]))
    (F : ∀ (w : World) (mg : Str → Option Value) (fa : Addr) (h : Heap), (K w.params).In h → h.Ns mainGlobals mg → mg d.name = some (.ref fa) → LawAtG l w (K w.params) k n x mg fa ts) :
    PySem.W.WalkO q loose XP YP l.row.toRowW d [] (fun f vs => PySem.call f vs) := by
  refine Att.attach_call hn hdf fun w s₀ s₁ mg mb fa o pm cd doc a vs ns G Y ho hd hcd hmg hobj hints hlen hg => ?_
  obtain ⟨KX, hT⟩ := hY w _ Y
  obtain ⟨fd, cs, sp, hcs, hb, hsp, hF⟩ := F w mg fa _ KX G.T.g hmg
  exact law_callTG KX G.T.g G.T.b G.T.builtins G.T.nolimit hg (fun p hp => hT _ (hcs p hp).1) (fun p hp => (hcs p hp).2.1) (fun p hp => (hcs p hp).2.2) G.T.bmain hobj hints (Nat.le_trans hlen hn2) hr hF hb fun H hH hS => hsp H a ns hlen hH hS
/-- the table that the code object at c names -/
def tabOf (K : PySem.W.Frag) (c : Addr) : Addr := match K.lookup c with
  | some ⟨_, _, .fields vs, _⟩ => (match (vs[11]? : Option Value) with
    | some (.ref P) => P
    | _ => 0)
  | _ => 0
def tabsB (K : PySem.W.Frag) (ts : List Addr) (cs : List Addr) : Bool := cs.all fun c => ts.contains (tabOf K c) && ((K.lookup (tabOf K c)).isNone && PySem.W.codeHdIn K c (tabOf K c))
theorem tabsB_ok {K : PySem.W.Frag} {ts cs : List Addr} (h : tabsB K ts cs = true) : ∀ p ∈ cs.map fun c => (c, tabOf K c), p.2 ∈ ts ∧ K.lookup p.2 = none ∧ PySem.W.codeHdIn K p.1 p.2 = true := fun p hp => by
  obtain ⟨c, hc, rfl⟩ := List.mem_map.mp hp
  obtain ⟨h1, h2⟩ := Bool.and_eq_true_iff.mp (List.all_eq_true.mp h c hc)
  obtain ⟨h2, h3⟩ := Bool.and_eq_true_iff.mp h2
  exact ⟨List.contains_iff_mem.mp h1, Option.isNone_iff_eq_none.mp h2, h3⟩
end SFY

/-! The head by one run of imports and top: defs wherever they stand, one Bool over the written part, the empty tables of code objects. -/
namespace SJ
open PySem PySem.Spec PyProof.Rows L2 SF LamX
structure DJ where
  ad : PySem.W.Frag → Addr
  nm : Str
  ql : Str
  pr : Arguments
  bd : List Stmt
  sc : Scope
  df : List He.Dv := []
def seenAt (K : PySem.W.Frag) (a : Addr) : He.FnW := match K.lookup a with
  | some ⟨_, _, .func u, _⟩ => some (u.name, u.qualname, u.params, u.body, u.scope, u.globals, u.closure, u.builtins)
  | _ => none
def DJ.due (d : DJ) : He.FnW := some (d.nm, d.ql, d.pr, .stmts d.bd, d.sc, mainGlobals, [], builtinsNs)
def DJ.good (K : PySem.W.Frag) (d : DJ) : Bool := PySem.W.keepIn K (.ref (d.ad K)) && (match K.lookup (d.ad K) with
  | some ⟨_, _, .func u, _⟩ => PySem.W.codeIn K u.code d.ql && He.dflB K u.defaults (d.df.map (He.Dv.v K))
  | _ => false)
theorem DJ.fun_ {K : PySem.W.Frag} {d : DJ} (e : seenAt K (d.ad K) = d.due) (c : d.good K = true) : ∃ fd, FunD K d.nm d.ql d.pr d.bd d.sc (d.df.map (He.Dv.v K)) [] (d.ad K) fd := by
  obtain ⟨kp, c2⟩ := Bool.and_eq_true_iff.mp c
  unfold seenAt at e
  cases q : K.lookup (d.ad K) with
  | none => rw [q] at c2; cases c2
  | some o =>
    obtain ⟨oc, od, dt, osl⟩ := o
    rw [q] at c2 e
    cases dt with
    | func u =>
      obtain ⟨u1, u2, u3, u4, u5, u6, u7, u8, u9, u10, u11, u12, u13, u14, u15⟩ := u
      have e2 : (some (u1, u2, u3, u4, u5, u6, u7, u15) : He.FnW) = some (d.nm, d.ql, d.pr, .stmts d.bd, d.sc, mainGlobals, [], builtinsNs) := e
      simp only [Option.some.injEq, Prod.mk.injEq] at e2
      obtain ⟨h1, h2, h3, h4, h5, h6, h7, h8⟩ := e2
      subst h1 h2 h3 h4 h5 h6 h7 h8
      have c3 : (PySem.W.codeIn K u13 d.ql && He.dflB K u8 (d.df.map (He.Dv.v K))) = true := c2
      obtain ⟨k1, k2⟩ := Bool.and_eq_true_iff.mp c3
      exact ⟨_, ⟨oc, od, u8, u9, u10, u11, u12, u13, u14, osl, rfl, q, k1, He.dflB_ok k2, .inl rfl⟩, kp⟩
    | _ => cases c2
theorem fun_of {K : PySem.W.Frag} {x qual : Str} {st : Stmt} {f : Addr} {fd : FuncData} (F : FunD K x qual (defArgs st) (defBody st) (defScope st) [] [] f fd) : Fun K x qual st f fd := by
  obtain ⟨oc, od, dV, kV, doc, pm, an, cdv, ct, osl, rfl, lk, hcd, hD, hK⟩ := F.ex
  rcases hD with ⟨_, rfl⟩ | ⟨e, _⟩
  · exact ⟨⟨oc, od, kV, doc, pm, an, cdv, ct, osl, rfl, lk, hcd⟩, F.kp⟩
  · exact absurd rfl e
/-- the code object of the function at a; its table -/
def codeAt (K : PySem.W.Frag) (a : Addr) : Addr := match K.lookup a with
  | some ⟨_, _, .func u, _⟩ => (match u.code with
    | .ref c => c
    | _ => 0)
  | _ => 0
def tabAt (K : PySem.W.Frag) (a : Addr) : Addr := SFY.tabOf K (codeAt K a)
/-- what an object names; of its bases only those above it -/
def refsJ (o : Obj) : List Addr := (match o.data with
  | .cls u => u.ns :: (u.mro.drop 1).flatMap He.refV
  | .func u => He.refV u.code ++ He.refV u.defaults
  | .dict es _ => es.toList.flatMap fun e => He.refV e.val
  | .seq its _ => its.toList.flatMap He.refV
  | .fields vs => vs.toList.flatMap He.refV
  | _ => [])
def pickJ (g : Addr → Option Obj) : List Addr → List (Addr × Obj)
  | [] => []
  | a :: r => match g a with
    | some o => (a, o) :: pickJ g r
    | none => pickJ g r
theorem pickJ_ok {g : Addr → Option Obj} : ∀ {as : List Addr}, ∀ p ∈ pickJ g as, g p.1 = some p.2
  | [], p, h => nomatch h
  | a :: r, p, h => by
    unfold pickJ at h
    cases e : g a with
    | none => rw [e] at h; exact pickJ_ok p h
    | some o =>
      rw [e] at h
      rcases List.mem_cons.mp h with rfl | h
      · exact e
      · exact pickJ_ok p h
def levJ (g : Addr → Option Obj) : Nat → List Addr → List (Addr × Obj)
  | 0, _ => []
  | n + 1, fr => pickJ g fr ++ levJ g n ((pickJ g fr).flatMap fun p => refsJ p.2)
theorem levJ_ok {g : Addr → Option Obj} : ∀ {n : Nat} {fr : List Addr}, ∀ p ∈ levJ g n fr, g p.1 = some p.2
  | 0, _, p, h => nomatch h
  | n + 1, fr, p, h => by
    unfold levJ at h
    rcases List.mem_append.mp h with h | h
    · exact pickJ_ok p h
    · exact levJ_ok p h
theorem in_of {K : PySem.W.Frag} {h : Heap} (e : ∀ p ∈ K, h.get? p.1 = some p.2) : K.In h := fun a o l => by
  have z : ∀ K : PySem.W.Frag, K.lookup a = some o → (a, o) ∈ K := fun K => by
    induction K with
    | nil => intro q; cases q
    | cons p r ih =>
      intro q
      obtain ⟨b, u⟩ := p
      rw [List.lookup_cons] at q
      cases hb : a == b with
      | true =>
        rw [hb] at q
        have e1 : a = b := beq_iff_eq.mp hb
        have e2 : u = o := Option.some.inj q
        rw [e1, e2]
        exact List.mem_cons_self
      | false =>
        rw [hb] at q
        exact List.mem_cons_of_mem _ (ih q)
  exact e (a, o) (z K l)
/-- the list laid out, before it is looked at -/
def frL {β : Type} : List (Addr × Obj) → (List (Addr × Obj) → β) → β
  | [], k => k []
  | (a, ⟨c, d, t, s⟩) :: r, k => HeadRun.frNat a fun a => frL r fun r => k ((a, ⟨c, d, t, s⟩) :: r)
theorem frL_eq {β : Type} : ∀ (l : List (Addr × Obj)) (k : List (Addr × Obj) → β), frL l k = k l
  | [], k => rfl
  | (a, ⟨c, d, t, s⟩) :: r, k => by
    unfold frL
    rw [HeadRun.frNat_eq, frL_eq r]
def frN {β : Type} : List Nat → (List Nat → β) → β
  | [], k => k []
  | a :: r, k => HeadRun.frNat a fun a => frN r fun r => k (a :: r)
theorem frN_eq {β : Type} : ∀ (l : List Nat) (k : List Nat → β), frN l k = k l
  | [], k => rfl
  | a :: r, k => by
    unfold frN
    rw [HeadRun.frNat_eq, frN_eq r]
/-- the part without the tables -/
def cutJ {β : Type} (lam : List (PySem.W.Frag → Addr)) (K : PySem.W.Frag) (k : PySem.W.Frag → β) : β := match lam with
  | [] => k K
  | f :: fs => frN ((f :: fs).map fun f => tabAt K (f K)) fun ts => frL (K.filter fun p => !ts.contains p.1) k
def partJ {β : Type} (n : Nat) (lam : List (PySem.W.Frag → Addr)) (g : Addr → Option Obj) (k : PySem.W.Frag → β) : β := frL (levJ g n [mainGlobals, cStatics]) fun K => cutJ lam K k
theorem partJ_is {n : Nat} {lam : List (PySem.W.Frag → Addr)} {g : Addr → Option Obj} : ∃ K : PySem.W.Frag, (∀ p ∈ K, g p.1 = some p.2) ∧ ∀ {β : Type} (k : PySem.W.Frag → β), partJ n lam g k = k K := by
  unfold partJ cutJ
  cases lam with
  | nil => exact ⟨_, fun p h => levJ_ok p h, fun k => by rw [frL_eq]⟩
  | cons f fs => exact ⟨_, fun p h => levJ_ok p (List.mem_filter.mp h).1, fun k => by
      rw [frL_eq]
      show frN _ _ = _
      rw [frN_eq, frL_eq]⟩
abbrev AlJ : Type := (Bool × List He.FnW) × List (Option Obj)
section
variable (n : Nat) (fn : List DJ) (ex : PySem.W.Frag → Bool) (lam : List (PySem.W.Frag → Addr))
def obsK (K : PySem.W.Frag) : Bool × List He.FnW := ((fn.all fun d => d.good K) && ex K, fn.map fun d => seenAt K (d.ad K))
def obsJ (g : Addr → Option Obj) : AlJ := partJ n lam g fun K => (obsK fn ex K, lam.map fun f => g (tabAt K (f K)))
def valJ : AlJ := ((true, fn.map DJ.due), lam.map fun _ => some (PySem.W.tabObj #[]))
def SaysJ (K : PySem.W.Frag) : Prop := obsK fn ex K = (true, fn.map DJ.due)
def hookJ : PySem.W.Hook where
  α := AlJ
  obs := fun s => obsJ n fn ex lam s.heap.get?
  val := fun _ => valJ fn lam
  says := fun _ h => ∃ K : PySem.W.Frag, K.In h ∧ SaysJ fn ex K ∧ ∀ f ∈ lam, h.get? (tabAt K (f K)) = some (PySem.W.tabObj #[])
  of := fun _ s e => by
    obtain ⟨K, hK, hk⟩ := partJ_is (n := n) (lam := lam) (g := s.heap.get?)
    have e : obsJ n fn ex lam s.heap.get? = valJ fn lam := e
    unfold obsJ at e
    rw [hk] at e
    exact ⟨K, in_of hK, congrArg Prod.fst e, List.map_inj_left.mp (congrArg Prod.snd e)⟩
  keeps := fun _ _ _ ⟨K, hK, c, t⟩ k => ⟨K, PySem.W.Frag.In.keeps hK k, c, fun f hf => k _ _ (t f hf)⟩
end
section
variable {n : Nat} {fn : List DJ} {ex : PySem.W.Frag → Bool} {lam : List (PySem.W.Frag → Addr)} {K : PySem.W.Frag}
theorem obsJ_eq (s : PySem.W.SharedT) : obsJ n fn ex lam (HeadRun.getT s) = (hookJ n fn ex lam).obs s.abs := by
  have e : HeadRun.getT s = s.abs.heap.get? := funext (HeadRun.getT_eq s)
  rw [e] <;> rfl
theorem SaysJ.facts (c : SaysJ fn ex K) : ex K = true := (Bool.and_eq_true_iff.mp (congrArg Prod.fst c)).2
theorem SaysJ.def_ (c : SaysJ fn ex K) (i : Nat) {d : DJ} (h : fn[i]? = some d := by rfl) : ∃ fd, FunD K d.nm d.ql d.pr d.bd d.sc (d.df.map (He.Dv.v K)) [] (d.ad K) fd := by
  have e : fn.map (fun d => seenAt K (d.ad K)) = fn.map DJ.due := congrArg Prod.snd c
  have e2 : (fn.map fun d => seenAt K (d.ad K))[i]? = (fn.map DJ.due)[i]? := by rw [e]
  rw [List.getElem?_map, List.getElem?_map, h] at e2
  exact DJ.fun_ (Option.some.inj e2) (List.all_eq_true.mp (Bool.and_eq_true_iff.mp (congrArg Prod.fst c)).1 d (List.mem_of_getElem? h))
end
/-- the end: the law's def over a written part that is told by the hook -/
theorem walkJ {l : PySem.W.OpenLaw} {n k : Nat} {q : Program} {loose : List Str} {XP : (Str → Option Value) → Heap → Prop} {YP : World → Heap → Prop} {d : DefRec} {x : Str}
    (hn : l.most = some n) (hn2 : n ≤ sizeLine) (hdf : d.params.defaults = []) (hr : Room k callerA)
    (F : ∀ (w : World) (mg : Str → Option Value) (fa : Addr) (h : Heap), YP w h → h.Ns mainGlobals mg → mg d.name = some (.ref fa) → ∃ (K : PySem.W.Frag) (ts : List Addr), K.In h ∧ (∀ P ∈ ts, h.get? P = some (PySem.W.tabObj #[])) ∧ SFY.LawAtG l w K k n x mg fa ts) :
    PySem.W.WalkO q loose XP YP l.row.toRowW d [] (fun f vs => PySem.call f vs) := by
  refine Att.attach_call hn hdf fun w s₀ s₁ mg mb fa o pm cd doc a vs ns G Y ho hd hcd hmg hobj hints hlen hg => ?_
  obtain ⟨K, ts, KX, hT, fd, cs, sp, hcs, hb, hsp, hF⟩ := F w mg fa _ Y G.T.g hmg
  exact SFY.law_callTG KX G.T.g G.T.b G.T.builtins G.T.nolimit hg (fun p hp => hT _ (hcs p hp).1) (fun p hp => (hcs p hp).2.1) (fun p hp => (hcs p hp).2.2) G.T.bmain hobj hints (Nat.le_trans hlen hn2) hr hF hb fun H hH hS => hsp H a ns hlen hH hS
/-- the facts of a list of truth values, by their places -/
theorem nthB {bs : List Bool} (h : bs.all id = true) (i : Nat) {b : Bool} (e : bs[i]? = some b := by rfl) : b = true := List.all_eq_true.mp h b (List.mem_of_getElem? e)
theorem decB {p : Prop} [Decidable p] (h : decide p = true) : p := of_decide_eq_true h
/-- the first value that an instance's slots, as a property's or a classmethod's, name -/
def recF (K : PySem.W.Frag) (p : Addr) (t : String) : Addr := match PySem.W.recIn K p t with
  | some (.ref f :: _) => f
  | _ => 0
def recR (K : PySem.W.Frag) (p : Addr) (t : String) : List Value := match PySem.W.recIn K p t with
  | some (_ :: r) => r
  | _ => []
end SJ
namespace SJ
open PySem PySem.Spec PyProof.Rows L2 SF LamX
def refCode (K : PySem.W.Frag) (a : Addr) : Bool := match K.lookup a with
  | some ⟨_, _, .func u, _⟩ => (match u.code with
    | .ref _ => true
    | _ => false)
  | _ => false
theorem code_of {K : PySem.W.Frag} {x qual : Str} {st : Stmt} {f : Addr} {fd : FuncData} (F : Fun K x qual st f fd) (h : refCode K f = true) : fd.code = .ref (codeAt K f) := by
  obtain ⟨oc, od, kV, doc, pm, an, cdv, ct, osl, rfl, lk, hcd⟩ := F.ex
  unfold refCode at h
  unfold codeAt
  rw [lk] at h ⊢
  cases cdv <;> first | rfl | cases h
def mroB (K : PySem.W.Frag) (C : Addr) : Bool := match PySem.W.clsIn K C with
  | some cd => decide (cd.mro = [.ref C, .type "object"])
  | none => false
theorem mroB_ok {K : PySem.W.Frag} {C : Addr} (h : mroB K C = true) : ∃ cd, PySem.W.clsIn K C = some cd ∧ cd.mro = [.ref C, .type "object"] := by
  unfold mroB at h
  cases e : PySem.W.clsIn K C with
  | none => rw [e] at h; cases h
  | some cd => rw [e] at h; exact ⟨cd, rfl, of_decide_eq_true h⟩
/-- the object behind a class's classmethod -/
def clsP (K : PySem.W.Frag) (C : Addr) (x : Str) : Addr := match PySem.W.findCls K (.ref C) (.type "type") x with
  | some (.get _ (.ref p) _ _) => p
  | _ => 0
def clsB (K : PySem.W.Frag) (C : Addr) (x : Str) : Bool := match PySem.W.findCls K (.ref C) (.type "type") x with
  | some (.get g (.ref _) o t) => decide (g = .builtin "classmethod.__get__") && (decide (o = .none) && decide (t = .ref C))
  | _ => false
theorem clsB_ok {K : PySem.W.Frag} {C : Addr} {x : Str} (h : clsB K C x = true) : PySem.W.findCls K (.ref C) (.type "type") x = some (.get (.builtin "classmethod.__get__") (.ref (clsP K C x)) .none (.ref C)) := by
  unfold clsB at h
  unfold clsP
  cases e : PySem.W.findCls K (.ref C) (.type "type") x with
  | none => rw [e] at h; cases h
  | some r =>
    rw [e] at h
    cases r with
    | val v => cases h
    | get g a o t =>
      cases a with
      | ref p =>
        obtain ⟨h1, h⟩ := Bool.and_eq_true_iff.mp h
        obtain ⟨h2, h3⟩ := Bool.and_eq_true_iff.mp h
        rw [of_decide_eq_true h1, of_decide_eq_true h2, of_decide_eq_true h3]
      | _ => cases h
def isInt (K : PySem.W.Frag) (x : Str) (i : Int) : Bool := match PySem.W.nsIn K mainGlobals x with
  | some (some (.int j _)) => decide (j = i)
  | _ => false
theorem isInt_ok {K : PySem.W.Frag} {h : Heap} {mg : Str → Option Value} (X : K.In h) (G : h.Ns mainGlobals mg) {x : Str} {i : Int} (c : isInt K x i = true) : ∃ t, mg x = some (.int i t) := He.int_ok X G c
end SJ
namespace SJ
theorem map3 {α β γ δ : Type} {o : Option α} {f : α → β} {g : α → γ} {h : α → δ} {a : β} {b : γ} {c : δ} (e1 : o.map f = some a) (e2 : o.map g = some b) (e3 : o.map h = some c) : o.map (fun x => (f x, g x, h x)) = some (a, b, c) := by
  cases o with
  | none => cases e1
  | some x =>
    cases e1
    cases e2
    cases e3
    rfl
end SJ

namespace T08
open PySem PySem.Spec PyProof.Rows L2 SF SQ
def fx0 (K : PySem.W.Frag) : List Bool := [decide (PySem.W.nsIn K mainGlobals "Ratio" = some (some (.ref (He.ga K "Ratio")))),
  decide (PySem.W.nsIn K mainGlobals "is_whole" = some (some (.ref (He.ga K "is_whole")))),
  decide (PySem.W.nsIn K mainGlobals "is_number" = some (some (.ref (He.ga K "is_number")))),
  decide (PySem.W.nsIn K mainGlobals "as_ratio" = some (some (.ref (He.ga K "as_ratio")))),
  decide (PySem.W.nsIn K mainGlobals "_is_text" = some (some (.ref (He.ga K "_is_text")))),
  decide (PySem.W.nsIn K mainGlobals "_is_positive_text" = some (some (.ref (He.ga K "_is_positive_text")))),
  decide (PySem.W.findIn K (.ref (He.ga K "Ratio")) "top" = some (some (.ref (He.ma K (He.ga K "Ratio") "top")))),
  decide (PySem.W.specialIn K (.ref (He.ma K (He.ga K "Ratio") "top")) "__get__" = some (some (.builtin "property.__get__"))),
  decide (PySem.W.takesIn K (.ref (He.ma K (He.ga K "Ratio") "top")) = some true),
  decide (PySem.W.recIn K (He.ma K (He.ga K "Ratio") "top") "property" = some (.ref (SJ.recF K (He.ma K (He.ga K "Ratio") "top") "property") :: SJ.recR K (He.ma K (He.ga K "Ratio") "top") "property")),
  decide (PySem.W.findIn K (.ref (He.ga K "Ratio")) "bottom" = some (some (.ref (He.ma K (He.ga K "Ratio") "bottom")))),
  decide (PySem.W.specialIn K (.ref (He.ma K (He.ga K "Ratio") "bottom")) "__get__" = some (some (.builtin "property.__get__"))),
  decide (PySem.W.takesIn K (.ref (He.ma K (He.ga K "Ratio") "bottom")) = some true),
  decide (PySem.W.recIn K (He.ma K (He.ga K "Ratio") "bottom") "property" = some (.ref (SJ.recF K (He.ma K (He.ga K "Ratio") "bottom") "property") :: SJ.recR K (He.ma K (He.ga K "Ratio") "bottom") "property")),
  decide (PySem.W.findIn K (.ref (He.ga K "Ratio")) "__eq__" = some (some (.ref (He.ma K (He.ga K "Ratio") "__eq__")))),
  PySem.W.isFn K (.ref (He.ma K (He.ga K "Ratio") "__eq__")),
  decide (PySem.W.findIn K (.ref (He.ga K "Ratio")) "__str__" = some (some (.ref (He.ma K (He.ga K "Ratio") "__str__")))),
  PySem.W.isFn K (.ref (He.ma K (He.ga K "Ratio") "__str__")),
  decide (PySem.W.findIn K (.ref (He.ga K "Ratio")) "__repr__" = some (some (.ref (He.ma K (He.ga K "Ratio") "__repr__")))),
  PySem.W.isFn K (.ref (He.ma K (He.ga K "Ratio") "__repr__"))]
def fx1 (K : PySem.W.Frag) : List Bool := [decide (PySem.W.findIn K (.ref (He.ga K "Series")) "__len__" = some (some (.ref (He.ma K (He.ga K "Series") "__len__")))),
  PySem.W.isFn K (.ref (He.ma K (He.ga K "Series") "__len__")),
  decide (PySem.W.findIn K (.ref (He.ga K "Series")) "__eq__" = some (some (.ref (He.ma K (He.ga K "Series") "__eq__")))),
  PySem.W.isFn K (.ref (He.ma K (He.ga K "Series") "__eq__")),
  decide (PySem.W.findIn K (.ref (He.ga K "Series")) "__str__" = some (some (.ref (He.ma K (He.ga K "Series") "__str__")))),
  PySem.W.isFn K (.ref (He.ma K (He.ga K "Series") "__str__")),
  decide (PySem.W.findIn K (.ref (He.ga K "Series")) "__repr__" = some (some (.ref (He.ma K (He.ga K "Series") "__repr__")))),
  PySem.W.isFn K (.ref (He.ma K (He.ga K "Series") "__repr__")),
  decide (PySem.W.findIn K (.ref (He.ga K "Series")) "entries" = some (some (.ref (He.ma K (He.ga K "Series") "entries")))),
  decide (PySem.W.specialIn K (.ref (He.ma K (He.ga K "Series") "entries")) "__get__" = some (some (.builtin "property.__get__"))),
  decide (PySem.W.takesIn K (.ref (He.ma K (He.ga K "Series") "entries")) = some true),
  decide (PySem.W.recIn K (He.ma K (He.ga K "Series") "entries") "property" = some (.ref (SJ.recF K (He.ma K (He.ga K "Series") "entries") "property") :: SJ.recR K (He.ma K (He.ga K "Series") "entries") "property")),
  decide (PySem.W.findIn K (.ref (He.ga K "Series")) "missing" = some (some (.ref (He.ma K (He.ga K "Series") "missing")))),
  decide (PySem.W.specialIn K (.ref (He.ma K (He.ga K "Series") "missing")) "__get__" = some (some (.builtin "property.__get__"))),
  decide (PySem.W.takesIn K (.ref (He.ma K (He.ga K "Series") "missing")) = some true),
  decide (PySem.W.recIn K (He.ma K (He.ga K "Series") "missing") "property" = some (.ref (SJ.recF K (He.ma K (He.ga K "Series") "missing") "property") :: SJ.recR K (He.ma K (He.ga K "Series") "missing") "property")),
  decide (PySem.W.nsIn K mainGlobals "_read_entry" = some (some (.ref (He.ga K "_read_entry")))),
  decide (PySem.W.nsIn K mainGlobals "_law_cell" = some (some (.ref (He.ga K "_law_cell")))),
  decide (PySem.W.nsIn K mainGlobals "_law_source" = some (some (.ref (He.ga K "_law_source")))),
  decide (PySem.W.nsIn K mainGlobals "_law_draw" = some (some (.ref (He.ga K "_law_draw"))))]
def fx2 (K : PySem.W.Frag) : List Bool := [decide (PySem.W.nsIn K mainGlobals "_law_common" = some (some (.ref (He.ga K "_law_common")))),
  decide (PySem.W.nsIn K mainGlobals "_law_lowest" = some (some (.ref (He.ga K "_law_lowest")))),
  decide (PySem.W.nsIn K mainGlobals "_law_whole" = some (some (.ref (He.ga K "_law_whole")))),
  decide (PySem.W.nsIn K mainGlobals "_law_pair" = some (some (.ref (He.ga K "_law_pair")))),
  decide (PySem.W.nsIn K mainGlobals "_law_word" = some (some (.ref (He.ga K "_law_word")))),
  decide (PySem.W.nsIn K mainGlobals "_law_fields" = some (some (.ref (He.ga K "_law_fields")))),
  decide (PySem.W.nsIn K mainGlobals "_law_caught" = some (some (.ref (He.ga K "_law_caught")))),
  decide (PySem.W.nsIn K mainGlobals "_law_number" = some (some (.ref (He.ga K "_law_number")))),
  decide (PySem.W.nsIn K mainGlobals "_law_number_text" = some (some (.ref (He.ga K "_law_number_text")))),
  decide (PySem.W.nsIn K mainGlobals "_law_thing" = some (some (.ref (He.ga K "_law_thing")))),
  decide (PySem.W.nsIn K mainGlobals "_law_good" = some (some (.ref (He.ga K "_law_good")))),
  decide (PySem.W.nsIn K mainGlobals "_law_entries_right" = some (some (.ref (He.ga K "_law_entries_right")))),
  decide (PySem.W.nsIn K mainGlobals "_law_read" = some (some (.ref (He.ga K "_law_read")))),
  decide (PySem.W.nsIn K mainGlobals "_law_is_number" = some (some (.ref (He.ga K "_law_is_number")))),
  decide (PySem.W.nsIn K mainGlobals "_law_text_right" = some (some (.ref (He.ga K "_law_text_right")))),
  decide (PySem.W.nsIn K mainGlobals "_law_entry_text" = some (some (.ref (He.ga K "_law_entry_text")))),
  decide (PySem.W.nsIn K mainGlobals "_law_texts_right" = some (some (.ref (He.ga K "_law_texts_right")))),
  decide (PySem.W.nsIn K mainGlobals "_law_right" = some (some (.ref (He.ga K "_law_right")))),
  decide (PySem.W.nsIn K mainGlobals "law" = some (some (.ref (He.ga K "law")))),
  SJ.clsB K (He.ga K "Ratio") "read"]
def fx3 (K : PySem.W.Frag) : List Bool := [decide (PySem.W.recIn K (SJ.clsP K (He.ga K "Ratio") "read") "classmethod" = some (.ref (SJ.recF K (SJ.clsP K (He.ga K "Ratio") "read") "classmethod") :: SJ.recR K (SJ.clsP K (He.ga K "Ratio") "read") "classmethod")),
  PySem.W.fnIn K (SJ.recF K (SJ.clsP K (He.ga K "Ratio") "read") "classmethod"),
  PySem.W.readsIn K (He.ga K "Ratio") (.type "type"),
  decide (PySem.W.specialIn K (.ref (He.ga K "Ratio")) "__getattribute__" = some (some (.builtin "type.__getattribute__"))),
  SJ.clsB K (He.ga K "Series") "read",
  decide (PySem.W.recIn K (SJ.clsP K (He.ga K "Series") "read") "classmethod" = some (.ref (SJ.recF K (SJ.clsP K (He.ga K "Series") "read") "classmethod") :: SJ.recR K (SJ.clsP K (He.ga K "Series") "read") "classmethod")),
  PySem.W.fnIn K (SJ.recF K (SJ.clsP K (He.ga K "Series") "read") "classmethod"),
  PySem.W.readsIn K (He.ga K "Series") (.type "type"),
  decide (PySem.W.specialIn K (.ref (He.ga K "Series")) "__getattribute__" = some (some (.builtin "type.__getattribute__"))),
  decide (PySem.W.findIn K (.ref (He.ga K "Ratio")) "__init__" = some (some (.ref (He.ma K (He.ga K "Ratio") "__init__")))),
  PySem.W.isFn K (.ref (He.ma K (He.ga K "Ratio") "__init__")),
  decide (PySem.W.findIn K (.ref (He.ga K "Ratio")) "__ne__" = some (some (.builtin "object.__ne__"))),
  PySem.W.makesIn K (He.ga K "Ratio"),
  PySem.W.keepIn K (.ref (He.ga K "Ratio")),
  PySem.W.plainGet K (He.ga K "Ratio") Str.empty,
  PySem.W.hasDictIn K (He.ga K "Ratio"),
  PySem.W.plainOver K (He.ga K "Ratio"),
  decide (PySem.W.findIn K (.ref (He.ga K "Ratio")) "__setattr__" = some (some (.builtin "object.__setattr__"))),
  decide (PySem.W.findIn K (.ref (He.ga K "Ratio")) "_top" = some none),
  decide (PySem.W.findIn K (.ref (He.ga K "Ratio")) "_bottom" = some none)]
def fx4 (K : PySem.W.Frag) : List Bool := [decide (PySem.W.kitOne K (.type "int") (.ref (He.ga K "Ratio")) = some false),
  decide (PySem.W.kitOne K (.type "bool") (.ref (He.ga K "Ratio")) = some false),
  decide (PySem.W.kitOne K (.type "str") (.ref (He.ga K "Ratio")) = some false),
  decide (PySem.W.kitOne K (.type "NoneType") (.ref (He.ga K "Ratio")) = some false),
  decide (PySem.W.kitOne K (.type "list") (.ref (He.ga K "Ratio")) = some false),
  decide (PySem.W.kitOne K (.type "tuple") (.ref (He.ga K "Ratio")) = some false),
  decide (PySem.W.kitOne K (.type "dict") (.ref (He.ga K "Ratio")) = some false),
  decide (PySem.W.kitOne K (.ref (He.ga K "Ratio")) (.ref (He.ga K "Ratio")) = some true),
  decide (PySem.W.kitOne K (.ref (He.ga K "Ratio")) (.type "int") = some false),
  decide (PySem.W.findIn K (.ref (He.ga K "Ratio")) "__class__" = some (some (.builtin "object.__class__"))),
  decide (PySem.W.specialIn K (.builtin "object.__class__") "__get__" = some (some (.builtin "getset_descriptor.__get__"))),
  decide (PySem.W.takesIn K (.builtin "object.__class__") = some true),
  decide (PySem.W.mroIn K (He.ga K "Ratio") (.type "object") = some true),
  decide (PySem.W.nsIn K mainGlobals "gcd" = some (some (.builtin "math.gcd"))),
  decide (PySem.W.subIn K (.type "int") (.ref (He.ga K "Ratio")) = some false),
  decide (PySem.W.nsIn K mainGlobals "Series" = some (some (.ref (He.ga K "Series")))),
  decide (PySem.W.findIn K (.ref (He.ga K "Series")) "__init__" = some (some (.ref (He.ma K (He.ga K "Series") "__init__")))),
  PySem.W.isFn K (.ref (He.ma K (He.ga K "Series") "__init__")),
  PySem.W.makesIn K (He.ga K "Series"),
  PySem.W.keepIn K (.ref (He.ga K "Series"))]
def fx5 (K : PySem.W.Frag) : List Bool := [PySem.W.plainGet K (He.ga K "Series") Str.empty,
  PySem.W.hasDictIn K (He.ga K "Series"),
  PySem.W.plainOver K (He.ga K "Series"),
  decide (PySem.W.findIn K (.ref (He.ga K "Series")) "__setattr__" = some (some (.builtin "object.__setattr__"))),
  decide (PySem.W.findIn K (.ref (He.ga K "Series")) "_entries" = some none),
  decide (PySem.W.kitOne K (.type "int") (.ref (He.ga K "Series")) = some false),
  decide (PySem.W.subIn K (.ref (He.ga K "Series")) (.type "int") = some false),
  decide (PySem.W.subIn K (.type "int") (.ref (He.ga K "Series")) = some false),
  decide (PySem.W.subIn K (.ref (He.ga K "Ratio")) (.type "int") = some false),
  decide (PySem.W.subIn K (.type "int") (.ref (He.ga K "Ratio")) = some false),
  decide (PySem.W.kitOne K (.type "bool") (.ref (He.ga K "Series")) = some false),
  decide (PySem.W.subIn K (.ref (He.ga K "Series")) (.type "bool") = some false),
  decide (PySem.W.subIn K (.type "bool") (.ref (He.ga K "Series")) = some false),
  decide (PySem.W.subIn K (.ref (He.ga K "Ratio")) (.type "bool") = some false),
  decide (PySem.W.subIn K (.type "bool") (.ref (He.ga K "Ratio")) = some false),
  decide (PySem.W.kitOne K (.type "str") (.ref (He.ga K "Series")) = some false),
  decide (PySem.W.subIn K (.ref (He.ga K "Series")) (.type "str") = some false),
  decide (PySem.W.subIn K (.type "str") (.ref (He.ga K "Series")) = some false),
  decide (PySem.W.subIn K (.ref (He.ga K "Ratio")) (.type "str") = some false),
  decide (PySem.W.subIn K (.type "str") (.ref (He.ga K "Ratio")) = some false)]
def fx6 (K : PySem.W.Frag) : List Bool := [decide (PySem.W.kitOne K (.type "NoneType") (.ref (He.ga K "Series")) = some false),
  decide (PySem.W.subIn K (.ref (He.ga K "Series")) (.type "NoneType") = some false),
  decide (PySem.W.subIn K (.type "NoneType") (.ref (He.ga K "Series")) = some false),
  decide (PySem.W.subIn K (.ref (He.ga K "Ratio")) (.type "NoneType") = some false),
  decide (PySem.W.subIn K (.type "NoneType") (.ref (He.ga K "Ratio")) = some false),
  decide (PySem.W.kitOne K (.type "list") (.ref (He.ga K "Series")) = some false),
  decide (PySem.W.subIn K (.ref (He.ga K "Series")) (.type "list") = some false),
  decide (PySem.W.subIn K (.type "list") (.ref (He.ga K "Series")) = some false),
  decide (PySem.W.subIn K (.ref (He.ga K "Ratio")) (.type "list") = some false),
  decide (PySem.W.subIn K (.type "list") (.ref (He.ga K "Ratio")) = some false),
  decide (PySem.W.kitOne K (.type "tuple") (.ref (He.ga K "Series")) = some false),
  decide (PySem.W.subIn K (.ref (He.ga K "Series")) (.type "tuple") = some false),
  decide (PySem.W.subIn K (.type "tuple") (.ref (He.ga K "Series")) = some false),
  decide (PySem.W.subIn K (.ref (He.ga K "Ratio")) (.type "tuple") = some false),
  decide (PySem.W.subIn K (.type "tuple") (.ref (He.ga K "Ratio")) = some false),
  decide (PySem.W.kitOne K (.type "dict") (.ref (He.ga K "Series")) = some false),
  decide (PySem.W.subIn K (.ref (He.ga K "Series")) (.type "dict") = some false),
  decide (PySem.W.subIn K (.type "dict") (.ref (He.ga K "Series")) = some false),
  decide (PySem.W.subIn K (.ref (He.ga K "Ratio")) (.type "dict") = some false),
  decide (PySem.W.subIn K (.type "dict") (.ref (He.ga K "Ratio")) = some false)]
def fx7 (K : PySem.W.Frag) : List Bool := [decide (PySem.W.kitOne K (.ref (He.ga K "Series")) (.ref (He.ga K "Series")) = some true),
  decide (PySem.W.findIn K (.ref (He.ga K "Series")) "__class__" = some (some (.builtin "object.__class__"))),
  decide (PySem.W.mroIn K (He.ga K "Series") (.type "object") = some true),
  decide (PySem.W.findIn K (.ref (He.ga K "Series")) "__ne__" = some (some (.builtin "object.__ne__"))),
  decide (PySem.W.findIn K (.ref (He.ga K "Series")) "__bool__" = some none),
  decide (PySem.W.kitOne K (.ref (He.ga K "Series")) (.type "int") = some false),
  decide (PySem.W.kitOne K (.ref (He.ga K "Ratio")) (.type "int") = some false),
  decide (PySem.W.kitOne K (.ref (He.ga K "Series")) (.type "bool") = some false),
  decide (PySem.W.kitOne K (.ref (He.ga K "Ratio")) (.type "bool") = some false),
  decide (PySem.W.kitOne K (.ref (He.ga K "Series")) (.type "str") = some false),
  decide (PySem.W.kitOne K (.ref (He.ga K "Ratio")) (.type "str") = some false),
  decide (PySem.W.kitOne K (.ref (He.ga K "Series")) (.type "NoneType") = some false),
  decide (PySem.W.kitOne K (.ref (He.ga K "Ratio")) (.type "NoneType") = some false),
  decide (PySem.W.kitOne K (.ref (He.ga K "Series")) (.type "list") = some false),
  decide (PySem.W.kitOne K (.ref (He.ga K "Ratio")) (.type "list") = some false),
  decide (PySem.W.kitOne K (.ref (He.ga K "Series")) (.type "tuple") = some false),
  decide (PySem.W.kitOne K (.ref (He.ga K "Ratio")) (.type "tuple") = some false),
  decide (PySem.W.kitOne K (.ref (He.ga K "Series")) (.type "dict") = some false),
  decide (PySem.W.kitOne K (.ref (He.ga K "Ratio")) (.type "dict") = some false),
  decide (PySem.W.kitOne K (.ref (He.ga K "Series")) (.ref (He.ga K "Ratio")) = some false)]
def fx8 (K : PySem.W.Frag) : List Bool := [SK.isStr K "GAP" "_",
  decide (PySem.W.nsIn K mainGlobals "InvalidText" = some (some (.ref (He.ga K "InvalidText")))),
  decide (PySem.W.nsIn K mainGlobals "len" = some none),
  decide (PySem.W.nsIn K mainGlobals "int" = some none),
  decide (PySem.W.nsIn K mainGlobals "abs" = some none),
  decide (PySem.W.nsIn K mainGlobals "divmod" = some none),
  decide (PySem.W.nsIn K mainGlobals "range" = some none),
  decide (PySem.W.nsIn K mainGlobals "max" = some none),
  decide (PySem.W.nsIn K mainGlobals "min" = some none),
  decide (PySem.W.nsIn K mainGlobals "all" = some none),
  decide (PySem.W.nsIn K mainGlobals "repr" = some none),
  decide (PySem.W.nsIn K mainGlobals "isinstance" = some none),
  decide (PySem.W.nsIn K mainGlobals "bool" = some none),
  decide (PySem.W.nsIn K mainGlobals "str" = some none),
  decide (PySem.W.nsIn K mainGlobals "enumerate" = some none),
  decide (PySem.W.nsIn K mainGlobals "tuple" = some none),
  decide (PySem.W.nsIn K mainGlobals "list" = some none),
  decide (PySem.W.nsIn K mainGlobals "InvalidNumber" = some (some (.ref (He.ga K "InvalidNumber")))),
  decide (PySem.W.nsIn K mainGlobals "InvalidText" = some (some (.ref (He.ga K "InvalidText")))),
  decide (PySem.W.nsIn K mainGlobals "InvalidCount" = some (some (.ref (He.ga K "InvalidCount"))))]
def fx9 (K : PySem.W.Frag) : List Bool := [decide (PySem.W.nsIn K mainGlobals "InvalidName" = some (some (.ref (He.ga K "InvalidName")))),
  decide (PySem.W.nsIn K mainGlobals "InvalidTruth" = some (some (.ref (He.ga K "InvalidTruth")))),
  decide (PySem.W.nsIn K mainGlobals "InvalidEntries" = some (some (.ref (He.ga K "InvalidEntries")))),
  decide (PySem.W.nsIn K mainGlobals "NotAFormula" = some (some (.ref (He.ga K "NotAFormula")))),
  decide (PySem.W.nsIn K mainGlobals "TextError" = some (some (.ref (He.ga K "TextError")))),
  decide (PySem.W.nsIn K mainGlobals "UnknownName" = some (some (.ref (He.ga K "UnknownName")))),
  decide (PySem.W.nsIn K mainGlobals "Clash" = some (some (.ref (He.ga K "Clash")))),
  decide (PySem.W.nsIn K mainGlobals "DividedByZero" = some (some (.ref (He.ga K "DividedByZero")))),
  decide (PySem.W.nsIn K mainGlobals "TooLarge" = some (some (.ref (He.ga K "TooLarge")))),
  decide (PySem.W.nsIn K mainGlobals "GivenError" = some (some (.ref (He.ga K "GivenError")))),
  decide (PySem.W.nsIn K mainGlobals "NameProblem" = some (some (.ref (He.ga K "NameProblem")))),
  decide (PySem.W.nsIn K mainGlobals "AnswerError" = some (some (.ref (He.ga K "AnswerError")))),
  SFT.cerrB K [He.ga K "InvalidNumber", He.ga K "InvalidText", He.ga K "InvalidCount", He.ga K "InvalidName", He.ga K "InvalidTruth", He.ga K "InvalidEntries", He.ga K "NotAFormula", He.ga K "TextError", He.ga K "UnknownName", He.ga K "Clash", He.ga K "DividedByZero", He.ga K "TooLarge"] [He.ga K "GivenError", He.ga K "NameProblem", He.ga K "AnswerError"],
  SQ.dzB K (He.ga K "DividedByZero"),
  SQ.ndB K,
  SFY.tabsB K [SJ.tabAt K (He.ga K "_law_entries_right"), SJ.tabAt K (He.ga K "_law_text_right"), SJ.tabAt K (He.ga K "_law_right")] [SJ.codeAt K (He.ga K "_law_entries_right"), SJ.codeAt K (He.ga K "_law_text_right"), SJ.codeAt K (He.ga K "_law_right")],
  SJ.refCode K (He.ga K "_law_entries_right"),
  SJ.refCode K (He.ga K "_law_text_right"),
  SJ.refCode K (He.ga K "_law_right"),
  decide (SFY.tabOf K (SJ.codeAt K (He.ga K "_law_entries_right")) ≠ SFY.tabOf K (SJ.codeAt K (He.ga K "_law_text_right")))]
def fx10 (K : PySem.W.Frag) : List Bool := [decide (SFY.tabOf K (SJ.codeAt K (He.ga K "_law_entries_right")) ≠ SFY.tabOf K (SJ.codeAt K (He.ga K "_law_right"))),
  decide (SFY.tabOf K (SJ.codeAt K (He.ga K "_law_text_right")) ≠ SFY.tabOf K (SJ.codeAt K (He.ga K "_law_right"))),
  SQ.oexB K (He.ga K "InvalidText") (He.ma K (He.ga K "InvalidText") "__init__"),
  SQ.oexB K (He.ga K "InvalidEntries") (He.ma K (He.ga K "InvalidEntries") "__init__"),
  decide (PySem.W.exmOne K (.ref (He.ga K "InvalidText")) (.ref (He.ga K "InvalidText")) = some true),
  decide (PySem.W.kitOne K (.ref (He.ga K "Ratio")) (.type "str") = some false)]
def exJ (K : PySem.W.Frag) : Bool := (fx0 K).all id && ((fx1 K).all id && ((fx2 K).all id && ((fx3 K).all id && ((fx4 K).all id && ((fx5 K).all id && ((fx6 K).all id && ((fx7 K).all id && ((fx8 K).all id && ((fx9 K).all id && ((fx10 K).all id))))))))))
def dj0 : SJ.DJ := ⟨fun K => (He.ga K "is_whole"), "is_whole", "is_whole", defArgs sIsW, defBody sIsW, defScope sIsW, []⟩
def dj1 : SJ.DJ := ⟨fun K => (He.ga K "is_number"), "is_number", "is_number", defArgs sIsN, defBody sIsN, defScope sIsN, []⟩
def dj2 : SJ.DJ := ⟨fun K => (He.ga K "as_ratio"), "as_ratio", "as_ratio", defArgs sAs, defBody sAs, defScope sAs, []⟩
def dj3 : SJ.DJ := ⟨fun K => (He.ga K "_is_text"), "_is_text", "_is_text", defArgs sIsT, defBody sIsT, defScope sIsT, []⟩
def dj4 : SJ.DJ := ⟨fun K => (He.ga K "_is_positive_text"), "_is_positive_text", "_is_positive_text", defArgs sIsP, defBody sIsP, defScope sIsP, []⟩
def dj5 : SJ.DJ := ⟨fun K => (SJ.recF K (He.ma K (He.ga K "Ratio") "top") "property"), "top", "Ratio.top", defArgs sTop, defBody sTop, defScope sTop, []⟩
def dj6 : SJ.DJ := ⟨fun K => (SJ.recF K (He.ma K (He.ga K "Ratio") "bottom") "property"), "bottom", "Ratio.bottom", defArgs sBot, defBody sBot, defScope sBot, []⟩
def dj7 : SJ.DJ := ⟨fun K => (He.ma K (He.ga K "Ratio") "__eq__"), "__eq__", "Ratio.__eq__", defArgs sEq, defBody sEq, defScope sEq, []⟩
def dj8 : SJ.DJ := ⟨fun K => (He.ma K (He.ga K "Ratio") "__str__"), "__str__", "Ratio.__str__", defArgs sStr, defBody sStr, defScope sStr, []⟩
def dj9 : SJ.DJ := ⟨fun K => (He.ma K (He.ga K "Ratio") "__repr__"), "__repr__", "Ratio.__repr__", defArgs sRepr, defBody sRepr, defScope sRepr, []⟩
def dj10 : SJ.DJ := ⟨fun K => (He.ma K (He.ga K "Series") "__len__"), "__len__", "Series.__len__", defArgs sSLen, defBody sSLen, defScope sSLen, []⟩
def dj11 : SJ.DJ := ⟨fun K => (He.ma K (He.ga K "Series") "__eq__"), "__eq__", "Series.__eq__", defArgs sSEq, defBody sSEq, defScope sSEq, []⟩
def dj12 : SJ.DJ := ⟨fun K => (He.ma K (He.ga K "Series") "__str__"), "__str__", "Series.__str__", defArgs sSStr, defBody sSStr, defScope sSStr, []⟩
def dj13 : SJ.DJ := ⟨fun K => (He.ma K (He.ga K "Series") "__repr__"), "__repr__", "Series.__repr__", defArgs sSRepr, defBody sSRepr, defScope sSRepr, []⟩
def dj14 : SJ.DJ := ⟨fun K => (SJ.recF K (He.ma K (He.ga K "Series") "entries") "property"), "entries", "Series.entries", defArgs sSEnt, defBody sSEnt, defScope sSEnt, []⟩
def dj15 : SJ.DJ := ⟨fun K => (SJ.recF K (He.ma K (He.ga K "Series") "missing") "property"), "missing", "Series.missing", defArgs sSMis, defBody sSMis, defScope sSMis, []⟩
def dj16 : SJ.DJ := ⟨fun K => (He.ga K "_read_entry"), "_read_entry", "_read_entry", defArgs sREnt, defBody sREnt, defScope sREnt, []⟩
def dj17 : SJ.DJ := ⟨fun K => (He.ga K "_law_cell"), "_law_cell", "_law_cell", defArgs sCell, defBody sCell, defScope sCell, []⟩
def dj18 : SJ.DJ := ⟨fun K => (He.ga K "_law_source"), "_law_source", "_law_source", defArgs sSrc, defBody sSrc, defScope sSrc, []⟩
def dj19 : SJ.DJ := ⟨fun K => (He.ga K "_law_draw"), "_law_draw", "_law_draw", defArgs sDraw, defBody sDraw, defScope sDraw, []⟩
def dj20 : SJ.DJ := ⟨fun K => (He.ga K "_law_common"), "_law_common", "_law_common", defArgs sCom, defBody sCom, defScope sCom, []⟩
def dj21 : SJ.DJ := ⟨fun K => (He.ga K "_law_lowest"), "_law_lowest", "_law_lowest", defArgs sLow, defBody sLow, defScope sLow, []⟩
def dj22 : SJ.DJ := ⟨fun K => (He.ga K "_law_whole"), "_law_whole", "_law_whole", defArgs sWho, defBody sWho, defScope sWho, []⟩
def dj23 : SJ.DJ := ⟨fun K => (He.ga K "_law_pair"), "_law_pair", "_law_pair", defArgs sPair, defBody sPair, defScope sPair, []⟩
def dj24 : SJ.DJ := ⟨fun K => (He.ga K "_law_word"), "_law_word", "_law_word", defArgs sWord, defBody sWord, defScope sWord, []⟩
def dj25 : SJ.DJ := ⟨fun K => (He.ga K "_law_fields"), "_law_fields", "_law_fields", defArgs sFields, defBody sFields, defScope sFields, []⟩
def dj26 : SJ.DJ := ⟨fun K => (He.ga K "_law_caught"), "_law_caught", "_law_caught", defArgs sCaught, defBody sCaught, defScope sCaught, []⟩
def dj27 : SJ.DJ := ⟨fun K => (He.ga K "_law_number"), "_law_number", "_law_number", defArgs sMkN, defBody sMkN, defScope sMkN, []⟩
def dj28 : SJ.DJ := ⟨fun K => (He.ga K "_law_number_text"), "_law_number_text", "_law_number_text", defArgs sNum, defBody sNum, defScope sNum, []⟩
def dj29 : SJ.DJ := ⟨fun K => (He.ga K "_law_thing"), "_law_thing", "_law_thing", defArgs sThing, defBody sThing, defScope sThing, []⟩
def dj30 : SJ.DJ := ⟨fun K => (He.ga K "_law_good"), "_law_good", "_law_good", defArgs sGood, defBody sGood, defScope sGood, []⟩
def dj31 : SJ.DJ := ⟨fun K => (He.ga K "_law_entries_right"), "_law_entries_right", "_law_entries_right", defArgs sEntR, defBody sEntR, defScope sEntR, []⟩
def dj32 : SJ.DJ := ⟨fun K => (He.ga K "_law_read"), "_law_read", "_law_read", defArgs sLRead, defBody sLRead, defScope sLRead, []⟩
def dj33 : SJ.DJ := ⟨fun K => (He.ga K "_law_is_number"), "_law_is_number", "_law_is_number", defArgs sLIsN, defBody sLIsN, defScope sLIsN, []⟩
def dj34 : SJ.DJ := ⟨fun K => (He.ga K "_law_text_right"), "_law_text_right", "_law_text_right", defArgs sTRight, defBody sTRight, defScope sTRight, []⟩
def dj35 : SJ.DJ := ⟨fun K => (He.ga K "_law_entry_text"), "_law_entry_text", "_law_entry_text", defArgs sEntT, defBody sEntT, defScope sEntT, []⟩
def dj36 : SJ.DJ := ⟨fun K => (He.ga K "_law_texts_right"), "_law_texts_right", "_law_texts_right", defArgs sTsR, defBody sTsR, defScope sTsR, []⟩
def dj37 : SJ.DJ := ⟨fun K => (He.ga K "_law_right"), "_law_right", "_law_right", defArgs sRight, defBody sRight, defScope sRight, []⟩
def dj38 : SJ.DJ := ⟨fun K => (He.ga K "law"), "law", "law", defArgs sLaw, defBody sLaw, defScope sLaw, []⟩
def dj39 : SJ.DJ := ⟨fun K => (SJ.recF K (SJ.clsP K (He.ga K "Ratio") "read") "classmethod"), "read", "Ratio.read", defArgs sRd, defBody sRd, defScope sRd, []⟩
def dj40 : SJ.DJ := ⟨fun K => (SJ.recF K (SJ.clsP K (He.ga K "Series") "read") "classmethod"), "read", "Series.read", defArgs sSR, defBody sSR, defScope sSR, []⟩
def dj41 : SJ.DJ := ⟨fun K => (He.ma K (He.ga K "Ratio") "__init__"), "__init__", "Ratio.__init__", defArgs sIni, defBody sIni, defScope sIni, [.int 1]⟩
def dj42 : SJ.DJ := ⟨fun K => (He.ma K (He.ga K "Series") "__init__"), "__init__", "Series.__init__", defArgs sSI, defBody sSI, defScope sSI, []⟩
def dj43 : SJ.DJ := ⟨fun K => (He.ma K (He.ga K "InvalidText") "__init__"), "__init__", "InvalidText.__init__", defArgs sETxt, defBody sETxt, defScope sETxt, []⟩
def dj44 : SJ.DJ := ⟨fun K => (He.ma K (He.ga K "InvalidEntries") "__init__"), "__init__", "InvalidEntries.__init__", defArgs sEEnt, defBody sEEnt, defScope sEEnt, []⟩
def fnJ : List SJ.DJ := [dj0, dj1, dj2, dj3, dj4, dj5, dj6, dj7, dj8, dj9, dj10, dj11, dj12, dj13, dj14, dj15, dj16, dj17, dj18, dj19, dj20, dj21, dj22, dj23, dj24, dj25, dj26, dj27, dj28, dj29, dj30, dj31, dj32, dj33, dj34, dj35, dj36, dj37, dj38, dj39, dj40, dj41, dj42, dj43, dj44]
def lamJ : List (PySem.W.Frag → Addr) := [fun K => (He.ga K "_law_entries_right"), fun K => (He.ga K "_law_text_right"), fun K => (He.ga K "_law_right")]
def ls0 : List PySem.Str := ["_wall", "GivenError", "InvalidNumber", "InvalidText", "InvalidCount", "InvalidName", "InvalidTruth", "InvalidEntries", "NotAFormula", "TextError", "NameProblem", "UnknownName", "Clash", "AnswerError", "DividedByZero", "TooLarge", "MOST_POWER", "is_whole", "is_number", "Ratio"]
def ls1 : List PySem.Str := ["as_ratio", "_ratio_sum", "_product", "_inverse", "_floor", "_remainder", "_whole_power", "_is_text", "_is_positive_text", "GAP", "Series", "_read_entry", "_law_cell", "_law_source", "_law_draw", "_law_common", "_law_lowest", "_law_whole", "_law_pair", "_law_number"]
def ls2 : List PySem.Str := ["_law_number_text", "_law_word", "_law_fields", "_law_caught", "_law_thing", "_law_good", "_law_entries_right", "_law_read", "_law_is_number", "_law_text_right", "_law_entry_text", "_law_texts_right", "_law_right"]
def looseJ : List PySem.Str := ls0 ++ (ls1 ++ (ls2))
def R1 : PySem.W.OpenRow := PySem.W.OpenLaw.row PySem.Challenge.rw_seriesforms_k08_series_refused
def hkJ : PySem.W.Hook := SJ.hookJ 6 fnJ exJ lamJ
def obJ (s : PySem.W.SharedT) : SJ.AlJ := SJ.obsJ 6 fnJ exJ lamJ (HeadRun.getT s)
theorem ob_eqJ (s : PySem.W.SharedT) : obJ s = hkJ.obs s.abs := SJ.obsJ_eq s
set_option maxHeartbeats 0 in
theorem run1 (w : World) : (HeadRun.wholeF (fun p => HeadRun.stepQ (HeadRun.denQ HeadRun.tabQ) p w) HeadRun.fenceQ 20000 R1.prog).map (fun x => HeadRun.looksF R1.prog x.1.heap x.2.abs) = some true := by kernel_rfl
set_option maxHeartbeats 0 in
theorem run2 (w : World) : (HeadRun.wholeF (fun p => HeadRun.stepQ (HeadRun.denQ HeadRun.tabQ) p w) HeadRun.fenceQ 20000 R1.prog).map (fun x => HeadRun.seenQ (PySem.W.view R1.prog [0, 58]) looseJ (importedModules R1.prog.main.body) (fun s => PySem.W.xlAt (PySem.W.view R1.prog [0, 58]) [] s && PySem.W.recOk R1.toRowW.records s) x.2.abs) = some (PySem.W.openGood (PySem.W.view R1.prog [0, 58]) looseJ) := by kernel_rfl
set_option maxHeartbeats 0 in
theorem run3 (w : World) : (HeadRun.wholeF (fun p => HeadRun.stepQ (HeadRun.denQ HeadRun.tabQ) p w) HeadRun.fenceQ 20000 R1.prog).map (fun x => obJ x.2) = some (SJ.valJ fnJ lamJ) := by kernel_rfl
theorem runJ (w : World) : HeadRun.RunEqI R1 (PySem.W.view R1.prog [0, 58]) hkJ obJ 20000 looseJ w := SJ.map3 (run1 w) (run2 w) (run3 w)
end T08

/-! The class of fractions, def by def. -/
namespace T08
open PySem PySem.Spec PyProof.Rows L2 SF SQ
section
variable {P : Program} {w : World} {K : PySem.W.Frag} {mg : Str → Option Value} {base : Heap} {C : Addr}
theorem ok_isW (T : Tx K mg C) : FnOk P w K mg base CX0 1 T.aIsW T.dIsW ["value"] (spIsW C) := by
  refine T.FIsW.ok scIsW (fun vs H Q E h => ?_) (fun cdv A outer s H vs Q E hr h => ?_)
  · obtain ⟨v, rfl, _⟩ := h
    rfl
  · obtain ⟨v, rfl, h⟩ := h
    refine ⟨_, (pss_one (ps_ret (pe_and (pe_callB call_isi (by rfl) T.rc.isi (by decide +kernel) (pa_cons (pv 0) (pa_cons (pe_bltn (v := .ty "int") (u := .type "int") (by rfl) T.rc.int_ (by decide +kernel) rfl) pa_nil))) (pe_one (pe_not (pe_callB call_isi (by rfl) T.rc.isi (by decide +kernel) (pa_cons (pv 0) (pa_cons (pe_bltn (v := .ty "bool") (u := .type "bool") (by rfl) T.rc.bool_ (by decide +kernel) rfl) pa_nil)))))))), ?_⟩
    rcases h with ⟨t, d, q⟩ | ⟨⟨a, dx, fs, rfl, ha⟩, q⟩
    · have d' := d
      cases d with
      | non => exact ⟨_, rfl, _, _, _, _, false, rfl, .ty _, d'.typ, kit_ty (by decide +kernel), false, rfl, iteF q⟩
      | bl b => exact ⟨_, rfl, _, _, _, _, true, rfl, .ty _, d'.typ, kit_ty (by decide +kernel), true, rfl, iteT ⟨_, rfl, _, _, _, _, true, rfl, .ty _, d'.typ, kit_ty (by decide +kernel), true, rfl, q⟩⟩
      | int i => exact ⟨_, rfl, _, _, _, _, true, rfl, .ty _, d'.typ, kit_ty (by decide +kernel), true, rfl, iteT ⟨_, rfl, _, _, _, _, false, rfl, .ty _, d'.typ, kit_ty (by decide +kernel), false, rfl, q⟩⟩
      | str x => exact ⟨_, rfl, _, _, _, _, false, rfl, .ty _, d'.typ, kit_ty (by decide +kernel), false, rfl, iteF q⟩
      | lst e => exact ⟨_, rfl, _, _, _, _, false, rfl, .ty _, d'.typ, kit_ty (by decide +kernel), false, rfl, iteF q⟩
      | tup e => exact ⟨_, rfl, _, _, _, _, false, rfl, .ty _, d'.typ, kit_ty (by decide +kernel), false, rfl, iteF q⟩
      | dK e => exact ⟨_, rfl, _, _, _, _, false, rfl, .ty _, d'.typ, kit_ty (by decide +kernel), false, rfl, iteF q⟩
    · exact ⟨_, rfl, _, _, _, _, false, rfl, .ty _, .base (.ins ha T.rc.cl T.rc.ca T.rc.cn T.rc.ct T.rc.cm), T.kI, false, rfl, iteF q⟩
theorem ok_isN (T : Tx K mg C) : FnOk P w K mg base CX0 2 T.aIsN T.dIsN ["value"] (spIsN C) := by
  have GW : FnOk P w K mg base CX0 1 T.aIsW T.dIsW ["value"] (spIsW C) := ok_isW T
  refine T.FIsN.ok scIsN (fun vs H Q E h => ?_) (fun cdv A outer s H vs Q E hr h => ?_)
  · obtain ⟨v, rfl, _⟩ := h
    rfl
  · obtain ⟨v, rfl, h⟩ := h
    refine ⟨_, (pss_one (ps_ret (pe_or (pe_callB call_isi (by rfl) T.rc.isi (by decide +kernel) (pa_cons (pv 0) (pa_cons (pe_glob (v := .ref C) (by rfl) T.rc.mgC rfl) pa_nil))) (pe_one (pe_call GW hr (by rfl) T.gIsW T.FIsW.kp T.bIsW .nil pass0 (pa_cons (pv 0) pa_nil)))))), ?_⟩
    rcases h with ⟨t, d, q⟩ | ⟨⟨a, dx, fs, rfl, ha⟩, q⟩
    · exact ⟨_, rfl, v, .ref C, .type t, .ref C, false, rfl, .own C, d.typ, T.rc.kB _ d.mem, false, rfl, iteF ⟨_, rfl, v, rfl, .inl ⟨t, d, q⟩⟩⟩
    · exact ⟨_, rfl, .ref a, .ref C, .ref C, .ref C, true, rfl, .own C, .base (.ins ha T.rc.cl T.rc.ca T.rc.cn T.rc.ct T.rc.cm), T.rc.kC, true, rfl, iteT q⟩
theorem ok_init (T : Tx K mg C) : FnOk P w K mg base CX0 2 T.aIni T.dIni ["self", "top", "bottom"] (spInit C) := by
  have GW : FnOk P w K mg base CX0 1 T.aIsW T.dIsW ["value"] (spIsW C) := ok_isW T
  refine T.FIni.ok scIni (fun vs H Q E h => ?_) (fun cdv A outer s H vs Q E hr h => ?_)
  · obtain ⟨p, dx, t, b, rfl, _⟩ := h
    rfl
  · obtain ⟨p, dx, t, b, rfl, h0, hb, hp, q⟩ := h
    refine ⟨_, PSs.nox ((pss_cons (ps_if (pt_not (pt_val (pe_call GW hr (by rfl) T.gIsW T.FIsW.kp T.bIsW .nil pass0 (pa_cons (pv 1) pa_nil)))) (pss_one ps_never) pss_nil)
      (pss_cons (ps_if (pt_not (pt_val (pe_call GW hr (by rfl) T.gIsW T.FIsW.kp T.bIsW .nil pass0 (pa_cons (pv 2) pa_nil)))) (pss_one ps_never) pss_nil)
      (pss_cons (ps_if (pt_cmpR op_eq (pv 2) pe_int (nomark _)) (pss_one ps_never) pss_nil)
      (pss_cons (ps_set (i := 3) scIni.nd rfl (.inl rfl) (pe_callBfun cr_gcd (by rfl) T.rc.gcd (pa_cons (pv 1) (pa_cons (pv 2) pa_nil))))
      (pss_cons (ps_if (pt_cmpR op_lt (pv 2) pe_int (nomark _)) (pss_one (ps_set (i := 3) scIni.nd rfl (.inl rfl) (pe_un un_neg (pv 3)))) pss_nil)
      (pss_cons (ps_fld (pv 0) (pe_op op_fdivZ (pv 1) (pv 3)) rfl)
      (pss_one (ps_fld (pv 0) (pe_op op_fdivZ (pv 2) (pv 3)) rfl))))))))), ?_⟩
    refine ⟨_, rfl, _, rfl, .inl ⟨_, .int t, _, rfl, iteF ?_⟩⟩
    refine ⟨_, rfl, _, rfl, .inl ⟨_, .int b, _, rfl, iteF ?_⟩⟩
    refine ⟨_, rfl, rfl, _, rfl, ?_⟩
    refine ite2 (fun hc => ?_) (fun _ => ?_)
    · exact (h0 (V.int.inj (of_decide_eq_true hc))).elim
    refine ⟨_, rfl, _, rfl, t, b, rfl, ?_⟩
    have hz := sg_ok (u := t) h0 hb
    refine ⟨_, rfl, _, _, rfl, rfl, _, rfl, ?_⟩
    refine ite2 (fun hc => ?_) (fun hc => ?_)
    · have hl : b < 0 := of_decide_eq_true hc
      have e : sg t b = -gI t b := if_pos hl
      refine ⟨_, rfl, _, rfl, ?_⟩
      rw [e] at hz
      refine ⟨_, rfl, _, rfl, t, _, rfl, rfl, hz, _, rfl, p, C, dx, [], rfl, hp, T.rc.cl, T.rc.nT, (by show 0 < 1000; decide), ?_⟩
      refine ⟨_, rfl, _, rfl, b, _, rfl, rfl, hz, _, rfl, p, C, dx, _, rfl, upd_same, T.rc.cl, T.rc.nB, (by show 1 < 1000; decide), ?_⟩
      show Q .non (upd (upd H p _) p _)
      rw [upd_upd]
      unfold nt nb at q
      rw [e] at q
      exact q
    · have hl : ¬ b < 0 := fun z => hc (decide_eq_true z)
      have e : sg t b = gI t b := if_neg hl
      rw [e] at hz
      refine ⟨_, rfl, _, rfl, t, _, rfl, rfl, hz, _, rfl, p, C, dx, [], rfl, hp, T.rc.cl, T.rc.nT, (by show 0 < 1000; decide), ?_⟩
      refine ⟨_, rfl, _, rfl, b, _, rfl, rfl, hz, _, rfl, p, C, dx, _, rfl, upd_same, T.rc.cl, T.rc.nB, (by show 1 < 1000; decide), ?_⟩
      show Q .non (upd (upd H p _) p _)
      rw [upd_upd]
      unfold nt nb at q
      rw [e] at q
      exact q
theorem ok_top0 {f : Addr} {fd : FuncData} (F : Fun K "top" "Ratio.top" sTop f fd) (T : RC K mg C) : FnOk P w K mg base CX0 1 f fd ["self"] (getSp C "_top") := by
  obtain ⟨oc, od, kV, doc, pm, an, cdv, ct, osl, rfl, lk, hcd⟩ := F.ex
  exact fn_getter lk hcd scTop rfl rfl T.cl T.nT
theorem ok_top (T : Tx K mg C) : FnOk P w K mg base CX0 1 T.aTop T.dTop ["self"] (getSp C "_top") := ok_top0 T.FTop T.rc
theorem ok_bot0 {f : Addr} {fd : FuncData} (F : Fun K "bottom" "Ratio.bottom" sBot f fd) (T : RC K mg C) : FnOk P w K mg base CX0 1 f fd ["self"] (getSp C "_bottom") := by
  obtain ⟨oc, od, kV, doc, pm, an, cdv, ct, osl, rfl, lk, hcd⟩ := F.ex
  exact fn_getter lk hcd scBot rfl rfl T.cl T.nB
theorem ok_bot (T : Tx K mg C) : FnOk P w K mg base CX0 1 T.aBot T.dBot ["self"] (getSp C "_bottom") := ok_bot0 T.FBot T.rc
def DTop (T : Tx K mg C) : Df P w K mg base 1 ["self"] (getSp C "_top") := ⟨_, _, ok_top T, T.bTop⟩
def DBot (T : Tx K mg C) : Df P w K mg base 1 ["self"] (getSp C "_bottom") := ⟨_, _, ok_bot T, T.bBot⟩
theorem ok_as (T : Tx K mg C) : FnOk P w K mg base CX0 4 T.aAs T.dAs ["number"] (spAs C) := by
  have GI : FnOk P w K mg base CX0 2 T.aIni T.dIni ["self", "top", "bottom"] (spInit C) := ok_init T
  refine T.FAs.ok scAs (fun vs H Q E h => ?_) (fun cdv A outer s H vs Q E hr h => ?_)
  · obtain ⟨v, k, n, q, rfl, _⟩ := h
    rfl
  · obtain ⟨v, k, n, q, rfl, nv, hl, z⟩ := h
    refine ⟨_, (pss_cons (ps_if (pt_val (pe_callB call_isi (by rfl) T.rc.isi (by decide +kernel) (pa_cons (pv 0) (pa_cons (pe_glob (v := .ref C) (by rfl) T.rc.mgC rfl) pa_nil)))) (pss_one (ps_ret (pv 0))) pss_nil)
      (pss_one (ps_ret (pe_make T.M GI hr (by rfl) T.rc.mgC T.b1 T.vv pass0 (pa_cons (pv 0) pa_nil))))), ?_⟩
    cases k with
    | true =>
      obtain ⟨a, rfl, r⟩ := nv_true nv
      obtain ⟨⟨dx, ha⟩, _⟩ := id r
      exact ⟨_, rfl, .ref a, .ref C, .ref C, .ref C, true, rfl, .own C, .base (.ins ha T.rc.cl T.rc.ca T.rc.cn T.rc.ct T.rc.cm), T.rc.kC, true, rfl, iteT ⟨_, rfl, z a H (Same.refl _) r⟩⟩
    | false =>
      obtain ⟨i, rfl, rfl, hi, h0⟩ := nv
      refine ⟨_, rfl, .int i, .ref C, .type "int", .ref C, false, rfl, .own C, .base (.int i), T.rc.kB _ (by decide), false, rfl, iteF ?_⟩
      refine ⟨_, rfl, fun x dx hx hd hn => mk_fin hx hd hn (by decide) hi (Nat.one_lt_two_pow (by omega)) hl fun H3 S3 rq => ⟨rfl, z _ H3 S3 ?_⟩⟩
      rw [int_is] at rq
      exact rq
end
end T08

namespace T08
open PySem PySem.Spec PyProof.Rows L2 SF SQ
section
variable {P : Program} {w : World} {K : PySem.W.Frag} {mg : Str → Option Value} {base : Heap} {C : Addr}

theorem ok_Eq (T : Tx K mg C) : FnOk P w K mg base CX0 3 T.aEq T.dEq ["self", "other"] (spEq C) := by
  have GW : FnOk P w K mg base CX0 2 T.aIsW T.dIsW ["value"] (spIsW C) := (ok_isW T).mono (by decide)
  have GT : FnOk P w K mg base CX0 1 T.aTop T.dTop ["self"] (getSp C "_top") := ok_top T
  have GB : FnOk P w K mg base CX0 1 T.aBot T.dBot ["self"] (getSp C "_bottom") := ok_bot T
  refine T.FEq.ok scEq (fun vs H Q E h => ?_) (fun cdv A outer s H vs Q E hr h => ?_)
  · obtain ⟨a, n, q, y, rfl, _⟩ := h
    rfl
  · obtain ⟨a, n, x, y, rfl, ⟨⟨dx, hp⟩, _⟩, q⟩ := h
    refine ⟨_, (pss_cons (ps_if (pt_val (pe_callB call_isi (by rfl) T.rc.isi (by decide +kernel) (pa_cons (pv 1) (pa_cons (pe_glob (v := .ref C) (by rfl) T.rc.mgC rfl) pa_nil)))) (pss_one (ps_ret (pe_and (pe_cmpR op_eq (pe_fld (pv 0) rfl) (pe_prop (pv 1) T.rc.cl T.PTop GT hr T.bTop .nil pass0 rfl) (nomark _)) (pe_one (pe_cmpR op_eq (pe_fld (pv 0) rfl) (pe_prop (pv 1) T.rc.cl T.PBot GB hr T.bBot .nil pass0 rfl) (nomark _)))))) pss_nil)
      (pss_one (ps_ret (pe_and (pe_call GW hr (by rfl) T.gIsW T.FIsW.kp T.bIsW .nil pass0 (pa_cons (pv 1) pa_nil)) (pe_and (pe_cmpR op_eq (pe_fld (pv 0) rfl) pe_int (nomark _)) (pe_one (pe_cmpR op_eq (pe_fld (pv 0) rfl) (pv 1) (nomark _)))))))), ?_⟩
    have q2 : (∃ a' m r, y = .ref a' ∧ RQ C H a' m r ∧ Q (.bl (decide (x = r))) H) ∨ ∃ T, Dec H y T ∧ Q (.bl (eqO y x)) H := by
      rcases q with ⟨k, m, r, nv, q⟩ | q
      · cases k with
        | true => obtain ⟨a', e, r'⟩ := nv; exact .inl ⟨a', m, r, e, r', q⟩
        | false =>
          obtain ⟨i, e, e2, _⟩ := nv
          subst e
          subst e2
          exact .inr ⟨_, .int i, q⟩
      · exact .inr q
    rcases q2 with ⟨a', m, r, rfl, ⟨⟨dx', hp'⟩, _⟩, q⟩ | ⟨ty, d, q⟩
    · refine ⟨_, rfl, .ref a', .ref C, .ref C, .ref C, true, rfl, .own C, .base (.ins hp' T.rc.cl T.rc.ca T.rc.cn T.rc.ct T.rc.cm), T.rc.kC, true, rfl, iteT ?_⟩
      refine ⟨_, rfl, a, C, dx, _, _, rfl, hp, T.rc.cl, T.rc.nT, rf_top _ _, _, rfl, a', dx', _, rfl, hp', a', dx', _, _, rfl, hp', rf_top _ _, rfl, _, rfl, ?_⟩
      rw [dint]
      rw [← eq_bools] at q
      refine ite2 (fun hc => ?_) (fun hc => ?_)
      · rw [hc, Bool.true_and] at q
        refine ⟨_, rfl, a, C, dx, _, _, rfl, hp, T.rc.cl, T.rc.nB, rf_bot _ _, _, rfl, a', dx', _, rfl, hp', a', dx', _, _, rfl, hp', rf_bot _ _, rfl, ?_⟩
        rw [dint]
        exact q
      · have e := Bool.eq_false_iff.mpr hc
        rw [e, Bool.false_and] at q
        exact q
    · refine ⟨_, rfl, y, .ref C, .type ty, .ref C, false, rfl, .own C, d.typ, T.rc.kB _ d.mem, false, rfl, iteF ?_⟩
      refine ⟨_, rfl, y, rfl, .inl ⟨ty, d, isI y, rfl, ?_⟩⟩
      cases d with
      | int i =>
        refine iteT ⟨_, rfl, a, C, dx, _, _, rfl, hp, T.rc.cl, T.rc.nB, rf_bot _ _, rfl, _, rfl, ?_⟩
        rw [dint]
        have e0 : eqO (.int i) x = decide (x = (i : Rat)) := rfl
        rw [e0, ← SQ.eq_int] at q
        refine ite2 (fun hc => ?_) (fun hc => ?_)
        · rw [hc, Bool.true_and] at q
          refine ⟨_, rfl, a, C, dx, _, _, rfl, hp, T.rc.cl, T.rc.nT, rf_top _ _, _, rfl, rfl, ?_⟩
          rw [dint]
          exact q
        · have e := Bool.eq_false_iff.mpr hc
          rw [e, Bool.false_and] at q
          exact q
      | non => exact iteF q
      | bl x => exact iteF q
      | str x => exact iteF q
      | lst e => exact iteF q
      | tup e => exact iteF q
      | dK e => exact iteF q
theorem line5 : 5000 ≤ sizeLine := by decide
theorem tlog {i : Int} {n : Nat} (h : i.natAbs < 2 ^ n) (hn : n ≤ 1900) : i.natAbs.log2 < 1920 := Nat.lt_of_lt_of_le (PySem.Flt.log2_lt_of (k := 1900) (by decide) (Nat.lt_of_lt_of_le h (two_le hn))) (by decide)
theorem tx_len {i : Int} {n : Nat} (h : i.natAbs < 2 ^ n) (hn : n ≤ 1900) : (tx i).length ≤ 1921 := PyProof.Rows.int_text_len_1921 (tlog h hn)
theorem ok_Str (T : Tx K mg C) : FnOk P w K mg base CX0 1 T.aStr T.dStr ["self"] (spStr C) := by
  refine T.FStr.ok scStr (fun vs H Q E h => ?_) (fun cdv A outer s H vs Q E hr h => ?_)
  · obtain ⟨a, n, q, rfl, _⟩ := h
    rfl
  · obtain ⟨a, n, x, rfl, ⟨⟨dx, hp⟩, sz⟩, hn, q⟩ := h
    have l5 := line5
    have lt : x.num.natAbs.log2 < 1920 := tlog sz.1 hn
    have lb : ((x.den : Int)).natAbs.log2 < 1920 := tlog (show (x.den : Int).natAbs < 2 ^ n from sz.2) hn
    have x1 : (Str.ofString (toString x.num)).length ≤ 1921 := tx_len sz.1 hn
    have x2 : (Str.ofString (toString (x.den : Int))).length ≤ 1921 := tx_len (show (x.den : Int).natAbs < 2 ^ n from sz.2) hn
    refine ⟨_, (pss_cons (ps_if (pt_cmpR op_eq (pe_fld (pv 0) rfl) pe_int (nomark _)) (pss_one (ps_ret (pe_callTy call_str_int (by rfl) T.rc.str_ (by decide +kernel) (pa_cons (pe_fld (pv 0) rfl) pa_nil)))) pss_nil)
      (pss_one (ps_ret (pe_joined (.cons (pe_fmt (pe_fld (pv 0) rfl)) (.cons pe_str (.cons (pe_fmt (pe_fld (pv 0) rfl)) .nil))))))), ?_⟩
    refine ⟨_, rfl, a, C, dx, _, _, rfl, hp, T.rc.cl, T.rc.nB, rf_bot _ _, rfl, _, rfl, ?_⟩
    refine ite2 (fun hc => ?_) (fun hc => ?_)
    · have e : (x.den : Int) = 1 := V.int.inj (of_decide_eq_true hc)
      refine ⟨_, rfl, a, C, dx, _, _, rfl, hp, T.rc.cl, T.rc.nT, rf_top _ _, _, rfl, lt, ?_⟩
      have e2 : rstr x = tx x.num := if_pos (by omega)
      rw [e2] at q
      exact q
    · have e : ¬ (x.den : Int) = 1 := fun z => hc (decide_eq_true (congrArg V.int z))
      have e2 : rstr x = ((Str.empty ++ tx x.num) ++ ("/" : Str)) ++ tx x.den := if_neg (by omega)
      rw [e2] at q
      have s1 : ("/" : Str).length = 1 := rfl
      refine ⟨_, rfl, a, C, dx, _, _, rfl, hp, T.rc.cl, T.rc.nT, rf_top _ _, .inr ⟨_, rfl, lt, _, rfl, ?_, _, rfl, ?_, _, rfl, a, C, dx, _, _, rfl, hp, T.rc.cl, T.rc.nB, rf_bot _ _, .inr ⟨_, rfl, lb, _, rfl, ?_, q⟩⟩⟩
      · rw [Str.length_append]
        have : Str.empty.length = 0 := rfl
        omega
      · rw [Str.length_append, Str.length_append, s1]
        have : Str.empty.length = 0 := rfl
        omega
      · rw [Str.length_append, Str.length_append, Str.length_append, s1]
        have : Str.empty.length = 0 := rfl
        omega
theorem ok_Repr (T : Tx K mg C) : FnOk P w K mg base CX0 1 T.aRepr T.dRepr ["self"] (spRepr C) := by
  refine T.FRepr.ok scRepr (fun vs H Q E h => ?_) (fun cdv A outer s H vs Q E hr h => ?_)
  · obtain ⟨a, n, q, rfl, _⟩ := h
    rfl
  · obtain ⟨a, n, x, rfl, ⟨⟨dx, hp⟩, sz⟩, hn, q⟩ := h
    have l5 := line5
    have lt : x.num.natAbs.log2 < 1920 := tlog sz.1 hn
    have lb : ((x.den : Int)).natAbs.log2 < 1920 := tlog (show (x.den : Int).natAbs < 2 ^ n from sz.2) hn
    have x1 : (Str.ofString (toString x.num)).length ≤ 1921 := tx_len sz.1 hn
    have x2 : (Str.ofString (toString (x.den : Int))).length ≤ 1921 := tx_len (show (x.den : Int).natAbs < 2 ^ n from sz.2) hn
    have s0 : Str.empty.length = 0 := rfl
    have s1 : ("Ratio(" : Str).length = 6 := rfl
    have s2 : (", " : Str).length = 2 := rfl
    have s3 : (")" : Str).length = 1 := rfl
    refine ⟨_, (pss_one (ps_ret (pe_joined (.cons pe_str (.cons (pe_fmt (pe_fld (pv 0) rfl)) (.cons pe_str (.cons (pe_fmt (pe_fld (pv 0) rfl)) (.cons pe_str .nil)))))))), ?_⟩
    refine ⟨_, rfl, ?_, _, rfl, a, C, dx, _, _, rfl, hp, T.rc.cl, T.rc.nT, rf_top _ _, .inr ⟨_, rfl, lt, _, rfl, ?_, _, rfl, ?_, _, rfl, a, C, dx, _, _, rfl, hp, T.rc.cl, T.rc.nB, rf_bot _ _, .inr ⟨_, rfl, lb, _, rfl, ?_, _, rfl, ?_, q⟩⟩⟩
    · simp only [Str.length_append]; omega
    · simp only [Str.length_append]; omega
    · simp only [Str.length_append]; omega
    · simp only [Str.length_append]; omega
    · simp only [Str.length_append]; omega
end
end T08

namespace T08
open PySem PySem.Spec PyProof.Rows L2 SF SQ
section
variable {P : Program} {w : World} {K : PySem.W.Frag} {mg : Str → Option Value} {base : Heap} {C : Addr}
theorem line640 : 640 ≤ sizeLine := by decide
theorem ok_IsP (T : Tx K mg C) : FnOk P w K mg base CX0 1 T.aIsP T.dIsP ["text"] spIsP := by
  refine T.FIsP.ok scIsP (fun vs H Q E h => ?_) (fun cdv A outer s H vs Q E hr h => ?_)
  · obtain ⟨x, rfl, _⟩ := h
    rfl
  · obtain ⟨x, rfl, hl, q⟩ := h
    refine ⟨_, (pss_one (ps_ret (pe_and (pe_m0 F.slot_str_isascii F.type_str_isascii mt_isascii (pv 0)) (pe_and (pe_m0 F.slot_str_isdigit F.type_str_isdigit mt_isdigit (pv 0)) (pe_one (pe_cmpR op_ne (pe_ix ix_str (pv 0) pe_int (fun _ _ => rfl)) pe_str (nomark _))))))), ?_⟩
    have e0 : posT x = (Txt.isascii x && (Txt.isdigit x && !decide ((TL.tl x).head? = some 48))) := rfl
    rw [e0] at q
    refine ⟨_, rfl, ⟨_, rfl⟩, x, rfl, rfl, trivial, _, rfl, ?_⟩
    refine ite2 (fun h1 => ?_) (fun h1 => ?_)
    · rw [h1, Bool.true_and] at q
      refine ⟨_, rfl, ⟨_, rfl⟩, x, rfl, rfl, trivial, _, rfl, ?_⟩
      refine ite2 (fun h2 => ?_) (fun h2 => ?_)
      · rw [h2, Bool.true_and] at q
        obtain ⟨c, l, e⟩ : ∃ c l, TL.tl x = c :: l := by
          cases e : TL.tl x with
          | nil =>
            unfold Txt.isdigit at h2
            have := of_decide_eq_true (Bool.and_eq_true_iff.mp h2).1
            rw [TL.len_tl, e] at this
            exact absurd this (by simp)
          | cons c l => exact ⟨c, l, rfl⟩
        refine ⟨_, rfl, x, 0, c, rfl, rfl, Nat.le_trans hl line640, (by rw [show x.cps.toList = c :: l from e]; show atI (c :: l) ((0 : Nat) : Int) = some c; exact atI_nat rfl), rfl, ?_⟩
        have e2 : decide (V.str ⟨#[c]⟩ = V.str "0") = decide ((TL.tl x).head? = some 48) := by
          rw [e]
          by_cases hc : c = 48
          · subst hc; rfl
          · rw [decide_eq_false (fun z => hc (by have z1 := congrArg (fun s : Str => TL.tl s) (V.str.inj z); have z2 : [c] = [48] := z1; injection z2)), decide_eq_false (fun z => hc (by injection z))]
        rw [e2]
        exact q
      · rw [Bool.eq_false_iff.mpr h2, Bool.false_and] at q
        exact q
    · rw [Bool.eq_false_iff.mpr h1, Bool.false_and] at q
      exact q
theorem str_emp {x : Str} : decide (V.str x = V.str "") = decide (x = ("" : Str)) := by
  by_cases h : x = ""
  · rw [h]; simp
  · rw [decide_eq_false h, decide_eq_false (fun z => h (V.str.inj z))]
theorem str_dec {x y : Str} : decide (V.str x = V.str y) = decide (x = y) := by
  by_cases h : x = y
  · rw [h]; simp
  · rw [decide_eq_false h, decide_eq_false (fun z => h (V.str.inj z))]
theorem rp_len (x : Str) : (Txt.removeprefix x "-").length ≤ x.length := by
  by_cases h : (TL.tl x).head? = some 45
  · cases e : TL.tl x with
    | nil => rw [e] at h; cases h
    | cons c l =>
      rw [e] at h
      simp at h
      subst h
      rw [TL.len_tl, TL.len_tl, rp_neg e, e]
      simp
  · rw [rp_same h]; exact Nat.le_refl _
theorem top_test {σ : L2.St} {H : Hp} {Q : Bool → Hp → Prop} {a : Str} (ha : σ[1]? = some (some (V.str a))) (la : a.length ≤ 640) (z : Q (!(decide (a = ("0" : Str)) || posT (Txt.removeprefix a "-"))) H) :
    tAnd (tTest (tOp rNe (tVar 1) (tC (V.str "0")))) (tNot (tB (tCall spIsP [] E0 (tCons (tM1 (fun x xs H Q => ∃ a b, x = .str a ∧ xs = [.str b] ∧ a.length ≤ sizeLine ∧ Q (.str (Txt.removeprefix a b)) H) (tVar 1) (tC (V.str "-"))) tNil)))) σ H Q := by
  have l6 := line640
  have lr := rp_len a
  refine ⟨_, ha, rfl, _, rfl, ?_⟩
  rw [str_dec]
  by_cases h : a = ("0" : Str)
  · rw [decide_eq_true h] at z ⊢
    exact iteF z
  · rw [decide_eq_false h, Bool.false_or] at z
    rw [decide_eq_false h]
    exact iteT ⟨_, ha, ⟨_, rfl⟩, a, "-", rfl, rfl, Nat.le_trans la l6, _, rfl, by omega, _, rfl, z⟩
theorem ok_IsT (T : Tx K mg C) : FnOk P w K mg base CX0 2 T.aIsT T.dIsT ["text"] spIsT := by
  have GP : FnOk P w K mg base CX0 1 T.aIsP T.dIsP ["text"] spIsP := ok_IsP T
  refine T.FIsT.ok scIsT (fun vs H Q E h => ?_) (fun cdv A outer s H vs Q E hr h => ?_)
  · obtain ⟨x, rfl, _⟩ := h
    rfl
  · obtain ⟨x, rfl, hl, q⟩ := h
    have l6 := line640
    refine ⟨_, (pss_cons (ps_if (pt_not (pt_val (pe_callB call_isi (by rfl) T.rc.isi (by decide +kernel) (pa_cons (pv 0) (pa_cons (pe_bltn (v := .ty "str") (u := .type "str") (by rfl) T.rc.str_ (by decide +kernel) rfl) pa_nil))))) (pss_one (ps_ret pe_bl)) pss_nil)
      (pss_cons (ps_asg (pe_partition (pv 0) pe_str) (pg_tup rfl (pgs_cons (pg_name (i := 1) scIsT.nd rfl (.inl rfl)) (pgs_cons (pg_name (i := 2) scIsT.nd rfl (.inl rfl)) (pgs_cons (pg_name (i := 3) scIsT.nd rfl (.inl rfl)) pgs_nil)))))
      (pss_cons (ps_if (pt_weak (t' := fun σ H Q => ∃ a : Str, σ[1]? = some (some (V.str a)) ∧ a.length ≤ 640 ∧ Q (!(decide (a = ("0" : Str)) || posT (Txt.removeprefix a "-"))) H) (PW.pt (pw_and (pt_cmpR op_ne (pv 1) pe_str (nomark _)) (pw_and1 (pt_not (pt_val (pe_call GP hr (by rfl) T.gIsP T.FIsP.kp T.bIsP .nil pass0 (pa_cons (pe_m1 F.slot_str_removeprefix F.type_str_removeprefix mt_removeprefix (pv 1) pe_str) pa_nil))))))) (fun σ H Q ⟨a, ha, la, z⟩ => top_test ha la z)) (pss_one (ps_ret pe_bl)) pss_nil)
      (pss_cons (ps_if (pt_cmpR op_eq (pv 2) pe_str (nomark _)) (pss_one (ps_ret pe_bl)) pss_nil)
      (pss_one (ps_ret (pe_and (pe_call GP hr (by rfl) T.gIsP T.FIsP.kp T.bIsP .nil pass0 (pa_cons (pv 3) pa_nil)) (pe_and (pe_cmpR op_ne (pv 3) pe_str (nomark _)) (pe_one (pe_cmpR op_eq (pe_callBfun cr_gcd (by rfl) T.rc.gcd (pa_cons (pe_callTy call_int_str (by rfl) T.rc.int_ (by decide +kernel) (pa_cons (pv 1) pa_nil)) (pa_cons (pe_callTy call_int_str (by rfl) T.rc.int_ (by decide +kernel) (pa_cons (pv 3) pa_nil)) pa_nil))) pe_int (nomark _))))))))))), ?_⟩
    refine ⟨_, rfl, _, _, _, _, true, rfl, .ty _, (Dec.str x).typ, kit_ty (by decide +kernel), true, rfl, iteF ?_⟩
    refine ⟨_, rfl, ⟨_, rfl⟩, x, "/", rfl, rfl, rfl, Nat.le_trans hl l6, fun t nt => ?_⟩
    generalize hE : upd H t _ = H1
    have ht := upd_got hE
    have st := upd_stay hE nt
    have q := q H1 st
    have pl := part_len x
    unfold isTx at q
    generalize Txt.partition x "/" = pp at ht q pl
    obtain ⟨a, b, c⟩ := pp
    dsimp only at ht q pl
    refine ⟨t, _, rfl, SqT.of ht, rfl, _, _, rfl, _, _, rfl, _, _, rfl, rfl, ?_⟩
    have la : a.length ≤ 640 := Nat.le_trans pl.1 hl
    have lc : c.length ≤ 640 := Nat.le_trans pl.2 hl
    refine ⟨a, rfl, la, ?_⟩
    refine ite2 (fun h1 => ?_) (fun h1 => ?_)
    · have e : (decide (a = ("0" : Str)) || posT (Txt.removeprefix a "-")) = false := by simpa using h1
      rw [e, Bool.false_and] at q
      exact q
    have htop : (decide (a = ("0" : Str)) || posT (Txt.removeprefix a "-")) = true := by cases e : (decide (a = ("0" : Str)) || posT (Txt.removeprefix a "-")) with | true => rfl | false => rw [e] at h1; exact absurd rfl h1
    rw [htop, Bool.true_and] at q
    refine ⟨_, rfl, rfl, _, rfl, ?_⟩
    rw [str_dec]
    refine ite2 (fun h2 => ?_) (fun h2 => ?_)
    · rw [h2, Bool.true_or] at q
      exact q
    rw [Bool.eq_false_iff.mpr h2, Bool.false_or] at q
    refine ⟨_, rfl, c, rfl, lc, _, rfl, ?_⟩
    refine ite2 (fun h3 => ?_) (fun h3 => ?_)
    · rw [h3, Bool.true_and] at q
      refine ⟨_, rfl, rfl, _, rfl, ?_⟩
      rw [str_dec]
      refine ite2 (fun h4 => ?_) (fun h4 => ?_)
      · rw [h4, Bool.true_and] at q
        refine ⟨_, rfl, a, iv a, rfl, iv_top htop (by omega), la, _, rfl, c, iv c, rfl, iv_pos h3 (by omega), lc, _, _, rfl, rfl, ?_⟩
        rw [dint]
        exact q
      · rw [Bool.eq_false_iff.mpr h4, Bool.false_and] at q
        exact q
    · rw [Bool.eq_false_iff.mpr h3, Bool.false_and] at q
      exact q
theorem ok_Rd (T : Tx K mg C) : FnOk P w K mg base CX0 4 T.aRd T.dRd ["cls", "text"] (spRd C) := by
  have GI : FnOk P w K mg base CX0 2 T.aIni T.dIni ["self", "top", "bottom"] (spInit C) := ok_init T
  have GT : FnOk P w K mg base CX0 2 T.aIsT T.dIsT ["text"] spIsT := ok_IsT T
  refine T.FRd.ok scRd (fun vs H Q E h => ?_) (fun cdv A outer s H vs Q E hr h => ?_)
  · obtain ⟨x, rfl, _⟩ := h
    rfl
  · obtain ⟨x, rfl, hl, hx, q⟩ := h
    have l6 := line640
    have hr2 := hr.mono (show 2 ≤ 3 by decide)
    refine ⟨_, PSs.nox (pss_cons (ps_if (pt_not (pt_val (pe_call GT hr2 (by rfl) T.gIsT T.FIsT.kp T.bIsT .nil pass0 (pa_cons (pv 1) pa_nil)))) (pss_one ps_never) pss_nil)
      (pss_cons (ps_asg (pe_partition (pv 1) pe_str) (pg_tup rfl (pgs_cons (pg_name (i := 2) scRd.nd rfl (.inl rfl)) (pgs_cons (pg_name (i := 3) scRd.nd rfl (.inl rfl)) (pgs_cons (pg_name (i := 4) scRd.nd rfl (.inl rfl)) pgs_nil)))))
      (pss_cons (ps_if (pt_cmpR op_eq (pv 3) pe_str (nomark _)) (pss_one (ps_ret (pe_makeL (i := 0) T.M GI hr rfl (.inl rfl) T.b1 T.vv pass0 (pa_cons (pe_callTy call_int_str (by rfl) T.rc.int_ (by decide +kernel) (pa_cons (pv 2) pa_nil)) pa_nil)))) pss_nil)
      (pss_one (ps_ret (pe_makeL (i := 0) T.M GI hr rfl (.inl rfl) T.b2 .nil pass0 (pa_cons (pe_callTy call_int_str (by rfl) T.rc.int_ (by decide +kernel) (pa_cons (pv 2) pa_nil)) (pa_cons (pe_callTy call_int_str (by rfl) T.rc.int_ (by decide +kernel) (pa_cons (pv 4) pa_nil)) pa_nil)))))))), ?_⟩
    refine ⟨_, rfl, x, rfl, hl, fun H0 s0 => ⟨_, rfl, ?_⟩⟩
    rw [hx]
    refine iteF ?_
    refine ⟨_, rfl, ⟨_, rfl⟩, x, "/", rfl, rfl, rfl, Nat.le_trans hl l6, fun t nt => ?_⟩
    generalize hE : upd H0 t _ = H1
    have ht := upd_got hE
    have st := upd_stay hE nt
    have s1 := s0.trans st
    have pl := part_len x
    unfold isTx at hx
    unfold rdq at q
    generalize Txt.partition x "/" = pp at ht q pl hx
    obtain ⟨a, b, c⟩ := pp
    dsimp only at ht q pl hx
    have la : a.length ≤ 640 := Nat.le_trans pl.1 hl
    have lc : c.length ≤ 640 := Nat.le_trans pl.2 hl
    obtain ⟨htop, hx⟩ := Bool.and_eq_true_iff.mp hx
    have ai := iv_lt htop la
    refine ⟨t, _, rfl, SqT.of ht, rfl, _, _, rfl, _, _, rfl, _, _, rfl, rfl, ?_⟩
    refine ⟨_, rfl, rfl, _, rfl, ?_⟩
    rw [str_dec]
    refine ite2 (fun h2 => ?_) (fun h2 => ?_)
    · have h2 : b = ("" : Str) := of_decide_eq_true h2
      rw [if_pos h2] at q
      refine ⟨rfl, _, rfl, a, iv a, rfl, iv_top htop (by omega), la, ?_⟩
      refine fun x dx hx hd hn => mk_fin hx hd hn (by decide) ai (Nat.one_lt_two_pow (by decide)) (by decide) fun H3 S3 rq => ⟨rfl, q _ H3 (s1.trans S3) ?_⟩
      rw [int_is] at rq
      exact rq
    · have h2 : ¬ b = ("" : Str) := fun z => h2 (decide_eq_true z)
      rw [if_neg h2] at q
      rw [decide_eq_false h2, Bool.false_or] at hx
      obtain ⟨hc, _⟩ := Bool.and_eq_true_iff.mp hx
      refine ⟨rfl, _, rfl, a, iv a, rfl, iv_top htop (by omega), la, _, rfl, c, iv c, rfl, iv_pos hc (by omega), lc, ?_⟩
      exact fun x dx hx hd hn => mk_fin hx hd hn (ivp_ne hc lc) ai (ivp_lt hc lc) (by decide) fun H3 S3 rq => ⟨rfl, q _ H3 (s1.trans S3) rq⟩
end
end T08

namespace T08
open PySem PySem.Spec PyProof.Rows L2 SF SQ
/-- the built-in names that the law's helpers call -/
structure Blt (mg : Str → Option Value) : Prop where
  len : mg "len" = none
  int : mg "int" = none
  abs : mg "abs" = none
  dvm : mg "divmod" = none
def Tx.blt {K : PySem.W.Frag} {mg : Str → Option Value} {C : Addr} (T : Tx K mg C) : Blt mg := ⟨T.len, T.rc.int_, T.rc.abs_, T.dvm⟩
section
variable {P : Program} {w : World} {K : PySem.W.Frag} {mg : Str → Option Value} {base : Heap}
def spCell (K : PySem.W.Frag) : Sp := fun vs H Q _ => ∃ (a : Addr) (ns : List Int) (k : Int), vs = [.ref a, .int k] ∧ SqL K H a (ns.map V.int) ∧ ns.length ≤ 63 ∧ 0 ≤ k ∧ k ≤ 63 ∧ ∀ z H', Same H H' → Q (.int z) H'
theorem ok_cell {f : Addr} {fd : FuncData} (F : Fun K "_law_cell" "_law_cell" sCell f fd) (T : Blt mg) : FnOk P w K mg base CX0 1 f fd ["_law_cells", "_law_k"] (spCell K) := by
  refine F.ok scCell (fun vs H Q E h => ?_) (fun cdv A outer s H vs Q E hr h => ?_)
  · obtain ⟨a, ns, k, rfl, _⟩ := h
    rfl
  · obtain ⟨a, ns, k, rfl, hS, hl, h0, h1, q⟩ := h
    refine ⟨_, pss_cons (ps_if (pt_cmpR op_lt (pv 1) (pe_callB call_len_seq (by rfl) T.len PySem.boot_len (pa_cons (pv 0) pa_nil)) (nomark _)) (pss_one (ps_ret (pe_callTy call_int1 (by rfl) T.int (by decide +kernel) (pa_cons (pe_ix ix_list (pv 0) (pv 1) (fun _ _ => rfl)) pa_nil)))) pss_nil)
      (pss_cons (ps_set (i := 2) scCell.nd rfl (.inl rfl) (pe_op op_add (pe_op op_add pe_int (pe_op op_mul (pe_op op_mul pe_int (pv 1)) (pv 1))) (pe_op op_mul pe_int (pv 1))))
      (pss_cons (ps_for PassesOwn.never rfl (pi_list (pe_slice sl_list (pv 0) po_none (po_some pe_int))) (pg_name (i := 3) scCell.nd rfl (.inl rfl))
        (pss_one (ps_set (i := 2) scCell.nd rfl (.inl rfl) (pe_op op_mod (pe_callTy call_int1 (by rfl) T.int (by decide +kernel) (pa_cons (pe_op op_add (pe_op op_mul (pv 2) pe_int) (pe_op op_mul (pe_callTy call_int1 (by rfl) T.int (by decide +kernel) (pa_cons (pv 3) pa_nil)) (pe_op op_add (pv 1) pe_int))) pa_nil)) pe_int))))
      (pss_one (ps_ret (pv 2))))), ?_⟩
    refine ⟨_, rfl, _, rfl, a, _, rfl, .inl hS, _, _, rfl, rfl, _, rfl, ?_⟩
    have hlen : ((ns.map V.int).length : Int) = (ns.length : Int) := by rw [List.length_map]
    refine ite2 (fun hc => ?_) (fun hc => ?_)
    · have hk : k < (ns.length : Int) := by rw [← hlen]; exact of_decide_eq_true hc
      have hj : k.toNat < ns.length := by omega
      refine ⟨_, rfl, _, rfl, a, _, k, .int ns[k.toNat], rfl, rfl, hS, at_of (j := k.toNat) (by omega) (by rw [List.getElem?_map, List.getElem?_eq_getElem hj]; rfl), .inl ⟨_, rfl, ?_⟩⟩
      exact q _ _ (Same.refl _)
    · refine ⟨_, rfl, 7, k, rfl, rfl, .inl ⟨by decide, by decide⟩, _, rfl, _, _, rfl, rfl, .inr ⟨by omega, by omega⟩, _, _, rfl, rfl, _, rfl, 3, k, rfl, rfl, .inl ⟨by decide, by decide⟩, _, _, rfl, rfl, ?_⟩
      refine ⟨_, rfl, _, rfl, a, _, rfl, hS, fun p hp => ?_⟩
      have hp' : H p = none := hp
      refine ⟨p, rfl, ⟨_, SqL.of upd_same⟩, for_list (K := K) (a := p) (xs := cutV (ns.map V.int) none (some 4)) (fun i σ H' => H' = upd H p (.lst (cutV (ns.map V.int) none (some 4))) ∧ ∃ m v, σ = [some (.ref a), some (.int k), some (.int m), v]) ⟨rfl, _, none, rfl⟩ (fun i σ H' _ ⟨e, _⟩ => by rw [e]; exact SqL.of upd_same) ?_ ?_⟩
      · rintro i y σ H' hi ⟨rfl, m, v, rfl⟩
        obtain ⟨z, rfl⟩ : ∃ z, y = V.int z := by
          have hm : y ∈ cutV (ns.map V.int) none (some 4) := List.mem_of_getElem? hi
          unfold cutV at hm
          obtain ⟨z, _, e⟩ := List.mem_map.mp (List.mem_of_mem_drop (List.mem_of_mem_take hm))
          exact ⟨z, e.symm⟩
        refine ⟨_, rfl, m, 69621, rfl, rfl, .inr ⟨by decide, by decide⟩, _, rfl, .inl ⟨z, rfl, _, rfl, _, _, rfl, rfl, z, k + 3, rfl, rfl, .inr ⟨by omega, by omega⟩, _, _, rfl, rfl, .inl ⟨_, rfl, _, _, rfl, rfl, (by show (0 : Int) < 2147483629; decide), ?_⟩⟩⟩
        exact ⟨rfl, _, _, rfl⟩
      · rintro σ H' ⟨rfl, m, v, rfl⟩
        refine ⟨_, rfl, q _ _ fun b o e => ?_⟩
        rw [upd_ne (ne_of_none e hp')]
        exact e
/-- a list of three ints: the law's source of draws -/
def SrcAt (H : Hp) (a : Addr) : Prop := ∃ x y z : Int, H a = some (.lst [.int x, .int y, .int z])
/-- all that was tracked but the thing at a is as it was -/
def But (a : Addr) (H H' : Hp) : Prop := ∀ b o, b ≠ a → H b = some o → H' b = some o
theorem But.refl (a : Addr) (H : Hp) : But a H H := fun _ _ _ e => e
theorem But.trans {a : Addr} {H H1 H2 : Hp} (x : But a H H1) (y : But a H1 H2) : But a H H2 := fun b o n e => y b o n (x b o n e)
theorem But.upd {a : Addr} {H : Hp} {o : HO} : But a H (upd H a o) := fun b u n e => by rw [upd_ne n]; exact e
theorem But.new {a p : Addr} {H H1 : Hp} {o : HO} (x : But a H H1) (h : H1 p = none) : But a H (L2.upd H1 p o) := fun b u n e => by rw [upd_ne (ne_of_none (x b u n e) h)]; exact x b u n e
theorem SrcAt.ne {H : Hp} {a p : Addr} (s : SrcAt H a) (h : H p = none) : a ≠ p := by
  obtain ⟨x, y, z, e⟩ := s
  exact ne_of_none e h

def spSource : Sp := fun vs H Q _ => ∃ c : Int, vs = [.int c] ∧ ∀ p H', H p = none → Same H H' → SrcAt H' p → Q (.ref p) H'
theorem ok_source {f : Addr} {fd : FuncData} (F : Fun K "_law_source" "_law_source" sSrc f fd) (T : Blt mg) : FnOk P w K mg base CX0 1 f fd ["_law_cell_here"] spSource := by
  refine F.ok scSrc (fun vs H Q E h => ?_) (fun cdv A outer s H vs Q E hr h => ?_)
  · obtain ⟨c, rfl, _⟩ := h
    rfl
  · obtain ⟨c, rfl, q⟩ := h
    refine ⟨_, pss_cons (ps_set (i := 1) scSrc.nd rfl (.inl rfl) (pe_ifExp (pt_cmpR op_ge (pe_callB call_abs (by rfl) T.abs (by decide +kernel) (pa_cons (pv 0) pa_nil)) (pe_op op_pow pe_int pe_int) (nomark _)) (pe_callB call_abs (by rfl) T.abs (by decide +kernel) (pa_cons (pv 0) pa_nil)) pe_int))
      (pss_one (ps_ret (pe_lst (pa_cons (pe_op op_mod (pe_callTy call_int1 (by rfl) T.int (by decide +kernel) (pa_cons (pe_op op_add (pe_op op_mul (pv 0) pe_int) pe_int) pa_nil)) pe_int) (pa_cons (pv 1) (pa_cons pe_int pa_nil)))))), ?_⟩
    have tail : ∀ g : Int, tRet (tLst (tCons (tOp (rI (fun _ j => 0 < j) fun i j => V.int (i % j)) (tCB (fun xs H Q => (∃ i, xs = [V.int i] ∧ Q (V.int i) H) ∨ ∃ k, xs = [V.bl k] ∧ Q (V.int (if k = true then 1 else 0)) H) (tCons (tOp (rI0 fun i j => V.int (i + j)) (tOp (rI CMul fun i j => V.int (i * j)) (tVar 0) (tC (V.int 48271))) (tC (V.int 977))) tNil)) (tC (V.int 2147483629))) (tCons (tVar 1) (tCons (tC (V.int 0)) tNil))))
        { nx := fun _ H' => Q .non H', rt := Q } [some (.int c), some (.int g)] H := fun g => by
      refine ⟨_, rfl, c, 48271, rfl, rfl, .inr ⟨by decide, by decide⟩, _, _, rfl, rfl, .inl ⟨_, rfl, _, _, rfl, rfl, (by show (0 : Int) < 2147483629; decide), _, rfl, (by show 3 ≤ sizeLine; decide), fun p hp => ?_⟩⟩
      have hp' : H p = none := hp
      exact q p _ hp' (fun b o e => by rw [upd_ne (ne_of_none e hp')]; exact e) ⟨_, _, _, upd_same⟩
    refine ⟨_, rfl, c, rfl, 10, 18, rfl, rfl, ⟨by decide, by decide, by decide⟩, _, _, rfl, rfl, _, rfl, ?_⟩
    refine ite2 (fun _ => ?_) (fun _ => ?_)
    · exact ⟨_, rfl, c, rfl, tail _⟩
    · exact tail 0

def spDraw : Sp := fun vs H Q _ => ∃ (a : Addr) (m : Int), vs = [.ref a, .int m] ∧ 0 < m ∧ m ≤ 100000000000000000000 ∧ SrcAt H a ∧ ∀ d H', 0 ≤ d → d < m → SrcAt H' a → But a H H' → Q (.int d) H'
theorem log_of {m : Int} (h0 : 0 < m) (h : m ≤ 100000000000000000000) : m.natAbs.log2 < 9000 := by
  have e : m.natAbs < 2 ^ 70 := by omega
  exact Nat.lt_of_lt_of_le (PySem.Flt.log2_lt_of (by decide) e) (by decide)
theorem ok_draw {f : Addr} {fd : FuncData} (F : Fun K "_law_draw" "_law_draw" sDraw f fd) (T : Blt mg) : FnOk P w K mg base CX0 1 f fd ["_law_source_here", "_law_many"] spDraw := by
  refine F.ok scDraw (fun vs H Q E h => ?_) (fun cdv A outer s H vs Q E hr h => ?_)
  · obtain ⟨a, m, rfl, _⟩ := h
    rfl
  · obtain ⟨a, m, rfl, h0, h1, ⟨x, y, z, hs⟩, q⟩ := h
    have hL := log_of h0 h1
    have pt : m.natAbs.log2 < 9000 := hL
    refine ⟨_, pss_cons (ps_asg (pe_op op_add (pe_ix ix_list (pv 0) pe_int (fun _ _ => rfl)) pe_int) (pg_sub (pv 0) pe_int set_list))
      (pss_cons (ps_set (i := 2) scDraw.nd rfl (.inl rfl) (pe_callTy call_int1 (by rfl) T.int (by decide +kernel) (pa_cons (pe_ix ix_list (pv 0) pe_int (fun _ _ => rfl)) pa_nil)))
      (pss_cons (ps_set (i := 3) scDraw.nd rfl (.inl rfl) (pe_callTy call_int1 (by rfl) T.int (by decide +kernel) (pa_cons (pe_op op_add (pe_op op_add (pe_op op_mul (pv 2) (pe_op op_add (pe_op op_mod (pe_callTy call_int1 (by rfl) T.int (by decide +kernel) (pa_cons (pv 2) pa_nil)) pe_int) pe_int)) (pe_op op_mul pe_int (pe_ix ix_list (pv 0) pe_int (fun _ _ => rfl)))) pe_int) pa_nil)))
      (pss_cons (ps_asg (pe_op op_mod (pe_callTy call_int1 (by rfl) T.int (by decide +kernel) (pa_cons (pv 3) pa_nil)) pe_int) (pg_sub (pv 0) pe_int set_list))
      (pss_cons (ps_if (pt_cmpR op_gt (pe_ix ix_list (pv 0) pe_int (fun _ _ => rfl)) pe_int (nomark _))
        (pss_cons (ps_asg (pe_callB call_divmodW (by rfl) T.dvm (by decide +kernel) (pa_cons (pe_ix ix_list (pv 0) pe_int (fun _ _ => rfl)) (pa_cons (pv 1) pa_nil))) (pg_tup rfl (pgs_cons (pg_sub (pv 0) pe_int set_list) (pgs_cons (pg_name (i := 4) scDraw.nd rfl (.inl rfl)) pgs_nil))))
          (pss_one (ps_ret (pv 4)))) pss_nil)
      (pss_one (ps_ret (pe_op op_mod (pe_callTy call_int1 (by rfl) T.int (by decide +kernel) (pa_cons (pe_op op_fdiv (pe_ix ix_list (pv 0) pe_int (fun _ _ => rfl)) pe_int) pa_nil)) (pv 1)))))))), ?_⟩
    refine ⟨_, rfl, a, _, 2, .int z, rfl, rfl, SqL.of hs, (by rfl), z, 1, rfl, rfl, _, rfl, a, _, 2, 2, rfl, rfl, hs, (by rfl), ?_⟩
    refine ⟨_, rfl, a, [.int x, .int y, .int (z + 1)], 0, .int x, rfl, rfl, SqL.of upd_same, (by rfl), .inl ⟨x, rfl, ?_⟩⟩
    have b1 : 0 ≤ x % 30011 := Int.emod_nonneg _ (by decide)
    have b2 : x % 30011 < 30011 := Int.emod_lt_of_pos _ (by decide)
    refine ⟨_, rfl, _, rfl, .inl ⟨x, rfl, x, 30011, rfl, rfl, (by show (0 : Int) < 30011; decide), _, _, rfl, rfl, x, _, rfl, rfl, .inr ⟨by omega, by omega⟩, _, rfl, a, [.int x, .int y, .int (z + 1)], 2, .int (z + 1), rfl, rfl, SqL.of upd_same, (by rfl), 65539, _, rfl, rfl, .inl ⟨by decide, by decide⟩, _, _, rfl, rfl, _, _, rfl, rfl, .inl ⟨_, rfl, ?_⟩⟩⟩
    refine ⟨_, rfl, .inl ⟨_, rfl, _, _, rfl, rfl, (by show (0 : Int) < 2147483629; decide), _, rfl, a, [.int x, .int y, .int (z + 1)], 0, 0, rfl, rfl, upd_same, (by rfl), ?_⟩⟩
    refine ⟨_, rfl, a, [.int _, .int y, .int (z + 1)], 1, .int y, rfl, rfl, SqL.of upd_same, (by rfl), _, _, rfl, rfl, _, rfl, ?_⟩
    refine ite2 (fun _ => ?_) (fun _ => ?_)
    · refine ⟨_, rfl, a, [.int _, .int y, .int (z + 1)], 1, .int y, rfl, rfl, SqL.of upd_same, (by rfl), _, rfl, y, m, rfl, ⟨h0, PyProof.noPylong_of_log2 hL⟩, fun p hp => ?_⟩
      have nap : a ≠ p := ne_of_none upd_same hp
      refine ⟨p, _, rfl, SqT.of upd_same, rfl, _, _, rfl, _, rfl, a, [.int _, .int y, .int (z + 1)], 1, 1, rfl, rfl, (by rw [upd_ne nap]; exact upd_same), (by rfl), _, _, rfl, rfl, ?_⟩
      refine ⟨_, rfl, q _ _ (Int.emod_nonneg _ (by omega)) (Int.emod_lt_of_pos _ h0) ⟨_, _, _, upd_same⟩ ?_⟩
      exact (((But.upd (a := a)).trans But.upd).new hp).trans But.upd
    · refine ⟨_, rfl, a, [.int _, .int y, .int (z + 1)], 0, .int _, rfl, rfl, SqL.of upd_same, (by rfl), _, _, rfl, rfl, ⟨by decide, by decide⟩, .inl ⟨_, rfl, _, rfl, _, _, rfl, rfl, h0, ?_⟩⟩
      exact q _ _ (Int.emod_nonneg _ (by omega)) (Int.emod_lt_of_pos _ h0) ⟨_, _, _, upd_same⟩ ((But.upd (a := a)).trans But.upd)
end
section
variable {P : Program} {w : World} {K : PySem.W.Frag} {mg : Str → Option Value} {base : Heap}
def spCommon : Sp := fun vs H Q _ => ∃ x y : Int, vs = [.int x, .int y] ∧ Q (.int (gI x y)) H
def muCommon : L2.St → Hp → Nat := fun σ _ => match σ with
  | [_, _, _, some (.int l)] => l.toNat
  | _ => 0
theorem abs_nat (i : Int) : (if i < 0 then -i else i) = ((i.natAbs : Nat) : Int) := by split <;> omega
theorem ok_common {f : Addr} {fd : FuncData} (F : Fun K "_law_common" "_law_common" sCom f fd) (T : Blt mg) : FnOk P w K mg base CX0 1 f fd ["_law_one", "_law_two"] spCommon := by
  refine F.ok scCom (fun vs H Q E h => ?_) (fun cdv A outer s H vs Q E hr h => ?_)
  · obtain ⟨x, y, rfl, _⟩ := h
    rfl
  · obtain ⟨x, y, rfl, q⟩ := h
    refine ⟨_, pss_cons (ps_par (i := 2) (j := 3) (by rfl) scCom.nd rfl rfl (by decide) rfl rfl (pa_cons (pe_callB call_abs (by rfl) T.abs (by decide +kernel) (pa_cons (pv 0) pa_nil)) (pa_cons (pe_callB call_abs (by rfl) T.abs (by decide +kernel) (pa_cons (pv 1) pa_nil)) pa_nil)) (by rfl))
      (pss_cons (ps_while PassesOwn.never (pt_cmpR op_gt (pv 3) pe_int (nomark _))
        (pss_one (ps_par (i := 2) (j := 3) (by rfl) scCom.nd rfl rfl (by decide) rfl rfl (pa_cons (pv 3) (pa_cons (pe_op op_mod (pe_callTy call_int1 (by rfl) T.int (by decide +kernel) (pa_cons (pv 2) pa_nil)) (pv 3)) pa_nil)) (by rfl))))
      (pss_one (ps_ret (pv 2)))), ?_⟩
    refine ⟨_, rfl, x, rfl, _, rfl, y, rfl, _, _, rfl, ?_⟩
    refine while_by (fun σ H' => H' = H ∧ ∃ a b : Nat, σ = [some (.int x), some (.int y), some (.int (a : Int)), some (.int (b : Int))] ∧ Nat.gcd a b = Nat.gcd x.natAbs y.natAbs) muCommon ⟨rfl, x.natAbs, y.natAbs, by rw [abs_nat, abs_nat]; rfl, rfl⟩ ?_ (fun σ H Q Q' hq ⟨v, e, i, j, e1, e2, k, e3, q⟩ => ⟨v, e, i, j, e1, e2, k, e3, hq _ _ q⟩)
    rintro σ H' ⟨rfl, a, b, rfl, e⟩
    refine ⟨_, rfl, _, _, rfl, rfl, _, rfl, ?_⟩
    refine ite2 (fun hc => ?_) (fun hc => ?_)
    · have hb : (0 : Int) < (b : Int) := of_decide_eq_true hc
      refine ⟨_, rfl, _, rfl, .inl ⟨_, rfl, _, rfl, _, _, rfl, rfl, hb, _, _, rfl, ?_⟩⟩
      refine ⟨⟨rfl, b, a % b, by show [_, _, some (V.int (b : Int)), some (V.int ((a : Int) % (b : Int)))] = _; rw [Int.natCast_emod], ?_⟩, ?_⟩
      · rw [← e, Nat.gcd_comm a b, Nat.gcd_rec b a, Nat.gcd_comm]
      · show ((a : Int) % (b : Int)).toNat < (b : Int).toNat
        have h1 : (a : Int) % (b : Int) < (b : Int) := Int.emod_lt_of_pos _ hb
        have h2 : 0 ≤ (a : Int) % (b : Int) := Int.emod_nonneg _ (by omega)
        omega
    · have hb : ¬ (0 : Int) < (b : Int) := fun z => hc (decide_eq_true z)
      have hb0 : b = 0 := by omega
      subst hb0
      refine ⟨_, rfl, ?_⟩
      have e2 : a = Nat.gcd x.natAbs y.natAbs := by rw [← e, Nat.gcd_zero_right]
      rw [e2]
      exact q

def spLowest : Sp := fun vs H Q _ => ∃ u l : Int, vs = [.int u, .int l] ∧ l ≠ 0 ∧ l.natAbs < 2 ^ LIM ∧ ∀ p, H p = none → Q (.ref p) (upd H p (.tup [.int (nt u l), .int (nb u l)]))
theorem ok_lowest {f fC : Addr} {fd fdC : FuncData} (F : Fun K "_law_lowest" "_law_lowest" sLow f fd) (FC : Fun K "_law_common" "_law_common" sCom fC fdC) (bC : Binds K fdC ["_law_one", "_law_two"] []) (gC : mg "_law_common" = some (.ref fC)) (T : Blt mg) :
    FnOk P w K mg base CX0 2 f fd ["_law_upper", "_law_lower"] spLowest := by
  have GC : FnOk P w K mg base CX0 1 fC fdC ["_law_one", "_law_two"] spCommon := ok_common FC T
  refine F.ok scLow (fun vs H Q E h => ?_) (fun cdv A outer s H vs Q E hr h => ?_)
  · obtain ⟨u, l, rfl, _⟩ := h
    rfl
  · obtain ⟨u, l, rfl, h0, hb, q⟩ := h
    refine ⟨_, pss_cons (ps_set (i := 2) scLow.nd rfl (.inl rfl) (pe_ifExp (pt_cmpR op_gt (pv 1) pe_int (nomark _)) (pe_call GC hr (by rfl) gC FC.kp bC .nil pass0 (pa_cons (pv 0) (pa_cons (pv 1) pa_nil))) (pe_un un_neg (pe_call GC hr (by rfl) gC FC.kp bC .nil pass0 (pa_cons (pv 0) (pa_cons (pv 1) pa_nil))))))
      (pss_one (ps_ret (pe_tup (pa_cons (pe_op op_fdivZ (pv 0) (pv 2)) (pa_cons (pe_op op_fdivZ (pv 1) (pv 2)) pa_nil))))), ?_⟩
    have tail : tRet (tTup (tCons (tOp (rI CDivZ fun i j => V.int (i.fdiv j)) (tVar 0) (tVar 2)) (tCons (tOp (rI CDivZ fun i j => V.int (i.fdiv j)) (tVar 1) (tVar 2)) tNil))) { nx := fun _ H' => Q .non H', rt := Q } [some (.int u), some (.int l), some (.int (sg u l))] H := by
      have hz := sg_ok (u := u) h0 hb
      exact ⟨_, rfl, _, rfl, u, _, rfl, rfl, hz, _, rfl, _, rfl, l, _, rfl, rfl, hz, (by show 2 ≤ sizeLine; decide), fun p hp => q p hp⟩
    refine ⟨_, rfl, _, _, rfl, rfl, _, rfl, ?_⟩
    refine ite2 (fun hc => ?_) (fun hc => ?_)
    · have hl : 0 < l := of_decide_eq_true hc
      refine ⟨_, rfl, _, rfl, u, l, rfl, ?_⟩
      have e : sg u l = gI u l := if_neg (by omega)
      rw [e] at tail
      exact tail
    · have hl : ¬ 0 < l := fun z => hc (decide_eq_true z)
      refine ⟨_, rfl, _, rfl, u, l, rfl, _, rfl, ?_⟩
      have e : sg u l = -gI u l := if_pos (by omega)
      rw [e] at tail
      exact tail

/-! ### a whole number of up to forty digits -/
def Big : Int := 10000000000000000000000000000000000000000
def spWhole : Sp := fun vs H Q _ => ∃ a : Addr, vs = [.ref a] ∧ SrcAt H a ∧ ∀ n H', -Big < n → n < Big → SrcAt H' a → But a H H' → Q (.int n) H'
theorem ok_whole {f fD : Addr} {fd fdD : FuncData} (F : Fun K "_law_whole" "_law_whole" sWho f fd) (FD : Fun K "_law_draw" "_law_draw" sDraw fD fdD) (bD : Binds K fdD ["_law_source_here", "_law_many"] []) (gD : mg "_law_draw" = some (.ref fD)) (T : Blt mg) :
    FnOk P w K mg base CX0 2 f fd ["_law_source_here"] spWhole := by
  have GD : FnOk P w K mg base CX0 1 fD fdD ["_law_source_here", "_law_many"] spDraw := ok_draw FD T
  refine F.ok scWho (fun vs H Q E h => ?_) (fun cdv A outer s H vs Q E hr h => ?_)
  · obtain ⟨a, rfl, _⟩ := h
    rfl
  · obtain ⟨a, rfl, hs, q⟩ := h
    refine ⟨_, (pss_cons (ps_set (i := 1) scWho.nd rfl (.inl rfl) (pe_call GD hr (by rfl) gD FD.kp bD .nil pass0 (pa_cons (pv 0) (pa_cons pe_int pa_nil))))
      (pss_cons (ps_if (pt_cmpR op_lt (pv 1) pe_int (nomark _)) (pss_one (ps_ret (pe_op op_sub (pe_call GD hr (by rfl) gD FD.kp bD .nil pass0 (pa_cons (pv 0) (pa_cons pe_int pa_nil))) pe_int))) pss_nil)
      (pss_cons (ps_if (pt_cmpR op_lt (pv 1) pe_int (nomark _)) (pss_one (ps_ret (pe_op op_sub (pe_call GD hr (by rfl) gD FD.kp bD .nil pass0 (pa_cons (pv 0) (pa_cons pe_int pa_nil))) pe_int))) pss_nil)
      (pss_cons (ps_set (i := 2) scWho.nd rfl (.inl rfl) (pe_op op_sub pe_int (pe_op op_mul pe_int (pe_call GD hr (by rfl) gD FD.kp bD .nil pass0 (pa_cons (pv 0) (pa_cons pe_int pa_nil))))))
      (pss_cons (ps_if (pt_cmpR op_eq (pv 1) pe_int (nomark _)) (pss_one (ps_ret (pe_op op_mul (pv 2) (pe_op op_add (pe_ix ix_list (pe_lst (pa_cons (pe_op op_pow pe_int pe_int) (pa_cons (pe_op op_pow pe_int pe_int) (pa_cons (pe_op op_pow pe_int pe_int) (pa_cons (pe_op op_pow pe_int pe_int) pa_nil))))) (pe_call GD hr (by rfl) gD FD.kp bD .nil pass0 (pa_cons (pv 0) (pa_cons pe_int pa_nil))) (fun _ _ => rfl)) (pe_call GD hr (by rfl) gD FD.kp bD .nil pass0 (pa_cons (pv 0) (pa_cons pe_int pa_nil))))))) pss_nil)
      (pss_cons (ps_if (pt_cmpR op_eq (pv 1) pe_int (nomark _)) (pss_one (ps_ret (pe_op op_mul (pv 2) (pe_op op_sub (pe_op op_sub (pe_op op_pow pe_int pe_int) pe_int) (pe_call GD hr (by rfl) gD FD.kp bD .nil pass0 (pa_cons (pv 0) (pa_cons pe_int pa_nil))))))) pss_nil)
      (pss_cons (ps_set (i := 3) scWho.nd rfl (.inl rfl) (pe_lst (pa_cons (pe_call GD hr (by rfl) gD FD.kp bD .nil pass0 (pa_cons (pv 0) (pa_cons (pe_op op_pow pe_int pe_int) pa_nil))) (pa_cons (pe_call GD hr (by rfl) gD FD.kp bD .nil pass0 (pa_cons (pv 0) (pa_cons (pe_op op_pow pe_int pe_int) pa_nil))) (pa_cons (pe_call GD hr (by rfl) gD FD.kp bD .nil pass0 (pa_cons (pv 0) (pa_cons (pe_op op_pow pe_int pe_int) pa_nil))) pa_nil)))))
      (pss_one (ps_ret (pe_op op_mul (pv 2) (pe_op op_add (pe_op op_add (pe_op op_mul (pe_ix ix_list (pv 3) pe_int (fun _ _ => rfl)) (pe_op op_pow pe_int pe_int)) (pe_op op_mul (pe_ix ix_list (pv 3) pe_int (fun _ _ => rfl)) (pe_op op_pow pe_int pe_int))) (pe_ix ix_list (pv 3) pe_int (fun _ _ => rfl))))))))))))), ?_⟩
    have D9 : (9 : Int) ≤ 100000000000000000000 := by decide
    refine ⟨_, rfl, a, 9, rfl, (by decide), (by decide), hs, fun d H1 d0 d1 s1 k1 => ?_⟩
    refine ⟨_, rfl, _, _, rfl, rfl, _, rfl, ?_⟩
    refine ite2 (fun _ => ?_) (fun _ => ?_)
    · refine ⟨_, rfl, a, 25, rfl, (by decide), (by decide), s1, fun e H2 e0 e1 s2 k2 => ⟨_, _, rfl, rfl, q _ _ (by unfold Big; omega) (by unfold Big; omega) s2 (k1.trans k2)⟩⟩
    refine ⟨_, rfl, _, _, rfl, rfl, _, rfl, ?_⟩
    refine ite2 (fun _ => ?_) (fun _ => ?_)
    · refine ⟨_, rfl, a, 2001, rfl, (by decide), (by decide), s1, fun e H2 e0 e1 s2 k2 => ⟨_, _, rfl, rfl, q _ _ (by unfold Big; omega) (by unfold Big; omega) s2 (k1.trans k2)⟩⟩
    refine ⟨_, rfl, a, 2, rfl, (by decide), (by decide), s1, fun e H2 e0 e1 s2 k2 => ⟨2, e, rfl, rfl, .inl ⟨by decide, by decide⟩, 1, _, rfl, rfl, ?_⟩⟩
    have he : e = 0 ∨ e = 1 := by omega
    refine ⟨_, rfl, rfl, _, rfl, ?_⟩
    refine ite2 (fun _ => ?_) (fun _ => ?_)
    · refine ⟨_, rfl, 10, 6, rfl, rfl, ⟨by decide, by decide, by decide⟩, 10, 12, rfl, rfl, ⟨by decide, by decide, by decide⟩, 10, 20, rfl, rfl, ⟨by decide, by decide, by decide⟩, 10, 39, rfl, rfl, ⟨by decide, by decide, by decide⟩, (by show 4 ≤ sizeLine; decide), fun l hl => ?_⟩
      have s3 : SrcAt (upd H2 l (.lst [.int (10 ^ 6), .int (10 ^ 12), .int (10 ^ 20), .int (10 ^ 39)])) a := by
        obtain ⟨x, y, z, es⟩ := s2
        exact ⟨x, y, z, by rw [upd_ne (ne_of_none es hl)]; exact es⟩
      have nla : l ≠ a := (s2.ne hl).symm
      refine ⟨_, rfl, a, 4, rfl, (by decide), (by decide), s3, fun d2 H3 f0 f1 s4 k4 => ?_⟩
      have hl3 := k4 l _ nla upd_same
      obtain ⟨v, hv, v0, v1⟩ : ∃ v : Int, atI [V.int (10 ^ 6), V.int (10 ^ 12), V.int (10 ^ 20), V.int (10 ^ 39)] d2 = some (.int v) ∧ 0 ≤ v ∧ v ≤ 10 ^ 39 := by
        have : d2 = 0 ∨ d2 = 1 ∨ d2 = 2 ∨ d2 = 3 := by omega
        rcases this with rfl | rfl | rfl | rfl
        · exact ⟨_, rfl, by decide, by decide⟩
        · exact ⟨_, rfl, by decide, by decide⟩
        · exact ⟨_, rfl, by decide, by decide⟩
        · exact ⟨_, rfl, by decide, by decide⟩
      refine ⟨l, _, d2, _, rfl, rfl, SqL.of hl3, hv, _, rfl, a, 1000, rfl, (by decide), (by decide), s4, fun d3 H4 g0 g1 s5 k5 => ⟨_, _, rfl, rfl, _, _, rfl, rfl, .inl ⟨by omega, by omega⟩, ?_⟩⟩
      refine q _ _ ?_ ?_ s5 (((k1.trans k2).new hl).trans (k4.trans k5))
      · unfold Big
        rcases he with rfl | rfl <;> omega
      · unfold Big
        rcases he with rfl | rfl <;> omega
    refine ⟨_, rfl, rfl, _, rfl, ?_⟩
    refine ite2 (fun _ => ?_) (fun _ => ?_)
    · refine ⟨_, rfl, 10, 40, rfl, rfl, ⟨by decide, by decide, by decide⟩, _, _, rfl, rfl, _, rfl, a, 1000, rfl, (by decide), (by decide), s2, fun d3 H4 g0 g1 s5 k5 => ⟨_, _, rfl, rfl, _, _, rfl, rfl, .inl ⟨by omega, by omega⟩, ?_⟩⟩
      have e40 : (10 : Int) ^ (40 : Int).toNat = 10000000000000000000000000000000000000000 := by decide
      refine q _ _ ?_ ?_ s5 ((k1.trans k2).trans k5)
      · show -Big < (1 - 2 * e) * ((10 : Int) ^ (40 : Int).toNat - 7 - d3)
        rw [e40]
        unfold Big
        rcases he with rfl | rfl <;> omega
      · show (1 - 2 * e) * ((10 : Int) ^ (40 : Int).toNat - 7 - d3) < Big
        rw [e40]
        unfold Big
        rcases he with rfl | rfl <;> omega
    have e9 : (10 : Int) ^ (9 : Int).toNat = 1000000000 := by decide
    have e30 : (10 : Int) ^ (30 : Int).toNat = 1000000000000000000000000000000 := by decide
    have e15 : (10 : Int) ^ (15 : Int).toNat = 1000000000000000 := by decide
    refine ⟨_, rfl, 10, 9, rfl, rfl, ⟨by decide, by decide, by decide⟩, a, _, rfl, (by decide), (by decide), s2, fun x H4 x0 x1 s4 k4 => ?_⟩
    refine ⟨_, rfl, 10, 9, rfl, rfl, ⟨by decide, by decide, by decide⟩, a, _, rfl, (by decide), (by decide), s4, fun y H5 y0 y1 s5 k5 => ?_⟩
    refine ⟨_, rfl, 10, 9, rfl, rfl, ⟨by decide, by decide, by decide⟩, a, _, rfl, (by decide), (by decide), s5, fun z H6 z0 z1 s6 k6 => ⟨(by show 3 ≤ sizeLine; decide), fun l hl => ?_⟩⟩
    rw [e9] at x1 y1 z1
    refine ⟨_, rfl, _, rfl, l, [.int x, .int y, .int z], 0, .int x, rfl, rfl, SqL.of upd_same, (by rfl), 10, 30, rfl, rfl, ⟨by decide, by decide, by decide⟩, _, _, rfl, rfl, .inl ⟨by omega, by omega⟩,
      _, rfl, l, [.int x, .int y, .int z], 1, .int y, rfl, rfl, SqL.of upd_same, (by rfl), 10, 15, rfl, rfl, ⟨by decide, by decide, by decide⟩, _, _, rfl, rfl, .inl ⟨by omega, by omega⟩, _, _, rfl, rfl,
      _, rfl, l, [.int x, .int y, .int z], 2, .int z, rfl, rfl, SqL.of upd_same, (by rfl), _, _, rfl, rfl, _, _, rfl, rfl, .inl ⟨by omega, by omega⟩, ?_⟩
    refine q _ _ ?_ ?_ ?_ (((((k1.trans k2).trans k4).trans k5).trans k6).new hl)
    · show -Big < (1 - 2 * e) * (x * (10 : Int) ^ (30 : Int).toNat + y * (10 : Int) ^ (15 : Int).toNat + z)
      rw [e30, e15]
      unfold Big
      rcases he with rfl | rfl <;> omega
    · show (1 - 2 * e) * (x * (10 : Int) ^ (30 : Int).toNat + y * (10 : Int) ^ (15 : Int).toNat + z) < Big
      rw [e30, e15]
      unfold Big
      rcases he with rfl | rfl <;> omega
    · obtain ⟨u1, u2, u3, es⟩ := s6
      exact ⟨u1, u2, u3, by rw [upd_ne (ne_of_none es hl)]; exact es⟩
end

/-! ### a fraction as a pair -/
section
variable {P : Program} {w : World} {K : PySem.W.Frag} {mg : Str → Option Value} {base : Heap} {C : Addr}
theorem RQ.but {H H' : Hp} {a p : Addr} {n : Nat} {q : Rat} (r : RQ C H p n q) (h : SrcAt H a) (k : But a H H') : RQ C H' p n q := by
  obtain ⟨⟨dx, e⟩, s⟩ := r
  obtain ⟨x, y, z, es⟩ := h
  exact ⟨⟨dx, k p _ (fun z => by rw [z, es] at e; cases e) e⟩, s⟩
theorem SrcAt.same {H H' : Hp} {a : Addr} (h : SrcAt H a) (s : Same H H') : SrcAt H' a := let ⟨x, y, z, e⟩ := h; ⟨x, y, z, s _ _ e⟩
theorem But.same {H H1 H2 : Hp} {a : Addr} (k : But a H H1) (s : Same H1 H2) : But a H H2 := fun b o n e => s b o (k b o n e)
theorem tup_but {H H' : Hp} {a p : Addr} {xs : List V} (e : H p = some (.tup xs)) (h : SrcAt H a) (k : But a H H') : H' p = some (.tup xs) := by
  obtain ⟨x, y, z, es⟩ := h
  exact k p _ (fun z => by rw [z, es] at e; cases e) e
theorem lst_but {H H' : Hp} {a p : Addr} {o : HO} (e : H p = some o) (n : p ≠ a) (k : But a H H') : H' p = some o := k p _ n e
def PN : Nat := 400
theorem big_pn {n : Int} (h0 : -Big < n) (h1 : n < Big) : n.natAbs < 2 ^ PN := by
  have : n.natAbs < 10000000000000000000000000000000000000000 := by unfold Big at h0 h1; omega
  exact Nat.lt_of_lt_of_le this (by decide)
def spPair : Sp := fun vs H Q _ => ∃ a : Addr, vs = [.ref a] ∧ SrcAt H a ∧ ∀ q p H', Sz PN q → H' p = some (.tup [.int q.num, .int (q.den : Int)]) → SrcAt H' a → But a H H' → Q (.ref p) H'
theorem ok_pair (T : Tx K mg C) : FnOk P w K mg base CX0 3 T.aPair T.dPair ["_law_source_here"] spPair := by
  have GD : FnOk P w K mg base CX0 2 T.aDraw T.dDraw ["_law_source_here", "_law_many"] spDraw := (ok_draw T.FDraw T.blt).mono (by decide)
  have GW : FnOk P w K mg base CX0 2 T.aWho T.dWho ["_law_source_here"] spWhole := ok_whole T.FWho T.FDraw T.bDraw T.gDraw T.blt
  have GL : FnOk P w K mg base CX0 2 T.aLow T.dLow ["_law_upper", "_law_lower"] spLowest := ok_lowest T.FLow T.FCom T.bCom T.gCom T.blt
  refine T.FPair.ok scPair (fun vs H Q E h => ?_) (fun cdv A outer s H vs Q E hr h => ?_)
  · obtain ⟨a, rfl, _⟩ := h
    rfl
  · obtain ⟨a, rfl, hs, q⟩ := h
    refine ⟨_, (pss_cons (ps_set (i := 1) scPair.nd rfl (.inl rfl) (pe_call GD hr (by rfl) T.gDraw T.FDraw.kp T.bDraw .nil pass0 (pa_cons (pv 0) (pa_cons pe_int pa_nil))))
      (pss_cons (ps_if (pt_cmpR op_eq (pv 1) pe_int (nomark _)) (pss_one (ps_ret (pe_tup (pa_cons (pe_call GW hr (by rfl) T.gWho T.FWho.kp T.bWho .nil pass0 (pa_cons (pv 0) pa_nil)) (pa_cons pe_int pa_nil))))) pss_nil)
      (pss_cons (ps_if (pt_cmpR op_eq (pv 1) pe_int (nomark _)) (pss_cons (ps_set (i := 2) scPair.nd rfl (.inl rfl) (pe_call GW hr (by rfl) T.gWho T.FWho.kp T.bWho .nil pass0 (pa_cons (pv 0) pa_nil)))
        (pss_one (ps_ret (pe_call GL hr (by rfl) T.gLow T.FLow.kp T.bLow .nil pass0 (pa_cons (pe_call GW hr (by rfl) T.gWho T.FWho.kp T.bWho .nil pass0 (pa_cons (pv 0) pa_nil)) (pa_cons (pe_ifExp (pt_cmpR op_ne (pv 2) pe_int (nomark _)) (pv 2) pe_int) pa_nil)))))) pss_nil)
      (pss_one (ps_ret (pe_call GL hr (by rfl) T.gLow T.FLow.kp T.bLow .nil pass0 (pa_cons (pe_op op_sub (pe_call GD hr (by rfl) T.gDraw T.FDraw.kp T.bDraw .nil pass0 (pa_cons (pv 0) (pa_cons pe_int pa_nil))) pe_int) (pa_cons (pe_op op_add pe_int (pe_call GD hr (by rfl) T.gDraw T.FDraw.kp T.bDraw .nil pass0 (pa_cons (pv 0) (pa_cons pe_int pa_nil)))) pa_nil)))))))), ?_⟩
    have low : ∀ {u l : Int} {H1 : Hp}, u.natAbs < 2 ^ PN → l.natAbs < 2 ^ PN → l ≠ 0 → SrcAt H1 a → But a H H1 → spLowest [.int u, .int l] H1 Q E0 := fun {u l H1} hu hl h0 s1 k1 => by
      refine ⟨u, l, rfl, h0, Nat.lt_of_lt_of_le hl (two_le (by decide)), fun p hp => ?_⟩
      rw [nt_rat h0, nb_rat h0]
      exact q _ p _ (Sz.of h0 hu hl) upd_same (s1.same (same_new (Same.refl _) hp)) (k1.new hp)
    refine ⟨_, rfl, a, 4, rfl, (by decide), (by decide), hs, fun d H1 d0 d1 s1 k1 => ?_⟩
    refine ⟨_, rfl, rfl, _, rfl, ?_⟩
    refine ite2 (fun _ => ?_) (fun _ => ?_)
    · refine ⟨_, rfl, a, rfl, s1, fun n H2 n0 n1 s2 k2 => ⟨(by show 2 ≤ sizeLine; decide), fun p hp => ?_⟩⟩
      exact q (n : Rat) p _ (Sz.int (big_pn n0 n1) (by decide)) upd_same (s2.same (same_new (Same.refl _) hp)) ((k1.trans k2).new hp)
    refine ⟨_, rfl, rfl, _, rfl, ?_⟩
    refine ite2 (fun _ => ?_) (fun _ => ?_)
    · refine ⟨_, rfl, a, rfl, s1, fun n H2 n0 n1 s2 k2 => ?_⟩
      refine ⟨_, rfl, a, rfl, s2, fun m H3 m0 m1 s3 k3 => ?_⟩
      refine ⟨_, rfl, rfl, _, rfl, ?_⟩
      refine ite2 (fun hc => ?_) (fun hc => ?_)
      · have hn : n ≠ 0 := fun z => by rw [z] at hc; exact absurd hc (by decide)
        exact ⟨_, rfl, low (big_pn m0 m1) (big_pn n0 n1) hn s3 ((k1.trans k2).trans k3)⟩
      · exact low (big_pn m0 m1) (by decide) (by decide) s3 ((k1.trans k2).trans k3)
    refine ⟨_, rfl, a, 61, rfl, (by decide), (by decide), s1, fun e H2 e0 e1 s2 k2 => ⟨_, _, rfl, rfl, ?_⟩⟩
    refine ⟨_, rfl, a, 12, rfl, (by decide), (by decide), s2, fun g H3 g0 g1 s3 k3 => ⟨_, _, rfl, rfl, ?_⟩⟩
    exact low (big_pn (by unfold Big; omega) (by unfold Big; omega)) (big_pn (by unfold Big; omega) (by unfold Big; omega)) (by omega) s3 ((k1.trans k2).trans k3)
end
end T08

/-! The class of series, def by def. -/
namespace T08
open PySem PySem.Spec PyProof.Rows L2 SF SQ SK
section
variable {P : Program} {w : World} {K : PySem.W.Frag} {mg : Str → Option Value} {base : Heap} {C : Addr}
def spSI (C S : Addr) : Sp := fun vs H Q _ => ∃ p t dx rs, vs = [.ref p, .ref t] ∧ H p = some (.ins S dx []) ∧ TupG C PN H t rs ∧ rs.length ≤ 400 ∧ ∀ H1 t', Same H H1 → TupE C PN H1 t' rs → Q .non (upd H1 p (.ins S dx (sf1 t')))
theorem line400 : 400 ≤ sizeLine := by decide
theorem gn_kind {H : Hp} {v : V} {r : Ent} (h : GN C PN H v r) (hv : decide (v = .non) = false) : ∃ q k, r = some q ∧ NV C H k v PN q := by
  cases r with
  | none =>
    have h : v = .non := h
    rw [h] at hv
    exact absurd hv (by decide)
  | some q => obtain ⟨k, x⟩ := h; exact ⟨q, k, rfl, x⟩
theorem ok_SI (T : Tx K mg C) : FnOk P w K mg base CX0 5 T.aSI T.dSI ["self", "entries"] (spSI C T.S) := by
  have GN' : FnOk P w K mg base CX0 2 T.aIsN T.dIsN ["value"] (spIsN C) := ok_isN T
  have GA : FnOk P w K mg base CX0 4 T.aAs T.dAs ["number"] (spAs C) := ok_as T
  refine T.FSI.ok scSI (fun vs H Q E h => ?_) (fun cdv A outer s H vs Q E hr h => ?_)
  · obtain ⟨p, t, dx, rs, rfl, _⟩ := h
    rfl
  · obtain ⟨p, t, dx, rs, rfl, hp, ⟨vs, ht, hv⟩, hl, q⟩ := h
    have hr2 := hr.mono (show 2 ≤ 4 by decide)
    have ll := line400
    refine ⟨_, PSs.nox (pss_cons (ps_if (pt_not (pt_val (pe_callB call_isi (by rfl) T.rc.isi (by decide +kernel) (pa_cons (pv 1) (pa_cons (pe_bltn (v := .ty "tuple") (u := .type "tuple") (by rfl) T.tup (by decide +kernel) rfl) pa_nil))))) (pss_one ps_never) pss_nil)
      (pss_cons (ps_for PassesOwn.never rfl (pi_tup (pv 1)) (pg_name (i := 2) scSI.nd rfl (.inl rfl)) (pss_one (ps_if (PW.pt (pw_and (pt_cmpR op_notN (pv 2) pe_non (nomark _)) (pw_and1 (pt_not (pt_val (pe_call GN' hr2 (by rfl) T.gIsN T.FIsN.kp T.bIsN .nil pass0 (pa_cons (pv 2) pa_nil))))))) (pss_one ps_never) pss_nil)))
      (pss_one (ps_fld (pv 0) (pe_callTy call_tuple_of (by rfl) T.tup (by decide +kernel) (pa_cons (pe_lc (own := [("entry", 2)]) (g := gName 2) (tt := tYes) rfl scSI.nd (pi_tup (pv 1)) (blkOk_by (N := ["self", "entries", "entry"]) (sc := defScope sSI) (by decide +kernel)) (fun _ _ _ _ _ => pg_name (i := 2) scSI.nd rfl (Or.inl rfl)) (fun _ _ _ _ _ => pts_nil)
        (fun _ _ _ _ _ => pe_ifExp (pt_cmpR op_isN (pv 2) pe_non (nomark _)) pe_non (pe_call GA hr (by rfl) T.gAs T.FAs.kp T.bAs .nil pass0 (pa_cons (pv 2) pa_nil)))) pa_nil)) rfl)))), ?_⟩
    refine ⟨_, rfl, _, _, _, _, true, rfl, .ty _, (Dec.tup ht).typ, kit_ty (by decide +kernel), true, rfl, iteF ?_⟩
    refine ⟨_, rfl, t, rfl, ⟨_, SqT.of ht⟩, for_tup (xs := vs) (fun i σ' H' => H' = H ∧ ∃ o, σ' = [some (.ref p), some (.ref t), o]) ⟨rfl, _, rfl⟩ (fun i σ' H' _ hh => by rw [hh.1]; exact SqT.of ht) ?_ ?_⟩
    · rintro i x σ' H' hx ⟨rfl, o, rfl⟩
      obtain ⟨r, hr', gx⟩ := hv.get hx
      refine ⟨_, rfl, rfl, _, rfl, ?_⟩
      refine ite2 (fun hc => ?_) (fun _ => ⟨rfl, _, rfl⟩)
      have hc : decide (x = .non) = false := by simpa using hc
      obtain ⟨q1, k, rfl, nv⟩ := gn_kind gx hc
      refine ⟨_, rfl, x, rfl, ?_⟩
      rcases nv.kind with h | ⟨j, rfl⟩
      · exact .inr ⟨h, _, rfl, iteF ⟨rfl, _, rfl⟩⟩
      · exact .inl ⟨_, .int j, _, rfl, iteF ⟨rfl, _, rfl⟩⟩
    · rintro σ' H' ⟨rfl, o, rfl⟩
      refine ⟨_, rfl, t, rfl, ⟨_, SqT.of ht⟩, fun D hD => lcS_tup (P := fun i y H => ∃ r, rs[i]? = some r ∧ EN C PN H y r) ?_ ?_ (SqT.of ht) (by rw [hv.1]; omega) hD ?_ ?_⟩
      · rintro k y H1 H2 S ⟨r, h1, h2⟩; exact ⟨r, h1, h2.same S⟩
      · rintro k y H1 D1 xs zs hd ⟨r, h1, h2⟩; exact ⟨r, h1, h2.offL hd⟩
      · intro i x H1 Q1 hx S1 z
        obtain ⟨r, hr', gx⟩ := hv.get hx
        refine ⟨_, rfl, rfl, _, rfl, ?_⟩
        refine ite2 (fun hc => ?_) (fun hc => ?_)
        · have e : x = .non := of_decide_eq_true hc
          cases r with
          | none => exact z .non H1 (Same.refl _) ⟨none, hr', rfl⟩
          | some q1 =>
            obtain ⟨k, nv⟩ := gx
            subst e
            rcases nv.kind with ⟨a, dx, fs, e, _⟩ | ⟨i, e⟩ <;> cases e
        · obtain ⟨q1, k, rfl, nv⟩ := gn_kind (gx.same S1) (by simpa using hc)
          exact ⟨_, rfl, x, k, PN, q1, rfl, nv, (by decide), fun a H' S' rq => z _ _ S' ⟨some q1, hr', a, rfl, rq⟩⟩
      · intro H1 ys S1 hys hyl hP
        refine ⟨D, _, rfl, .inl ⟨SqL.of hys, fun t' nt' => ?_⟩⟩
        generalize hE : upd H1 t' _ = H2
        have ht' := upd_got hE
        have st := upd_stay hE nt'
        refine ⟨_, rfl, p, T.S, dx, [], rfl, (S1.trans st) _ _ hp, T.clS, T.nE, (by show 0 < 1000; decide), ?_⟩
        refine q H2 t' (S1.trans st) ⟨ys, ht', by rw [hyl, hv.1], fun i v r hv1 hr1 => ?_⟩
        obtain ⟨r', e1, e2⟩ := hP i v hv1
        rw [hr1] at e1
        cases e1
        exact e2.same st
end
end T08

/-! The class of series: its getters, length, ==, texts. -/
namespace T08
open PySem PySem.Spec PyProof.Rows L2 SF SQ SK
section
variable {P : Program} {w : World} {K : PySem.W.Frag} {mg : Str → Option Value} {base : Heap} {C : Addr}
theorem ok_SEnt (T : Tx K mg C) : FnOk P w K mg base CX0 1 T.aSEnt T.dSEnt ["self"] (getSp T.S "_entries") := by
  obtain ⟨oc, od, kV, doc, pm, an, cdv, ct, osl, e, lk, hcd⟩ := T.FSEnt.ex
  rw [e] at lk ⊢
  exact fn_getter lk hcd scSEnt rfl rfl T.clS T.nE
theorem n_sub {H : Hp} {C : Addr} {n : Nat} {S dx a t : Addr} {rs : List Ent} (h : H a = some (.ins S dx (sf1 t))) : (sf1 t).lookup ("_entries" : Str) = some (V.ref t) := by
  unfold sf1
  simp [putF]
theorem ent_look (t : Addr) : (sf1 t).lookup ("_entries" : Str) = some (V.ref t) := by
  unfold sf1
  simp [putF]
def spSMis (C S : Addr) : Sp := fun vs H Q _ => ∃ a rs, vs = [.ref a] ∧ SerAt C S PN H a rs ∧ ∀ t H', Same H H' → H' t = some (.tup (gapV rs)) → Q (.ref t) H'
theorem ok_SMis (T : Tx K mg C) : FnOk P w K mg base CX0 1 T.aSMis T.dSMis ["self"] (spSMis C T.S) := by
  refine T.FSMis.ok scSMis (fun vs H Q E h => ?_) (fun cdv A outer s H vs Q E hr h => ?_)
  · obtain ⟨a, rs, rfl, _⟩ := h
    rfl
  · obtain ⟨a, rs, rfl, hs, q⟩ := h
    obtain ⟨dx, t, ha, ⟨vs, ht, hv⟩, hl⟩ := hs.tup
    have ll := line400
    refine ⟨_, (pss_one (ps_ret (pe_callTy call_tuple_of (by rfl) T.tup (by decide +kernel) (pa_cons (pe_lc (own := [("place", 1), ("entry", 2)]) (g := gTup K 2 (gCons (gName 1) (gCons (gName 2) gNil))) (tt := tTest (tOp (fun x y H Q => y = .non ∧ Q (.bl (decide (x = .non))) H) (tVar 2) (tC .non))) rfl scSMis.nd (pi_enumT (by rfl) T.enum (pa_cons (pe_fld (pv 0) rfl) pa_nil)) (blkOk_by (N := ["self", "place", "entry"]) (sc := defScope sSMis) (by decide +kernel))
      (fun _ _ _ _ _ => pg_tup rfl (pgs_cons (pg_name (i := 1) scSMis.nd rfl (Or.inl rfl)) (pgs_cons (pg_name (i := 2) scSMis.nd rfl (Or.inl rfl)) pgs_nil))) (fun _ _ _ _ _ => pts_one (pt_cmpR op_isN (pv 2) pe_non (nomark _))) (fun _ _ _ _ _ => pv 1)) pa_nil)))), ?_⟩
    refine ⟨_, rfl, a, T.S, dx, _, _, rfl, ha, T.clS, T.nE, ent_look t, t, vs, rfl, SqT.of ht, fun D hD => lc_enumT (xs := vs) (fun i J => Same H J ∧ J D = some (.lst ((gapsTo rs i).map fun k => V.int (k : Nat)))) ⟨same_new (Same.refl _) hD, upd_same⟩ (fun i J hh => SqT.of (hh.1 _ _ ht)) ?_ ?_⟩
    · rintro i x T1 J hx ⟨S1, e1⟩ hT
      obtain ⟨r, hr', ex⟩ := hv.get hx
      have hi : i < rs.length := (List.getElem?_eq_some_iff.mp hr').1
      refine ⟨T1, _, rfl, SqT.of upd_same, rfl, _, _, rfl, _, _, rfl, rfl, ⟨rfl, ?_⟩⟩
      have S2 : Same J (upd J T1 (.tup [.int (i : Nat), x])) := same_new (Same.refl _) hT
      have gl := gaps_len rs i
      refine ⟨_, rfl, rfl, _, rfl, ?_⟩
      have st := gaps_step rs i
      refine ite2 (fun hc => ?_) (fun hc => ?_)
      · have e : x = .non := of_decide_eq_true hc
        have er : r = none := by
          cases r with
          | none => rfl
          | some q1 => obtain ⟨b, e2, _⟩ := ex; rw [e] at e2; cases e2
        subst er
        rw [if_pos hr'] at st
        refine ⟨_, rfl, _, S2 _ _ e1, by rw [List.length_map]; omega, fun b o hb => ?_, ?_⟩
        · rw [upd_ne (ne_of_none hb hD)]
          exact S2 _ _ (S1 _ _ hb)
        · rw [upd_same, st, List.map_append]
          rfl
      · have er : rs[i]? ≠ some none := by
          intro z
          rw [hr'] at z
          cases z
          exact hc (decide_eq_true ex)
        rw [if_neg er, List.append_nil] at st
        exact ⟨S1.trans S2, by rw [st]; exact S2 _ _ e1⟩
    · rintro J ⟨S1, e1⟩
      rw [hv.1] at e1
      refine ⟨D, _, rfl, .inl ⟨SqL.of e1, fun t' nt' => ?_⟩⟩
      generalize hE : upd J t' _ = H2
      exact q t' H2 (S1.trans (upd_stay hE nt')) (upd_got hE)
def spSLen (C S : Addr) : Sp := fun vs H Q _ => ∃ a rs, vs = [.ref a] ∧ SerAt C S PN H a rs ∧ Q (.int (rs.length : Nat)) H
theorem ok_SLen (T : Tx K mg C) : FnOk P w K mg base CX0 1 T.aSLen T.dSLen ["self"] (spSLen C T.S) := by
  refine T.FSLen.ok scSLen (fun vs H Q E h => ?_) (fun cdv A outer s H vs Q E hr h => ?_)
  · obtain ⟨a, rs, rfl, _⟩ := h
    rfl
  · obtain ⟨a, rs, rfl, hs, q⟩ := h
    obtain ⟨dx, t, ha, ⟨vs, ht, hv⟩, hl⟩ := hs.tup
    refine ⟨_, (pss_one (ps_ret (pe_callB call_len_seq (by rfl) T.len (by decide +kernel) (pa_cons (pe_fld (pv 0) rfl) pa_nil)))), ?_⟩
    refine ⟨_, rfl, a, T.S, dx, _, _, rfl, ha, T.clS, T.nE, ent_look t, t, vs, rfl, .inr (SqT.of ht), ?_⟩
    rw [hv.1]
    exact q
/-! ### == -/
theorem all_ent (rs rs' : List Ent) : SK.allB (fun i => decide (rs[i]? = rs'[i]?)) rs.length rs'.length = decide (rs = rs') := by
  unfold SK.allB
  by_cases h : rs = rs'
  · subst h
    simp
  · rw [decide_eq_false h]
    by_cases hl : rs.length = rs'.length
    · rw [Bool.and_eq_false_iff]
      left
      rw [Bool.eq_false_iff]
      intro hall
      apply h
      rw [List.all_eq_true] at hall
      refine List.ext_getElem? fun i => ?_
      by_cases hi : i < rs.length
      · exact of_decide_eq_true (hall i (List.mem_range.mpr (by omega)))
      · rw [List.getElem?_eq_none (by omega), List.getElem?_eq_none (by omega)]
    · simp [hl]
theorem rows_ent {H : Hp} {vs vs' : List V} {rs rs' : List Ent} (h : All2 (EN C PN H) vs rs) (h' : All2 (EN C PN H) vs' rs') : Rows (DEnt C PN) (fun i => decide (rs[i]? = rs'[i]?)) vs vs' H := by
  intro i x y hx hy
  obtain ⟨r, e1, e2⟩ := h.get hx
  obtain ⟨r', e1', e2'⟩ := h'.get hy
  exact ⟨r, r', e2, e2', by dsimp only; rw [e1, e1']; simp⟩
def DEq (T : Tx K mg C) : Df P w K mg base 3 ["self", "other"] (spEq C) := ⟨_, _, ok_Eq T, T.bEq⟩
theorem op_ents {X : Cx} (T : Tx X.K X.mg C) (hr : Room 4 X.A) : OpR X (compareOp .Eq) (rTupB X.K (DEnt C PN)) := op_tupB DEnt.same (eqB_ent T.rc (T.cS.dn _ (by decide)) T.cS.up (DEq T) T.hEq) hr
def spSEq (C S : Addr) : Sp := fun vs H Q _ => ∃ a y rs, vs = [.ref a, y] ∧ SerAt C S PN H a rs ∧ ((∃ b rs', y = .ref b ∧ SerAt C S PN H b rs' ∧ ∀ H', Same H H' → Q (.bl (decide (rs = rs'))) H') ∨ ∃ T, Dec H y T ∧ Q (.bl false) H)
theorem ser_ins {H : Hp} {S a : Addr} {rs : List Ent} (h : SerAt C S PN H a rs) : ∃ dx fs, H a = some (.ins S dx fs) := let ⟨dx, t, vs, e, _⟩ := h; ⟨dx, _, e⟩
theorem ok_SEq (T : Tx K mg C) : FnOk P w K mg base CX0 5 T.aSEq T.dSEq ["self", "other"] (spSEq C T.S) := by
  have GE : FnOk P w K mg base CX0 1 T.aSEnt T.dSEnt ["self"] (getSp T.S "_entries") := ok_SEnt T
  refine T.FSEq.ok scSEq (fun vs H Q E h => ?_) (fun cdv A outer s H vs Q E hr h => ?_)
  · obtain ⟨a, y, rs, rfl, _⟩ := h
    rfl
  · obtain ⟨a, y, rs, rfl, hs, h⟩ := h
    have hr2 := hr.mono (show 2 ≤ 4 by decide)
    obtain ⟨dx, t, ha, ⟨vs, ht, hv⟩, hl⟩ := hs.tup
    refine ⟨_, (pss_one (ps_ret (pe_and (pe_callB call_isi (by rfl) T.rc.isi (by decide +kernel) (pa_cons (pv 1) (pa_cons (pe_glob (v := .ref T.S) (by rfl) T.gS rfl) pa_nil))) (pe_one (pe_cmpR (op_ents T hr) (pe_fld (pv 0) rfl) (pe_prop (E := E0) (pv 1) T.clS T.PSEnt GE hr2 T.bSEnt .nil pass0 rfl) (nomark _)))))), ?_⟩
    rcases h with ⟨b, rs', rfl, hs', q⟩ | ⟨tb, d, q⟩
    · obtain ⟨dx', t', hb, ⟨vs', ht', hv'⟩, hl'⟩ := hs'.tup
      refine ⟨_, rfl, .ref b, .ref T.S, .ref T.S, .ref T.S, true, rfl, .own T.S, .base (.ins hb T.clS T.sk.ca T.sk.cn T.sk.ct T.sk.cm), T.sk.kS, true, rfl, iteT ?_⟩
      refine ⟨_, rfl, a, T.S, dx, _, _, rfl, ha, T.clS, T.nE, ent_look t, _, rfl, b, dx', _, rfl, hb, b, dx', _, _, rfl, hb, ent_look t', ?_⟩
      refine ⟨t, t', vs, vs', _, rfl, rfl, SqT.of ht, SqT.of ht', rows_ent hv hv', fun H' S => ?_⟩
      rw [hv.1, hv'.1, all_ent]
      exact q H' S
    · exact ⟨_, rfl, y, .ref T.S, .type tb, .ref T.S, false, rfl, .own T.S, d.typ, T.sk.kB _ d.mem, false, rfl, iteF q⟩
end
end T08

/-! The class of series: texts, reading, making. -/
namespace T08
open PySem PySem.Spec PyProof.Rows L2 SF SQ SK
section
variable {P : Program} {w : World} {K : PySem.W.Frag} {mg : Str → Option Value} {base : Heap} {C : Addr}
theorem SzE.mono {n m : Nat} {rs : List Ent} (h : SzE n rs) (hn : n ≤ m) : SzE m rs := fun q e => (h q e).mono hn
theorem EN.sz {H : Hp} {vs : List V} {rs : List Ent} (h : All2 (EN C PN H) vs rs) : SzE PN rs := by
  intro q hq
  obtain ⟨i, hi, e⟩ := List.getElem_of_mem hq
  have hi' : i < vs.length := by rw [h.1]; exact hi
  obtain ⟨a, _, x⟩ := h.2 i vs[i] (some q) (List.getElem?_eq_getElem hi') (by rw [List.getElem?_eq_getElem hi, e])
  exact x.2
theorem line_big : 210000 ≤ sizeLine := by decide
theorem big_line : sizeLine ≤ 16777216 ∨ 16777216 ≤ sizeLine := Nat.le_total _ _
def spSStr (C S : Addr) : Sp := fun vs H Q _ => ∃ a rs, vs = [.ref a] ∧ SerAt C S PN H a rs ∧ ∀ H', Same H H' → Q (.str (line rs)) H'
theorem ok_SStr (T : Tx K mg C) : FnOk P w K mg base CX0 4 T.aSStr T.dSStr ["self"] (spSStr C T.S) := by
  have GT : FnOk P w K mg base CX0 1 T.aStr T.dStr ["self"] (spStr C) := ok_Str T
  refine T.FSStr.ok scSStr (fun vs H Q E h => ?_) (fun cdv A outer s H vs Q E hr h => ?_)
  · obtain ⟨a, rs, rfl, _⟩ := h
    rfl
  · obtain ⟨a, rs, rfl, hs, q⟩ := h
    obtain ⟨dx, t, ha, ⟨vs, ht, hv⟩, hl⟩ := hs.tup
    have ll := line400
    have sz : SzE 800 rs := SzE.mono (EN.sz hv) (by decide)
    refine ⟨_, (pss_one (ps_ret (pe_join pe_str (pe_lc (own := [("entry", 1)]) (g := gName 1) (tt := tYes) rfl scSStr.nd (pi_tup (pe_fld (pv 0) rfl)) (blkOk_by (N := ["self", "entry"]) (sc := defScope sSStr) (by decide +kernel)) (fun _ _ _ _ _ => pg_name (i := 1) scSStr.nd rfl (Or.inl rfl)) (fun _ _ _ _ _ => pts_nil)
        (fun _ _ _ _ _ => pe_ifExp (pt_cmpR op_isN (pv 1) pe_non (nomark _)) (pe_glob (v := .str "_") (by rfl) T.gap ⟨_, rfl⟩) (pe_callTy (call_strOwn (E := E0) T.hStr.h T.hStr.i GT T.bStr (hr.mono (by decide)) pass0) (by rfl) T.rc.str_ (by decide +kernel) (pa_cons (pv 1) pa_nil))))))), ?_⟩
    refine ⟨⟨_, rfl⟩, _, rfl, a, T.S, dx, _, _, rfl, ha, T.clS, T.nE, ent_look t, t, rfl, ⟨_, SqT.of ht⟩, fun D hD => lcS_tup (P := fun i y _ => ∃ r, rs[i]? = some r ∧ y = .str (estr r)) ?_ ?_ (SqT.of ht) (by rw [hv.1]; omega) hD ?_ ?_⟩
    · rintro k y H1 H2 S h; exact h
    · rintro k y H1 D1 xs zs hd h; exact h
    · intro i x H1 Q1 hx S1 z
      obtain ⟨r, hr', ex⟩ := hv.get hx
      refine ⟨_, rfl, rfl, _, rfl, ?_⟩
      cases r with
      | none =>
        have e : x = .non := ex
        subst e
        exact iteT (z _ _ (Same.refl _) ⟨none, hr', rfl⟩)
      | some q1 =>
        obtain ⟨b, rfl, ⟨dy, hb⟩, s1⟩ := ex
        refine iteF ⟨_, rfl, b, dy, _, rfl, S1 _ _ hb, b, PN, q1, rfl, ⟨⟨dy, S1 _ _ hb⟩, s1⟩, (by decide), _, rfl, z _ _ (Same.refl _) ⟨some q1, hr', rfl⟩⟩
    · intro H1 ys S1 hys hyl hP
      have ey : ys = (rs.map estr).map V.str := by
        refine List.ext_getElem? fun i => ?_
        rw [List.map_map, List.getElem?_map]
        by_cases hi : i < ys.length
        · obtain ⟨r, e1, e2⟩ := hP i ys[i] (List.getElem?_eq_getElem hi)
          rw [e1, List.getElem?_eq_getElem hi, e2]
          rfl
        · rw [List.getElem?_eq_none (by omega), List.getElem?_eq_none (by rw [← hv.1]; omega)]
          rfl
      rw [ey] at hys
      refine ⟨(" " : Str), D, rs.map estr, rfl, rfl, .inl (SqL.of hys), ?_, q H1 S1⟩
      have h1 := line_sum sz
      have e : (" " : Str).length = 1 := rfl
      rw [List.length_map, e]
      omega
def spSRepr (C S : Addr) : Sp := fun vs H Q _ => ∃ a rs, vs = [.ref a] ∧ SerAt C S PN H a rs ∧ ∀ H', Same H H' → Q (.str (srepr rs)) H'
theorem ok_SRepr (T : Tx K mg C) : FnOk P w K mg base CX0 7 T.aSRepr T.dSRepr ["self"] (spSRepr C T.S) := by
  have GT : FnOk P w K mg base CX0 4 T.aSStr T.dSStr ["self"] (spSStr C T.S) := ok_SStr T
  refine T.FSRepr.ok scSRepr (fun vs H Q E h => ?_) (fun cdv A outer s H vs Q E hr h => ?_)
  · obtain ⟨a, rs, rfl, _⟩ := h
    rfl
  · obtain ⟨a, rs, rfl, hs, q⟩ := h
    obtain ⟨dx, t, ha, ⟨vs, ht, hv⟩, hl⟩ := hs.tup
    have sz : SzE 800 rs := SzE.mono (EN.sz hv) (by decide)
    have lz := line_len sz
    have lb := line_big
    refine ⟨_, (pss_one (ps_ret (pe_joined (.cons pe_str (.cons (pe_fmtR (pe_callTy (call_strOwn (E := E0) T.hSStr.h T.hSStr.i GT T.bSStr hr pass0) (by rfl) T.rc.str_ (by decide +kernel) (pa_cons (pv 0) pa_nil))) (.cons pe_str .nil)))))), ?_⟩
    have s0 : Str.empty.length = 0 := rfl
    have s1 : ("Series(" : Str).length = 7 := rfl
    have s2 : (")" : Str).length = 1 := rfl
    have s3 : ("'" : Str).length = 1 := rfl
    refine ⟨_, rfl, ?_, _, rfl, a, dx, _, rfl, ha, a, rs, rfl, hs, fun H1 S1 => ⟨_, rfl, .inl ⟨line rs, rfl, ?_, ?_⟩⟩⟩
    · simp only [Str.length_append]; omega
    · rw [line_repr]
      simp only [Str.length_append]; omega
    · rw [line_repr]
      refine ⟨_, rfl, ?_, _, rfl, ?_, q H1 S1⟩
      · simp only [Str.length_append]; omega
      · simp only [Str.length_append]; omega
/-! ### reading -/
def spREnt (C : Addr) : Sp := fun vs H Q _ => ∃ r l, vs = [.str (estr r), .str l] ∧ (∀ q, r = some q → Sz PN q) ∧ ∀ v H', Same H H' → EN C PN H' v r → Q v H'
theorem ok_REnt (T : Tx K mg C) : FnOk P w K mg base CX0 5 T.aREnt T.dREnt ["word", "text"] (spREnt C) := by
  have GR : FnOk P w K mg base CX0 4 T.aRd T.dRd ["cls", "text"] (spRd C) := ok_Rd T
  refine T.FREnt.ok scREnt (fun vs H Q E h => ?_) (fun cdv A outer s H vs Q E hr h => ?_)
  · obtain ⟨r, l, rfl, _⟩ := h
    rfl
  · obtain ⟨r, l, rfl, hsz, q⟩ := h
    refine ⟨_, PSs.nox (pss_cons (ps_if (pt_cmpR op_eq (pv 0) (pe_glob (v := .str "_") (by rfl) T.gap ⟨_, rfl⟩) (nomark _)) (pss_one (ps_ret pe_non)) pss_nil)
      (pss_one (ps_try_only rfl rfl ⟨rfl, by decide, .inl T.gET⟩ LamX.takes0 (fun W pn xe tk _ => pss_one (ps_ret (ClX.pe_cmeth (E := E0) (pe_glob (v := .ref C) (by rfl) T.rc.mgC rfl) T.rRd T.cRd (GR.raw T.bRd .nil) hr pass0 (pa_cons (pv 0) pa_nil)))) (fun a oe cls d pn _ _ => pss_one ps_never)))), ?_⟩
    refine ⟨_, rfl, rfl, _, rfl, ?_⟩
    rw [str_dec]
    cases r with
    | none =>
      rw [decide_eq_true (show estr none = ("_" : Str) from rfl)]
      exact iteT (q .non H (Same.refl _) rfl)
    | some x =>
      rw [decide_eq_false (show ¬ estr (some x) = ("_" : Str) from rstr_us x)]
      have sz := hsz x rfl
      have s8 : Sz 800 x := sz.mono (by decide)
      have h1 : (tx x.num).length ≤ 250 := tx_short s8.1
      have h2 : (tx (x.den : Int)).length ≤ 250 := tx_short (show (x.den : Int).natAbs < 2 ^ 800 from s8.2)
      have h3 := rstr_len h1 h2
      refine iteF ⟨rfl, _, rfl, rstr x, rfl, by omega, isTx_rstr x (by omega) (by omega), fun p H' S rq => ?_⟩
      rw [rdq_rstr x (by omega) (by omega)] at rq
      exact q _ H' S ⟨p, rfl, rq.1, sz⟩
theorem ins_rf {C S : Addr} {dx : Addr} : ∀ (dy : Addr) (t b : Int), HO.ins S dx [] ≠ HO.ins C dy (rf t b) := by
  intro dy t b h
  injection h with _ _ h
  have e := congrArg (fun f => List.lookup ("_top" : Str) f) h
  simp only [rf_top] at e
  cases e
theorem mk_ser {H : Hp} {S t x dx : Addr} {rs : List Ent} {W : VK} (hx : H x = none) (hd : H dx = none) (hn : dx ≠ x) (hg : TupG C PN H t rs) (hl : rs.length ≤ 400) (q : ∀ H2, Same H H2 → SerAt C S PN H2 x rs → W .non H2) :
    spSI C S [.ref x, .ref t] (upd (upd H dx (.own x)) x (.ins S dx [])) W E0 := by
  have S0 : Same H (upd (upd H dx (.own x)) x (.ins S dx [])) := same_new (same_new (Same.refl _) hd) (by rw [upd_ne (Ne.symm hn)]; exact hx)
  refine ⟨x, t, dx, rs, rfl, upd_same, hg.same S0, hl, fun H1 t' S1 ⟨vs, ht, hv⟩ => ?_⟩
  have e1 : H1 x = some (.ins S dx []) := S1 _ _ upd_same
  refine q _ (fun b o e => ?_) ⟨dx, t', vs, upd_same, ?_, hv.imp fun v r z => z.off e1 ins_rf, hl⟩
  · rw [upd_ne (ne_of_none e hx)]
    exact S1 _ _ (S0 _ _ e)
  · rw [upd_ne (fun z => by subst z; rw [e1] at ht; cases ht)]
    exact ht
def spSR (C S : Addr) : Sp := fun vs H Q _ => ∃ rs, vs = [.ref S, .str (line rs)] ∧ SzE PN rs ∧ rs.length ≤ 400 ∧ ∀ p H', Same H H' → SerAt C S PN H' p rs → Q (.ref p) H'
theorem ok_SR (T : Tx K mg C) : FnOk P w K mg base CX0 7 T.aSR T.dSR ["cls", "text"] (spSR C T.S) := by
  have GI : FnOk P w K mg base CX0 5 T.aSI T.dSI ["self", "entries"] (spSI C T.S) := ok_SI T
  have GE : FnOk P w K mg base CX0 5 T.aREnt T.dREnt ["word", "text"] (spREnt C) := ok_REnt T
  refine T.FSR.ok scSR (fun vs H Q E h => ?_) (fun cdv A outer s H vs Q E hr h => ?_)
  · obtain ⟨rs, rfl, _⟩ := h
    rfl
  · obtain ⟨rs, rfl, hsz, hl, q⟩ := h
    have hr5 := hr.mono (show 5 ≤ 6 by decide)
    have ll := line400
    have lb := line_big
    have lz := line_len (SzE.mono hsz (show PN ≤ 800 by decide))
    refine ⟨_, PSs.nox (pss_cons (ps_if (pt_not (pt_val (pe_callB call_isi (by rfl) T.rc.isi (by decide +kernel) (pa_cons (pv 1) (pa_cons (pe_bltn (v := .ty "str") (u := .type "str") (by rfl) T.rc.str_ (by decide +kernel) rfl) pa_nil))))) (pss_one ps_never) pss_nil)
      (pss_cons (ps_if (pt_cmpR op_eq (pv 1) pe_str (nomark _)) (pss_one (ps_ret (pe_makeL (i := 0) T.MS GI hr rfl (.inl rfl) T.bSI .nil pass0 (pa_cons (pe_tup pa_nil) pa_nil)))) pss_nil)
      (pss_one (ps_ret (pe_makeL (i := 0) T.MS GI hr rfl (.inl rfl) T.bSI .nil pass0 (pa_cons (pe_callTy call_tuple_of (by rfl) T.tup (by decide +kernel) (pa_cons (pe_lc (own := [("word", 2)]) (g := gName 2) (tt := tYes) rfl scSR.nd (pi_list (pe_split (pv 1) pe_str)) (blkOk_by (N := ["cls", "text", "word"]) (sc := defScope sSR) (by decide +kernel)) (fun _ _ _ _ _ => pg_name (i := 2) scSR.nd rfl (Or.inl rfl)) (fun _ _ _ _ _ => pts_nil)
        (fun _ _ _ _ _ => pe_call GE hr5 (by rfl) T.gREnt T.FREnt.kp T.bREnt .nil pass0 (pa_cons (pv 2) (pa_cons (pv 1) pa_nil)))) pa_nil)) pa_nil)))))), ?_⟩
    refine ⟨_, rfl, _, _, _, _, true, rfl, .ty _, (Dec.str _).typ, kit_ty (by decide +kernel), true, rfl, iteF ?_⟩
    refine ⟨_, rfl, rfl, _, rfl, ?_⟩
    rw [str_dec]
    refine ite2 (fun hc => ?_) (fun hc => ?_)
    · have e : rs = [] := by
        cases rs with
        | nil => rfl
        | cons r t => exact absurd (of_decide_eq_true hc) (line_ne (by simp))
      subst e
      refine ⟨rfl, (by show 0 ≤ sizeLine; omega), fun t ht => ?_⟩
      generalize hE : upd H t _ = H1
      have gt := upd_got hE
      have st := upd_stay hE ht
      exact fun x dx hx hd hn => mk_ser hx hd hn ⟨[], gt, All2.nil⟩ hl fun H2 S2 sr => ⟨rfl, q _ _ (st.trans S2) sr⟩
    · have hne : rs ≠ [] := fun z => hc (by rw [z]; rfl)
      refine ⟨rfl, _, rfl, ⟨_, rfl⟩, line rs, " ", rfl, rfl, rfl, by omega, fun p hp => ?_⟩
      rw [line_split hne]
      generalize hE : upd H p _ = H1
      have gp := upd_got hE
      have sp := upd_stay hE hp
      refine ⟨p, rfl, ⟨_, SqL.of gp⟩, fun D hD => lcS_list (P := fun i y H => ∃ r, rs[i]? = some r ∧ EN C PN H y r) ?_ ?_ (SqL.of gp) (by simp; omega) hD ?_ ?_⟩
      · rintro k y H1 H2 S ⟨r, h1, h2⟩; exact ⟨r, h1, h2.same S⟩
      · rintro k y H1 D1 xs zs hd ⟨r, h1, h2⟩; exact ⟨r, h1, h2.offL hd⟩
      · intro i x H2 Q1 hx S1 z
        rw [List.map_map, List.getElem?_map] at hx
        cases hr' : rs[i]? with
        | none => rw [hr'] at hx; cases hx
        | some r =>
          rw [hr'] at hx
          have ex : x = .str (estr r) := (Option.some.inj hx).symm
          subst ex
          exact ⟨_, rfl, _, rfl, r, line rs, rfl, fun q e => hsz q (by subst e; exact List.mem_of_getElem? hr'), fun v H' S' en => z _ _ S' ⟨r, hr', en⟩⟩
      · intro H2 ys S1 hys hyl hP
        refine ⟨D, _, rfl, .inl ⟨SqL.of hys, fun t' nt' => ?_⟩⟩
        generalize hE' : upd H2 t' _ = H3
        have gt := upd_got hE'
        have st := upd_stay hE' nt'
        have tg : TupG C PN H3 t' rs := ⟨ys, gt, by rw [hyl]; simp, fun i v r hv1 hr1 => by
          obtain ⟨r', e1, e2⟩ := hP i v hv1
          rw [hr1] at e1
          cases e1
          exact (e2.same st).gn⟩
        exact fun x dx hx hd hn => mk_ser hx hd hn tg hl fun H4 S4 sr => ⟨rfl, q _ _ (((sp.trans S1).trans st).trans S4) sr⟩
end
end T08

/-! The texts of fractions of many digits. -/
namespace T08
open PySem PySem.Spec PyProof.Rows L2 SF SQ
section
variable {P : Program} {w : World} {K : PySem.W.Frag} {mg : Str → Option Value} {base : Heap} {C : Addr}
theorem ok_ReprB (T : Tx K mg C) (N : ND K) : FnOk P w K mg base CX0 1 T.aRepr T.dRepr ["self"] (spReprB C) := by
  refine T.FRepr.ok scRepr (fun vs H Q E h => ?_) (fun cdv A outer s H vs Q E hr h => ?_)
  · obtain ⟨a, n, q, rfl, _⟩ := h
    rfl
  · obtain ⟨a, n, x, rfl, ⟨⟨dx, hp⟩, sz⟩, hn, q⟩ := h
    have l5 := sizeLine_eq
    have lt := big43 sz.1 hn
    have lb := big43 (show (x.den : Int).natAbs < 2 ^ n from sz.2) hn
    have x1 := tx_lenB sz.1 hn
    have x2 := tx_lenB (show (x.den : Int).natAbs < 2 ^ n from sz.2) hn
    have s0 : Str.empty.length = 0 := rfl
    have s1 : ("Ratio(" : Str).length = 6 := rfl
    have s2 : (", " : Str).length = 2 := rfl
    have s3 : (")" : Str).length = 1 := rfl
    unfold LIM at x1 x2
    refine ⟨_, (pss_one (ps_ret (pe_joined (.cons pe_str (.cons (pe_fmtB N rfl (pe_fld (pv 0) rfl)) (.cons pe_str (.cons (pe_fmtB N rfl (pe_fld (pv 0) rfl)) (.cons pe_str .nil)))))))), ?_⟩
    refine ⟨_, rfl, ?_, _, rfl, a, C, dx, _, _, rfl, hp, T.rc.cl, T.rc.nT, rf_top _ _, ⟨_, rfl, lt, _, rfl, ?_, _, rfl, ?_, _, rfl, a, C, dx, _, _, rfl, hp, T.rc.cl, T.rc.nB, rf_bot _ _, ⟨_, rfl, lb, _, rfl, ?_, _, rfl, ?_, q⟩⟩⟩
    · simp only [Str.length_append]; omega
    · simp only [Str.length_append]; omega
    · simp only [Str.length_append]; omega
    · simp only [Str.length_append]; omega
    · simp only [Str.length_append]; omega
def DReprB (T : Tx K mg C) (N : ND K) : Df P w K mg base 1 ["self"] (spReprB C) := ⟨_, _, ok_ReprB T N, T.bRepr⟩
end
end T08

/-! The law's word and fields of a caught error. -/
namespace T08
open PySem PySem.Spec PyProof.Rows L2 SF SQ SFT L2H
section
variable {P : Program} {w : World} {K : PySem.W.Frag} {mg : Str → Option Value} {base : Heap} {cs bs : Nat → Addr} {H H' : Hp} {a : Addr} {oe : Obj} {d : Option Addr} {fs : List (Str × V)} {i : Nat} {f : Addr} {fd : FuncData}
theorem upd_gotC {H H' : Hp} {p : Addr} {o : HO} (h : upd H p o = H') : H' p = some o := by rw [← h]; exact upd_same
theorem upd_stayC {H H' : Hp} {p : Addr} {o : HO} (h : upd H p o = H') (n : H p = none) : Same H H' := by rw [← h]; exact fun b u e => by rw [upd_ne (ne_of_none e n)]; exact e
def spWd (a : Addr) (d : Option Addr) (fs : List (Str × V)) (i : Nat) : Sp := fun vs H Q _ => vs = [.ref a] ∧ EdOk H d fs ∧ ∀ H', Same H H' → Q (.str (cnm i)) H'

def blWd (i : Nat) : List V := [V.bl (decide (i = 0)), V.bl (decide (i = 1)), V.bl (decide (i = 2)), V.bl (decide (i = 3)), V.bl (decide (i = 4)), V.bl (decide (i = 5)), V.bl (decide (i = 6)), V.bl (decide (i = 7)), V.bl (decide (i = 8)), V.bl (decide (i = 9)), V.bl (decide (i = 10)), V.bl (decide (i = 11))]
def wlWd : List V := cnms.map V.str
theorem wd_c : ∀ i, i < 12 → (blWd i).countP (fun z => eqV z (.bl true)) = 1 := by decide +kernel
theorem wd_i : ∀ i, i < 12 → (blWd i)[i]? = some (V.bl true) ∧ (∀ m, m < i → (blWd i)[m]? = some (V.bl false)) ∧ wlWd[i]? = some (.str (cnm i)) := by decide +kernel
theorem okWd (F : Fun K "_law_word" "_law_word" sWord f fd) (T : CErr K mg cs bs) (hi : i < 12) (hz : Zc (.ref (cs i)) d oe) (hf : ∃ vs, oe.data = .fields vs) : FnP P w K mg base CX0 1 (a, oe) f fd ["_law_e"] (spWd a d fs i) := by
  refine SFT.Fun.okP F scWord (fun vs H Q E h => ?_) (fun cdv A outer s H vs Q E hg hr h => ?_)
  · obtain ⟨rfl, _⟩ := h
    rfl
  · obtain ⟨rfl, HA, q⟩ := h
    refine ⟨_, (pss_cons (ps_set (i := 1) scWord.nd rfl (.inl rfl) (pe_lst (pa_cons (pe_callB (call_isP2 (T.ex i hi) hz hf List.mem_cons_self) (by rfl) T.isi (by decide +kernel) (pa_cons (pv 0) (pa_cons (pe_glob (v := .ref (cs 0)) (u := .ref (cs 0)) (by rfl) (T.g 0 (by decide)) rfl) pa_nil))) (pa_cons (pe_callB (call_isP2 (T.ex i hi) hz hf List.mem_cons_self) (by rfl) T.isi (by decide +kernel) (pa_cons (pv 0) (pa_cons (pe_glob (v := .ref (cs 1)) (u := .ref (cs 1)) (by rfl) (T.g 1 (by decide)) rfl) pa_nil))) (pa_cons (pe_callB (call_isP2 (T.ex i hi) hz hf List.mem_cons_self) (by rfl) T.isi (by decide +kernel) (pa_cons (pv 0) (pa_cons (pe_glob (v := .ref (cs 2)) (u := .ref (cs 2)) (by rfl) (T.g 2 (by decide)) rfl) pa_nil))) pa_nil)))))
      (pss_cons (ps_set (i := 1) scWord.nd rfl (.inl rfl) (pe_op op_cat (pv 1) (pe_lst (pa_cons (pe_callB (call_isP2 (T.ex i hi) hz hf List.mem_cons_self) (by rfl) T.isi (by decide +kernel) (pa_cons (pv 0) (pa_cons (pe_glob (v := .ref (cs 3)) (u := .ref (cs 3)) (by rfl) (T.g 3 (by decide)) rfl) pa_nil))) (pa_cons (pe_callB (call_isP2 (T.ex i hi) hz hf List.mem_cons_self) (by rfl) T.isi (by decide +kernel) (pa_cons (pv 0) (pa_cons (pe_glob (v := .ref (cs 4)) (u := .ref (cs 4)) (by rfl) (T.g 4 (by decide)) rfl) pa_nil))) (pa_cons (pe_callB (call_isP2 (T.ex i hi) hz hf List.mem_cons_self) (by rfl) T.isi (by decide +kernel) (pa_cons (pv 0) (pa_cons (pe_glob (v := .ref (cs 5)) (u := .ref (cs 5)) (by rfl) (T.g 5 (by decide)) rfl) pa_nil))) pa_nil))))))
      (pss_cons (ps_set (i := 1) scWord.nd rfl (.inl rfl) (pe_op op_cat (pv 1) (pe_lst (pa_cons (pe_callB (call_isP2 (T.ex i hi) hz hf List.mem_cons_self) (by rfl) T.isi (by decide +kernel) (pa_cons (pv 0) (pa_cons (pe_glob (v := .ref (cs 6)) (u := .ref (cs 6)) (by rfl) (T.g 6 (by decide)) rfl) pa_nil))) (pa_cons (pe_callB (call_isP2 (T.ex i hi) hz hf List.mem_cons_self) (by rfl) T.isi (by decide +kernel) (pa_cons (pv 0) (pa_cons (pe_glob (v := .ref (cs 7)) (u := .ref (cs 7)) (by rfl) (T.g 7 (by decide)) rfl) pa_nil))) (pa_cons (pe_callB (call_isP2 (T.ex i hi) hz hf List.mem_cons_self) (by rfl) T.isi (by decide +kernel) (pa_cons (pv 0) (pa_cons (pe_glob (v := .ref (cs 8)) (u := .ref (cs 8)) (by rfl) (T.g 8 (by decide)) rfl) pa_nil))) pa_nil))))))
      (pss_cons (ps_set (i := 1) scWord.nd rfl (.inl rfl) (pe_op op_cat (pv 1) (pe_lst (pa_cons (pe_callB (call_isP2 (T.ex i hi) hz hf List.mem_cons_self) (by rfl) T.isi (by decide +kernel) (pa_cons (pv 0) (pa_cons (pe_glob (v := .ref (cs 9)) (u := .ref (cs 9)) (by rfl) (T.g 9 (by decide)) rfl) pa_nil))) (pa_cons (pe_callB (call_isP2 (T.ex i hi) hz hf List.mem_cons_self) (by rfl) T.isi (by decide +kernel) (pa_cons (pv 0) (pa_cons (pe_glob (v := .ref (cs 10)) (u := .ref (cs 10)) (by rfl) (T.g 10 (by decide)) rfl) pa_nil))) (pa_cons (pe_callB (call_isP2 (T.ex i hi) hz hf List.mem_cons_self) (by rfl) T.isi (by decide +kernel) (pa_cons (pv 0) (pa_cons (pe_glob (v := .ref (cs 11)) (u := .ref (cs 11)) (by rfl) (T.g 11 (by decide)) rfl) pa_nil))) pa_nil))))))
      (pss_cons (ps_set (i := 2) scWord.nd rfl (.inl rfl) (pe_lst (pa_cons pe_str (pa_cons pe_str (pa_cons pe_str (pa_cons pe_str (pa_cons pe_str (pa_cons pe_str pa_nil))))))))
      (pss_cons (ps_set (i := 2) scWord.nd rfl (.inl rfl) (pe_op op_cat (pv 2) (pe_lst (pa_cons pe_str (pa_cons pe_str (pa_cons pe_str (pa_cons pe_str (pa_cons pe_str (pa_cons pe_str pa_nil)))))))))
      (pss_one (ps_ret (pe_ifExp (pt_cmpR op_eq (pe_bm PySem.F.plainAttrs_list PySem.F.slot_list_count PySem.F.type_list_count SX.mt_countF (pv 1) (pa_cons pe_bl pa_nil)) pe_int (nomark _)) (pe_ix ix_list (pv 2) (pe_bm PySem.F.plainAttrs_list PySem.F.slot_list_index PySem.F.type_list_index mt_index (pv 1) (pa_cons pe_bl pa_nil)) (fun _ _ => rfl)) pe_str))))))))), ?_⟩
    refine ⟨_, rfl, _, _, _, fs, rfl, .own _, HA, T.kit i 0 hi (by decide), _, rfl, _, _, _, fs, rfl, .own _, HA, T.kit i 1 hi (by decide), _, rfl, _, _, _, fs, rfl, .own _, HA, T.kit i 2 hi (by decide), (by show 3 ≤ sizeLine; decide), fun p1 n1 => ?_⟩
    generalize h1 : upd H p1 _ = H1
    have g1 := upd_gotC h1
    have y1 := upd_stayC h1 n1
    replace HA := HA.same y1
    refine ⟨_, rfl, _, rfl, _, _, _, fs, rfl, .own _, HA, T.kit i 3 hi (by decide), _, rfl, _, _, _, fs, rfl, .own _, HA, T.kit i 4 hi (by decide), _, rfl, _, _, _, fs, rfl, .own _, HA, T.kit i 5 hi (by decide), (by show 3 ≤ sizeLine; decide), fun p2 n2 => ?_⟩
    generalize h2 : upd H1 p2 _ = H2
    have g2 := upd_gotC h2
    have y2 := upd_stayC h2 n2
    replace HA := HA.same y2
    have k2 := y2 _ _ g1
    refine ⟨p1, p2, _, _, rfl, rfl, k2, g2, (by show 6 ≤ sizeLine; decide), fun p3 n3 => ?_⟩
    generalize h3 : upd H2 p3 _ = H3
    have g3 := upd_gotC h3
    have y3 := upd_stayC h3 n3
    replace HA := HA.same y3
    refine ⟨_, rfl, _, rfl, _, _, _, fs, rfl, .own _, HA, T.kit i 6 hi (by decide), _, rfl, _, _, _, fs, rfl, .own _, HA, T.kit i 7 hi (by decide), _, rfl, _, _, _, fs, rfl, .own _, HA, T.kit i 8 hi (by decide), (by show 3 ≤ sizeLine; decide), fun p4 n4 => ?_⟩
    generalize h4 : upd H3 p4 _ = H4
    have g4 := upd_gotC h4
    have y4 := upd_stayC h4 n4
    replace HA := HA.same y4
    have k4 := y4 _ _ g3
    refine ⟨p3, p4, _, _, rfl, rfl, k4, g4, (by show 9 ≤ sizeLine; decide), fun p5 n5 => ?_⟩
    generalize h5 : upd H4 p5 _ = H5
    have g5 := upd_gotC h5
    have y5 := upd_stayC h5 n5
    replace HA := HA.same y5
    refine ⟨_, rfl, _, rfl, _, _, _, fs, rfl, .own _, HA, T.kit i 9 hi (by decide), _, rfl, _, _, _, fs, rfl, .own _, HA, T.kit i 10 hi (by decide), _, rfl, _, _, _, fs, rfl, .own _, HA, T.kit i 11 hi (by decide), (by show 3 ≤ sizeLine; decide), fun p6 n6 => ?_⟩
    generalize h6 : upd H5 p6 _ = H6
    have g6 := upd_gotC h6
    have y6 := upd_stayC h6 n6
    replace HA := HA.same y6
    have k6 := y6 _ _ g5
    refine ⟨p5, p6, _, _, rfl, rfl, k6, g6, (by show 12 ≤ sizeLine; decide), fun p7 n7 => ?_⟩
    generalize h7 : upd H6 p7 _ = H7
    have g7 := upd_gotC h7
    have y7 := upd_stayC h7 n7
    replace HA := HA.same y7
    refine ⟨(by show 6 ≤ sizeLine; decide), fun p8 n8 => ?_⟩
    generalize h8 : upd H7 p8 _ = H8
    have g8 := upd_gotC h8
    have y8 := upd_stayC h8 n8
    replace HA := HA.same y8
    refine ⟨_, rfl, (by show 6 ≤ sizeLine; decide), fun p9 n9 => ?_⟩
    generalize h9 : upd H8 p9 _ = H9
    have g9 := upd_gotC h9
    have y9 := upd_stayC h9 n9
    replace HA := HA.same y9
    have k9 := y9 _ _ g8
    refine ⟨p8, p9, _, _, rfl, rfl, k9, g9, (by show 12 ≤ sizeLine; decide), fun p10 n10 => ?_⟩
    generalize h10 : upd H9 p10 _ = H10
    have g10 := upd_gotC h10
    have y10 := upd_stayC h10 n10
    replace HA := HA.same y10
    have S : Same H H10 := (((((((((y1.trans y2).trans y3).trans y4).trans y5).trans y6).trans y7).trans y8).trans y9).trans y10)
    have gs : H10 p7 = some (.lst (blWd i)) := (y10 _ _ (y9 _ _ (y8 _ _ g7)))
    have gw : H10 p10 = some (.lst wlWd) := g10
    have fall : (blWd i).all flatV = true := rfl
    refine ⟨_, rfl, .inl ⟨rfl, _, SqL.of gs⟩, p7, _, _, rfl, rfl, SqL.of gs, rfl, fall, rfl, _, rfl, ?_⟩
    rw [wd_c i hi]
    obtain ⟨e1, e2, e3⟩ := wd_i i hi
    refine ite2 (fun _ => ⟨_, rfl, _, rfl, .inl ⟨rfl, _, SqL.of gs⟩, p7, _, _, i, _, rfl, rfl, SqL.of gs, rfl, fall, e1, rfl, (fun m z hm hz => ?_), p10, _, _, _, rfl, rfl, SqL.of gw, atI_nat e3, ?_⟩) (fun z => absurd rfl z)
    · rw [e2 m hm] at hz
      cases hz
      rfl
    · exact q _ S
def spFd (a : Addr) (d : Option Addr) (fs : List (Str × V)) (i : Nat) : Sp := fun vs H Q _ => ∃ ys, vs = [.ref a, .str (cnm i)] ∧ EdOk H d fs ∧ given i fs = some ys ∧ ∀ p H', Same H H' → H' p = some (.tup ys) → Q (.ref p) H'
theorem okFd (F : Fun K "_law_fields" "_law_fields" sFields f fd) (T : CErr K mg cs bs) (hi : i < 12) (hz : Zc (.ref (cs i)) d oe) (hf : ∃ vs, oe.data = .fields vs) : FnP P w K mg base CX0 1 (a, oe) f fd ["_law_e", "_law_word_here"] (spFd a d fs i) := by
  refine SFT.Fun.okP F scFields (fun vs H Q E h => ?_) (fun cdv A outer s H vs Q E hg hr h => ?_)
  · obtain ⟨ys, rfl, _⟩ := h
    rfl
  · obtain ⟨ys, rfl, HA, hg, q⟩ := h
    refine ⟨_, (pss_cons (ps_if (pt_cmpR op_in_seq (pv 1) (pe_lst (pa_cons pe_str (pa_cons pe_str pa_nil))) rfl) (pss_one (ps_ret (pe_tup pa_nil))) pss_nil)
      (pss_cons (ps_if (pt_cmpR op_eq (pv 1) pe_str (nomark _)) (pss_one (ps_ret (pe_tup (pa_cons (pe_fldP (T.xf i hi) (T.no i hi _ (by decide)) hz hf List.mem_cons_self (pv 0)) pa_nil)))) pss_nil)
      (pss_one (ps_ret (pe_ifExp (pt_cmpR op_eq (pv 1) pe_str (nomark _)) (pe_tup (pa_cons (pe_fldP (T.xf i hi) (T.no i hi _ (by decide)) hz hf List.mem_cons_self (pv 0)) pa_nil)) (pe_tup (pa_cons (pe_fldP (T.xf i hi) (T.no i hi _ (by decide)) hz hf List.mem_cons_self (pv 0)) pa_nil))))))), ?_⟩
    refine ⟨_, rfl, (by show 2 ≤ sizeLine; decide), fun p1 n1 => ⟨p1, _, rfl, .inl (SqL.of upd_same), rfl, rfl, _, rfl, ?_⟩⟩
    generalize h1 : upd H p1 _ = H1
    have y1 := upd_stayC h1 n1
    have ret : ∀ p, H1 p = none → Q (.ref p) (upd H1 p (.tup ys)) := fun p hp => q p _ (fun b o e => by rw [upd_ne (ne_of_none (y1 b o e) hp)]; exact y1 b o e) upd_same
    have one : ∀ f : Str, i ≠ 10 → cfl i = f → ∃ v, ys = [v] ∧ fs.lookup f = some v := fun f hn e => by
      unfold given at hg
      rw [if_neg hn, e] at hg
      cases hl : fs.lookup f with
      | none => rw [hl] at hg; cases hg
      | some v => rw [hl] at hg; cases hg; exact ⟨v, rfl, rfl⟩
    refine ite2 (fun hc => ?_) (fun hc1 => ?_)
    · have e := (by decide +kernel : ∀ i, i < 12 → inV (.str (cnm i)) [.str "", .str "DividedByZero"] = true → i = 10) i hi hc
      subst e
      cases hg
      exact ⟨(by show 0 ≤ sizeLine; decide), fun p np => ret p np⟩
    have n10 : i ≠ 10 := fun e => by subst e; exact absurd hc1 (by decide +kernel)
    refine ⟨_, rfl, rfl, _, rfl, ?_⟩
    refine ite2 (fun hc => ?_) (fun hc2 => ?_)
    · have e := (by decide +kernel : ∀ i, i < 12 → decide (V.str (cnm i) = V.str "TextError") = true → cfl i = ("place" : Str)) i hi hc
      obtain ⟨v, rfl, l⟩ := one _ n10 e
      exact ⟨_, rfl, fs, v, rfl, HA.same y1, l, (by show 1 ≤ sizeLine; decide), fun p np => ret p np⟩
    refine ⟨_, rfl, rfl, _, rfl, ?_⟩
    refine ite2 (fun hc => ?_) (fun hc3 => ?_)
    · have e := (by decide +kernel : ∀ i, i < 12 → decide (V.str (cnm i) = V.str "TooLarge") = true → cfl i = ("limit" : Str)) i hi hc
      obtain ⟨v, rfl, l⟩ := one _ n10 e
      exact ⟨_, rfl, fs, v, rfl, HA.same y1, l, (by show 1 ≤ sizeLine; decide), fun p np => ret p np⟩
    · have e : cfl i = ("given" : Str) := (by decide +kernel : ∀ i, i < 12 → decide (V.str (cnm i) = V.str "TextError") ≠ true → decide (V.str (cnm i) = V.str "TooLarge") ≠ true → cfl i = ("given" : Str)) i hi hc2 hc3
      obtain ⟨v, rfl, l⟩ := one _ n10 e
      exact ⟨_, rfl, fs, v, rfl, HA.same y1, l, (by show 1 ≤ sizeLine; decide), fun p np => ret p np⟩

end
end T08

/-! _law_caught. -/
namespace T08
open PySem PySem.Spec PyProof.Rows L2 SF SQ SFT L2H LamX
abbrev cxC (X : Cx) (g : Addr) (cdg : Value) (s : Shared) (H : Hp) : Cx := (cxOf C8.CX0 X.prog X.w X.K X.mg X.base ["_law_action", "_law_shown", "_law_e", "_law_word_here"] "_law_caught" (defScope sCaught) g cdg X.A X.stack s H C8.E0).nox
section
variable {X : Cx} {cs bs : Nat → Addr} {RV RP : List V → Hp → VK → Prop} {g fW fF : Addr} {fdW fdF : FuncData} {cdg : Value} {q : Str}
theorem caught_gives (T : CErr X.K X.mg cs bs) (hgd : X.A.guards = some []) (hr : Room 3 X.A) (FW : Fun X.K "_law_word" "_law_word" sWord fW fdW) (bW : Binds X.K fdW ["_law_e"] []) (gW : X.mg "_law_word" = some (.ref fW))
    (FF : Fun X.K "_law_fields" "_law_fields" sFields fF fdF) (bF : Binds X.K fdF ["_law_e", "_law_word_here"] []) (gF : X.mg "_law_fields" = some (.ref fF))
    (mV : Mono RV) (mP : Mono RP) (hRV : ∀ s H, CallR (cxC X g cdg s H) (.builtin "repr") RV) (hRP : ∀ s H a oe pn, CallR ((cxC X g cdg s H).suite a ((a, oe) :: pn)) (.builtin "repr") RP) :
    GivesTo X ["_law_action", "_law_shown", "_law_e", "_law_word_here"] "_law_caught" (defScope sCaught) g cdg (defBody sCaught) "_law_action" q (TTc cs RV RP) := by
  intro f c' s H Q tl act hc h
  refine ⟨_, pss_cons (ps_try_tup3 (X := cxC X g cdg s H) (i := 2) (c1 := .ref (bs 0)) (c2 := .ref (bs 1)) (c3 := .ref (bs 2)) rfl rfl scCaught.nd rfl rfl ⟨rfl, by decide, .inl (T.gb 0 (by decide))⟩ ⟨rfl, by decide, .inl (T.gb 1 (by decide))⟩ ⟨rfl, by decide, .inl (T.gb 2 (by decide))⟩
      (tb := fun W D σ H => ∃ Ech : XK, (∀ cls d σ' H', Ech cls d H' → W cls d σ' H') ∧ σ[0]? = some (some (.ref f)) ∧ H c' = some (CodeO c' q) ∧ tl Ech H (fun v H1 => D.nx (σ.set 1 (some v)) H1))
      (ts := fun a cls d D σ H => (σ.length = 4 → σ[2]? = some (some (.ref a))) ∧ XKc cs RP D.rt cls d H) (fun W pn xe _ tk _ => ?_) (fun a oe cls d pn hz hf => ?_))
    (pss_one (ps_ret (pe_lst (pa_cons pe_str (pa_cons (pe_callB (hRV s H) (by rfl) T.rep (by decide +kernel) (pa_cons (pv 1) pa_nil)) pa_nil))))), ?_⟩
  · refine ⟨fun pins s' σ H' D I h' => ?_⟩
    obtain ⟨Ech, hW, h1, h2, h3⟩ := h'
    exact (pss_one (ps_set (i := 1) scCaught.nd rfl (.inl rfl) (act W pn xe Ech _ _ tk hW))).run pins s' σ H' D I ⟨h1, h2, h3⟩
  · refine pss_of fun pins s' σ H' D I h' => ?_
    obtain ⟨hs, i, fs, ys, hi, rfl, ed, hg, z⟩ := h'
    have hrd : Room 2 (cxC X g cdg s H).A := hr.deeper _
    have hrH : RoomH 2 ((cxC X g cdg s H).suite a ((a, oe) :: pn)).A := ⟨hrd.dp, hrd.un⟩
    have GW : FnP X.prog X.w X.K X.mg X.base CX0 2 (a, oe) fW fdW ["_law_e"] (spWd a d fs i) := (okWd FW T hi hz hf).mono (by decide)
    have GF : FnP X.prog X.w X.K X.mg X.base CX0 2 (a, oe) fF fdF ["_law_e", "_law_word_here"] (spFd a d fs i) := (okFd FF T hi hz hf).mono (by decide)
    obtain ⟨x0, x1, x2, x3, rfl⟩ := len4 I.len
    cases (show some x2 = some (some (.ref a)) from hs rfl)
    refine ⟨_, pss_cons (ps_set (i := 3) scCaught.nd rfl (.inl rfl) (pe_callP (E := fun _ => E0) GW hgd hrH List.mem_cons_self (by rfl) gW FW.kp bW (fun _ => passA) (pa_cons (pv 2) pa_nil)))
      (pss_one (ps_ret (pe_lst (pa_cons (pv 3) (pa_cons (pe_callB (hRP s H a oe pn) (by rfl) T.rep (by decide +kernel) (pa_cons (pe_callP (E := fun _ => E0) GF hgd hrH List.mem_cons_self (by rfl) gF FF.kp bF (fun _ => passA) (pa_cons (pv 2) (pa_cons (pv 3) pa_nil))) pa_nil)) pa_nil))))), ?_⟩
    refine ⟨_, rfl, rfl, ed, fun H1 S1 => ⟨_, rfl, _, rfl, _, rfl, ys, rfl, ed.same S1, hg, fun p H2 S2 e2 => ?_⟩⟩
    exact mP _ _ _ _ (fun y H3 ⟨t, e, r⟩ => ⟨(by show 2 ≤ sizeLine; decide), fun L nL => by subst e; exact r L _ (fun b o e => by rw [upd_ne (ne_of_none e nL)]; exact e) nL upd_same⟩) (z p H2 (fun b o e => S2 b o (S1 b o e)) e2)
  · refine ⟨XKc cs RP Q, fun cls d σ' H' x => ?_, rfl, hc, ?_⟩
    · obtain ⟨i, fs, ys, hi, rfl, r⟩ := id x
      refine ⟨T.cat i hi, fun a na => ⟨fun hl => ?_, x⟩⟩
      rw [List.getElem?_set_self (by rw [List.length_set] at hl; omega)]
    · exact h _ fun v H1 r => ⟨_, rfl, mV _ _ _ _ (fun y H3 ⟨t, e, r⟩ => ⟨(by show 2 ≤ sizeLine; decide), fun L nL => by subst e; exact r L _ (fun b o e => by rw [upd_ne (ne_of_none e nL)]; exact e) nL upd_same⟩) r⟩
end
end T08

/-! _law_caught(lambda: e). -/
namespace T08
open PySem PySem.Spec PyProof.Rows L2 SF SQ SFT L2H LamX
section
variable {X : Cx} {C : Addr} {cs bs : Nat → Addr} {T : List (Addr × Str)} {c P : Addr} {k : Nat} {params : Arguments} {body : Expr} {scope : Scope} {t : XK → TE} {p lpos pos : Pos}
theorem lam_caught (T0 : Tx X.K X.mg C) (Z : CErr X.K X.mg cs bs) (N : ND X.K) (hgd : X.A.guards = some []) (hr : Room (k + 4) X.A) (hg : Gl X "_law_caught") (TB : TabB X.base X.mg c P) (hcode : X.env.code = .ref c) (hmT : (P, X.env.qual ++ "<lambda>") ∈ T) (hu : ∀ p ∈ T, p.1 = P → p.2 = X.env.qual ++ "<lambda>")
    (L : LamS X.env.scope scope) (hbody : ∀ (A : Around) (outer : List PySem.Env) (s : Shared) (H : Hp) (E : XK) (f c' : Addr), Room (k + 2) (A.deeper (lamEnv X scope s.heap.objs.size f c')) → PE (lamCx X A outer s H E scope f c') body (t E))
    (hdef : defaultsOf params X.env = ([], []) := by rfl) (hbind : ∀ (q : Str) (cl : List (Str × Addr)) (pm cv ctv : Value), bindArgs (PySem.W.kla_fn "<lambda>" q params body scope cl pm cv ctv) ⟨[], []⟩ = pure [] := by intros; rfl) :
    PE X (.Call (.Name "_law_caught" p) [.Lambda params body scope lpos] [] pos) (tLam T (TTc cs (rOwnR C) SX.rReprS) t) := by
  obtain ⟨oc, od, kV, doc, pm, an, cdv, ct, osl, ed, lk, hcd⟩ := T0.FCaught.ex
  have hb := T0.bCaught
  rw [ed] at lk hb
  refine pe_lamcall (k := k + 2) hg T0.gCaught T0.FCaught.kp lk hcd hb scCaught rfl (.inl rfl) ?_ TB hcode hmT hu hr L hdef hbind hbody
  refine caught_gives Z hgd (hr.mono (by omega)) T0.FWord T0.bWord T0.gWord T0.FFields T0.bFields T0.gFields mono_ownR SFT.mono_reprS (fun s H => ?_) (fun s H a oe pn => ?_)
  · have hr3 : Room 3 (X.A.deeper (envOfC "_law_caught" (defScope sCaught) s.heap.objs.size T0.aCaught cdv)) := (hr.mono (show 4 ≤ k + 4 by omega)).deeper _
    exact call_reprOwn (E := E0) T0.hRepr.h T0.hRepr.i (ok_ReprB T0 N) T0.bRepr (hr3.mono (by decide)) pass0
  · have hr3 : Room 3 (X.A.deeper (envOfC "_law_caught" (defScope sCaught) s.heap.objs.size T0.aCaught cdv)) := (hr.mono (show 4 ≤ k + 4 by omega)).deeper _
    exact call_reprH (k := 3) hgd ⟨hr3.dp, hr3.un⟩
end
end T08

/-! _law_caught(lambda: e), where the error may hold a fraction. -/
namespace T08
open PySem PySem.Spec PyProof.Rows L2 SF SQ SFT L2H LamX
section
variable {P : Program} {w : World} {K : PySem.W.Frag} {mg : Str → Option Value} {base : Heap} {C : Addr}
theorem ok_ReprQ {p : Addr × Obj} (T : Tx K mg C) : FnQ P w K mg base CX0 1 p T.aRepr T.dRepr ["self"] (spRepr C) := by
  refine SFT.Fun.okQ T.FRepr scRepr (fun vs H Q E h => ?_) (fun cdv A outer s H vs Q E hr h => ?_)
  · obtain ⟨a, n, q, rfl, _⟩ := h
    rfl
  · obtain ⟨a, n, x, rfl, ⟨⟨dx, hp⟩, sz⟩, hn, q⟩ := h
    have l5 := line5
    have lt : x.num.natAbs.log2 < 1920 := tlog sz.1 hn
    have lb : ((x.den : Int)).natAbs.log2 < 1920 := tlog (show (x.den : Int).natAbs < 2 ^ n from sz.2) hn
    have x1 : (Str.ofString (toString x.num)).length ≤ 1921 := tx_len sz.1 hn
    have x2 : (Str.ofString (toString (x.den : Int))).length ≤ 1921 := tx_len (show (x.den : Int).natAbs < 2 ^ n from sz.2) hn
    have s0 : Str.empty.length = 0 := rfl
    have s1 : ("Ratio(" : Str).length = 6 := rfl
    have s2 : (", " : Str).length = 2 := rfl
    have s3 : (")" : Str).length = 1 := rfl
    refine ⟨_, (pss_one (ps_ret (pe_joined (.cons pe_str (.cons (pe_fmt (pe_fld (pv 0) rfl)) (.cons pe_str (.cons (pe_fmt (pe_fld (pv 0) rfl)) (.cons pe_str .nil)))))))), ?_⟩
    refine ⟨_, rfl, ?_, _, rfl, a, C, dx, _, _, rfl, hp, T.rc.cl, T.rc.nT, rf_top _ _, .inr ⟨_, rfl, lt, _, rfl, ?_, _, rfl, ?_, _, rfl, a, C, dx, _, _, rfl, hp, T.rc.cl, T.rc.nB, rf_bot _ _, .inr ⟨_, rfl, lb, _, rfl, ?_, _, rfl, ?_, q⟩⟩⟩
    · simp only [Str.length_append]; omega
    · simp only [Str.length_append]; omega
    · simp only [Str.length_append]; omega
    · simp only [Str.length_append]; omega
    · simp only [Str.length_append]; omega
end
/-- repr of a thing's tuple where no error is in hand -/
theorem call_rTh {X : Cx} {C : Addr} {k : Nat} (T0 : Tx X.K X.mg C) (hgd : X.A.guards = some []) (hr : Room (k + 3) X.A) : CallR X (.builtin "repr") (rTh C) :=
  callR_or (SX.call_reprS hgd hr) (call_reprTup (k := 1) hgd ⟨by have := hr.dp; omega, by have := hr.un; omega⟩ T0.hRepr.h T0.hRepr.i (runAny_of (E := E0) (ok_Repr T0) T0.bRepr pass0 hr.hd))
section
variable {X : Cx} {C : Addr} {cs bs : Nat → Addr} {T : List (Addr × Str)} {c P : Addr} {k : Nat} {params : Arguments} {body : Expr} {scope : Scope} {t : XK → TE} {p lpos pos : Pos}
theorem lam_caughtW (T0 : Tx X.K X.mg C) (Z : CErr X.K X.mg cs bs) (N : ND X.K) (hgd : X.A.guards = some []) (hr : Room (k + 4) X.A) (hg : Gl X "_law_caught") (TB : TabB X.base X.mg c P) (hcode : X.env.code = .ref c) (hmT : (P, X.env.qual ++ "<lambda>") ∈ T) (hu : ∀ p ∈ T, p.1 = P → p.2 = X.env.qual ++ "<lambda>")
    (L : LamS X.env.scope scope) (hbody : ∀ (A : Around) (outer : List PySem.Env) (s : Shared) (H : Hp) (E : XK) (f c' : Addr), Room (k + 2) (A.deeper (lamEnv X scope s.heap.objs.size f c')) → PE (lamCx X A outer s H E scope f c') body (t E))
    (hdef : defaultsOf params X.env = ([], []) := by rfl) (hbind : ∀ (q : Str) (cl : List (Str × Addr)) (pm cv ctv : Value), bindArgs (PySem.W.kla_fn "<lambda>" q params body scope cl pm cv ctv) ⟨[], []⟩ = pure [] := by intros; rfl) :
    PE X (.Call (.Name "_law_caught" p) [.Lambda params body scope lpos] [] pos) (tLam T (TTc cs (rOwnR C) (rTh C)) t) := by
  obtain ⟨oc, od, kV, doc, pm, an, cdv, ct, osl, ed, lk, hcd⟩ := T0.FCaught.ex
  have hb := T0.bCaught
  rw [ed] at lk hb
  refine pe_lamcall (k := k + 2) hg T0.gCaught T0.FCaught.kp lk hcd hb scCaught rfl (.inl rfl) ?_ TB hcode hmT hu hr L hdef hbind hbody
  refine caught_gives Z hgd (hr.mono (by omega)) T0.FWord T0.bWord T0.gWord T0.FFields T0.bFields T0.gFields mono_ownR mono_rTh (fun s H => ?_) (fun s H a oe pn => ?_)
  · have hr3 : Room 3 (X.A.deeper (envOfC "_law_caught" (defScope sCaught) s.heap.objs.size T0.aCaught cdv)) := (hr.mono (show 4 ≤ k + 4 by omega)).deeper _
    exact call_reprOwn (E := E0) T0.hRepr.h T0.hRepr.i (ok_ReprB T0 N) T0.bRepr (hr3.mono (by decide)) pass0
  · have hr3 : Room 3 (X.A.deeper (envOfC "_law_caught" (defScope sCaught) s.heap.objs.size T0.aCaught cdv)) := (hr.mono (show 4 ≤ k + 4 by omega)).deeper _
    refine callR_or (call_reprH (k := 3) hgd ⟨hr3.dp, hr3.un⟩) ?_
    exact call_reprTup (k := 1) hgd ⟨hr3.dp, hr3.un⟩ T0.hRepr.h T0.hRepr.i (runAny_ofQ (ok_ReprQ T0) List.mem_cons_self T0.bRepr)
end
end T08

/-! The defs that refuse what they are given. -/
namespace T08
open PySem PySem.Spec PyProof.Rows L2 SF SQ
section
variable {P : Program} {w : World} {K : PySem.W.Frag} {mg : Str → Option Value} {base : Heap}
theorem scETxt : FnScope ["self", "given"] ["self", "given"] (defScope sETxt) := ⟨rfl, rfl, rfl, by decide +kernel, rfl, by decide +kernel, by decide +kernel⟩
theorem ok_ETxt {C fI : Addr} {fd : FuncData} (O : OEK K mg "InvalidText" "InvalidText.__init__" sETxt C fI fd) : OE P w K mg base "InvalidText" C fI fd := by
  obtain ⟨hT, h1, h2, hno⟩ := oexB_ok O.x
  refine ⟨O.g, hT, h1, h2, ?_, O.b⟩
  refine O.F.ok scETxt (fun vs H Q E h => ?_) (fun cdv A outer s H vs Q E hr h => ?_)
  · obtain ⟨p, y, rfl, _⟩ := h
    rfl
  · obtain ⟨p, y, rfl, hp, q⟩ := h
    exact ⟨_, pss_one (ps_ost (pv 0) (pv 1)), _, rfl, _, rfl, p, C, rfl, hT, hno, .inl ⟨hp, q⟩⟩
theorem scEEnt : FnScope ["self", "given"] ["self", "given"] (defScope sEEnt) := ⟨rfl, rfl, rfl, by decide +kernel, rfl, by decide +kernel, by decide +kernel⟩
theorem ok_EEnt {C fI : Addr} {fd : FuncData} (O : OEK K mg "InvalidEntries" "InvalidEntries.__init__" sEEnt C fI fd) : OE P w K mg base "InvalidEntries" C fI fd := by
  obtain ⟨hT, h1, h2, hno⟩ := oexB_ok O.x
  refine ⟨O.g, hT, h1, h2, ?_, O.b⟩
  refine O.F.ok scEEnt (fun vs H Q E h => ?_) (fun cdv A outer s H vs Q E hr h => ?_)
  · obtain ⟨p, y, rfl, _⟩ := h
    rfl
  · obtain ⟨p, y, rfl, hp, q⟩ := h
    exact ⟨_, pss_one (ps_ost (pv 0) (pv 1)), _, rfl, _, rfl, p, C, rfl, hT, hno, .inl ⟨hp, q⟩⟩
variable {C D : Addr} {fI : Addr} {fdI : FuncData}
end
end T08

/-! Own errors whose context is known to be None: raised, caught, another one raised from None in the suite. -/
namespace SK
open PySem PySem.Spec PyProof.Rows L2 SF SQ
section
variable {X : Cx} {C fI : Addr} {fd : FuncData} {nm : Str} {W : WX} {e : Expr} {te : TE} {ta : TA} {p pos rpos cpos : Pos}
/-- nm(e), where nothing is handled; the error's context is None -/
theorem pmk_oexN {CX : CXT} {k : Nat} {ps : List Str} {sp : Sp} (T : OexC X.K C) (iC : PySem.W.findIn X.K (.ref C) "__init__" = some (some (.ref fI))) (tI : PySem.W.typeIn X.K (.ref fI) = some (.type "function")) (Fi : FnOk X.prog X.w X.K X.mg X.base CX k fI fd ps sp) (hr : Room (k + 1) X.A) (hb : Binds X.K fd ps [])
    (hx : Passes CX X (fun _ _ _ => False)) (hg : Gl X nm) (hm : X.mg nm = some (.ref C)) (ha : PA X (e :: []) ta) (hdb : (nm == ("__debug__" : Str)) = false := by decide)
    (hs : starEach (e :: []) X.env = (false, eval e X.env) :: starEach [] X.env := by rfl) (hpl : (backTo pos (starEach [] X.env)).any (·.1) = false := by rfl) : L2N.PMk X (.Call (.Name nm p) [e] [] pos) (tMkO C sp [] ta) := by
  intro pins s σ H Q I h
  obtain ⟨nm', qn, N, bs, bm, sn, sub, ab, col, dd, k0, k1, k2, k3, k5, hC, hbm⟩ := T.cls
  refine wpAny_Call_Name_kw (ld_glob I hg hm (PySem.W.callWith_K (h₀ := X.base) I.ok.mod.kin T.kC (thn (ha.run pos pins s σ H _ I h) fun us s1 ⟨vs, H1, I1, r1, hz, q1⟩ => ⟨I1.kIn, ?_⟩) hs hpl) hdb)
  show wpAny _ _ (call (.ref C) us) _ _ _
  obtain ⟨hp, g, dr, tk, os⟩ := s1
  obtain ⟨a, hA⟩ : ∃ a, hp.objs.size + 1 = a := ⟨_, rfl⟩
  have sa : hp.objs.size ≤ a := by omega
  have na1 : H1 a = none := I1.hok.fresh sa
  have q2 := q1 a na1
  rw [List.append_nil] at q2
  obtain ⟨h3, hh3⟩ : ∃ h3, (hp.push (PySem.W.kdv_tup us)).push (PySem.HandSPX.excO C hp.objs.size) = h3 := ⟨_, rfl⟩
  have kk : ∀ b o, hp.get? b = some o → h3.get? b = some o := fun b o z => by rw [← hh3]; exact Heap.get?_push_of_some _ (Heap.get?_push_of_some _ z)
  have hget : h3.get? a = some (PySem.HandSPX.excO C hp.objs.size) := by rw [← hh3, ← hA]; heap_get
  have I2 : Inv X pins σ (upd H1 a (exo a C none)) ⟨h3, g, dr, tk, os⟩ := I1.laid (t' := tk) (a := a) (o := exo a C none) (h' := h3) kk sa (exo_ok hget)
  have rr : Vals (V.ref a :: vs) (Value.ref a :: us) := .cons rfl r1
  have ln : (Value.ref a :: us ++ []).length = ps.length := by rw [List.append_nil, ← Fi.len _ _ _ _ q2]; exact rr.length.symm
  have lu : us.length ≤ sizeLine := by rw [← Paired.length r1, sizeLine_eq]; omega
  have b2 := hb _ (Value.ref a :: us) I2.kIn ln
  rw [List.append_nil] at b2
  subst hA hh3
  refine wpAny_call (PySem.HandSPX.call_own F.excBase_ValueError (fun Y => PySem.HandSPX.refsVE_contains Y bm hbm) (I1.kIn _ _ hC) (PySem.W.looks_findIn I1.kIn iC) (fun self => PySem.W.bind_fn I1.kIn self tI) lu
    (codeAny_mono (Fi.run _ X.stack _ _ ⟨Value.ref (hp.objs.size + 1) :: us, []⟩ _ _ _ (fun _ _ _ => False) (hr.make C us []) (I2.env0.make C us []) b2 rr q2) fun r s' z => ?_))
  · cases r with
    | error er => exact hx pins σ _ _ er s' I2 z
    | ok fl =>
      cases fl with
      | ret u =>
        obtain ⟨v, H2, o2, g2, un2, ok2, rv, rfl, d, fs, ea, ed, nd, qq⟩ := z
        obtain ⟨h2, g2', d2, t2, os'⟩ := s'
        obtain ⟨t0, G, J, kG, ge, hoe, nn⟩ := mk_end0 (d2 := d2) (t2 := t2) I1 sa kk un2 ok2 o2 g2 ea ed nd
        exact ⟨rv, hp.objs.size + 1, _, _, ⟨G, g2', d2, t2, os'⟩, _, .ref C, some d, rfl, J, kG, ge, hoe, ⟨rfl, rfl, fun w hw => by cases hw; rfl⟩, rfl, rfl, nn, rfl, g2, raises_own T.exC T.tyC, qq⟩
      | next => exact z.elim
      | brk => exact z.elim
      | cont => exact z.elim
theorem oe_end {a dx : Addr} {H1 : Hp} {v : V} {E : XK} (na : H1 a = none) (nd : upd H1 a (exo a C none) dx = none) (ne : dx ≠ a) (z : ErrG E C v H1) :
    E (.ref C) (some dx) (upd (del (upd (upd (upd H1 a (exo a C none)) dx (exd dx [("given", v)])) a (exo a C (some dx))) a) dx (.xd [("given", v)])) := by
  refine z dx _ (fun b o e => ?_) upd_same
  have n1 : b ≠ a := ne_of_none e na
  have n2 : b ≠ dx := ne_of_none e (by rw [← nd, upd_ne ne])
  rw [upd_ne n2, del_ne n1, upd_ne n1, upd_ne n2, upd_ne n1]
  exact e
theorem oe_mk {H1 : Hp} {v : V} {E : XK} (z : ErrG E C v H1) : ([v] : List V).length ≤ 1000 ∧ ∀ a, H1 a = none → spOI C (.ref a :: ([v] ++ [])) (upd H1 a (exo a C none))
    (fun u H2 => u = .non ∧ ∃ (d : Addr) (fs : List (PySem.Str × V)), H2 a = some (exo a C (some d)) ∧ H2 d = some (exd d fs) ∧ H1 d = none ∧ E (.ref C) (some d) (upd (del H2 a) d (.xd fs))) (fun _ _ _ => False) :=
  ⟨by show 1 ≤ 1000; decide, fun a na => ⟨a, v, rfl, upd_same, fun dx nd ne => ⟨rfl, dx, _, upd_same, by rw [upd_ne ne]; exact upd_same, by rw [← nd, upd_ne ne], oe_end na nd ne z⟩⟩⟩
/-- raise nm(e) where nothing is handled, the context known -/
theorem ps_oeN (O : OE X.prog X.w X.K X.mg X.base nm C fI fd) (hc : X.calm = true) (tk : L2N.Takes X W) (hr : Room 2 X.A) (hg : Gl X nm) (he : PE X e te) (hm : ∀ σ H Q Q', (∀ v H', Q v H' → Q' v H') → te σ H Q → te σ H Q') (hdb : (nm == ("__debug__" : Str)) = false := by decide)
    (hs : starEach (e :: []) X.env = (false, eval e X.env) :: starEach [] X.env := by rfl) (hpl : (backTo pos (starEach [] X.env)).any (·.1) = false := by rfl) :
    PS X (.Raise (some (.Call (.Name nm p) [e] [] pos)) none rpos) (fun _ σ H => te σ H fun v H1 => ErrG (fun c d H' => W c d σ H') C v H1) := by
  have h1 := L2N.ps_raise (pos := rpos) hc tk (pmk_oexN (p := p) O.T O.iC O.tI O.F hr O.b pass0 hg O.g (pa_cons he pa_nil hs) hdb hs hpl)
  exact ⟨fun pins s σ H D I h => h1.run pins s σ H D I (hm _ _ _ _ (fun v H1 z => by have y := oe_mk (C := C) (v := v) (H1 := H1) (E := fun c d H2 => W c d σ H2) z; exact y) h)⟩
/-- raise nm(e) from None in an except suite -/
theorem ps_oeH (O : OE X.prog X.w X.K X.mg X.base nm C fI fd) (Fh : L2H.FnH X.prog X.w X.K X.mg X.base CX0 1 fI fd ["self", "given"] (spOI C)) (hc : L2H.HotC X) (tk : L2.Takes X W) (hr : L2H.RoomH 2 X.A) (hg : Gl X nm) (he : PE X e te) (hm : ∀ σ H Q Q', (∀ v H', Q v H' → Q' v H') → te σ H Q → te σ H Q') {j : Nat} (hdb : (nm == ("__debug__" : Str)) = false := by decide)
    (hs : starEach (e :: []) X.env = (false, eval e X.env) :: starEach [] X.env := by rfl) (hpl : (backTo pos (starEach [] X.env)).any (·.1) = false := by rfl) :
    PS X (.Raise (some (.Call (.Name nm p) [e] [] pos)) (some (.Constant .none j cpos)) rpos) (fun _ σ H => te σ H fun v H1 => ErrG (fun c d H' => W c d σ H') C v H1) := by
  have h1 := L2H.ps_raiseHN (pos := rpos) (cpos := cpos) (j := j) hc tk (L2H.pmk5_oexH (p := p) O.T O.iC O.tI Fh hr hc O.b pass0 hg O.g (pa_cons he pa_nil hs) hdb hs hpl)
  exact ⟨fun pins s σ H D I h => h1.run pins s σ H D I (hm _ _ _ _ (fun v H1 z => by have y := oe_mk (C := C) (v := v) (H1 := H1) (E := fun c d H2 => W c d σ H2) z; exact y) h)⟩
end
end SK
namespace SK
open PySem PySem.Spec PyProof.Rows L2 SF SQ ClX
section
variable {X : Cx} {CX : CXT} {C p g : Addr} {mc : Value} {k : Nat} {sp : Sp} {ta : TE} {t : TA} {o e : Expr} {es : List Expr} {m : PySem.Str} {apos pos : Pos} {pl : Sem Bool}
/-- C.m(..), where what it lets out may hang on the slots -/
theorem pe_cmethS {E : L2.St → XK} (he : PE X o ta) (r : CRead X.K C mc) (c : CMet X.K C mc m p g) (Fr : FnR X.prog X.w X.K X.mg X.base CX k g sp) (hr : Room k X.A) (hx : ∀ σ, PassesAt CX X σ (E σ)) (ha : PA X (e :: es) t)
    (hst : starEach (e :: es) X.env = (false, eval e X.env) :: starEach es X.env := by rfl) (hpl : (backTo pos (starEach es X.env)).any (·.1) = false := by rfl) (ht : eval (.Call (.Attribute o m apos) (e :: es) [] pos) X.env = (do let ov ← eval o X.env; standAt apos.atName; let (f, first) ← holding [ov] (getMethod ov m pl); callWith pos f first (backTo pos (starEach (e :: es) X.env)) (backToKw pos (keywordEach [] X.env))) := by rfl) :
    PE X (.Call (.Attribute o m apos) (e :: es) [] pos) (fun σ H Q => ta σ H fun x H1 => x = .ref C ∧ t σ H1 fun vs H2 => sp (.ref C :: vs) H2 Q (E σ)) := by
  refine ⟨fun pins s σ H Q I h => PySem.W.methodCall_KW (pl := pl) (thn (he.run pins s σ H _ I h) fun u s1 ⟨x, H1, I1, rx, ex, q⟩ => ?_) ht⟩
  cases ex
  cases (show u = Value.ref C from rx)
  refine getmethcm_ok I1 r c fun s2 I2 => callwith_cm I2 (base_none I1 (Nat.le_refl _)) c.fi (thn (ha.run pos _ s2 σ H1 _ I2 q) fun us s3 ⟨vs, H2, I3, rv, q2⟩ => ⟨⟨pin_at I3, I3.kIn⟩, ?_⟩) hst hpl
  have body := codeAny_mono (Fr X.A X.stack s3 H2 (.ref C :: us) (.ref C :: vs) Q (E σ) hr I3.env0 (.cons rfl rv) q2) (R' := fun r s' => match r with
    | .ok (.ret v) => EP X _ σ Q v s'
    | .ok _ => False
    | .error x => X.xe x s') (fun r s' z => by
      cases r with
      | error x => exact hx σ _ H2 s3 x s' I3 z
      | ok fl =>
        cases fl with
        | ret u => exact I3.after z
        | next => exact z.elim
        | brk => exact z.elim
        | cont => exact z.elim)
  exact thn (wpAny_call (PySem.W.method_call (pin_at I3) body)) fun _ _ y => unpinE y
end
end SK

/-! Texts of fractions read sign by sign: pieces, digits, and the same answer as the program's. -/
namespace SQ
open PySem PySem.Spec PyProof.Rows L2 SF TL
/-- printable signs of ASCII -/
def PA (x : PySem.Str) : Prop := ∀ c ∈ tl x, 32 ≤ c ∧ c ≤ 126
def PAB (x : PySem.Str) : Bool := (tl x).all fun c => decide (32 ≤ c) && decide (c ≤ 126)
theorem pa_of {x : PySem.Str} (h : PAB x = true) : PA x := fun c hc => by
  have := List.all_eq_true.mp h c hc
  simpa using this
theorem PA.app {x y : PySem.Str} (h : PA x) (k : PA y) : PA (x ++ y) := fun c hc => by
  rw [tl_append] at hc
  rcases List.mem_append.mp hc with hc | hc
  · exact h c hc
  · exact k c hc
theorem rq_or (x : PySem.Str) : reprQuote x = 34 ∨ reprQuote x = 39 := by
  unfold reprQuote
  split
  · exact .inl rfl
  · exact .inr rfl
theorem rc_ok {q c : Nat} (hq : q = 34 ∨ q = 39) (hc : c ≤ 126) : (Builtin.Str.reprChar q c).all (· < 0x110000) = true := by
  rcases hq with rfl | rfl
  · exact (by decide +kernel : ∀ c : Fin 127, (Builtin.Str.reprChar 34 c.val).all (· < 0x110000) = true) ⟨c, by omega⟩
  · exact (by decide +kernel : ∀ c : Fin 127, (Builtin.Str.reprChar 39 c.val).all (· < 0x110000) = true) ⟨c, by omega⟩
theorem fold_ok {q : Nat} (hq : q = 34 ∨ q = 39) : ∀ (l : List Nat) (acc : Array Nat), (∀ c ∈ l, c ≤ 126) → acc.all (· < 0x110000) = true → (List.foldl (fun out c => out ++ (Builtin.Str.reprChar q c).toArray) acc l).all (· < 0x110000) = true
  | [], acc, _, h => h
  | c :: l, acc, hl, h => by
    rw [List.foldl_cons]
    refine fold_ok hq l _ (fun c hc => hl c (List.mem_cons_of_mem _ hc)) ?_
    rw [Array.all_append, h]
    simpa using rc_ok hq (hl c List.mem_cons_self)
theorem repr_ok {x : PySem.Str} (h : PA x) : PyData.strOk (reprText x) = true := by
  have hq := rq_or x
  show (reprText x).cps.all (· < 0x110000) = true
  unfold reprText
  simp only [Array.all_push]
  have e : (Array.foldl (fun out c => out ++ (Builtin.Str.reprChar (reprQuote x) c).toArray) #[reprQuote x] x.cps).all (· < 0x110000) = true := by
    rw [← Array.foldl_toList]
    refine fold_ok hq _ _ (fun c hc => (h c hc).2) ?_
    rcases hq with h | h <;> rw [h] <;> simp
  rw [e]
  rcases hq with h | h <;> rw [h] <;> rfl
theorem repr_len2 {x : PySem.Str} (h : PA x) : (reprText x).length ≤ 10 * x.length + 2 :=
  StrLaws.reprText_len x fun c hc => Nat.lt_of_le_of_lt (h c hc).2 (by decide)
theorem tt1_len (y : PySem.Str) : (tupleText [y]).length = y.length + 3 := by
  have h := join_length_add [y] (by simp)
  have e : piled [y] = y.length + 2 := by simp [piled]
  have h1 : ("(" : PySem.Str).length = 1 := rfl
  have h2 : (Str.ofString ",)").length = 2 := rfl
  unfold tupleText
  rw [Str.length_append, Str.length_append, h1]
  show 1 + (Str.join ", " [y]).length + (Str.ofString ",)").length = y.length + 3
  rw [h2]
  omega
/-! ### pieces -/
theorem sk_ge (x y : PySem.Str) (h : Builtin.Str.strKind y = 1) : ¬ Builtin.Str.strKind x < Builtin.Str.strKind y := by
  rw [h]
  unfold Builtin.Str.strKind
  split
  · omega
  · split <;> omega
theorem split_l (x : PySem.Str) : (Txt.split x "/").map tl = TL.spl [47] 0 [] (tl x) := TL.split_spl x "/" (by decide) (sk_ge x "/" (by decide +kernel))
theorem pre47 (c : Nat) (r : List Nat) : TL.pre [47] (c :: r) = decide (c = 47) := by
  unfold TL.pre
  by_cases h : c = 47
  · subst h; simp
  · simp [h]
/-- the pieces between strokes -/
def pcs : List Nat → List Nat → List (List Nat)
  | a, [] => [a]
  | a, c :: r => if c = 47 then a :: pcs [] r else pcs (a ++ [c]) r
theorem spl_pcs : ∀ (l a : List Nat), TL.spl [47] 0 a l = pcs a l
  | [], a => TL.spl.eq_1 _ _ _
  | c :: r, a => by
    rw [TL.spl.eq_2, pre47]
    unfold pcs
    by_cases h : c = 47
    · simp only [h, decide_true, if_true]
      rw [show ([47] : List Nat).length - 1 = 0 from rfl, spl_pcs r []]
    · simp only [h, decide_false, if_neg (show ¬ (false = true) by decide)]
      rw [spl_pcs r (a ++ [c])]
      simp
theorem pcs_free : ∀ (l a : List Nat), 47 ∉ l → pcs a l = [a ++ l]
  | [], a, _ => by unfold pcs; simp
  | c :: r, a, h => by
    unfold pcs
    rw [if_neg (fun e => h (by rw [e]; exact List.mem_cons_self)), pcs_free r _ (fun z => h (List.mem_cons_of_mem _ z))]
    simp
theorem pcs_cut : ∀ (l a b : List Nat), 47 ∉ l → pcs a (l ++ 47 :: b) = (a ++ l) :: pcs [] b
  | [], a, b, _ => by simp [pcs]
  | c :: r, a, b, h => by
    show pcs a (c :: (r ++ 47 :: b)) = _
    rw [pcs, if_neg (fun e => h (by rw [e]; exact List.mem_cons_self)), pcs_cut r _ b (fun z => h (List.mem_cons_of_mem _ z))]
    simp
theorem pcs_ne : ∀ (l a : List Nat), pcs a l ≠ []
  | [], a => by simp [pcs]
  | c :: r, a => by
    unfold pcs
    split
    · simp
    · exact pcs_ne r _
theorem split_pcs (x : PySem.Str) : (Txt.split x "/").map tl = pcs [] (tl x) := by rw [split_l, spl_pcs]
/-! ### the law's reading -/
def isDg (c : Nat) : Bool := decide (48 ≤ c) && decide (c ≤ 57)
/-- a piece that is a number without leading zeros -/
def goodL (l : List Nat) : Bool := !l.isEmpty && (l.all isDg && !(decide (l.length > 1) && decide (l.head? = some 48)))
def sgnB (x : PySem.Str) : Bool := decide ((tl x).head? = some 45)
def bodyT (x : PySem.Str) : PySem.Str := if sgnB x then cutS x (some 1) none else x
/-- what a text tells: top and bottom -/
def lrd (x : PySem.Str) : Option (Int × Int) :=
  match Txt.split (bodyT x) "/" with
  | [a] => if goodL (tl a) then (if sgnB x then (if iv a = 0 then none else some (-(iv a), 1)) else some (iv a, 1)) else none
  | [a, b] => if goodL (tl a) && goodL (tl b) then
      (if sgnB x then (if iv a = 0 then none else if iv b > 1 ∧ gI (-(iv a)) (iv b) = 1 then some (-(iv a), iv b) else none)
       else if iv b > 1 ∧ gI (iv a) (iv b) = 1 then some (iv a, iv b) else none) else none
  | _ => none
theorem good_dig {l : List Nat} (h : goodL l = true) : NumText.AllDigits l ∧ l ≠ [] ∧ (l.length > 1 → l.head? ≠ some 48) := by
  unfold goodL at h
  obtain ⟨h1, h⟩ := Bool.and_eq_true_iff.mp h
  obtain ⟨h2, h3⟩ := Bool.and_eq_true_iff.mp h
  refine ⟨fun c hc => ?_, ?_, fun hl hz => ?_⟩
  · have := List.all_eq_true.mp h2 c hc
    unfold isDg at this
    simpa using this
  · intro e
    rw [e] at h1
    cases h1
  · rw [decide_eq_true hl, decide_eq_true hz] at h3
    cases h3
theorem good_of {l : List Nat} (h1 : NumText.AllDigits l) (h2 : l ≠ []) (h3 : l.length > 1 → l.head? ≠ some 48) : goodL l = true := by
  unfold goodL
  refine Bool.and_eq_true_iff.mpr ⟨?_, Bool.and_eq_true_iff.mpr ⟨List.all_eq_true.mpr fun c hc => ?_, ?_⟩⟩
  · cases l with
    | nil => exact absurd rfl h2
    | cons _ _ => rfl
  · have := h1 c hc
    unfold isDg
    simpa using this
  · by_cases hl : l.length > 1
    · rw [decide_eq_false (h3 hl), Bool.and_false]; rfl
    · rw [decide_eq_false hl]; rfl
theorem dv_snoc (l : List Nat) (c : Nat) : NumText.digitsVal (l ++ [c]) = NumText.digitsVal l * 10 + (c - 48) := by
  unfold NumText.digitsVal
  rw [List.foldl_append]
  rfl
/-- the text of a number's digits is these digits -/
theorem numL_dv : ∀ (n : Nat) (l : List Nat), l.length = n → NumText.AllDigits l → l ≠ [] → (l.length > 1 → l.head? ≠ some 48) → numL (NumText.digitsVal l) = l
  | 0, l, hn, _, h2, _ => absurd (List.length_eq_zero_iff.mp hn) h2
  | n + 1, l, hn, h1, h2, h3 => by
    obtain ⟨l', c, rfl⟩ : ∃ l' c, l = l' ++ [c] := ⟨l.dropLast, l.getLast h2, (List.dropLast_concat_getLast h2).symm⟩
    have hc := h1 c (by simp)
    rw [dv_snoc]
    cases l' with
    | nil =>
      have e0 : NumText.digitsVal [] = 0 := rfl
      rw [e0]
      have : 0 * 10 + (c - 48) = c - 48 := by omega
      rw [this, numL_lt (by omega)]
      show [48 + (c - 48)] = [c]
      congr 1
      omega
    | cons d r =>
      have hd : d ≠ 48 := fun e => h3 (by simp) (by simp [e])
      have hl' : NumText.AllDigits (d :: r) := fun x hx => h1 x (by simp at hx ⊢; rcases hx with rfl | hx; exact .inl rfl; exact .inr (.inl hx))
      have ih := numL_dv n (d :: r) (by simpa using hn) hl' (by simp) (fun _ => by simpa using hd)
      have hp := NumText.digitsVal_pos (c := d) (cs := r) (by have := hl' d (by simp); omega)
      rw [numL_step (by omega)]
      have e1 : (NumText.digitsVal (d :: r) * 10 + (c - 48)) / 10 = NumText.digitsVal (d :: r) := by omega
      have e2 : (NumText.digitsVal (d :: r) * 10 + (c - 48)) % 10 = c - 48 := by omega
      rw [e1, e2, ih]
      rw [show 48 + (c - 48) = c by omega]
theorem good_zero {l : List Nat} (h : goodL l = true) (hz : l.head? = some 48) : l = [48] := by
  obtain ⟨_, h2, h3⟩ := good_dig h
  cases l with
  | nil => exact absurd rfl h2
  | cons c r =>
    simp at hz
    subst hz
    cases r with
    | nil => rfl
    | cons d r => exact absurd rfl (h3 (by simp))
theorem posT_iff {x : PySem.Str} : posT x = true ↔ (goodL (tl x) = true ∧ (tl x).head? ≠ some 48) := by
  constructor
  · intro h
    obtain ⟨a, b⟩ := posT_digits h
    unfold posT at h
    obtain ⟨_, h⟩ := Bool.and_eq_true_iff.mp h
    obtain ⟨_, h⟩ := Bool.and_eq_true_iff.mp h
    have h : (tl x).head? ≠ some 48 := by simpa using h
    exact ⟨good_of a b (fun _ => h), h⟩
  · rintro ⟨h, hz⟩
    obtain ⟨hd, hn, _⟩ := good_dig h
    unfold posT Txt.isascii Txt.isdigit
    have all : ∀ {p : Nat → Bool}, (∀ c, 48 ≤ c → c ≤ 57 → p c = true) → x.cps.all p = true := fun {p} hp => by
      rw [← Array.all_toList]
      show (tl x).all p = true
      rw [List.all_eq_true]
      intro c hc
      have := hd c hc
      exact hp c (by omega) (by omega)
    rw [all (fun c _ _ => by simp; omega), all (fun c a b => dig_uni c a b), len_tl]
    have : (tl x).length > 0 := List.length_pos_iff.mpr hn
    simp [hz]
    omega
theorem iv_dig {x : PySem.Str} (h : goodL (tl x) = true) (hl : x.length ≤ 640) : iv x = (NumText.digitsVal (tl x) : Nat) := by
  obtain ⟨a, b, _⟩ := good_dig h
  unfold iv
  rw [int_digits a b (by omega)]
  rfl
theorem good_pos {l : List Nat} (h : goodL l = true) : NumText.digitsVal l = 0 ↔ l.head? = some 48 := by
  constructor
  · intro e
    obtain ⟨a, b, _⟩ := good_dig h
    cases l with
    | nil => exact absurd rfl b
    | cons c r =>
      by_cases hc : c = 48
      · rw [hc]; rfl
      · have := a c List.mem_cons_self
        have := NumText.digitsVal_pos (c := c) (cs := r) (by omega)
        omega
  · intro e
    rw [good_zero h e]
    rfl
theorem good_num {l : List Nat} (h : goodL l = true) : numL (NumText.digitsVal l) = l := by
  obtain ⟨a, b, c⟩ := good_dig h
  exact numL_dv _ l rfl a b c
/-- what stands ahead of the stroke: with a sign or not -/
structure Top (s : Bool) (a : List Nat) (T : PySem.Str) : Prop where
  t : tl T = if s then 45 :: a else a
  n : s = false → a.head? ≠ some 45
/-- it is right -/
def topOK (s : Bool) (a : List Nat) : Bool := goodL a && !(s && decide (NumText.digitsVal a = 0))
theorem top_is {s : Bool} {a : List Nat} {T : PySem.Str} (h : Top s a T) : (decide (T = ("0" : PySem.Str)) || posT (Txt.removeprefix T "-")) = topOK s a := by
  obtain ⟨ht, hn⟩ := h
  rw [Bool.eq_iff_iff]
  unfold topOK
  cases s with
  | false =>
    simp only [if_neg (show ¬ (false = true) by decide)] at ht
    rw [rp_same (by rw [ht]; exact hn rfl)]
    simp only [Bool.false_and, Bool.not_false, Bool.and_true, Bool.or_eq_true, decide_eq_true_eq]
    rw [posT_iff, ht]
    constructor
    · rintro (h | h)
      · have : tl T = [48] := by rw [h]; rfl
        rw [← ht, this]
        rfl
      · exact h.1
    · intro h
      by_cases hz : a.head? = some 48
      · exact .inl (ext_tl (by rw [ht, good_zero h hz]; rfl))
      · exact .inr ⟨h, hz⟩
  | true =>
    simp only [if_true] at ht
    have e0 : decide (T = ("0" : PySem.Str)) = false := decide_eq_false fun e => by
      rw [e] at ht
      have : ([48] : List Nat) = 45 :: a := ht
      cases this
    rw [e0, Bool.false_or, posT_iff, rp_neg ht]
    simp only [Bool.true_and, Bool.and_eq_true, Bool.not_eq_true', decide_eq_false_iff_not]
    constructor
    · rintro ⟨h, hz⟩
      exact ⟨h, fun e => hz ((good_pos h).mp e)⟩
    · rintro ⟨h, hz⟩
      exact ⟨h, fun e => hz ((good_pos h).mpr e)⟩
theorem top_iv {s : Bool} {a : List Nat} {T : PySem.Str} (h : Top s a T) (ok : topOK s a = true) (hl : T.length ≤ 640) : iv T = (if s then -(NumText.digitsVal a : Int) else (NumText.digitsVal a : Int)) ∧ tx (iv T) = T := by
  obtain ⟨ht, hn⟩ := h
  unfold topOK at ok
  obtain ⟨hg, hz⟩ := Bool.and_eq_true_iff.mp ok
  obtain ⟨d1, d2, _⟩ := good_dig hg
  cases s with
  | false =>
    simp only [if_neg (show ¬ (false = true) by decide)] at ht ⊢
    have e : iv T = (NumText.digitsVal a : Int) := by rw [iv_dig (by rw [ht]; exact hg) hl, ht]
    refine ⟨e, ext_tl ?_⟩
    rw [e, tx_nat, good_num hg, ht]
  | true =>
    simp only [if_true] at ht ⊢
    have hz : NumText.digitsVal a ≠ 0 := by simpa using hz
    have e : iv T = -(NumText.digitsVal a : Int) := by
      unfold iv
      rw [intText_neg ht d1 d2 (by omega)]
      rfl
    refine ⟨e, ext_tl ?_⟩
    obtain ⟨n, hn'⟩ : ∃ n, NumText.digitsVal a = n + 1 := ⟨NumText.digitsVal a - 1, by omega⟩
    rw [e, hn', tx_neg, ← hn', good_num hg, ht]
/-- what stands behind the stroke -/
theorem bot_is {c : List Nat} {T : PySem.Str} (h : tl T = c) (hl : T.length ≤ 640) : (posT T && !decide (T = ("1" : PySem.Str))) = (goodL c && decide ((NumText.digitsVal c : Int) > 1)) := by
  subst h
  rw [Bool.eq_iff_iff]
  simp only [Bool.and_eq_true, Bool.not_eq_true', decide_eq_false_iff_not, decide_eq_true_eq]
  rw [posT_iff]
  constructor
  · rintro ⟨⟨h, hz⟩, h1⟩
    refine ⟨h, ?_⟩
    have p0 : NumText.digitsVal (tl T) ≠ 0 := fun e => hz ((good_pos h).mp e)
    have p1 : NumText.digitsVal (tl T) ≠ 1 := fun e => h1 (ext_tl (by rw [← good_num h, e]; rfl))
    omega
  · rintro ⟨h, h1⟩
    refine ⟨⟨h, fun e => ?_⟩, fun e => ?_⟩
    · have := (good_pos h).mpr e
      omega
    · rw [e] at h1
      have : NumText.digitsVal (tl ("1" : PySem.Str)) = 1 := rfl
      omega
theorem body_tl {x : PySem.Str} : tl x = (if sgnB x then 45 :: tl (bodyT x) else tl (bodyT x)) ∧ (sgnB x = false → (tl (bodyT x)).head? ≠ some 45) := by
  unfold bodyT sgnB
  by_cases h : (tl x).head? = some 45
  · rw [decide_eq_true h]
    simp only [if_true]
    refine ⟨?_, fun e => by cases e⟩
    cases e : tl x with
    | nil => rw [e] at h; cases h
    | cons c l =>
      rw [e] at h
      simp at h
      subst h
      have e2 : tl (cutS x (some 1) none) = ((tl x).drop (min 1 x.length)).take (x.length - min 1 x.length) := rfl
      rw [e2, len_tl, e]
      simp
  · rw [decide_eq_false h]
    simp only [if_neg (show ¬ (false = true) by decide)]
    exact ⟨trivial, fun _ => h⟩
/-- the three cases of a text -/
inductive Sort3 (x : PySem.Str) : Prop where
  | one (s : Bool) (a : List Nat) (A : PySem.Str) (hs : sgnB x = s) (h : Top s a x) (hA : tl A = a) (l : A.length ≤ x.length) (hp : Txt.split (bodyT x) "/" = [A]) (p : Txt.partition x "/" = (x, Str.empty, Str.empty)) : Sort3 x
  | two (s : Bool) (a : List Nat) (A T C : PySem.Str) (hs : sgnB x = s) (h : Top s a T) (hA : tl A = a) (l : A.length ≤ x.length ∧ T.length ≤ x.length ∧ C.length ≤ x.length) (hp : Txt.split (bodyT x) "/" = [A, C]) (p : Txt.partition x "/" = (T, ("/" : PySem.Str), C)) (e : x = T ++ ("/" : PySem.Str) ++ C) : Sort3 x
  | more (A B C : PySem.Str) (L : List PySem.Str) (T U : PySem.Str) (hp : Txt.split (bodyT x) "/" = A :: B :: C :: L) (p : Txt.partition x "/" = (T, ("/" : PySem.Str), U)) (h : 47 ∈ tl U) : Sort3 x
theorem map_one {α β : Type} {f : α → β} {l : List α} {a : β} (h : l.map f = [a]) : ∃ x, l = [x] ∧ f x = a := by
  cases l with
  | nil => cases h
  | cons x r =>
    cases r with
    | nil => exact ⟨x, rfl, by simpa using h⟩
    | cons _ _ => simp at h
theorem sorts (x : PySem.Str) : Sort3 x := by
  obtain ⟨hx, hn⟩ := body_tl (x := x)
  have hsp := split_pcs (bodyT x)
  have lx : x.length = (tl x).length := len_tl x
  obtain ⟨s, hs⟩ : ∃ s, sgnB x = s := ⟨_, rfl⟩
  rw [hs] at hx hn
  rcases split_at 47 (tl (bodyT x)) with h | ⟨a, c, e, h⟩
  · rw [pcs_free _ _ h, List.nil_append] at hsp
    obtain ⟨A, e1, e2⟩ := map_one hsp
    refine .one s (tl (bodyT x)) A hs ⟨hx, hn⟩ e2 ?_ e1 (partition_none (y := "/") (s := 47) (S := []) rfl ?_)
    · rw [len_tl, e2, lx, hx]
      split <;> simp
    · rw [hx]
      split
      · intro z
        rcases List.mem_cons.mp z with z | z
        · omega
        · exact h z
      · exact h
  · rw [e, pcs_cut _ _ _ h, List.nil_append] at hsp
    have hn' : s = false → a.head? ≠ some 45 := fun hs' z => hn hs' (by
      rw [e]
      cases a with
      | nil => cases z
      | cons d r => exact z)
    have hT : tl x = (if s then 45 :: a else a) ++ 47 :: c := by
      rw [hx, e]
      split <;> simp
    have h47 : 47 ∉ (if s then 45 :: a else a) := by
      split
      · intro z
        rcases List.mem_cons.mp z with z | z
        · omega
        · exact h z
      · exact h
    have ex : x = (⟨(if s then 45 :: a else a).toArray⟩ : PySem.Str) ++ ("/" : PySem.Str) ++ (⟨c.toArray⟩ : PySem.Str) := ext_tl (by
      rw [tl_append, tl_append, hT]
      have : tl ("/" : PySem.Str) = [47] := rfl
      rw [this]
      show _ = ((if s then 45 :: a else a)) ++ [47] ++ c
      simp)
    have tT : tl (⟨(if s then 45 :: a else a).toArray⟩ : PySem.Str) = (if s then 45 :: a else a) := rfl
    have tC : tl (⟨c.toArray⟩ : PySem.Str) = c := rfl
    generalize (⟨(if s then 45 :: a else a).toArray⟩ : PySem.Str) = T at ex tT
    generalize (⟨c.toArray⟩ : PySem.Str) = C at ex tC
    have hp : Txt.partition x "/" = (T, ("/" : PySem.Str), C) := by
      rw [ex]
      exact partition_app (y := "/") (s := 47) (S := []) rfl (by rw [tT]; exact h47)
    by_cases hc : 47 ∈ c
    · rcases split_at 47 c with h2 | ⟨c1, c2, e2, h2⟩
      · exact absurd hc h2
      · rw [e2, pcs_cut _ _ _ h2, List.nil_append] at hsp
        cases hq : pcs [] c2 with
        | nil => exact absurd hq (pcs_ne _ _)
        | cons d r =>
          rw [hq] at hsp
          cases hl : Txt.split (bodyT x) "/" with
          | nil => rw [hl] at hsp; cases hsp
          | cons A r1 =>
            rw [hl] at hsp
            cases r1 with
            | nil => simp at hsp
            | cons B r2 =>
              cases r2 with
              | nil => simp at hsp
              | cons D r3 => exact .more A B D r3 T C hl hp (by rw [tC]; exact hc)
    · rw [pcs_free _ _ hc, List.nil_append] at hsp
      cases hl : Txt.split (bodyT x) "/" with
      | nil => rw [hl] at hsp; cases hsp
      | cons A r1 =>
        rw [hl] at hsp
        cases r1 with
        | nil => simp at hsp
        | cons B r2 =>
          cases r2 with
          | cons D r3 => simp at hsp
          | nil =>
            simp only [List.map_cons, List.map_nil, List.cons.injEq, and_true] at hsp
            have eB : B = C := ext_tl (by rw [hsp.2, tC])
            subst eB
            refine .two s a A T B hs ⟨tT, hn'⟩ hsp.1 ?_ hl hp ex
            have hlx : x.length = T.length + 1 + B.length := by
              rw [ex, Str.length_append, Str.length_append]
              rfl
            have hla : A.length ≤ T.length := by
              rw [len_tl, len_tl, hsp.1, tT]
              split <;> simp
            omega
theorem cop_rat {u l : Int} (hl : 0 < l) (h : gI u l = 1) : (Rat.divInt u l).num = u ∧ ((Rat.divInt u l).den : Int) = l := by
  have l0 : l ≠ 0 := by omega
  have hs : sg u l = 1 := by
    unfold sg
    rw [h]
    split <;> first | rfl | omega
  rw [← nt_rat l0, ← nb_rat l0]
  unfold nt nb
  rw [hs]
  simp
/-- what the law reads is what the program reads -/
theorem lrd_is {x : PySem.Str} (hl : x.length ≤ 640) : (isTx x = true ∧ lrd x = some ((rdq x).num, ((rdq x).den : Int)) ∧ rstr (rdq x) = x) ∨ (isTx x = false ∧ lrd x = none) := by
  cases sorts x with
  | one s a A hs h hA l hp p =>
    have e0 : isTx x = topOK s a := by
      unfold isTx
      rw [p]
      dsimp only
      rw [top_is h]
      have e : decide (Str.empty = ("" : PySem.Str)) = true := rfl
      rw [e]
      simp
    have e1 : rdq x = (iv x : Rat) := by
      unfold rdq
      rw [p]
      dsimp only
      rw [if_pos (show Str.empty = ("" : PySem.Str) from rfl)]
    have e2 : lrd x = if goodL a then (if s then (if iv A = 0 then none else some (-(iv A), 1)) else some (iv A, 1)) else none := by
      unfold lrd
      rw [hp, hs, ← hA]
    cases ht : topOK s a with
    | true =>
      left
      obtain ⟨v1, v2⟩ := top_iv h ht hl
      have hg : goodL a = true := (Bool.and_eq_true_iff.mp ht).1
      have ivA : iv A = (NumText.digitsVal a : Nat) := by rw [iv_dig (by rw [hA]; exact hg) (by omega), hA]
      refine ⟨by rw [e0, ht], ?_, ?_⟩
      · rw [e2, if_pos hg, e1]
        have d1 : (((iv x : Int) : Rat)).num = iv x := rfl
        have d2 : ((((iv x : Int) : Rat)).den : Int) = 1 := rfl
        rw [d1, d2, v1, ivA]
        cases s with
        | false => rfl
        | true =>
          have hz : NumText.digitsVal a ≠ 0 := by
            have := (Bool.and_eq_true_iff.mp ht).2
            simpa using this
          rw [if_pos rfl, if_pos rfl, if_neg (by omega)]
      · rw [e1]
        unfold rstr
        rw [if_pos (show (((iv x : Int) : Rat)).den = 1 from rfl)]
        exact v2
    | false =>
      right
      refine ⟨by rw [e0, ht], ?_⟩
      rw [e2]
      unfold topOK at ht
      by_cases hg : goodL a = true
      · rw [hg, Bool.true_and] at ht
        have ivA : iv A = (NumText.digitsVal a : Nat) := by rw [iv_dig (by rw [hA]; exact hg) (by omega), hA]
        cases s with
        | false => simp at ht
        | true =>
          have hz : NumText.digitsVal a = 0 := by simpa using ht
          rw [if_pos hg, if_pos rfl, if_pos (by rw [ivA, hz]; rfl)]
      · rw [if_neg hg]
  | two s a A T C hs h hA l hp p e =>
    have hb := bot_is (c := tl C) (T := C) rfl (by omega)
    have e0 : isTx x = (topOK s a && ((goodL (tl C) && decide ((NumText.digitsVal (tl C) : Int) > 1)) && decide (gI (iv T) (iv C) = 1))) := by
      unfold isTx
      rw [p]
      dsimp only
      rw [top_is h, ← hb]
      have e : decide (("/" : PySem.Str) = ("" : PySem.Str)) = false := by decide
      rw [e]
      simp [Bool.and_assoc]
    have e1 : rdq x = Rat.divInt (iv T) (iv C) := by
      unfold rdq
      rw [p]
      dsimp only
      rw [if_neg (by decide)]
    have e2 : lrd x = if goodL a && goodL (tl C) then
      (if s then (if iv A = 0 then none else if iv C > 1 ∧ gI (-(iv A)) (iv C) = 1 then some (-(iv A), iv C) else none)
       else if iv C > 1 ∧ gI (iv A) (iv C) = 1 then some (iv A, iv C) else none) else none := by
      unfold lrd
      rw [hp, hs, ← hA]
    by_cases hgg : goodL a = true ∧ goodL (tl C) = true
    · obtain ⟨hg, hc⟩ := hgg
      have ivA : iv A = (NumText.digitsVal a : Nat) := by rw [iv_dig (by rw [hA]; exact hg) (by omega), hA]
      have ivC : iv C = (NumText.digitsVal (tl C) : Nat) := iv_dig hc (by omega)
      rw [← ivC, hc, Bool.true_and] at e0
      have e2' : lrd x = (if s then (if iv A = 0 then none else if iv C > 1 ∧ gI (-(iv A)) (iv C) = 1 then some (-(iv A), iv C) else none)
       else if iv C > 1 ∧ gI (iv A) (iv C) = 1 then some (iv A, iv C) else none) := by
        rw [e2, hg, hc]
        rfl
      cases ht : topOK s a with
      | false =>
        right
        rw [ht, Bool.false_and] at e0
        refine ⟨e0, ?_⟩
        unfold topOK at ht
        rw [hg, Bool.true_and] at ht
        cases s with
        | false => simp at ht
        | true =>
          have hz : NumText.digitsVal a = 0 := by simpa using ht
          rw [e2', if_pos rfl, if_pos (by rw [ivA, hz]; rfl)]
      | true =>
        rw [ht, Bool.true_and] at e0
        obtain ⟨v1, v2⟩ := top_iv h ht (by omega)
        have e3 : lrd x = if iv C > 1 ∧ gI (iv T) (iv C) = 1 then some (iv T, iv C) else none := by
          rw [e2']
          cases s with
          | false =>
            have v : iv T = iv A := by rw [v1, ivA]; rfl
            rw [v]
            rfl
          | true =>
            have v : iv T = -(iv A) := by rw [v1, ivA]; rfl
            have hz : NumText.digitsVal a ≠ 0 := by
              have := (Bool.and_eq_true_iff.mp ht).2
              simpa using this
            rw [v, if_pos rfl, if_neg (by omega)]
        by_cases hq : iv C > 1 ∧ gI (iv T) (iv C) = 1
        · left
          obtain ⟨r1, r2⟩ := cop_rat (by omega) hq.2
          refine ⟨by rw [e0, decide_eq_true hq.1, decide_eq_true hq.2]; rfl, ?_, ?_⟩
          · rw [e3, if_pos hq, e1, r1, r2]
          · rw [e1]
            unfold rstr
            rw [if_neg (by omega), r1, r2, v2]
            have hc2 : tx (iv C) = C := ext_tl (by rw [ivC, tx_nat, good_num hc])
            rw [hc2]
            have : Str.empty ++ T = T := ext_tl (by rw [tl_append]; rfl)
            rw [this, ← e]
        · right
          refine ⟨?_, by rw [e3, if_neg hq]⟩
          rw [e0]
          by_cases h1 : iv C > 1
          · rw [decide_eq_false (fun z => hq ⟨h1, z⟩), Bool.and_false]
          · rw [decide_eq_false h1, Bool.false_and]
    · right
      have e4 : (goodL a && goodL (tl C)) = false := by
        cases h1 : goodL a with
        | false => rfl
        | true =>
          cases h2 : goodL (tl C) with
          | false => rfl
          | true => exact absurd ⟨h1, h2⟩ hgg
      refine ⟨?_, by rw [e2, e4]; rfl⟩
      rw [e0]
      unfold topOK
      cases h1 : goodL a with
      | false => rfl
      | true =>
        rw [h1, Bool.true_and] at e4
        rw [e4]
        simp
  | more A B C L T U hp p h =>
    right
    refine ⟨?_, ?_⟩
    · unfold isTx
      rw [p]
      dsimp only
      have e : decide (("/" : PySem.Str) = ("" : PySem.Str)) = false := by decide
      have e2 : posT U = false := by
        cases hu : posT U with
        | false => rfl
        | true =>
          have := (posT_digits hu).1 47 h
          omega
      rw [e, e2]
      simp
    · unfold lrd
      rw [hp]
end SQ

/-! The words of a line: what stands between its spaces. -/
namespace SK
open PySem PySem.Spec PyProof.Rows L2 SF SQ TL
/-- what stands between the signs k -/
def pz (k : Nat) : List Nat → List Nat → List (List Nat)
  | a, [] => [a]
  | a, c :: r => if c = k then a :: pz k [] r else pz k (a ++ [c]) r
theorem pre_one (k c : Nat) (r : List Nat) : TL.pre [k] (c :: r) = decide (c = k) := by
  unfold TL.pre
  by_cases h : c = k
  · subst h; simp
  · simp [h]
theorem spl_pz (k : Nat) : ∀ (l a : List Nat), TL.spl [k] 0 a l = pz k a l
  | [], a => TL.spl.eq_1 _ _ _
  | c :: r, a => by
    rw [TL.spl.eq_2, pre_one, pz]
    by_cases h : c = k
    · rw [if_pos h, decide_eq_true h, if_pos rfl, show ([k] : List Nat).length - 1 = 0 from rfl, spl_pz k r []]
    · rw [if_neg h, decide_eq_false h, if_neg (by decide), spl_pz k r (a ++ [c])]
theorem words_tl (x : PySem.Str) : (Txt.split x " ").map tl = pz 32 [] (tl x) := by
  rw [show (Txt.split x " ").map tl = TL.spl [32] 0 [] (tl x) from TL.split_spl x " " (by decide) (sk_ge x " " (by decide +kernel)), spl_pz]
theorem pz_ne (k : Nat) : ∀ (l a : List Nat), pz k a l ≠ []
  | [], a => by simp [pz]
  | c :: r, a => by
    unfold pz
    split
    · simp
    · exact pz_ne k r _
theorem pz_len (k : Nat) : ∀ (l a : List Nat), (pz k a l).length ≤ l.length + 1
  | [], a => by simp [pz]
  | c :: r, a => by
    unfold pz
    split
    · have := pz_len k r []
      simp only [List.length_cons]
      omega
    · have := pz_len k r (a ++ [c])
      simp only [List.length_cons]
      omega
theorem pz_sub (k : Nat) : ∀ (l a p : List Nat), p ∈ pz k a l → (∀ c ∈ p, c ∈ a ∨ c ∈ l) ∧ p.length ≤ a.length + l.length
  | [], a, p, h => by
    have h : p ∈ [a] := h
    rw [List.mem_singleton.mp h]
    exact ⟨fun c hc => .inl hc, by simp⟩
  | c :: r, a, p, h => by
    unfold pz at h
    split at h
    · rcases List.mem_cons.mp h with h | h
      · rw [h]
        exact ⟨fun c hc => .inl hc, by simp⟩
      · obtain ⟨x, y⟩ := pz_sub k r [] p h
        refine ⟨fun d hd => .inr ?_, ?_⟩
        · rcases x d hd with z | z
          · cases z
          · exact List.mem_cons_of_mem _ z
        · simp only [List.length_nil, List.length_cons] at y ⊢
          omega
    · obtain ⟨x, y⟩ := pz_sub k r _ p h
      refine ⟨fun d hd => ?_, ?_⟩
      · rcases x d hd with z | z
        · rcases List.mem_append.mp z with z | z
          · exact .inl z
          · rw [List.mem_singleton.mp z]; exact .inr List.mem_cons_self
        · exact .inr (List.mem_cons_of_mem _ z)
      · simp only [List.length_append, List.length_cons, List.length_nil] at y ⊢
        omega
theorem pz_join (k : Nat) : ∀ (l a : List Nat), joinL [k] (pz k a l) = a ++ l
  | [], a => by simp [pz, joinL]
  | c :: r, a => by
    unfold pz
    by_cases h : c = k
    · rw [if_pos h]
      have e := pz_join k r []
      cases hp : pz k [] r with
      | nil => exact absurd hp (pz_ne k r [])
      | cons p ps =>
        rw [hp] at e
        show a ++ ([k] ++ joinL [k] (p :: ps)) = a ++ c :: r
        rw [e, h]
        rfl
    · rw [if_neg h, pz_join k r (a ++ [c])]
      simp
theorem word_sub {x w : PySem.Str} (h : w ∈ Txt.split x " ") : (∀ c ∈ tl w, c ∈ tl x) ∧ w.length ≤ x.length := by
  have m : tl w ∈ pz 32 [] (tl x) := by
    rw [← words_tl]
    exact List.mem_map_of_mem h
  obtain ⟨z1, z2⟩ := pz_sub _ _ _ _ m
  refine ⟨fun c hc => (z1 c hc).elim (fun z => by cases z) id, ?_⟩
  rw [len_tl x, len_tl w]
  simpa using z2
theorem words_len (x : PySem.Str) : (Txt.split x " ").length ≤ x.length + 1 := by
  have h := pz_len 32 (tl x) []
  rw [← words_tl, List.length_map] at h
  rw [len_tl x]
  exact h
/-- a word that is an entry -/
def goodW (w : PySem.Str) : Bool := decide (w = ("_" : PySem.Str)) || isTx w
/-- the entry that a word names -/
def rdE (w : PySem.Str) : Ent := if w = ("_" : PySem.Str) then none else some (rdq w)
theorem estr_rdE {w : PySem.Str} (h : goodW w = true) (hl : w.length ≤ 640) : estr (rdE w) = w := by
  unfold rdE
  by_cases e : w = ("_" : PySem.Str)
  · rw [if_pos e, e]; rfl
  · rw [if_neg e]
    unfold goodW at h
    rw [decide_eq_false e, Bool.false_or] at h
    rcases lrd_is hl with ⟨_, _, z⟩ | ⟨z, _⟩
    · exact z
    · rw [h] at z; cases z
theorem words_back {x : PySem.Str} (hl : x.length ≤ 640) (h : ∀ w ∈ Txt.split x " ", goodW w = true) : line ((Txt.split x " ").map rdE) = x := by
  have e : tl (line ((Txt.split x " ").map rdE)) = tl x := by
    have em : ((Txt.split x " ").map rdE).map estr = Txt.split x " " := by
      rw [List.map_map]
      refine (List.map_congr_left fun w hw => ?_).trans (List.map_id _)
      exact estr_rdE (h w hw) (Nat.le_trans (word_sub hw).2 hl)
    rw [tl_line, em, words_tl, pz_join]
    rfl
  exact (List.cons.inj (map_tl_inj (l := [_]) (m := [_]) (by rw [List.map_cons, List.map_cons, e]))).1
theorem words_ne (x : PySem.Str) : Txt.split x " " ≠ [] := fun e => by
  have := words_tl x
  rw [e] at this
  exact pz_ne 32 _ _ this.symm
end SK

/-! Series that are refused: reading. -/
namespace T08
open PySem PySem.Spec PyProof.Rows L2 SF SQ SK
section
variable {P : Program} {w : World} {K : PySem.W.Frag} {mg : Str → Option Value} {base : Heap} {C D : Addr} {fI : Addr} {fdI : FuncData}
theorem ok_ETxtH (O : OEK K mg "InvalidText" "InvalidText.__init__" sETxt D fI fdI) : L2H.FnH P w K mg base CX0 1 fI fdI ["self", "given"] (spOI D) := by
  obtain ⟨hT, h1, h2, hno⟩ := oexB_ok O.x
  have Q : ∀ p, SFT.FnQ P w K mg base CX0 1 p fI fdI ["self", "given"] (spOI D) := fun p => by
    refine SFT.Fun.okQ O.F scETxt (fun vs H Q E h => ?_) (fun cdv A outer s H vs Q E hr h => ?_)
    · obtain ⟨p, y, rfl, _⟩ := h
      rfl
    · obtain ⟨p, y, rfl, hp, q⟩ := h
      exact ⟨_, pss_one (ps_ost (pv 0) (pv 1)), _, rfl, _, rfl, p, D, rfl, hT, hno, .inl ⟨hp, q⟩⟩
  exact ⟨(Q ⟨0, ⟨.none, none, .freed, #[]⟩⟩).len, fun A outer s H args us vs Q' E p hr hot hp e0 hb r h => (Q p).run A outer s H args us vs Q' E hr hp e0 hb r h⟩
def spWTN (C D : Addr) : Sp := fun vs H _ E => ∃ x : PySem.Str, vs = [.ref C, .str x] ∧ x.length ≤ 640 ∧ isTx x = false ∧ ∀ H', Same H H' → ErrG E D (.str x) H'
theorem zw_RdN (T : Tx K mg C) (O : OE P w K mg base "InvalidText" D fI fdI) : FnOk P w K mg base (L2N.CX P w) 3 T.aRd T.dRd ["cls", "text"] (spWTN C D) := by
  have GT : FnOk P w K mg base CX0 2 T.aIsT T.dIsT ["text"] spIsT := ok_IsT T
  refine SQ.Fun.okX T.FRd scRd (fun vs H Q E h => ?_) (fun cdv A outer s H vs Q E hr h => ?_)
  · obtain ⟨x, rfl, _⟩ := h
    rfl
  · obtain ⟨x, rfl, hl, hx, z⟩ := h
    refine ⟨_, (pss_cons (ps_if (pt_not (pt_val (pe_call GT hr (by rfl) T.gIsT T.FIsT.kp T.bIsT .nil pass0 (pa_cons (pv 1) pa_nil)))) (pss_one (ps_oeN O rfl (L2N.takes_of (E := E) rfl rfl rfl rfl) hr (by rfl) (pv 1) (fun _ _ _ _ k ⟨v, e, q⟩ => ⟨v, e, k _ _ q⟩))) pss_nil) pss_never), ?_⟩
    refine ⟨_, rfl, x, rfl, hl, fun H0 s0 => ⟨_, rfl, ?_⟩⟩
    rw [hx]
    exact iteT ⟨_, rfl, z H0 s0⟩
def spREntB (C D : Addr) : Sp := fun vs H Q E => ∃ x l : PySem.Str, vs = [.str x, .str l] ∧ x.length ≤ 640 ∧
  ((x = "_" ∧ ∀ H', Same H H' → Q .non H') ∨ (x ≠ "_" ∧ isTx x = true ∧ Sz PN (rdq x) ∧ ∀ v H', Same H H' → EN C PN H' v (some (rdq x)) → Q v H') ∨ (x ≠ "_" ∧ isTx x = false ∧ ∀ H', Same H H' → ErrG E D (.str l) H'))
theorem zw_REnt (T : Tx K mg C) (O : OE P w K mg base "InvalidText" D fI fdI) (Oh : L2H.FnH P w K mg base CX0 1 fI fdI ["self", "given"] (spOI D)) (hme : PySem.W.exmOne K (.ref D) (.ref D) = some true) : FnOk P w K mg base (L2.CX P w) 6 T.aREnt T.dREnt ["word", "text"] (spREntB C D) := by
  have GR : FnOk P w K mg base CX0 4 T.aRd T.dRd ["cls", "text"] (spRd C) := ok_Rd T
  have GN : FnOk P w K mg base (L2N.CX P w) 4 T.aRd T.dRd ["cls", "text"] (spWTN C D) := (zw_RdN T O).mono (by decide)
  refine SQ.Fun.okX T.FREnt scREnt (fun vs H Q E h => ?_) (fun cdv A outer s H vs Q E hr h => ?_)
  · obtain ⟨x, l, rfl, _⟩ := h
    rfl
  · obtain ⟨x, l, rfl, hl, h⟩ := h
    have hr4 := hr.mono (show 4 ≤ 5 by decide)
    have nm : Names (cxOf (L2.CX P w) P w K mg base ["word", "text"] "_read_entry" (defScope sREnt) T.aREnt cdv A outer s H E) "InvalidText" (.ref D) := ⟨rfl, by decide, .inl O.g⟩
    have tk : L2.Takes (cxOf (L2.CX P w) P w K mg base ["word", "text"] "_read_entry" (defScope sREnt) T.aREnt cdv A outer s H E) (fun cls d _ H => E cls d H) := takes_of (E := E) rfl rfl rfl rfl
    rcases h with ⟨rfl, q⟩ | ⟨hn, hx, sz, q⟩ | ⟨hn, hx, z⟩
    · refine ⟨_, (pss_cons (ps_if (pt_cmpR op_eq (pv 0) (pe_glob (v := .str "_") (by rfl) T.gap ⟨_, rfl⟩) (nomark _)) (pss_one (ps_ret pe_non)) pss_nil) pss_never), ?_⟩
      refine ⟨_, rfl, rfl, _, rfl, ?_⟩
      rw [str_dec, decide_eq_true rfl]
      exact iteT (q H (Same.refl _))
    · refine ⟨_, (pss_cons (ps_if (pt_cmpR op_eq (pv 0) (pe_glob (v := .str "_") (by rfl) T.gap ⟨_, rfl⟩) (nomark _)) (pss_one (ps_ret pe_non)) pss_nil)
        (pss_one (L2H.ps_try_onlyX rfl rfl nm (fun hd => PassesOwnAt.leaving) tk (fun W pn xe tkN tkP ps => pss_one (ps_ret (ClX.pe_cmeth (E := E0) (pe_glob (v := .ref C) (by rfl) T.rc.mgC rfl) T.rRd T.cRd (GR.raw T.bRd .nil) hr4 pass0 (pa_cons (pv 0) pa_nil)))) (fun a oe cls d pn hz hf tkS hot => pss_one ps_never)))), ?_⟩
      refine ⟨_, rfl, rfl, _, rfl, ?_⟩
      rw [str_dec, decide_eq_false hn]
      refine iteF ⟨rfl, _, rfl, x, rfl, hl, hx, fun p H' S rq => ?_⟩
      exact q _ H' S ⟨p, rfl, rq.1, sz⟩
    · refine ⟨_, (pss_cons (ps_if (pt_cmpR op_eq (pv 0) (pe_glob (v := .str "_") (by rfl) T.gap ⟨_, rfl⟩) (nomark _)) (pss_one (ps_ret pe_non)) pss_nil)
        (pss_one (L2H.ps_try_onlyX rfl rfl nm (fun hd => PassesOwnAt.leaving) tk (fun W pn xe tkN tkP ps => pss_one (ps_ret (pe_cmethS (E := WE W) (pe_glob (v := .ref C) (by rfl) T.rc.mgC rfl) T.rRd T.cRd (GN.raw T.bRd .nil) hr4 (L2N.passAt tkN) (pa_cons (pv 0) pa_nil))))
          (fun a oe cls d pn hz hf tkS hot => pss_one (ps_oeH O Oh hot tkS (L2H.roomH_mark (hr.mono (by decide)) _) (by rfl) (pv 1) (fun _ _ _ _ k ⟨v, e, q⟩ => ⟨v, e, k _ _ q⟩)))))), ?_⟩
      refine ⟨_, rfl, rfl, _, rfl, ?_⟩
      rw [str_dec, decide_eq_false hn]
      refine iteF ⟨rfl, _, rfl, x, rfl, hl, hx, fun H1 S1 dx H2 S2 ed => ⟨true, hme, fun _ a na => ?_, fun z => by cases z⟩⟩
      refine ⟨_, rfl, ?_⟩
      exact (z H2 (S1.trans S2))
def spSRX (C S D : Addr) : Sp := fun vs H _ E => ∃ x : PySem.Str, vs = [.ref S, .str x] ∧ x ≠ "" ∧ x.length ≤ 640 ∧ (∀ y ∈ Txt.split x " ", isTx y = true → Sz PN (rdq y)) ∧ (∃ y ∈ Txt.split x " ", goodW y = false) ∧ ∀ H', Same H H' → ErrG E D (.str x) H'
theorem zw_SRX (T : Tx K mg C) (O : OE P w K mg base "InvalidText" D fI fdI) (Oh : L2H.FnH P w K mg base CX0 1 fI fdI ["self", "given"] (spOI D)) (hme : PySem.W.exmOne K (.ref D) (.ref D) = some true) : FnOk P w K mg base (L2.CX P w) 7 T.aSR T.dSR ["cls", "text"] (spSRX C T.S D) := by
  have GI : FnOk P w K mg base CX0 5 T.aSI T.dSI ["self", "entries"] (spSI C T.S) := ok_SI T
  have GE : FnOk P w K mg base (L2.CX P w) 6 T.aREnt T.dREnt ["word", "text"] (spREntB C D) := zw_REnt T O Oh hme
  refine SQ.Fun.okX T.FSR scSR (fun vs H Q E h => ?_) (fun cdv A outer s H vs Q E hr h => ?_)
  · obtain ⟨x, rfl, _⟩ := h
    rfl
  · obtain ⟨x, rfl, hne, hl, hsz, ⟨y0, hy0, hb0⟩, z⟩ := h
    have l6 : 1000 ≤ sizeLine := by decide
    have tk : L2.Takes (cxOf (L2.CX P w) P w K mg base ["cls", "text", "word"] "Series.read" (defScope sSR) T.aSR cdv A outer s H E) (fun cls d _ H => E cls d H) := takes_of (E := E) rfl rfl rfl rfl
    refine ⟨_, (pss_cons (ps_if (pt_not (pt_val (pe_callB call_isi (by rfl) T.rc.isi (by decide +kernel) (pa_cons (pv 1) (pa_cons (pe_bltn (v := .ty "str") (u := .type "str") (by rfl) T.rc.str_ (by decide +kernel) rfl) pa_nil))))) (pss_one ps_never) pss_nil)
      (pss_cons (ps_if (pt_cmpR op_eq (pv 1) pe_str (nomark _)) (pss_one ps_never) pss_nil)
      (pss_one (ps_ret (pe_makeL (i := 0) T.MS GI hr rfl (.inl rfl) T.bSI .nil pass0 (pa_cons (pe_callTy call_tuple_of (by rfl) T.tup (by decide +kernel) (pa_cons (pe_lcX (own := [("word", 2)]) (g := gName 2) rfl rfl tk rfl scSR.nd (pi_list (pe_split (pv 1) pe_str)) (blkOk_by (N := ["cls", "text", "word"]) (sc := defScope sSR) (by decide +kernel)) (fun _ _ _ _ _ => pg_name (i := 2) scSR.nd rfl (Or.inl rfl))
        (fun _ _ _ _ _ _ _ hp => pe_call (E := E) GE hr (by rfl) T.gREnt T.FREnt.kp T.bREnt .nil hp (pa_cons (pv 2) (pa_cons (pv 1) pa_nil)))) pa_nil)) pa_nil)))))), ?_⟩
    refine ⟨_, rfl, _, _, _, _, true, rfl, .ty _, (Dec.str _).typ, kit_ty (by decide +kernel), true, rfl, iteF ?_⟩
    refine ⟨_, rfl, rfl, _, rfl, ?_⟩
    rw [str_dec, decide_eq_false hne]
    refine iteF ⟨rfl, _, rfl, ⟨_, rfl⟩, x, " ", rfl, rfl, rfl, by omega, fun p hp => ?_⟩
    have wl := words_len x
    obtain ⟨ws, hws⟩ : ∃ ws, Txt.split x " " = ws := ⟨_, rfl⟩
    have hwl : ∀ y ∈ ws, y.length ≤ 640 := fun y hy => Nat.le_trans (word_sub (by rw [hws]; exact hy)).2 hl
    rw [hws] at hsz hy0 wl ⊢
    generalize hE : upd H p _ = H1
    have gp := upd_got hE
    have sp := upd_stay hE hp
    refine ⟨p, rfl, ⟨_, SqL.of gp⟩, fun D' hD => lcS_list (P := fun i _ _ => ∃ y, ws[i]? = some y ∧ goodW y = true) (fun _ _ _ _ _ h => h) (fun _ _ _ _ _ _ _ h => h) (SqL.of gp) (by rw [List.length_map]; omega) hD ?_ ?_⟩
    · intro i v H2 Q1 hx S1 k
      rw [List.getElem?_map] at hx
      cases hy : ws[i]? with
      | none => rw [hy] at hx; cases hx
      | some y =>
        rw [hy] at hx
        cases (Option.some.inj hx)
        have hm := List.mem_of_getElem? hy
        refine ⟨_, rfl, _, rfl, y, x, rfl, hwl y hm, ?_⟩
        by_cases h1 : y = ("_" : PySem.Str)
        · exact .inl ⟨h1, fun H' S' => k _ _ S' ⟨y, hy, by unfold goodW; rw [decide_eq_true h1]; rfl⟩⟩
        · cases h2 : isTx y with
          | true => exact .inr (.inl ⟨h1, rfl, hsz y hm h2, fun v H' S' _ => k _ _ S' ⟨y, hy, by unfold goodW; rw [h2, Bool.or_true]⟩⟩)
          | false => exact .inr (.inr ⟨h1, rfl, fun H' S' => z _ ((sp.trans S1).trans S')⟩)
    · intro H2 ys S1 hys hyl hP
      obtain ⟨i, hi, e⟩ := List.getElem_of_mem hy0
      have li : i < ys.length := by rw [hyl, List.length_map]; exact hi
      obtain ⟨y, hy, hg⟩ := hP i ys[i] (List.getElem?_eq_getElem li)
      rw [List.getElem?_eq_getElem hi, e] at hy
      cases hy
      rw [hb0] at hg
      cases hg
end
end T08

/-! Series that are refused: entries, things that are no texts. -/
namespace SK
open PySem PySem.Spec PyProof.Rows L2 SF SQ
section
variable {P : Program} {w : World} {K : PySem.W.Frag} {mg : PySem.Str → Option Value} {base : Heap} {k : Nat} {f : Addr} {fd : FuncData} {ps : List PySem.Str} {s1 s2 : Sp}
theorem fn_or {CX : CXT} (F1 : FnOk P w K mg base CX k f fd ps s1) (F2 : FnOk P w K mg base CX k f fd ps s2) : FnOk P w K mg base CX k f fd ps (fun vs H Q E => s1 vs H Q E ∨ s2 vs H Q E) :=
  ⟨fun vs H Q E h => h.elim (F1.len vs H Q E) (F2.len vs H Q E), fun A outer s H args us vs Q E hr e0 hb r h => h.elim (F1.run A outer s H args us vs Q E hr e0 hb r) (F2.run A outer s H args us vs Q E hr e0 hb r)⟩
theorem fn_up {CX : CXT} (F1 : FnOk P w K mg base CX0 k f fd ps s1) : FnOk P w K mg base CX k f fd ps s1 :=
  ⟨F1.len, fun A outer s H args us vs Q E hr e0 hb r h => codeAny_mono (F1.run A outer s H args us vs Q E hr e0 hb r h) fun r s' z => by
    cases r with
    | error e => exact z.elim
    | ok fl => cases fl <;> exact z⟩
end
/-- an entry; what is none -/
def OkE (C : Addr) (H : Hp) (x : V) : Prop := x = .non ∨ (∃ i, x = .int i) ∨ IsIns C H x
def NoE (S : Addr) (H : Hp) (x : V) : Prop := (∃ k, Dec H x k ∧ isI x = false ∧ x ≠ .non) ∨ IsIns S H x
/-- no tuple of entries -/
def NoRow (C S : Addr) (H : Hp) (v : V) : Prop := (∃ k, Dec H v k ∧ k ≠ "tuple") ∨ IsIns S H v ∨ ∃ t xs, v = .ref t ∧ H t = some (.tup xs) ∧ (∀ x ∈ xs, OkE C H x ∨ NoE S H x) ∧ ∃ x ∈ xs, NoE S H x
end SK
namespace T08
open PySem PySem.Spec PyProof.Rows L2 SF SQ SK
section
variable {P : Program} {w : World} {K : PySem.W.Frag} {mg : Str → Option Value} {base : Heap} {C D : Addr} {fI : Addr} {fdI : FuncData}
theorem Tx.tyS (T : Tx K mg C) {H : Hp} {a dx : Addr} {fs : List (PySem.Str × V)} (h : H a = some (.ins T.S dx fs)) : TyX K H (.ref a) (.ref T.S) := .base (.ins h T.clS T.sk.ca T.sk.cn T.sk.ct T.sk.cm)
theorem Tx.tyC (T : Tx K mg C) {H : Hp} {a dx : Addr} {fs : List (PySem.Str × V)} (h : H a = some (.ins C dx fs)) : TyX K H (.ref a) (.ref C) := .base (.ins h T.rc.cl T.rc.ca T.rc.cn T.rc.ct T.rc.cm)
def spIsX (S : Addr) : Sp := fun vs H Q _ => ∃ v, vs = [v] ∧ IsIns S H v ∧ Q (.bl false) H
theorem ok_isWX (T : Tx K mg C) : FnOk P w K mg base CX0 1 T.aIsW T.dIsW ["value"] (spIsX T.S) := by
  refine T.FIsW.ok scIsW (fun vs H Q E h => ?_) (fun cdv A outer s H vs Q E hr h => ?_)
  · obtain ⟨v, rfl, _⟩ := h
    rfl
  · obtain ⟨v, rfl, ⟨a, dx, fs, rfl, ha⟩, q⟩ := h
    exact ⟨_, (pss_one (ps_ret (pe_and (pe_callB call_isi (by rfl) T.rc.isi (by decide +kernel) (pa_cons (pv 0) (pa_cons (pe_bltn (v := .ty "int") (u := .type "int") (by rfl) T.rc.int_ (by decide +kernel) rfl) pa_nil))) (pe_one (pe_not (pe_callB call_isi (by rfl) T.rc.isi (by decide +kernel) (pa_cons (pv 0) (pa_cons (pe_bltn (v := .ty "bool") (u := .type "bool") (by rfl) T.rc.bool_ (by decide +kernel) rfl) pa_nil)))))))),
      _, rfl, _, _, _, _, false, rfl, .ty _, T.tyS ha, T.kST _ (by decide), false, rfl, iteF q⟩
theorem ok_isNX (T : Tx K mg C) : FnOk P w K mg base CX0 2 T.aIsN T.dIsN ["value"] (spIsX T.S) := by
  have GW : FnOk P w K mg base CX0 1 T.aIsW T.dIsW ["value"] (spIsX T.S) := ok_isWX T
  refine T.FIsN.ok scIsN (fun vs H Q E h => ?_) (fun cdv A outer s H vs Q E hr h => ?_)
  · obtain ⟨v, rfl, _⟩ := h
    rfl
  · obtain ⟨v, rfl, ⟨a, dx, fs, rfl, ha⟩, q⟩ := h
    exact ⟨_, (pss_one (ps_ret (pe_or (pe_callB call_isi (by rfl) T.rc.isi (by decide +kernel) (pa_cons (pv 0) (pa_cons (pe_glob (v := .ref C) (by rfl) T.rc.mgC rfl) pa_nil))) (pe_one (pe_call GW hr (by rfl) T.gIsW T.FIsW.kp T.bIsW .nil pass0 (pa_cons (pv 0) pa_nil)))))),
      _, rfl, .ref a, .ref C, _, .ref C, false, rfl, .own C, T.tyS ha, T.kSC, false, rfl, iteF ⟨_, rfl, _, rfl, ⟨a, dx, fs, rfl, ha⟩, q⟩⟩
def spSIX (C S D : Addr) : Sp := fun vs H _ E => ∃ p v, vs = [.ref p, v] ∧ NoRow C S H v ∧ ErrG E D v H
theorem zw_SI (T : Tx K mg C) (O : OE P w K mg base "InvalidEntries" D fI fdI) : FnOk P w K mg base (L2.CX P w) 4 T.aSI T.dSI ["self", "entries"] (spSIX C T.S D) := by
  have GN : FnOk P w K mg base CX0 2 T.aIsN T.dIsN ["value"] (fun vs H Q E => spIsN C vs H Q E ∨ spIsX T.S vs H Q E) := fn_or (ok_isN T) (ok_isNX T)
  refine SQ.Fun.okX T.FSI scSI (fun vs H Q E h => ?_) (fun cdv A outer s H vs Q E hr h => ?_)
  · obtain ⟨p, v, rfl, _⟩ := h
    rfl
  · obtain ⟨p, v, rfl, hv, z⟩ := h
    have hr2 := hr.mono (show 2 ≤ 3 by decide)
    have tk : L2.Takes (cxOf (L2.CX P w) P w K mg base ["self", "entries", "entry"] "Series.__init__" (defScope sSI) T.aSI cdv A outer s H E) (fun cls d _ H => E cls d H) := takes_of (E := E) rfl rfl rfl rfl
    refine ⟨_, (pss_cons (ps_if (pt_not (pt_val (pe_callB call_isi (by rfl) T.rc.isi (by decide +kernel) (pa_cons (pv 1) (pa_cons (pe_bltn (v := .ty "tuple") (u := .type "tuple") (by rfl) T.tup (by decide +kernel) rfl) pa_nil))))) (pss_one (ps_oe O rfl tk hr2 (by rfl) (pv 1) (fun _ _ _ _ k ⟨v, e, q⟩ => ⟨v, e, k _ _ q⟩))) pss_nil)
      (pss_cons (ps_for (passes_of rfl) rfl (pi_tup (pv 1)) (pg_name (i := 2) scSI.nd rfl (.inl rfl)) (pss_one (ps_if (PW.pt (pw_and (pt_cmpR op_notN (pv 2) pe_non (nomark _)) (pw_and1 (pt_not (pt_val (pe_call GN hr2 (by rfl) T.gIsN T.FIsN.kp T.bIsN .nil pass0 (pa_cons (pv 2) pa_nil))))))) (pss_one (ps_oe O rfl tk hr2 (by rfl) (pv 1) (fun _ _ _ _ k ⟨v, e, q⟩ => ⟨v, e, k _ _ q⟩))) pss_nil)))
      pss_never)), ?_⟩
    rcases hv with ⟨k, d, hk⟩ | ⟨a, dx, fs, rfl, ha⟩ | ⟨t, xs, rfl, ht, hall, ⟨x0, hx0, hb⟩⟩
    · have d' := d
      cases d with
      | tup e => exact absurd rfl hk
      | non => exact ⟨_, rfl, _, _, _, _, false, rfl, .ty _, d'.typ, kit_ty (by decide +kernel), false, rfl, iteT ⟨_, rfl, z⟩⟩
      | bl b => exact ⟨_, rfl, _, _, _, _, false, rfl, .ty _, d'.typ, kit_ty (by decide +kernel), false, rfl, iteT ⟨_, rfl, z⟩⟩
      | int i => exact ⟨_, rfl, _, _, _, _, false, rfl, .ty _, d'.typ, kit_ty (by decide +kernel), false, rfl, iteT ⟨_, rfl, z⟩⟩
      | str x => exact ⟨_, rfl, _, _, _, _, false, rfl, .ty _, d'.typ, kit_ty (by decide +kernel), false, rfl, iteT ⟨_, rfl, z⟩⟩
      | lst e => exact ⟨_, rfl, _, _, _, _, false, rfl, .ty _, d'.typ, kit_ty (by decide +kernel), false, rfl, iteT ⟨_, rfl, z⟩⟩
      | dK e => exact ⟨_, rfl, _, _, _, _, false, rfl, .ty _, d'.typ, kit_ty (by decide +kernel), false, rfl, iteT ⟨_, rfl, z⟩⟩
    · exact ⟨_, rfl, _, _, _, _, false, rfl, .ty _, T.tyS ha, T.kST _ (by decide), false, rfl, iteT ⟨_, rfl, z⟩⟩
    · refine ⟨_, rfl, _, _, _, _, true, rfl, .ty _, (Dec.tup ht).typ, kit_ty (by decide +kernel), true, rfl, iteF ?_⟩
      refine ⟨_, rfl, t, rfl, ⟨_, SqT.of ht⟩, for_tup (xs := xs) (fun i σ' H' => H' = H ∧ (∃ o, σ' = [some (.ref p), some (.ref t), o]) ∧ ∀ j, j < i → ∀ x, xs[j]? = some x → OkE C H x) ⟨rfl, ⟨_, rfl⟩, fun j hj => by omega⟩ (fun i σ' H' _ hh => by rw [hh.1]; exact SqT.of ht) ?_ ?_⟩
      · rintro i x σ' H' hx ⟨rfl, ⟨o, rfl⟩, hok⟩
        have nxt : OkE C H' x → ∀ j, j < i + 1 → ∀ y, xs[j]? = some y → OkE C H' y := fun hh j hj y hy => by
          by_cases e : j = i
          · subst e; rw [hx] at hy; cases hy; exact hh
          · exact hok j (by omega) y hy
        refine ⟨_, rfl, rfl, _, rfl, ?_⟩
        rcases hall x (List.mem_of_getElem? hx) with h | h
        · rcases h with rfl | ⟨j, rfl⟩ | h
          · exact iteF ⟨rfl, ⟨_, rfl⟩, nxt (.inl rfl)⟩
          · exact iteT ⟨_, rfl, .inl ⟨_, rfl, .inl ⟨_, .int j, _, rfl, iteF ⟨rfl, ⟨_, rfl⟩, nxt (.inr (.inl ⟨j, rfl⟩))⟩⟩⟩⟩
          · have h' := h
            obtain ⟨a, dx, fs, rfl, ha⟩ := h
            exact iteT ⟨_, rfl, .inl ⟨_, rfl, .inr ⟨h', _, rfl, iteF ⟨rfl, ⟨_, rfl⟩, nxt (.inr (.inr h'))⟩⟩⟩⟩
        · rcases h with ⟨k, d, hi, hn⟩ | h
          · have e : decide (x = V.non) = false := decide_eq_false hn
            rw [e]
            exact iteT ⟨_, rfl, .inl ⟨_, rfl, .inl ⟨_, d, _, rfl, by rw [hi]; exact iteT ⟨_, rfl, z⟩⟩⟩⟩
          · have h' := h
            obtain ⟨a, dx, fs, rfl, ha⟩ := h
            exact iteT ⟨_, rfl, .inr ⟨_, rfl, h', _, rfl, iteT ⟨_, rfl, z⟩⟩⟩
      · rintro σ' H' ⟨rfl, ⟨o, rfl⟩, hok⟩
        obtain ⟨i, hi, e⟩ := List.getElem_of_mem hx0
        have ok := hok i hi x0 (by rw [List.getElem?_eq_getElem hi, e])
        exfalso
        rcases hb with ⟨k, d, hi, hn⟩ | ⟨a, dx, fs, rfl, ha⟩
        · rcases ok with rfl | ⟨j, rfl⟩ | ⟨a, dx, fs, rfl, ha⟩
          · exact hn rfl
          · cases hi
          · cases d with
            | lst e => rw [ha] at e; cases e
            | tup e => rw [ha] at e; cases e
            | dK e => rw [ha] at e; cases e
        · rcases ok with e | ⟨j, e⟩ | ⟨a', dx', fs', e, ha'⟩
          · cases e
          · cases e
          · cases e
            rw [ha] at ha'
            have e2 := (HO.ins.inj (Option.some.inj ha')).1
            exact absurd T.kSC (by rw [e2, T.rc.kC]; decide)
end
end T08

/-! What a law reads of a text (once of k05's texts). -/
namespace SQ
open PySem PySem.Spec PyProof.Rows L2 SF
def allS : PySem.Str := " !\"#$&'()*+,-./0123456789:;<=>?@ABCDEFGHIJKLMNOPQRSTUVWXYZ[\\]^_" ++ "abcdefghijklmnopqrstuvwxyz{|}~"
theorem allS_pa : PA allS := pa_of (by decide +kernel)
theorem allS_len : allS.length = 93 := by decide +kernel
theorem allS_sum : (" !\"#$&'()*+,-./0123456789:;<=>?@ABCDEFGHIJKLMNOPQRSTUVWXYZ[\\]^_" : PySem.Str).length + ("abcdefghijklmnopqrstuvwxyz{|}~" : PySem.Str).length ≤ sizeLine := by
  have e : (" !\"#$&'()*+,-./0123456789:;<=>?@ABCDEFGHIJKLMNOPQRSTUVWXYZ[\\]^_" : PySem.Str).length + ("abcdefghijklmnopqrstuvwxyz{|}~" : PySem.Str).length = 93 := by decide +kernel
  rw [e]
  decide
theorem digS_len : ("0123456789-/ " : PySem.Str).length ≤ sizeLine := by
  have e : ("0123456789-/ " : PySem.Str).length = 13 := by decide +kernel
  rw [e]
  decide
theorem digS_pa : PA ("0123456789-/ " : PySem.Str) := pa_of (by decide +kernel)
theorem pa_cut {x : PySem.Str} (h : PA x) (lo hi : Option Int) : PA (cutS x lo hi) := fun c hc => h c (List.mem_of_mem_drop (List.mem_of_mem_take hc))
theorem cut_len (z : PySem.Str) (lo hi : Option Int) : (cutS z lo hi).length = min (HT.sIx z.length z.length hi - HT.sIx z.length 0 lo) (z.length - HT.sIx z.length 0 lo) := by
  show (((z.cps.toList.drop (HT.sIx z.length 0 lo)).take (HT.sIx z.length z.length hi - HT.sIx z.length 0 lo)).toArray).size = _
  rw [List.size_toArray, List.length_take, List.length_drop, Array.length_toList]
  rfl
theorem six_some {n d : Nat} {s : Int} (h : 0 ≤ s) : HT.sIx n d (some s) = min s.toNat n := by
  show (if s < 0 then (s + (n : Int)).toNat else min s.toNat n) = _
  rw [if_neg (by omega)]
theorem cl_pre {x : PySem.Str} {s : Int} (h : 0 ≤ s) : (cutS x none (some s)).length = min s.toNat x.length := by
  rw [cut_len, six_some h]
  show min (min s.toNat x.length - 0) (x.length - 0) = _
  omega
theorem cl_suf {x : PySem.Str} {s : Int} (h : 0 ≤ s) : (cutS x (some s) none).length = x.length - s.toNat := by
  rw [cut_len, six_some h]
  show min (x.length - min s.toNat x.length) (x.length - min s.toNat x.length) = _
  omega
theorem cl_one {x : PySem.Str} {s : Int} (h : 0 ≤ s) : (cutS x (some s) (some (s + 1))).length ≤ 1 := by
  rw [cut_len, six_some h, six_some (by omega)]
  omega
theorem atN {α : Type} {l : List α} {e : Int} {v : α} (h0 : 0 ≤ e) (h : l[e.toNat]? = some v) : atI l e = some v := by
  have z := atI_nat h
  rw [show ((e.toNat : Nat) : Int) = e by omega] at z
  exact z
theorem one_pa {c : Nat} (h : 32 ≤ c) (k : c ≤ 126) : PA (⟨#[c]⟩ : PySem.Str) := fun d hd => by
  have e : d = c := by simpa [TL.tl] using hd
  subst e
  exact ⟨h, k⟩
end SQ
namespace SQ
open PySem PySem.Spec PyProof.Rows L2 SF TL
theorem tl_ext {x y : PySem.Str} (h : tl x = tl y) : x = y := by
  obtain ⟨a⟩ := x
  obtain ⟨b⟩ := y
  have : a.toList = b.toList := h
  rw [Array.toList_inj.mp this]
theorem tl_one {x : PySem.Str} : tl (cutS x none (some 1)) = (tl x).take 1 := by
  have e : HT.sIx x.length x.length (some 1) = min 1 x.length := rfl
  show ((x.cps.toList.drop 0).take (HT.sIx x.length x.length (some 1) - 0)) = _
  rw [e, List.drop_zero, len_tl]
  show (tl x).take _ = _
  cases tl x with
  | nil => rfl
  | cons c r => simp
theorem sgn_is {x : PySem.Str} : decide (V.str (cutS x none (some 1)) = V.str "-") = sgnB x := by
  unfold sgnB
  by_cases h : (tl x).head? = some 45
  · rw [decide_eq_true h]
    refine decide_eq_true ?_
    have : cutS x none (some 1) = "-" := tl_ext (by
      rw [tl_one]
      cases e : tl x with
      | nil => rw [e] at h; cases h
      | cons c r =>
        rw [e] at h
        injection h with h
        subst h
        rfl)
    rw [this]
  · rw [decide_eq_false h]
    refine decide_eq_false fun z => h ?_
    have z := V.str.inj z
    have z2 : (tl x).take 1 = [45] := by
      rw [← tl_one, z]
      rfl
    cases e : tl x with
    | nil => rw [e] at z2; cases z2
    | cons c r =>
      rw [e] at z2
      injection z2 with z3 _
      rw [z3]
      rfl
theorem lrd_one {x A : PySem.Str} (hp : Txt.split (bodyT x) "/" = [A]) (g : goodL (tl A) = true) : lrd x = if sgnB x = true then (if iv A = 0 then none else some (-(iv A), 1)) else some (iv A, 1) := by
  unfold lrd
  rw [hp]
  simp only [g, if_true]
theorem lrd_two {x A B : PySem.Str} (hp : Txt.split (bodyT x) "/" = [A, B]) (g : goodL (tl A) = true) (k : goodL (tl B) = true) : lrd x = if sgnB x = true then (if iv A = 0 then none else if iv B > 1 ∧ gI (-(iv A)) (iv B) = 1 then some (-(iv A), iv B) else none)
       else if iv B > 1 ∧ gI (iv A) (iv B) = 1 then some (iv A, iv B) else none := by
  unfold lrd
  rw [hp]
  simp only [g, k, Bool.and_self, if_true]
theorem lrd_bad {x w : PySem.Str} (h : w ∈ Txt.split (bodyT x) "/") (g : goodL (tl w) = false) : lrd x = none := by
  unfold lrd
  generalize Txt.split (bodyT x) "/" = ws at h
  split
  · rename_i a
    have e : w = a := by simpa using h
    subst e
    rw [g]
    exact if_neg (by decide)
  · rename_i a b
    have e : w = a ∨ w = b := by simpa using h
    rcases e with rfl | rfl
    · rw [g, Bool.false_and]
      exact if_neg (by decide)
    · rw [g, Bool.and_false]
      exact if_neg (by decide)
  · rfl
theorem lrd_more {x : PySem.Str} (h : 2 < (Txt.split (bodyT x) "/").length) : lrd x = none := by
  unfold lrd
  generalize Txt.split (bodyT x) "/" = ws at h
  split
  · exact absurd h (by simp)
  · exact absurd h (by simp)
  · rfl
theorem good_int {x : PySem.Str} (h : goodL (tl x) = true) (hl : x.length ≤ 640) : intText? x = some (iv x) := by
  obtain ⟨a, b, _⟩ := good_dig h
  have := int_digits a b (by omega)
  unfold iv
  rw [this]
  rfl
def ndL (l : List Nat) : List PySem.Str := (l.filter fun c => !isDg c).map fun c => ⟨#[c]⟩
theorem ndL_emp (l : List Nat) : (ndL l = []) ↔ l.all isDg = true := by
  unfold ndL
  rw [List.map_eq_nil_iff, List.filter_eq_nil_iff, List.all_eq_true]
  simp
theorem one_ok {c : Nat} (h : c ≤ 126) : PyData.strOk ⟨#[c]⟩ = true := by
  show (#[c] : Array Nat).all (· < 0x110000) = true
  simp
  omega
theorem ndL_ok {l : List Nat} (h : ∀ c ∈ l, c ≤ 126) : (ndL l).all PyData.strOk = true := by
  refine List.all_eq_true.mpr fun y hy => ?_
  unfold ndL at hy
  obtain ⟨c, hc, rfl⟩ := List.mem_map.mp hy
  exact one_ok (h c (List.mem_filter.mp hc).1)
theorem dg_in (c : Nat) : (!decide (c ∈ ("0123456789" : PySem.Str).cps.toList)) = !isDg c := by
  have e : ("0123456789" : PySem.Str).cps.toList = [48, 49, 50, 51, 52, 53, 54, 55, 56, 57] := by decide +kernel
  rw [e]
  unfold isDg
  congr 1
  by_cases h : 48 ≤ c ∧ c ≤ 57
  · rw [decide_eq_true h.1, decide_eq_true h.2]
    refine decide_eq_true ?_
    simp
    omega
  · have : ¬ c ∈ [48, 49, 50, 51, 52, 53, 54, 55, 56, 57] := by
      simp
      omega
    rw [decide_eq_false this]
    by_cases k : 48 ≤ c
    · rw [decide_eq_true k, decide_eq_false (by omega)]; rfl
    · rw [decide_eq_false k]; rfl
theorem pcs_sub : ∀ (l a y : List Nat), y ∈ pcs a l → (∀ c ∈ y, c ∈ a ∨ c ∈ l) ∧ y.length ≤ a.length + l.length
  | [], a, y, h => by
    unfold pcs at h
    have e : y = a := by simpa using h
    subst e
    exact ⟨fun c hc => .inl hc, by simp⟩
  | c :: r, a, y, h => by
    unfold pcs at h
    by_cases hc : c = 47
    · rw [if_pos hc] at h
      rcases List.mem_cons.mp h with e | h
      · subst e
        exact ⟨fun d hd => .inl hd, by simp⟩
      · have z := pcs_sub r [] y h
        refine ⟨fun d hd => ?_, ?_⟩
        · rcases z.1 d hd with w | w
          · cases w
          · exact .inr (List.mem_cons_of_mem _ w)
        · have := z.2
          simp only [List.length_nil, List.length_cons] at this ⊢
          omega
    · rw [if_neg hc] at h
      have z := pcs_sub r (a ++ [c]) y h
      refine ⟨fun d hd => ?_, ?_⟩
      · rcases z.1 d hd with w | w
        · rcases List.mem_append.mp w with w | w
          · exact .inl w
          · exact .inr (List.mem_cons.mpr (.inl (by simpa using w)))
        · exact .inr (List.mem_cons_of_mem _ w)
      · have := z.2
        simp only [List.length_append, List.length_cons, List.length_nil] at this ⊢
        omega
theorem body_sub {x : PySem.Str} : (∀ c ∈ tl (bodyT x), c ∈ tl x) ∧ (bodyT x).length ≤ x.length := by
  unfold bodyT
  split
  · exact ⟨fun c hc => List.mem_of_mem_drop (List.mem_of_mem_take hc), cutS_length _ _ _⟩
  · exact ⟨fun c hc => hc, Nat.le_refl _⟩
theorem piece_sub {x w : PySem.Str} (h : w ∈ Txt.split (bodyT x) "/") : (∀ c ∈ tl w, c ∈ tl x) ∧ w.length ≤ x.length := by
  have m : tl w ∈ pcs [] (tl (bodyT x)) := by
    rw [← split_pcs]
    exact List.mem_map_of_mem h
  obtain ⟨z1, z2⟩ := pcs_sub _ _ _ m
  obtain ⟨b1, b2⟩ := body_sub (x := x)
  refine ⟨fun c hc => ?_, ?_⟩
  · rcases z1 c hc with w | w
    · cases w
    · exact b1 c w
  · rw [len_tl] at b2
    rw [len_tl w]
    simp only [List.length_nil] at z2
    omega
theorem good_mk {l : List Nat} (h1 : (l.isEmpty || !l.all isDg) = false) (h2 : ¬ (1 < l.length ∧ l.head? = some 48)) : goodL l = true := by
  obtain ⟨a, b⟩ := Bool.or_eq_false_iff.mp h1
  unfold goodL
  rw [a]
  have b' : l.all isDg = true := by simpa using b
  rw [b']
  by_cases hl : 1 < l.length
  · rw [decide_eq_true hl, decide_eq_false (fun z => h2 ⟨hl, z⟩)]
    rfl
  · rw [decide_eq_false (show ¬ l.length > 1 from hl)]
    rfl
theorem good_no {l : List Nat} (h : (l.isEmpty || !l.all isDg) = true) : goodL l = false := by
  unfold goodL
  rcases Bool.or_eq_true_iff.mp h with h | h
  · rw [h]; rfl
  · have b' : l.all isDg = false := by simpa using h
    rw [b', Bool.false_and, Bool.and_false]
theorem good_no0 {l : List Nat} (h : 1 < l.length) (k : l.head? = some 48) : goodL l = false := by
  unfold goodL
  rw [decide_eq_true h, decide_eq_true k]
  simp
theorem one_zero {c : Nat} : decide (V.str ⟨#[c]⟩ = V.str "0") = decide (c = 48) := by
  by_cases hc : c = 48
  · subst hc; rfl
  · rw [decide_eq_false hc, decide_eq_false (fun z => hc (by have z1 := congrArg (fun s : Str => TL.tl s) (V.str.inj z); have z2 : [c] = [48] := z1; injection z2))]
theorem ndL_snoc (l : List Nat) (c : Nat) : ndL (l ++ [c]) = ndL l ++ (if isDg c then [] else [⟨#[c]⟩]) := by
  unfold ndL
  rw [List.filter_append, List.map_append]
  congr 1
  by_cases h : isDg c = true
  · simp [h]
  · simp [h]
end SQ

/-! _law_is_number. -/
namespace T08
open PySem PySem.Spec PyProof.Rows L2 SF SQ SFT L2H LamX TL SK
def spLIsN : Sp := fun vs H Q _ => ∃ x : PySem.Str, vs = [.str x] ∧ PA x ∧ x.length ≤ 640 ∧ ∀ H', Same H H' → Q (.bl (isTx x)) H'
theorem gI_neg (a b : Int) : gI (-a) b = gI a b := by
  unfold gI
  rw [Int.natAbs_neg]
section
variable {P : Program} {w : World} {K : PySem.W.Frag} {mg : Str → Option Value} {base : Heap} {C : Addr}
theorem ok_LIsN (T : Tx K mg C) : FnOk P w K mg base CX0 2 T.aLIsN T.dLIsN ["_law_word_here"] spLIsN := by
  have GCom : FnOk P w K mg base CX0 1 T.aCom T.dCom ["_law_one", "_law_two"] spCommon := ok_common T.FCom T.blt
  refine T.FLIsN.ok scLIsN (fun vs H Q E h => ?_) (fun cdv A outer s H vs Q E hr h => ?_)
  · obtain ⟨x, rfl, _⟩ := h
    rfl
  · obtain ⟨x, rfl, px, hx, q⟩ := h
    have qn : lrd x = none → ∀ H', Same H H' → Q (.bl false) H' := fun e H' S => by
      rcases lrd_is hx with ⟨_, e2, _⟩ | ⟨e2, _⟩
      · rw [e] at e2; cases e2
      · have z := q H' S; rw [e2] at z; exact z
    have qs : ∀ u l, lrd x = some (u, l) → ∀ H', Same H H' → Q (.bl true) H' := fun u l e H' S => by
      rcases lrd_is hx with ⟨e2, _, _⟩ | ⟨_, e2⟩
      · have z := q H' S; rw [e2] at z; exact z
      · rw [e] at e2; cases e2
    have l6 : 640 + 2 ≤ sizeLine := by decide
    refine ⟨_, (pss_cons (ps_set (i := 1) scLIsN.nd rfl (.inl rfl) (pe_weak (t' := fun σ H Q => ∃ y : PySem.Str, σ[0]? = some (some (V.str y)) ∧ y.length ≤ 640 ∧ Q (.str (bodyT y)) H) (pe_ifExp (pt_cmpR op_eq (pe_slice sl_str (pv 0) po_none (po_some pe_int)) pe_str (nomark _)) (pe_slice sl_str (pv 0) (po_some pe_int) po_none) (pv 0))
        (fun σ H Q ⟨y, h0, ly, z⟩ => by
          refine ⟨_, h0, _, rfl, y, rfl, by omega, rfl, _, rfl, ?_⟩
          rw [sgn_is]
          unfold bodyT at z
          refine ite2 (fun hc => ?_) (fun hc => ?_)
          · rw [if_pos hc] at z
            exact ⟨_, h0, _, rfl, y, rfl, by omega, z⟩
          · rw [if_neg hc] at z
            exact ⟨_, h0, z⟩)))
      (pss_cons (ps_set (i := 2) scLIsN.nd rfl (.inl rfl) (pe_split (pv 1) pe_str))
      (pss_cons (ps_if (pt_cmpR op_gt (pe_callB call_len_seq (by rfl) T.len (by decide +kernel) (pa_cons (pv 2) pa_nil)) pe_int (nomark _)) (pss_one (ps_ret pe_bl)) pss_nil)
      (pss_cons (ps_for PassesOwn.never rfl (pi_list (pv 2)) (pg_name (i := 3) scLIsN.nd rfl (.inl rfl)) (pss_cons (ps_if (pt_weak (t' := fun σ H Q => ∃ y : PySem.Str, σ[3]? = some (some (V.str y)) ∧ PA y ∧ y.length ≤ 640 ∧ σ.length = 5 ∧ ∀ H', Same H H' → Q ((tl y).isEmpty || !(tl y).all isDg) H')
          (PW.pt (pw_or (pt_cmpR op_eq (pv 3) pe_str (nomark _)) (pw_or1 (pt_cmpR (op_neD hr.units) (pe_lc (own := [("_law_sign", 4)]) (g := gName 4) rfl scLIsN.nd (pi_str (pv 3)) (blkOk_by (N := ["_law_word_here", "_law_body", "_law_parts", "_law_bit", "_law_sign"]) (sc := defScope sLIsN) (by decide +kernel)) (fun _ _ _ _ _ => pg_name (i := 4) scLIsN.nd rfl (Or.inl rfl)) (fun _ _ _ _ _ => pts_one (pt_cmpR op_notIn_sign (pv 4) pe_str (by rfl))) (fun _ _ _ _ _ => pv 4)) (pe_lst pa_nil) (nomark _)))))
          (fun σ H Q ⟨y, h3, py, ly, h7, z⟩ => by
            refine ⟨_, h3, rfl, _, rfl, ?_⟩
            rw [str_emp]
            refine ite2 (fun hc => ?_) (fun hc => ?_)
            · have e : y = ("" : Str) := of_decide_eq_true hc
              subst e
              exact z H (Same.refl _)
            have hne : (tl y).isEmpty = false := by
              cases e : tl y with
              | nil => exact absurd (decide_eq_true (tl_ext (y := ("" : Str)) e)) hc
              | cons _ _ => rfl
            refine ⟨_, h3, y, rfl, fun D hD => ⟨fun i m H2 => m = y.cps.size - i ∧ i ≤ y.cps.size ∧ Same H H2 ∧ H2 D = some (.lst ((ndL ((tl y).take i)).map V.str)), ⟨_, rfl, Nat.zero_le _, same_new (Same.refl _) hD, upd_same⟩, ?_⟩⟩
            rintro i m H2 ⟨rfl, hi, S2, e2⟩
            have lty : (tl y).length = y.cps.size := (len_tl y).symm
            by_cases hlt : i < y.cps.size
            · refine .inr ⟨hlt, fun H' => Same H H' ∧ H' D = some (.lst ((ndL ((tl y).take (i + 1))).map V.str)), fun H' hh => ⟨_, ?_, rfl, hlt, hh⟩, ?_⟩
              · show y.cps.size - (i + 1) < y.cps.size - i
                omega
              rintro v H' ⟨rfl, c, hc, rfl⟩
              have ht : (tl y).take (i + 1) = (tl y).take i ++ [c] := by
                rw [List.take_add_one]
                have : (tl y)[i]? = some c := by
                  rw [← hc]
                  exact Array.getElem?_toList ..
                rw [this]
                rfl
              have hg : (((σ.set 4 none).set 4 (some (V.str ⟨#[c]⟩)) : L2.St))[4]? = some (some (V.str ⟨#[c]⟩)) := by
                simp [h7]
              refine ⟨by simp [wipe, List.set_set], _, hg, c, "0123456789", rfl, rfl, _, rfl, ?_⟩
              rw [dg_in]
              refine ite2 (fun hd => ?_) (fun hd => ?_)
              · have hd : isDg c = false := by simpa using hd
                refine ⟨_, hg, _, e2, ?_, ?_, ?_⟩
                · rw [List.length_map]
                  have : (ndL ((tl y).take i)).length ≤ y.cps.size := by
                    unfold ndL
                    rw [List.length_map]
                    exact Nat.le_trans (List.length_filter_le _ _) (by rw [List.length_take]; omega)
                  have ly' : y.cps.size ≤ 640 := ly
                  omega
                · intro b o e
                  rw [upd_ne (ne_of_none e hD)]
                  exact S2 _ _ e
                · rw [upd_same, ht, ndL_snoc, hd, List.map_append]
                  rfl
              · have hd : isDg c = true := by simpa using hd
                refine ⟨S2, ?_⟩
                rw [e2, ht, ndL_snoc, hd]
                simp
            · refine .inl ⟨Nat.le_of_not_lt hlt, (by show 0 ≤ sizeLine; decide), fun q nq => ?_⟩
              have hi' : i = (tl y).length := by omega
              rw [hi', List.take_length] at e2
              refine ⟨_, _, .lst (SqL.of (keep e2 nq)) (dp_strs (ndL (tl y))), .lst (SqL.of upd_same) (dp_strs []), shaped_strs (ndL_ok fun c hc => (py c hc).2), shaped_strs rfl, _, rfl, ?_⟩
              have zz := z (upd H2 q (.lst [])) (S2.trans (same_new (Same.refl _) nq))
              rw [hne, Bool.false_or] at zz
              have ee : (!PyData.eqvAll ((ndL (tl y)).map .str) (([] : List PySem.Str).map .str)) = !(tl y).all isDg := by
                rw [eqv_strs]
                congr 1
                by_cases ha : (tl y).all isDg = true
                · rw [ha]
                  exact decide_eq_true ((ndL_emp _).mpr ha)
                · rw [Bool.eq_false_iff.mpr ha]
                  exact decide_eq_false fun w => ha ((ndL_emp _).mp w)
              rw [← ee] at zz
              exact zz)) (pss_one (ps_ret pe_bl)) pss_nil)
      (pss_one (ps_if (PW.pt (pw_and (pt_cmpR op_gt (pe_callB call_len_str (by rfl) T.len (by decide +kernel) (pa_cons (pv 3) pa_nil)) pe_int (nomark _)) (pw_and1 (pt_cmpR op_eq (pe_ix ix_str (pv 3) pe_int (fun _ _ => rfl)) pe_str (nomark _))))) (pss_one (ps_ret pe_bl)) pss_nil))))
      (pss_cons (ps_if (PW.pt (pw_and (pt_cmpR op_eq (pe_slice sl_str (pv 0) po_none (po_some pe_int)) pe_str (nomark _)) (pw_and1 (pt_cmpR op_eq (pe_callTy call_int_str (by rfl) T.rc.int_ (by decide +kernel) (pa_cons (pe_ix ix_list (pv 2) pe_int (fun _ _ => rfl)) pa_nil)) pe_int (nomark _))))) (pss_one (ps_ret pe_bl)) pss_nil)
      (pss_one (ps_ret (pe_or (pe_cmpR op_eq (pe_callB call_len_seq (by rfl) T.len (by decide +kernel) (pa_cons (pv 2) pa_nil)) pe_int (nomark _)) (pe_one (pe_and (pe_cmpR op_gt (pe_callTy call_int_str (by rfl) T.rc.int_ (by decide +kernel) (pa_cons (pe_ix ix_list (pv 2) pe_int (fun _ _ => rfl)) pa_nil)) pe_int (nomark _))
        (pe_one (pe_cmpR op_eq (pe_call GCom hr (by rfl) T.gCom T.FCom.kp T.bCom .nil pass0 (pa_cons (pe_callTy call_int_str (by rfl) T.rc.int_ (by decide +kernel) (pa_cons (pe_ix ix_list (pv 2) pe_int (fun _ _ => rfl)) pa_nil)) (pa_cons (pe_callTy call_int_str (by rfl) T.rc.int_ (by decide +kernel) (pa_cons (pe_ix ix_list (pv 2) pe_int (fun _ _ => rfl)) pa_nil)) pa_nil))) pe_int (nomark _))))))))))))), ?_⟩
    refine ⟨x, rfl, hx, ?_⟩
    have hB := (body_sub (x := x)).2
    refine ⟨_, rfl, ⟨_, rfl⟩, bodyT x, "/", rfl, rfl, rfl, by omega, fun p np => ?_⟩
    generalize hE : upd H p _ = H1
    have hp1 := upd_got hE
    have S1 := upd_stay hE np
    have pcs_all := fun w (h : w ∈ Txt.split (bodyT x) "/") => piece_sub h
    have bad := fun w (h : w ∈ Txt.split (bodyT x) "/") (g : goodL (tl w) = false) => lrd_bad h g
    have more := lrd_more (x := x)
    have one := fun A => lrd_one (x := x) (A := A)
    have two := fun A B => lrd_two (x := x) (A := A) (B := B)
    have srt := sorts x
    have hs3 : ∀ ws, Txt.split (bodyT x) "/" = ws → ¬ 2 < ws.length → (∃ A, ws = [A]) ∨ ∃ A B, ws = [A, B] := fun ws e n => by
      cases srt with
      | one s a A hs h hA l hp p => exact .inl ⟨A, e ▸ hp⟩
      | two s a A T C hs h hA l hp p e' => exact .inr ⟨A, C, e ▸ hp⟩
      | more A B C L T U hp p h => rw [← e, hp] at n; exact absurd (by simp) n
    generalize hws : Txt.split (bodyT x) "/" = ws at hp1 pcs_all bad more one two
    have hs3 := hs3 ws hws
    refine ⟨_, rfl, p, _, rfl, .inl (SqL.of hp1), _, _, rfl, rfl, _, rfl, ?_⟩
    refine ite2 (fun hc => ?_) (fun hc => ?_)
    · have hc : (2 : Int) < ((ws.map V.str).length : Int) := of_decide_eq_true hc
      rw [List.length_map] at hc
      exact qn (more (by omega)) H1 S1
    have hc : ¬ 2 < ws.length := fun z => hc (decide_eq_true (by rw [List.length_map]; omega))
    refine ⟨_, rfl, p, rfl, ⟨_, SqL.of hp1⟩, for_list (K := K) (a := p) (xs := ws.map V.str) (fun i σ H' => Same H1 H' ∧ (∀ w ∈ ws.take i, goodL (tl w) = true) ∧ ∃ w3 w4, σ = [some (.str x), some (.str (bodyT x)), some (.ref p), w3, w4]) ⟨Same.refl _, (fun w hw => by cases hw), none, none, rfl⟩ (fun i σ H' _ ⟨S, _⟩ => SqL.of (S _ _ hp1)) ?_ ?_⟩
    · rintro i v σ H' hi ⟨S, ga, w3, w4, rfl⟩
      obtain ⟨w, hw, rfl⟩ : ∃ w, ws[i]? = some w ∧ v = V.str w := by
        rw [List.getElem?_map] at hi
        cases e : ws[i]? with
        | none => rw [e] at hi; cases hi
        | some w => rw [e] at hi; exact ⟨w, rfl, (Option.some.inj hi).symm⟩
      have mw : w ∈ ws := List.mem_of_getElem? hw
      obtain ⟨p1, p2⟩ := pcs_all w mw
      have ga' : goodL (tl w) = true → ∀ u ∈ ws.take (i + 1), goodL (tl u) = true := fun g u hu => by
        rw [List.take_add_one, hw] at hu
        rcases List.mem_append.mp hu with h | h
        · exact ga u h
        · have e : u = w := by simpa using h
          rw [e]
          exact g
      refine ⟨w, rfl, (fun c hc => px c (p1 c hc)), by omega, rfl, fun H2 S2 => ?_⟩
      have SS := S1.trans (S.trans S2)
      refine ite2 (fun h1 => ?_) (fun h1 => ?_)
      · exact qn (bad w mw (good_no h1)) H2 SS
      have h1 := Bool.eq_false_iff.mpr h1
      refine ⟨_, rfl, w, rfl, by omega, _, _, rfl, rfl, _, rfl, ?_⟩
      have lw := len_tl w
      refine ite2 (fun h2 => ?_) (fun h2 => ?_)
      · have h2 : (1 : Int) < (w.length : Int) := of_decide_eq_true h2
        obtain ⟨c, r, e⟩ : ∃ c r, tl w = c :: r := by
          cases e : tl w with
          | nil => rw [e] at lw; simp at lw; omega
          | cons c r => exact ⟨c, r, rfl⟩
        refine ⟨_, rfl, w, 0, c, rfl, rfl, by omega, (by rw [show w.cps.toList = c :: r from e]; show atI (c :: r) ((0 : Nat) : Int) = some c; exact atI_nat rfl), rfl, _, rfl, ?_⟩
        rw [one_zero]
        refine ite2 (fun h3 => ?_) (fun h3 => ?_)
        · have h3 : c = 48 := of_decide_eq_true h3
          exact qn (bad w mw (good_no0 (by omega) (by rw [e, h3]; rfl))) H2 SS
        · refine ⟨S.trans S2, ga' (good_mk h1 fun ⟨_, z⟩ => h3 (decide_eq_true ?_)), _, _, rfl⟩
          rw [e] at z
          injection z
      · refine ⟨S.trans S2, ga' (good_mk h1 fun ⟨z, _⟩ => h2 (decide_eq_true ?_)), _, _, rfl⟩
        omega
    · rintro σ H' ⟨S, ga, w3, w4, rfl⟩
      rw [List.length_map, List.take_length] at ga
      have hpH := S _ _ hp1
      have SS := S1.trans S
      have two' : 2 ≤ sizeLine := by decide
      have rd0 : ∀ A B, (ws = [A] ∨ ws = [A, B]) → goodL (tl A) = true ∧ A.length ≤ 640 := fun A B e => by
        have m : A ∈ ws := by rcases e with e | e <;> rw [e] <;> exact List.mem_cons_self
        exact ⟨ga A m, Nat.le_trans (pcs_all A m).2 hx⟩
      rcases hs3 hc with ⟨A, rfl⟩ | ⟨A, B, rfl⟩
      · obtain ⟨gA, lA⟩ := rd0 A A (.inl rfl)
        have L := one A rfl gA
        have fin : (sgnB x = true → ¬ iv A = 0) → ∀ H2, Same H H2 → Q (.bl true) H2 := fun hh H2 S2 => by
          by_cases hs : sgnB x = true
          · rw [if_pos hs, if_neg (hh hs)] at L
            exact qs _ _ L H2 S2
          · rw [if_neg hs] at L
            exact qs _ _ L H2 S2
        refine ⟨_, rfl, _, rfl, x, rfl, by omega, rfl, _, rfl, ?_⟩
        rw [sgn_is]
        refine ite2 (fun hs => ?_) (fun hs => ?_)
        · refine ⟨_, rfl, p, _, 0, _, rfl, rfl, SqL.of hpH, (by rfl), A, iv A, rfl, good_int gA lA, lA, rfl, _, rfl, ?_⟩
          refine ite2 (fun hz => ?_) (fun hz => ?_)
          · have hz : iv A = 0 := V.int.inj (of_decide_eq_true hz)
            rw [if_pos hs, if_pos hz] at L
            exact qn L _ SS
          · refine ⟨_, rfl, p, _, rfl, .inl (SqL.of hpH), rfl, _, rfl, ?_⟩
            exact iteT (fin (fun _ z => hz (decide_eq_true (by rw [z]))) _ SS)
        · refine ⟨_, rfl, p, _, rfl, .inl (SqL.of hpH), rfl, _, rfl, ?_⟩
          exact iteT (fin (fun z => absurd z hs) _ SS)
      · obtain ⟨gA, lA⟩ := rd0 A B (.inr rfl)
        have gB := ga B (by simp)
        have lB : B.length ≤ 640 := Nat.le_trans (pcs_all B (by simp)).2 hx
        have L := two A B rfl gA gB
        rw [gI_neg] at L
        have fin : (sgnB x = true → ¬ iv A = 0) → (iv B > 1 ∧ gI (iv A) (iv B) = 1 → Q (.bl true) H') ∧ (¬ (iv B > 1 ∧ gI (iv A) (iv B) = 1) → Q (.bl false) H') := fun hh => by
          by_cases hs : sgnB x = true
          · rw [if_pos hs, if_neg (hh hs)] at L
            exact ⟨fun z => qs _ _ (L.trans (if_pos z)) H' SS, fun z => qn (L.trans (if_neg z)) H' SS⟩
          · rw [if_neg hs] at L
            exact ⟨fun z => qs _ _ (L.trans (if_pos z)) H' SS, fun z => qn (L.trans (if_neg z)) H' SS⟩
        have last : (sgnB x = true → ¬ iv A = 0) → (iv B > 1 ∧ gI (iv A) (iv B) = 1 → Q (.bl true) H') ∧ (¬ (iv B > 1 ∧ gI (iv A) (iv B) = 1) → Q (.bl false) H') := fin
        clear fin
        have go : (sgnB x = true → ¬ iv A = 0) → ∀ b, b = decide (1 < iv B) → (b = true → Q (.bl (decide (V.int (gI (iv A) (iv B)) = V.int 1))) H') ∧ (b = false → Q (.bl false) H') := fun hh b eb => by
          obtain ⟨f1, f2⟩ := last hh
          refine ⟨fun z => ?_, fun z => ?_⟩
          · rw [z] at eb
            have g1 : iv B > 1 := of_decide_eq_true eb.symm
            by_cases g2 : gI (iv A) (iv B) = 1
            · rw [g2, decide_eq_true rfl]
              exact f1 ⟨g1, g2⟩
            · rw [decide_eq_false (fun z => g2 (V.int.inj z))]
              exact f2 fun y => g2 y.2
          · rw [z] at eb
            exact f2 fun y => (of_decide_eq_false eb.symm) y.1
        refine ⟨_, rfl, _, rfl, x, rfl, by omega, rfl, _, rfl, ?_⟩
        rw [sgn_is]
        refine ite2 (fun hs => ?_) (fun hs => ?_)
        · refine ⟨_, rfl, p, _, 0, _, rfl, rfl, SqL.of hpH, (by rfl), A, iv A, rfl, good_int gA lA, lA, rfl, _, rfl, ?_⟩
          refine ite2 (fun hz => ?_) (fun hz => ?_)
          · have hz : iv A = 0 := V.int.inj (of_decide_eq_true hz)
            rw [if_pos hs, if_pos hz] at L
            exact qn L _ SS
          · obtain ⟨g1, g2⟩ := go (fun _ z => hz (decide_eq_true (by rw [z]))) _ rfl
            refine ⟨_, rfl, p, _, rfl, .inl (SqL.of hpH), rfl, _, rfl, ?_⟩
            refine iteF ⟨_, rfl, p, _, 1, _, rfl, rfl, SqL.of hpH, (by rfl), B, iv B, rfl, good_int gB lB, lB, _, _, rfl, rfl, _, rfl, ?_⟩
            refine ite2 (fun h1 => ?_) (fun h1 => g2 (Bool.eq_false_iff.mpr h1))
            exact ⟨_, rfl, p, _, 0, _, rfl, rfl, SqL.of hpH, (by rfl), A, iv A, rfl, good_int gA lA, lA, _, rfl, p, _, 1, _, rfl, rfl, SqL.of hpH, (by rfl), B, iv B, rfl, good_int gB lB, lB, _, _, rfl, rfl, g1 h1⟩
        · obtain ⟨g1, g2⟩ := go (fun z => absurd z hs) _ rfl
          refine ⟨_, rfl, p, _, rfl, .inl (SqL.of hpH), rfl, _, rfl, ?_⟩
          refine iteF ⟨_, rfl, p, _, 1, _, rfl, rfl, SqL.of hpH, (by rfl), B, iv B, rfl, good_int gB lB, lB, _, _, rfl, rfl, _, rfl, ?_⟩
          refine ite2 (fun h1 => ?_) (fun h1 => g2 (Bool.eq_false_iff.mpr h1))
          exact ⟨_, rfl, p, _, 0, _, rfl, rfl, SqL.of hpH, (by rfl), A, iv A, rfl, good_int gA lA, lA, _, rfl, p, _, 1, _, rfl, rfl, SqL.of hpH, (by rfl), B, iv B, rfl, good_int gB lB, lB, _, _, rfl, rfl, g1 h1⟩
end
end T08

/-! [x for x in l if test]: a list's things for which the test holds. -/
namespace SK
open PySem PySem.Spec PyProof.Rows L2 SF SQ
section
variable {K : PySem.W.Frag} {a D : Addr} {xs : List V} {σ : L2.St} {j : Nat} {H1 : Hp} {tt : TT} {f : V → Bool} {Qd : Hp → Prop}
theorem filter_take (xs : List V) (f : V → Bool) {i : Nat} {x : V} (h : xs[i]? = some x) : (xs.take (i + 1)).filter f = (xs.take i).filter f ++ (if f x = true then [x] else []) := by
  rw [List.take_add_one, h, List.filter_append]
  congr 1
  cases e : f x <;> simp [e]
theorem filter_len (xs : List V) (f : V → Bool) (i : Nat) : ((xs.take i).filter f).length ≤ i := by
  refine Nat.le_trans (List.length_filter_le _ _) ?_
  rw [List.length_take]
  omega
theorem lcF_list (hj : j < σ.length) (hl : SqL K H1 a xs) (hz : xs.length ≤ sizeLine) (hD : H1 D = none)
    (test : ∀ (i : Nat) (x : V) (H : Hp) (R : Bool → Hp → Prop), xs[i]? = some x → Same H1 H → (∀ H', Same H H' → R (f x) H') → tt ((wipe σ [j]).set j (some x)) H R) (fin : ∀ H, Same H1 H → H D = some (.lst (xs.filter f)) → Qd H) :
    ∃ W : Nat → Nat → Hp → Prop, (∃ m, W 0 m (upd H1 D (.lst []))) ∧ ∀ i m H, W i m H →
      ((Itl K a).stop i H ∧ Qd H) ∨ ((Itl K a).go i H ∧ ∃ Nx : Hp → Prop, (∀ H', Nx H' → ∃ m', m' < m ∧ W (i + 1) m' H') ∧ ∀ x H', (Itl K a).yld i H x H' → gName j x (wipe σ [j]) H' fun σ2 H2 => wipe σ2 [j] = wipe σ [j] ∧ tt σ2 H2 fun b H3 =>
        if b = true then tVar j σ2 H3 fun y H4 => ∃ acc, H4 D = some (.lst acc) ∧ acc.length < sizeLine ∧ Nx (upd H4 D (.lst (acc ++ [y]))) else Nx H3) :=
  lc_list (fun i H => Same H1 H ∧ H D = some (.lst ((xs.take i).filter f))) ⟨same_new (Same.refl _) hD, upd_same⟩ (fun i H _ m => hl.ext m.1)
    (fun i x H hx m => ⟨wipe1 _ _ _, test i x H _ hx m.1 fun H' S => by
      obtain ⟨m1, m2⟩ := m
      have e := filter_take xs f hx
      have n := filter_len xs f i
      have li := (List.getElem?_eq_some_iff.mp hx).1
      refine ite2 (fun c => ?_) (fun c => ?_)
      · rw [if_pos c] at e
        refine ⟨x, ?_, _, S _ _ m2, by omega, fun b o z => ?_, by rw [upd_same, e]⟩
        · show ((wipe σ [j]).set j (some x))[j]? = some (some x)
          rw [List.getElem?_set_self (by rw [wipe_length]; exact hj)]
        · rw [upd_ne (ne_of_none z hD)]
          exact S _ _ (m1 _ _ z)
      · rw [if_neg c, List.append_nil] at e
        exact ⟨fun b o z => S _ _ (m1 _ _ z), by rw [e]; exact S _ _ m2⟩⟩)
    (fun H m => fin H m.1 (by have z := m.2; rw [List.take_length] at z; exact z))
end
end SK

/-! _law_read: whether a line is a series' text. -/
namespace T08
open PySem PySem.Spec PyProof.Rows L2 SF SQ SFT L2H LamX TL SK
/-- the line is a series' text -/
def readB (x : PySem.Str) : Bool := decide (x = ("" : PySem.Str)) || (Txt.split x " ").all goodW
def spLRB : Sp := fun vs H Q _ => ∃ x : PySem.Str, vs = [.str x] ∧ PA x ∧ x.length ≤ 640 ∧ ∀ H', Same H H' → Q (.bl (readB x)) H'
/-- not the gap's sign; no number -/
def f1 (v : V) : Bool := match v with
  | .str y => !decide (y = ("_" : PySem.Str))
  | _ => false
def f2 (v : V) : Bool := match v with
  | .str y => !isTx y
  | _ => false
theorem f12 (ws : List PySem.Str) : (((ws.map V.str).filter f1).filter f2) = ((ws.filter fun y => !goodW y).map V.str) := by
  induction ws with
  | nil => rfl
  | cons y r ih =>
    have e : (f1 (.str y) && f2 (.str y)) = !goodW y := by
      unfold goodW
      show (!decide (y = ("_" : PySem.Str)) && !isTx y) = _
      rw [Bool.not_or]
    rw [List.map_cons, List.filter_cons, List.filter_cons]
    cases h1 : f1 (.str y) with
    | false =>
      rw [h1, Bool.false_and] at e
      rw [if_neg (by decide), ih, ← e, if_neg (by decide)]
    | true =>
      rw [h1, Bool.true_and] at e
      rw [if_pos rfl, List.filter_cons, ih, ← e]
      cases f2 (.str y) <;> rfl
section
variable {P : Program} {w : World} {K : PySem.W.Frag} {mg : Str → Option Value} {base : Heap} {C : Addr}
theorem ok_LRB (T : Tx K mg C) : FnOk P w K mg base CX0 3 T.aLRead T.dLRead ["_law_line"] spLRB := by
  have GN : FnOk P w K mg base CX0 2 T.aLIsN T.dLIsN ["_law_word_here"] spLIsN := ok_LIsN T
  refine T.FLRead.ok scLRead (fun vs H Q E h => ?_) (fun cdv A outer s H vs Q E hr h => ?_)
  · obtain ⟨x, rfl, _⟩ := h
    rfl
  · obtain ⟨x, rfl, px, hx, q⟩ := h
    have l6 : 1000 ≤ sizeLine := by decide
    refine ⟨_, (pss_cons (ps_if (pt_cmpR op_eq (pv 0) pe_str (nomark _)) (pss_one (ps_ret pe_bl)) pss_nil)
      (pss_cons (ps_setLc (i := 1) (own := [("_law_word_here", 2)]) (g := gName 2) rfl scLRead.nd rfl rfl (sw_true rfl rfl rfl (by decide +kernel)) (pi_list (pe_split (pv 0) pe_str)) (blkOk_by (N := ["_law_line", "_law_words", "_law_word_here"]) (sc := defScope sLRead) (by decide +kernel)) (fun _ _ _ _ _ => pg_name (i := 2) scLRead.nd rfl (Or.inl rfl)) (fun _ _ _ _ _ => pts_one (pt_cmpR op_ne (pv 2) pe_str (nomark _))) (fun _ _ _ _ _ => pv 2))
      (pss_one (ps_ret (pe_cmpR (op_eqD hr.units) (pe_lc (own := [("_law_word_here", 2)]) (g := gName 2) rfl scLRead.nd (pi_list (pv 1)) (blkOk_by (N := ["_law_line", "_law_words", "_law_word_here"]) (sc := defScope sLRead) (by decide +kernel)) (fun _ _ _ _ _ => pg_name (i := 2) scLRead.nd rfl (Or.inl rfl)) (fun _ _ _ _ _ => pts_one (pt_not (pt_val (pe_call GN hr (by rfl) T.gLIsN T.FLIsN.kp T.bLIsN .nil pass0 (pa_cons (pv 2) pa_nil))))) (fun _ _ _ _ _ => pv 2)) (pe_lst pa_nil) (nomark _)))))), ?_⟩
    refine ⟨_, rfl, rfl, _, rfl, ?_⟩
    rw [str_emp]
    refine ite2 (fun hc => ?_) (fun hc => ?_)
    · have z := q H (Same.refl _)
      unfold readB at z
      rw [hc, Bool.true_or] at z
      exact z
    have z : ∀ H', Same H H' → Q (.bl ((Txt.split x " ").all goodW)) H' := fun H' S => by
      have z := q H' S
      unfold readB at z
      rw [Bool.eq_false_iff.mpr hc, Bool.false_or] at z
      exact z
    have wl := words_len x
    have wsb := fun (y : PySem.Str) (h : y ∈ Txt.split x " ") => word_sub h
    refine ⟨_, rfl, ⟨_, rfl⟩, x, " ", rfl, rfl, rfl, by omega, fun p hp => ?_⟩
    generalize Txt.split x " " = ws at z wl wsb
    generalize hE : upd H p _ = H1
    have gp := upd_got hE
    have sp := upd_stay hE hp
    refine ⟨p, rfl, ⟨_, SqL.of gp⟩, fun D hD => lcF_list (f := f1) (by show 2 < 3; decide) (SqL.of gp) (by rw [List.length_map]; omega) hD (fun i v H2 R hx2 S2 k => ?_) fun H2 S2 e2 => ?_⟩
    · rw [List.getElem?_map] at hx2
      obtain ⟨y, hy, rfl⟩ := Option.map_eq_some_iff.mp hx2
      refine ⟨_, rfl, rfl, _, rfl, ?_⟩
      have z2 := k H2 (Same.refl _)
      have e : f1 (V.str y) = !decide (V.str y = V.str "_") := by
        show (!decide (y = ("_" : PySem.Str))) = _
        rw [str_dec]
      rw [e] at z2
      exact z2
    · have l2 : ((ws.map V.str).filter f1).length ≤ ws.length := by
        refine Nat.le_trans (List.length_filter_le _ _) ?_
        rw [List.length_map]; omega
      refine ⟨_, rfl, D, rfl, ⟨_, SqL.of e2⟩, fun D2 hD2 => lcF_list (f := f2) (by show 2 < 3; decide) (SqL.of e2) (by omega) hD2 (fun i v H3 R hx2 S3 k => ?_) fun H3 S3 e3 => ?_⟩
      · have hm := (List.mem_filter.mp (List.mem_of_getElem? hx2)).1
        obtain ⟨y, hy, rfl⟩ := List.mem_map.mp hm
        obtain ⟨s1, s2⟩ := wsb y hy
        refine ⟨_, rfl, y, rfl, (fun c hc => px c (s1 c hc)), by omega, fun H4 S4 => ⟨_, rfl, ?_⟩⟩
        exact k H4 S4
      · rw [f12] at e3
        refine ⟨(by show 0 ≤ sizeLine; omega), fun q2 nq => ?_⟩
        have ok : (ws.filter fun y => !goodW y).all PyData.strOk = true := by
          rw [List.all_eq_true]
          intro y hy
          obtain ⟨s1, _⟩ := wsb y (List.mem_filter.mp hy).1
          unfold PyData.strOk
          rw [Array.all_eq_true_iff_forall_mem]
          intro c hc
          have := px c (s1 c (Array.mem_toList_iff.mpr hc))
          simp
          omega
        refine ⟨_, _, .lst (SqL.of (keep e3 nq)) (dp_strs _), .lst (SqL.of upd_same) (dp_strs []), shaped_strs ok, shaped_strs rfl, ?_⟩
        have zz := z (upd H3 q2 (.lst [])) (((sp.trans S2).trans S3).trans (same_new (Same.refl _) nq))
        have ee : PyData.eqvAll ((ws.filter fun y => !goodW y).map .str) (([] : List PySem.Str).map .str) = ws.all goodW := by
          rw [eqv_strs]
          by_cases h : ws.all goodW = true
          · rw [h]
            refine decide_eq_true (List.filter_eq_nil_iff.mpr fun y hy => ?_)
            have := List.all_eq_true.mp h y hy
            simp [this]
          · rw [Bool.eq_false_iff.mpr h]
            refine decide_eq_false fun e => h (List.all_eq_true.mpr fun y hy => ?_)
            have := List.filter_eq_nil_iff.mp e y hy
            simpa using this
        rw [← ee] at zz
        exact zz
end
end T08

/-! Keywords of class methods, texts of one-thing tuples, tables beside lists. -/
namespace SQ
open PySem PySem.Spec PyProof.Rows L2 SF SFT LamX
theorem kbnF {K : PySem.W.Frag} {x qual : Str} {st : Stmt} {f : Addr} {fd : FuncData} {ps : List Str} (F : Fun K x qual st f fd) (n : Nat) (ks : List Str) (g : List Value → List Value → List Value) (gV : List V → List V → List V)
    (rel : ∀ {vs : List V} {us : List Value} {zs : List V} {ws : List Value}, Vals vs us → Vals zs ws → Vals (gV vs zs) (g us ws))
    (h : ∀ (doc pm : Value) (an : Option Addr) (kV cdv ct : Value) (us ws : List Value), us.length = n → ws.length = ks.length → bindArgs (PySem.W.fnOf x qual (defArgs st) (defBody st) (defScope st) .none kV doc pm an cdv ct) ⟨us, ks.zip ws⟩ = pure (ps.zip (g us ws))) : KBn K fd ps n ks g gV := by
  obtain ⟨oc, od, kV, doc, pm, an, cdv, ct, osl, rfl, lk, hcd⟩ := F.ex
  exact ⟨fun s us ws _ h1 h2 => .of_eq (h doc pm an kV cdv ct us ws h1 h2), fun a b => rel a b⟩
theorem shown1 (x : PySem.Str) : (PyData.tuple [.str x]).shown = tupleText [reprText x] := by rfl
theorem shown_ok {x : PySem.Str} (h : PA x) : PyData.strOk (PyData.tuple [.str x]).shown = true := by
  rw [shown1]
  unfold tupleText
  exact ok_app (ok_app (by decide +kernel) (by
    show PyData.strOk (Str.join ", " [reprText x]) = true
    exact repr_ok h)) (by show PyData.strOk (",)" : PySem.Str) = true; decide +kernel)
theorem okTold : PyData.strOk "told" = true := by decide +kernel
theorem okC1 : PyData.strOk (cnm 1) = true := by decide +kernel
theorem c1_is : cnm 1 = "InvalidText" := by decide +kernel
theorem okIT : PyData.strOk "InvalidText" = true := by decide +kernel
theorem okX {x : PySem.Str} (h : PA x) (hl : x.length ≤ 640) : (PyData.tuple [.str x]).showable = true ∧ (PyData.tuple [.str x]).depth ≤ 8 ∧ (PyData.tuple [.str x]).shown.length ≤ sizeLine := by
  refine ⟨?_, (by show 1 ≤ 8; decide), ?_⟩
  · rfl
  · rw [shown1, tt1_len]
    have := repr_len2 h
    have : 7000 ≤ sizeLine := by decide
    omega
theorem txtX {C : Addr} {H : Hp} {x : PySem.Str} (h : PA x) (hl : x.length ≤ 640) : TxtV C H (.str x) (PyData.tuple [.str x]).shown := .inl ⟨.str x, .str x, (okX h hl).1, (okX h hl).2.1, (okX h hl).2.2, rfl⟩
def gK2 {α : Type} : List α → List α → List α := fun us ws => us ++ ws
theorem rel_gK2 {vs : List V} {us : List Value} {zs : List V} {ws : List Value} (a : Vals vs us) (b : Vals zs ws) : Vals (gK2 vs zs) (gK2 us ws) := by
  unfold gK2
  induction a with
  | nil => exact b
  | cons h t ih => exact .cons h ih
theorem tabs_lst {T : List (Addr × Str)} {H : Hp} {p : Addr} {xs ys : List V} (t : Tabs T H) (e : H p = some (.lst xs)) : Tabs T (upd H p (.lst ys)) := fun r hr => by
  obtain ⟨ps, h1, h2, h3⟩ := t r hr
  have n : r.1 ≠ p := fun z => by
    rw [z, e] at h1
    cases h1
  refine ⟨ps, by rw [upd_ne n]; exact h1, h2, fun pos cv hc => ?_⟩
  obtain ⟨c, e1, e2⟩ := h3 pos cv hc
  have m : c ≠ p := fun z => by
    rw [z, e] at e2
    have w := Option.some.inj e2
    unfold CodeO at w
    cases w
  exact ⟨c, e1, by rw [upd_ne m]; exact e2⟩
end SQ

/-! _law_text_right: what is caught of reading a line. -/
namespace SK
open PySem PySem.Spec PyProof.Rows L2 SF SQ SFT LamX
def rReprT : List V → Hp → VK → Prop := fun xs H Q => ∃ y : PySem.Str, xs = [V.str y] ∧ (reprText y).length ≤ sizeLine ∧ Q (.str (reprText y)) H
theorem call_reprT {X : Cx} : CallR X (.builtin "repr") rReprT := by
  intro pins s σ H xs us Q I r h
  obtain ⟨y, rfl, hz, q⟩ := h
  obtain ⟨u, rfl, ru⟩ := r.one
  obtain ⟨t, rfl⟩ := (show ∃ t, u = Value.str y t from ru)
  exact PySem.P.repr_of_str ⟨.str _, H, I.tok _, ⟨_, rfl⟩, q⟩ hz
theorem mono_reprT : Mono rReprT := fun xs H Q Q' h ⟨y, e, n, q⟩ => ⟨y, e, n, h _ _ q⟩
section
variable {X : Cx} {C : Addr} {T : List (Addr × Str)} {G : L2.St → Hp → Prop} {cs : Nat → Addr} {e : Expr} {y : PySem.Str} {s : Prop}
theorem pc_toldT {RP : List V → Hp → VK → Prop} (h : PE X e (tLam T (TTc cs rReprT RP) (fun _ => TS G y s))) (hG : SQ.GN G) (hy : (reprText y).length ≤ sizeLine) : PE X e (TC T G "told" (reprText y) s) :=
  pe_weak h fun σ H Q ⟨hg, hT, h1, z⟩ => ⟨hT, fun H1 S1 T1 Q0 hQ0 => ⟨hG _ _ _ hg S1, h1, fun H2 S2 => hQ0 _ H2
    ⟨y, rfl, hy, _, rfl, fun L H3 S3 nL eL => z L H3 (S1.trans (ExtN.of fun b o z => S3 b o (S2 b o z))) (T1.ext fun b o z => S3 b o (S2 b o z)) eL⟩⟩⟩
end
/-- e lets the error of the class at D out, which holds v -/
def TErr (E : XK) (D : Addr) (G : L2.St → Hp → Prop) (v : V) (s : Prop) : TE := fun σ H _ => G σ H ∧ s ∧ ∀ H', Same H H' → ErrG E D v H'
end SK
namespace T08
open PySem PySem.Spec PyProof.Rows L2 SF SQ SFT L2H LamX TL SK
/-- e is a new series of these entries -/
def TSer (C S : Addr) (G : L2.St → Hp → Prop) (rs : List Ent) (s : Prop) : TE := fun σ H Q => G σ H ∧ s ∧ ∀ p H', Same H H' → SerAt C S PN H' p rs → Q (.ref p) H'
section
variable {X : Cx} {C : Addr} {cs bs : Nat → Addr} {T : List (Addr × Str)} {c P : Addr} {k : Nat} {params : Arguments} {body : Expr} {scope : Scope} {t : XK → TE} {p lpos pos : Pos}
theorem lam_caughtT (T0 : Tx X.K X.mg C) (Z : CErr X.K X.mg cs bs) (hgd : X.A.guards = some []) (hr : Room (k + 4) X.A) (hg : Gl X "_law_caught") (TB : TabB X.base X.mg c P) (hcode : X.env.code = .ref c) (hmT : (P, X.env.qual ++ "<lambda>") ∈ T) (hu : ∀ p ∈ T, p.1 = P → p.2 = X.env.qual ++ "<lambda>")
    (L : LamS X.env.scope scope) (hbody : ∀ (A : Around) (outer : List PySem.Env) (s : Shared) (H : Hp) (E : XK) (f c' : Addr), Room (k + 2) (A.deeper (lamEnv X scope s.heap.objs.size f c')) → PE (lamCx X A outer s H E scope f c') body (t E))
    (hdef : defaultsOf params X.env = ([], []) := by rfl) (hbind : ∀ (q : Str) (cl : List (Str × Addr)) (pm cv ctv : Value), bindArgs (PySem.W.kla_fn "<lambda>" q params body scope cl pm cv ctv) ⟨[], []⟩ = pure [] := by intros; rfl) :
    PE X (.Call (.Name "_law_caught" p) [.Lambda params body scope lpos] [] pos) (tLam T (TTc cs rReprT (rTh C)) t) := by
  obtain ⟨oc, od, kV, doc, pm, an, cdv, ct, osl, ed, lk, hcd⟩ := T0.FCaught.ex
  have hb := T0.bCaught
  rw [ed] at lk hb
  refine pe_lamcall (k := k + 2) hg T0.gCaught T0.FCaught.kp lk hcd hb scCaught rfl (.inl rfl) ?_ TB hcode hmT hu hr L hdef hbind hbody
  refine caught_gives Z hgd (hr.mono (by omega)) T0.FWord T0.bWord T0.gWord T0.FFields T0.bFields T0.gFields mono_reprT mono_rTh (fun s H => ?_) (fun s H a oe pn => ?_)
  · exact call_reprT
  · have hr3 : Room 3 (X.A.deeper (envOfC "_law_caught" (defScope sCaught) s.heap.objs.size T0.aCaught cdv)) := (hr.mono (show 4 ≤ k + 4 by omega)).deeper _
    refine callR_or (call_reprH (k := 3) hgd ⟨hr3.dp, hr3.un⟩) ?_
    exact call_reprTup (k := 1) hgd ⟨hr3.dp, hr3.un⟩ T0.hRepr.h T0.hRepr.i (runAny_ofQ (ok_ReprQ T0) List.mem_cons_self T0.bRepr)
end
section
variable {X : Cx} {C D fI : Addr} {fdI : FuncData} {G : L2.St → Hp → Prop} {E : XK} {o a : Expr} {s : Prop} {pos apos kpos cpos npos : Pos} {x t : PySem.Str} {mc : Value} {p : Addr} {pl : Sem Bool} {rs : List Ent} {v : V} {S : Addr}
theorem kSR {K : PySem.W.Frag} {mg : Str → Option Value} (T : Tx K mg C) : KBn K T.dSR ["cls", "text"] 1 ["text"] gK2 gK2 := kbnF T.FSR 1 ["text"] gK2 gK2 rel_gK2 fun _ _ _ _ _ _ us ws h1 h2 => match us, ws, h1, h2 with | [_], [_], _, _ => rfl
/-- C.read(e), e a series' text -/
theorem pe_rdS (T : Tx X.K X.mg C) (eS : T.S = S) (hr : Room 7 X.A) (ho : PE X o (tC (.ref T.S))) (ha : PE X a (TS G x s)) (hx : x = line rs) (sz : SzE PN rs) (hl : rs.length ≤ 400)
    (hst : starEach (a :: []) X.env = (false, eval a X.env) :: starEach [] X.env := by rfl) (hpl : (backTo pos (starEach [] X.env)).any (·.1) = false := by rfl)
    (hev : eval (.Call (.Attribute o "read" apos) (a :: []) [] pos) X.env = (do let ov ← eval o X.env; standAt apos.atName; let (f, first) ← holding [ov] (getMethod ov "read" pl); callWith pos f first (backTo pos (starEach (a :: []) X.env)) (backToKw pos (keywordEach [] X.env))) := by rfl) :
    PE X (.Call (.Attribute o "read" apos) [a] [] pos) (TSer C S G rs s) := by
  subst eS
  exact pe_weak (ClX.pe_cmeth (E := E0) ho T.rSR T.cSR ((ok_SR T).raw T.bSR .nil) hr pass0 (pa_cons ha pa_nil hst) hst hpl hev) fun σ H Q ⟨hg, h1, z⟩ =>
    ⟨rfl, hg, h1, fun H1 S1 => by subst hx; exact ⟨rs, rfl, sz, hl, fun p H2 S2 sr => z p H2 (S1.trans S2) sr⟩⟩
theorem pe_rdSK (T : Tx X.K X.mg C) (eS : T.S = S) (hr : Room 7 X.A) (ho : PE X o (tC (.ref T.S))) (ha : PE X a (TS G x s)) (hx : x = line rs) (sz : SzE PN rs) (hl : rs.length ≤ 400)
    (hall : (backToKw pos (keywordEach [⟨some "text", a, kpos⟩] X.env)).all (·.1.isSome) = true := by rfl) (hks : (backToKw pos (keywordEach [⟨some "text", a, kpos⟩] X.env)).filterMap (·.1) = (["text"] : List PySem.Str) := by rfl)
    (hpl : ((backTo pos (starEach [] X.env)).any (·.1) || (backToKw pos (keywordEach [⟨some "text", a, kpos⟩] X.env)).any (·.1.isNone)) = false := by rfl)
    (hev : eval (.Call (.Attribute o "read" apos) [] [⟨some "text", a, kpos⟩] pos) X.env = (do let ov ← eval o X.env; standAt apos.atName; let (f, first) ← holding [ov] (getMethod ov "read" pl); callWith pos f first (backTo pos (starEach [] X.env)) (backToKw pos (keywordEach [⟨some "text", a, kpos⟩] X.env))) := by rfl) :
    PE X (.Call (.Attribute o "read" apos) [] [⟨some "text", a, kpos⟩] pos) (TSer C S G rs s) := by
  subst eS
  exact pe_weak (pe_cmethKW (pl := pl) (E := E0) (ks := ["text"]) ho T.rSR T.cSR (ok_SR T) hr (kSR T) pass0 (pk_cons ha pk_nil) hall hks hpl hev) fun σ H Q ⟨hg, h1, z⟩ =>
    ⟨rfl, hg, h1, fun H1 S1 => by subst hx; exact ⟨rfl, rs, rfl, sz, hl, fun p H2 S2 sr => z p H2 (S1.trans S2) sr⟩⟩
/-- str(e), e a series -/
theorem pe_strS (T : Tx X.K X.mg C) (hr : Room 6 X.A) (hgS : Gl X "str") (he : PE X a (TSer C T.S G rs s)) (hst : starEach (a :: []) X.env = (false, eval a X.env) :: starEach [] X.env := by rfl) (hpl : (backTo pos (starEach [] X.env)).any (·.1) = false := by rfl) :
    PE X (.Call (.Name "str" npos) [a] [] pos) (TS G (line rs) s) :=
  pe_weak (pe_callTy (call_strOwn (E := E0) T.hSStr.h T.hSStr.i (ok_SStr T) T.bSStr hr pass0) hgS T.rc.str_ (by decide +kernel) (pa_cons he pa_nil hst) (by decide) (by decide) hst hpl) fun σ H Q ⟨hg, h1, z⟩ =>
    ⟨hg, h1, fun p H2 S2 sr => by
      obtain ⟨dx, t, vs, e1, e2⟩ := id sr
      exact ⟨p, dx, _, rfl, e1, p, rs, rfl, sr, fun H3 S3 => ⟨_, rfl, z H3 (S2.trans S3)⟩⟩⟩
/-- C.read(e), e a line that is none -/
theorem pe_rdX (T : Tx X.K X.mg C) (O : OE X.prog X.w X.K X.mg X.base "InvalidText" D fI fdI) (Oh : L2H.FnH X.prog X.w X.K X.mg X.base CX0 1 fI fdI ["self", "given"] (spOI D)) (hme : PySem.W.exmOne X.K (.ref D) (.ref D) = some true) (hx : Passes (L2.CX X.prog X.w) X E) (hr : Room 7 X.A)
    (ho : PE X o (tC (.ref T.S))) (ha : PE X a (TS G x s)) (n1 : x ≠ "") (n2 : x.length ≤ 640) (n3 : ∀ y ∈ Txt.split x " ", isTx y = true → Sz PN (rdq y)) (n4 : ∃ y ∈ Txt.split x " ", goodW y = false)
    (hst : starEach (a :: []) X.env = (false, eval a X.env) :: starEach [] X.env := by rfl) (hpl : (backTo pos (starEach [] X.env)).any (·.1) = false := by rfl)
    (hev : eval (.Call (.Attribute o "read" apos) (a :: []) [] pos) X.env = (do let ov ← eval o X.env; standAt apos.atName; let (f, first) ← holding [ov] (getMethod ov "read" pl); callWith pos f first (backTo pos (starEach (a :: []) X.env)) (backToKw pos (keywordEach [] X.env))) := by rfl) :
    PE X (.Call (.Attribute o "read" apos) [a] [] pos) (TErr E D G (.str x) s) :=
  pe_weak (ClX.pe_cmeth (E := E) ho T.rSR T.cSR ((zw_SRX T O Oh hme).raw T.bSR .nil) hr hx (pa_cons ha pa_nil hst) hst hpl hev) fun σ H Q ⟨hg, h1, z⟩ =>
    ⟨rfl, hg, h1, fun H1 S1 => ⟨x, rfl, n1, n2, n3, n4, fun H2 S2 => z H2 (S1.trans S2)⟩⟩
theorem pe_rdXK (T : Tx X.K X.mg C) (O : OE X.prog X.w X.K X.mg X.base "InvalidText" D fI fdI) (Oh : L2H.FnH X.prog X.w X.K X.mg X.base CX0 1 fI fdI ["self", "given"] (spOI D)) (hme : PySem.W.exmOne X.K (.ref D) (.ref D) = some true) (hx : Passes (L2.CX X.prog X.w) X E) (hr : Room 7 X.A)
    (ho : PE X o (tC (.ref T.S))) (ha : PE X a (TS G x s)) (n1 : x ≠ "") (n2 : x.length ≤ 640) (n3 : ∀ y ∈ Txt.split x " ", isTx y = true → Sz PN (rdq y)) (n4 : ∃ y ∈ Txt.split x " ", goodW y = false)
    (hall : (backToKw pos (keywordEach [⟨some "text", a, kpos⟩] X.env)).all (·.1.isSome) = true := by rfl) (hks : (backToKw pos (keywordEach [⟨some "text", a, kpos⟩] X.env)).filterMap (·.1) = (["text"] : List PySem.Str) := by rfl)
    (hpl : ((backTo pos (starEach [] X.env)).any (·.1) || (backToKw pos (keywordEach [⟨some "text", a, kpos⟩] X.env)).any (·.1.isNone)) = false := by rfl)
    (hev : eval (.Call (.Attribute o "read" apos) [] [⟨some "text", a, kpos⟩] pos) X.env = (do let ov ← eval o X.env; standAt apos.atName; let (f, first) ← holding [ov] (getMethod ov "read" pl); callWith pos f first (backTo pos (starEach [] X.env)) (backToKw pos (keywordEach [⟨some "text", a, kpos⟩] X.env))) := by rfl) :
    PE X (.Call (.Attribute o "read" apos) [] [⟨some "text", a, kpos⟩] pos) (TErr E D G (.str x) s) :=
  pe_weak (pe_cmethKW (pl := pl) (E := E) (ks := ["text"]) ho T.rSR T.cSR (zw_SRX T O Oh hme) hr (kSR T) hx (pk_cons ha pk_nil) hall hks hpl hev) fun σ H Q ⟨hg, h1, z⟩ =>
    ⟨rfl, hg, h1, fun H1 S1 => ⟨rfl, x, rfl, n1, n2, n3, n4, fun H2 S2 => z H2 (S1.trans S2)⟩⟩
/-- str(e) where e lets an error out -/
theorem pe_strX (T : Tx X.K X.mg C) (hr : Room 6 X.A) (hgS : Gl X "str") (he : PE X a (TErr E D G v s)) (hst : starEach (a :: []) X.env = (false, eval a X.env) :: starEach [] X.env := by rfl) (hpl : (backTo pos (starEach [] X.env)).any (·.1) = false := by rfl) :
    PE X (.Call (.Name "str" npos) [a] [] pos) (TErr E D G v s) :=
  pe_weak (pe_callTy (call_strOwn (E := E0) T.hSStr.h T.hSStr.i (ok_SStr T) T.bSStr hr pass0) hgS T.rc.str_ (by decide +kernel) (pa_cons he pa_nil hst) (by decide) (by decide) hst hpl) fun σ H Q h => h
end
end T08

/-! _law_text_right. -/
namespace SK
open PySem PySem.Spec PyProof.Rows L2 SF SQ SFT LamX
/-- the line stands in its slot -/
def G0 (x : PySem.Str) : L2.St → Hp → Prop := fun σ _ => σ[0]? = some (some (.str x))
theorem G0.gn {x : PySem.Str} : SQ.GN (G0 x) := fun _ _ _ h _ => h
section
variable {X : Cx} {e : Expr} {x t : PySem.Str} {G : L2.St → Hp → Prop} {E : XK} {C D : Addr} {s : Prop}
theorem v0 (h : PE X e (tVar 0)) : PE X e (TS (G0 x) x True) := pe_weak h fun σ H Q ⟨hg, _, z⟩ => ⟨_, hg, z H (Same.refl _)⟩
theorem ts_id {y : PySem.Str} (h : PE X e (TS G y s)) : PE X e (TS G y s) := h
theorem tw_err (h : PE X e (TErr E D G (.str x) s)) (ht : ∀ H, TxtV C H (.str x) t) : PE X e (TW E D C G t s) := pe_weak h fun σ H Q ⟨hg, h1, z⟩ => ⟨hg, h1, fun H' S => z _ H' S (ht H')⟩
end
/-- two pairs of texts -/
def twoD (ds : List PySem.Str) : PyData := .list [.list (ds.map .str), .list (ds.map .str)]
theorem two_eqv (ds : List PySem.Str) : PyData.eqv (twoD ds) (twoD ds) = true := by
  have e : PyData.eqvAll (ds.map .str) (ds.map .str) = true := by rw [eqv_strs]; exact decide_eq_true rfl
  simp [twoD, PyData.eqv, PyData.eqvAll, e]
theorem two_shaped {ds : List PySem.Str} (h : ds.all PyData.strOk = true) : SeqAt.shaped (twoD ds) = true := by
  obtain ⟨a, b⟩ := Bool.and_eq_true_iff.mp (show (PyData.canLay0 (.list (ds.map .str)) && decide (PyData.depth (.list (ds.map .str)) ≤ 64)) = true from shaped_strs h)
  unfold SeqAt.shaped
  refine Bool.and_eq_true_iff.mpr ⟨?_, decide_eq_true ?_⟩
  · show PyData.canLayAll0 [.list (ds.map .str), .list (ds.map .str)] = true
    simp only [PyData.canLayAll0, a, Bool.and_true]
  · show PyData.depthAll [.list (ds.map .str), .list (ds.map .str)] + 1 ≤ 64
    simp only [PyData.depthAll, PyData.depth, depth_strs]
    decide
end SK
namespace T08
open PySem PySem.Spec PyProof.Rows L2 SF SQ SFT L2H LamX TL SK
theorem PT0 {X : Cx} {E : XK} {scope : Scope} {A : Around} {outer : List PySem.Env} {s : Shared} {H : Hp} {f c' : Addr} : Passes (L2.CX (lamCx X A outer s H E scope f c').prog (lamCx X A outer s H E scope f c').w) (lamCx X A outer s H E scope f c') E :=
  passes_call (takes_of (E := E) rfl rfl rfl rfl) (fun _ _ _ _ h => h)
abbrev lamT : Str := "_law_text_right" ++ ".<locals>." ++ "<lambda>"
def spTR (TT : List (Addr × Str)) : Sp := fun vs H Q _ => ∃ x : PySem.Str, vs = [.str x] ∧ PA x ∧ x.length ≤ 390 ∧ (∀ y ∈ Txt.split x " ", isTx y = true → Sz PN (rdq y)) ∧ Tabs TT H ∧ ∀ H', ExtN H H' → Tabs TT H' → Q (.bl true) H'
section
variable {P : Program} {w : World} {K : PySem.W.Frag} {mg : Str → Option Value} {base : Heap} {C c1 fIT : Addr} {cs bs : Nat → Addr} {fdT : FuncData} {TT : List (Addr × Str)}
theorem ok_TRight (T : Tx K mg C) (Z : SFT.CErr K mg cs bs) (N : ND K) (OT : OEK K mg "InvalidText" "InvalidText.__init__" sETxt (cs 1) fIT fdT) (hme : PySem.W.exmOne K (.ref (cs 1)) (.ref (cs 1)) = some true) (hc1 : T.dTRight.code = .ref c1) (TB : TabB base mg c1 (SFY.tabOf K c1)) (hm : (SFY.tabOf K c1, lamT) ∈ TT) (hu : ∀ p ∈ TT, p.1 = SFY.tabOf K c1 → p.2 = lamT) :
    FnG P w K mg base CX0 14 T.aTRight T.dTRight ["_law_line"] (spTR TT) := by
  have GLR : FnOk P w K mg base CX0 3 T.aLRead T.dLRead ["_law_line"] spLRB := ok_LRB T
  refine okGc T.FTRight hc1 scTRight (fun vs H Q E h => ?_) (fun A outer s0 H vs Q E hgd hr h => ?_)
  · obtain ⟨x, rfl, _⟩ := h
    rfl
  · obtain ⟨x, rfl, px, hl, hsz, hT, z⟩ := h
    have hr3 := hr.mono (show 3 ≤ 13 by decide)
    have hl6 : x.length ≤ 640 := by omega
    have two2 : 2 ≤ sizeLine := by decide
    have one1 : 1 ≤ sizeLine := by decide
    obtain ⟨o1, o2, o3⟩ := okX px hl6
    have zr : (reprText x).length ≤ sizeLine := by
      have := repr_len2 px
      have l : 4000 ≤ sizeLine := by decide
      omega
    -- what is due, the two calls, the end
    have main : ∀ (ds : List PySem.Str), ds.all PyData.strOk = true → ∀ (H1 : Hp) (p1 : Addr), ExtN H H1 → Tabs TT H1 → H1 p1 = some (.lst (ds.map V.str)) → ∀ (u1 : Addr) (H2 : Hp), ExtN H1 H2 → Tabs TT H2 → H2 u1 = some (.lst (ds.map V.str)) → ∀ q1, H2 q1 = none → ∀ (u2 : Addr) (H3 : Hp), ExtN (upd H2 q1 (.lst [.ref u1])) H3 → Tabs TT H3 → H3 u2 = some (.lst (ds.map V.str)) →
        ∃ l xs y, V.ref q1 = .ref l ∧ [V.ref u2] = [y] ∧ H3 l = some (.lst xs) ∧ xs.length < sizeLine ∧ ∀ p5, upd H3 l (.lst (xs ++ [y])) p5 = none → ∃ d1 d2 : PyData, Dp K (upd (upd H3 l (.lst (xs ++ [y]))) p5 (.lst [.ref p1, .ref p1])) (.ref q1) d1 ∧ Dp K (upd (upd H3 l (.lst (xs ++ [y]))) p5 (.lst [.ref p1, .ref p1])) (.ref p5) d2 ∧ SeqAt.shaped d1 = true ∧ SeqAt.shaped d2 = true ∧ Q (.bl (PyData.eqv d1 d2)) (upd (upd H3 l (.lst (xs ++ [y]))) p5 (.lst [.ref p1, .ref p1])) := by
      intro ds hds H1 p1 X1 T1 e1 u1 H2 X2 T2 e2 q1 n1 u2 H3 X3 T3 e3
      have nt : ∀ {xs : List V} ps, HO.lst xs ≠ .tbl ps := fun ps h => by cases h
      have eq1 : H3 q1 = some (.lst [.ref u1]) := X3 _ _ upd_same nt
      refine ⟨q1, _, _, rfl, rfl, eq1, by show 1 < sizeLine; decide, fun p5 n5 => ?_⟩
      have off : ∀ b xs, b ≠ q1 → H3 b = some (.lst xs) → upd (upd H3 q1 (.lst ([.ref u1] ++ [.ref u2]))) p5 (.lst [.ref p1, .ref p1]) b = some (.lst xs) := fun b xs hb e => by
        have h4 : upd H3 q1 (.lst ([.ref u1] ++ [.ref u2])) b = some (.lst xs) := by rw [upd_ne hb]; exact e
        rw [upd_ne (ne_of_none h4 n5)]
        exact h4
      have n12 : p1 ≠ q1 := ne_of_none (X2 _ _ e1 nt) n1
      have nu1 : u1 ≠ q1 := ne_of_none e2 n1
      have f1 := off p1 _ n12 (X3 _ _ (by rw [upd_ne n12]; exact X2 _ _ e1 nt) nt)
      have fu1 := off u1 _ nu1 (X3 _ _ (by rw [upd_ne nu1]; exact e2) nt)
      have nu2 : u2 ≠ q1 := fun h => by
        rw [h, eq1] at e3
        have e4 := HO.lst.inj (Option.some.inj e3)
        cases ds with
        | nil => cases e4
        | cons d r => cases e4
      have fu2 := off u2 _ nu2 e3
      have fq : upd (upd H3 q1 (.lst ([.ref u1] ++ [.ref u2]))) p5 (.lst [.ref p1, .ref p1]) q1 = some (.lst [.ref u1, .ref u2]) := by
        rw [upd_ne (ne_of_none (o := .lst ([.ref u1] ++ [.ref u2])) upd_same n5), upd_same]
        rfl
      refine ⟨twoD ds, twoD ds, .lst (SqL.of fq) (.cons (.lst (SqL.of fu1) (dp_strs ds)) (.cons (.lst (SqL.of fu2) (dp_strs ds)) .nil)), .lst (SqL.of upd_same) (.cons (.lst (SqL.of f1) (dp_strs ds)) (.cons (.lst (SqL.of f1) (dp_strs ds)) .nil)), two_shaped hds, two_shaped hds, ?_⟩
      rw [two_eqv]
      have XX : ExtN H (upd (upd H3 q1 (.lst ([.ref u1] ++ [.ref u2]))) p5 (.lst [.ref p1, .ref p1])) := fun b o e hb => by
        have b2 : H2 b = some o := X2 _ _ (X1 _ _ e hb) hb
        have nb := ne_of_none b2 n1
        have b3 : H3 b = some o := X3 _ _ (by rw [upd_ne nb]; exact b2) hb
        have h4 : upd H3 q1 (.lst ([.ref u1] ++ [.ref u2])) b = some o := by rw [upd_ne nb]; exact b3
        rw [upd_ne (ne_of_none h4 n5)]
        exact h4
      exact z _ XX ((tabs_lst T3 eq1).ext (same_new (Same.refl _) n5))
    cases hrd : readB x with
    | true =>
      obtain ⟨rs, hline, hszE, hlen⟩ : ∃ rs, x = line rs ∧ SzE PN rs ∧ rs.length ≤ 400 := by
        unfold readB at hrd
        rcases Bool.or_eq_true_iff.mp hrd with h | h
        · exact ⟨[], of_decide_eq_true h, (fun q hq => by cases hq), by decide⟩
        · refine ⟨(Txt.split x " ").map rdE, (words_back hl6 (List.all_eq_true.mp h)).symm, fun q hq => ?_, ?_⟩
          · obtain ⟨y, hy, e⟩ := List.mem_map.mp hq
            unfold rdE at e
            by_cases h1 : y = ("_" : PySem.Str)
            · rw [if_pos h1] at e; cases e
            · rw [if_neg h1] at e
              have g := List.all_eq_true.mp h y hy
              unfold goodW at g
              rw [decide_eq_false h1, Bool.false_or] at g
              cases e
              exact hsz y hy g
          · have := words_len x
            rw [List.length_map]
            omega
      subst hline
      refine ⟨_, (pss_cons (ps_set (i := 1) scTRight.nd rfl (.inl rfl) (pe_ifExp (pt_val (pe_call GLR hr3 (by rfl) T.gLRead T.FLRead.kp T.bLRead .nil pass0 (pa_cons (pv 0) pa_nil))) (pe_lst (pa_cons pe_str (pa_cons (pe_callB call_reprT (by rfl) T.rc.repr_ (by decide +kernel) (pa_cons (pv 0) pa_nil)) pa_nil)))
          (pe_lst (pa_cons pe_str (pa_cons (pe_callB (SX.call_reprS hgd hr3) (by rfl) T.rc.repr_ (by decide +kernel) (pa_cons (pe_tup (pa_cons (pv 0) pa_nil)) pa_nil)) pa_nil)))))
        (pss_cons (ps_set (i := 2) scTRight.nd rfl (.inl rfl) (pe_lst (pa_cons (pc_toldT (G := G0 (line rs)) (y := line rs) (s := True) (lam_caughtT (k := 9) (T := TT) T Z hgd hr (by rfl) TB rfl hm hu (lamS_by (by show lamSB (defScope sTRight) _ = true; decide +kernel)) (fun A outer s H E f c' hq => ts_id (G := G0 (line rs)) (y := line rs) (s := True) (pe_strS (G := G0 (line rs)) (rs := rs) (s := True) (X := lamCx _ A outer s H E _ f c') T (hq.mono (by decide)) (by rfl) (pe_rdS (G := G0 (line rs)) (rs := rs) (s := True) (X := lamCx _ A outer s H E _ f c') T rfl (hq.mono (by decide)) (pe_glob (v := .ref T.S) (by rfl) T.gS rfl) (v0 (x := line rs) (pv 0)) rfl hszE hlen))) (by rfl) (by intros; rfl)) G0.gn zr) pa_nil)))
        (pss_cons (ps_expr (pe_bm PySem.F.plainAttrs_list PySem.F.slot_list_append PySem.F.type_list_append mt_append (pv 2) (pa_cons (pc_toldT (G := G0 (line rs)) (y := line rs) (s := True) (lam_caughtT (k := 9) (T := TT) T Z hgd hr (by rfl) TB rfl hm hu (lamS_by (by show lamSB (defScope sTRight) _ = true; decide +kernel)) (fun A outer s H E f c' hq => ts_id (G := G0 (line rs)) (y := line rs) (s := True) (pe_strS (G := G0 (line rs)) (rs := rs) (s := True) (X := lamCx _ A outer s H E _ f c') T (hq.mono (by decide)) (by rfl) (pe_rdSK (G := G0 (line rs)) (rs := rs) (s := True) (X := lamCx _ A outer s H E _ f c') T rfl (hq.mono (by decide)) (pe_glob (v := .ref T.S) (by rfl) T.gS rfl) (v0 (x := line rs) (pv 0)) rfl hszE hlen))) (by rfl) (by intros; rfl)) G0.gn zr) pa_nil)))
        (pss_one (ps_ret (pe_cmpR (op_eqD hr.units) (pv 2) (pe_lst (pa_cons (pv 1) (pa_cons (pv 1) pa_nil))) (nomark _))))))), ?_⟩
      refine ⟨_, rfl, line rs, rfl, px, hl6, fun H1 S1 => ⟨_, rfl, ?_⟩⟩
      rw [hrd]
      refine iteT ⟨_, rfl, line rs, rfl, zr, two2, fun p1 n1 => ?_⟩
      generalize hE1 : upd H1 p1 _ = H2
      have e1 := upd_got hE1
      have s1 := upd_stay hE1 n1
      have X1 : ExtN H H2 := ExtN.of (S1.trans s1)
      refine ⟨rfl, hT.ext (S1.trans s1), trivial, fun u1 H3 X2 T3 e2 => ⟨one1, fun q1 n2 => ?_⟩⟩
      have TT4 := T3.ext (same_new (o := .lst [.ref u1]) (Same.refl _) n2)
      have M := main ["told", reprText (line rs)] (by simp [okTold, repr_ok px]) H2 p1 X1 (hT.ext (S1.trans s1)) e1 u1 H3 X2 T3 e2 q1 n2
      refine ⟨_, rfl, .inl ⟨rfl, _, SqL.of upd_same⟩, rfl, TT4, trivial, fun u2 H5 X5 T5 e5 => ?_⟩
      obtain ⟨l, xs, y, m1, m2, m3, m4, m5⟩ := M u2 H5 X5 T5 e5
      cases m1
      cases m2
      exact ⟨_, xs, _, rfl, rfl, m3, m4, _, rfl, _, rfl, _, rfl, two2, fun p5 n5 => m5 p5 n5⟩
    | false =>
      have hne : x ≠ "" := fun h => by
        unfold readB at hrd
        rw [decide_eq_true h, Bool.true_or] at hrd
        cases hrd
      have hbad : ∃ y ∈ Txt.split x " ", goodW y = false := by
        unfold readB at hrd
        rw [decide_eq_false hne, Bool.false_or] at hrd
        obtain ⟨y, hy, h⟩ := List.all_eq_false.mp hrd
        exact ⟨y, hy, Bool.eq_false_iff.mpr h⟩
      refine ⟨_, (pss_cons (ps_set (i := 1) scTRight.nd rfl (.inl rfl) (pe_ifExp (pt_val (pe_call GLR hr3 (by rfl) T.gLRead T.FLRead.kp T.bLRead .nil pass0 (pa_cons (pv 0) pa_nil))) (pe_lst (pa_cons pe_str (pa_cons (pe_callB call_reprT (by rfl) T.rc.repr_ (by decide +kernel) (pa_cons (pv 0) pa_nil)) pa_nil)))
          (pe_lst (pa_cons pe_str (pa_cons (pe_callB (SX.call_reprS hgd hr3) (by rfl) T.rc.repr_ (by decide +kernel) (pa_cons (pe_tup (pa_cons (pv 0) pa_nil)) pa_nil)) pa_nil)))))
        (pss_cons (ps_set (i := 2) scTRight.nd rfl (.inl rfl) (pe_lst (pa_cons (pc_wrong (G := G0 x) (t := (PyData.tuple [.str x]).shown) (s := True) (j := 1) (by decide) (fun v => rfl) (lam_caughtT (k := 9) (T := TT) T Z hgd hr (by rfl) TB rfl hm hu (lamS_by (by show lamSB (defScope sTRight) _ = true; decide +kernel)) (fun A outer s H E f c' hq => tw_err (x := x) (s := True) (G := G0 x) (pe_strX (v := .str x) (s := True) (G := G0 x) (X := lamCx _ A outer s H E _ f c') T (hq.mono (by decide)) (by rfl) (pe_rdX (x := x) (s := True) (G := G0 x) (X := lamCx _ A outer s H E _ f c') T (ok_ETxt OT) (ok_ETxtH OT) hme PT0 (hq.mono (by decide)) (pe_glob (v := .ref T.S) (by rfl) T.gS rfl) (v0 (x := x) (pv 0)) hne hl6 hsz hbad)) (fun H => txtX px hl6)) (by rfl) (by intros; rfl)) G0.gn) pa_nil)))
        (pss_cons (ps_expr (pe_bm PySem.F.plainAttrs_list PySem.F.slot_list_append PySem.F.type_list_append mt_append (pv 2) (pa_cons (pc_wrong (G := G0 x) (t := (PyData.tuple [.str x]).shown) (s := True) (j := 1) (by decide) (fun v => rfl) (lam_caughtT (k := 9) (T := TT) T Z hgd hr (by rfl) TB rfl hm hu (lamS_by (by show lamSB (defScope sTRight) _ = true; decide +kernel)) (fun A outer s H E f c' hq => tw_err (x := x) (s := True) (G := G0 x) (pe_strX (v := .str x) (s := True) (G := G0 x) (X := lamCx _ A outer s H E _ f c') T (hq.mono (by decide)) (by rfl) (pe_rdXK (x := x) (s := True) (G := G0 x) (X := lamCx _ A outer s H E _ f c') T (ok_ETxt OT) (ok_ETxtH OT) hme PT0 (hq.mono (by decide)) (pe_glob (v := .ref T.S) (by rfl) T.gS rfl) (v0 (x := x) (pv 0)) hne hl6 hsz hbad)) (fun H => txtX px hl6)) (by rfl) (by intros; rfl)) G0.gn) pa_nil)))
        (pss_one (ps_ret (pe_cmpR (op_eqD hr.units) (pv 2) (pe_lst (pa_cons (pv 1) (pa_cons (pv 1) pa_nil))) (nomark _))))))), ?_⟩
      refine ⟨_, rfl, x, rfl, px, hl6, fun H1 S1 => ⟨_, rfl, ?_⟩⟩
      rw [hrd]
      refine iteF ⟨_, rfl, one1, fun t nt => ⟨t, .tuple [.str x], rfl, .tup upd_same (.cons (.str x) .nil), o1, o2, o3, two2, fun p1 n1 => ?_⟩⟩
      have st := same_new (o := .tup [.str x]) (Same.refl H1) nt
      generalize upd H1 t (.tup [.str x]) = Ht at st n1
      generalize hE1 : upd Ht p1 _ = H2
      have e1 := upd_got hE1
      have s1 := st.trans (upd_stay hE1 n1)
      have X1 : ExtN H H2 := ExtN.of (S1.trans s1)
      refine ⟨rfl, hT.ext (S1.trans s1), trivial, fun u1 H3 X2 T3 e2 => ⟨one1, fun q1 n2 => ?_⟩⟩
      have TT4 := T3.ext (same_new (o := .lst [.ref u1]) (Same.refl _) n2)
      have M := main [cnm 1, (PyData.tuple [.str x]).shown] (by simp [okC1, shown_ok px]) H2 p1 X1 (hT.ext (S1.trans s1)) (by rw [c1_is]; exact e1) u1 H3 X2 T3 e2 q1 n2
      refine ⟨_, rfl, .inl ⟨rfl, _, SqL.of upd_same⟩, rfl, TT4, trivial, fun u2 H5 X5 T5 e5 => ?_⟩
      obtain ⟨l, xs, y, m1, m2, m3, m4, m5⟩ := M u2 H5 X5 T5 e5
      cases m1
      cases m2
      exact ⟨_, xs, _, rfl, rfl, m3, m4, _, rfl, _, rfl, _, rfl, two2, fun p5 n5 => m5 p5 n5⟩
end
end T08

/-! Short words name small fractions. -/
namespace SK
open PySem PySem.Spec PyProof.Rows L2 SF SQ TL
theorem ten_100 {k : Nat} (h : k ≤ 100) : 10 ^ k < 2 ^ 400 := Nat.lt_of_le_of_lt (Nat.pow_le_pow_right (by decide) h) (by decide +kernel)
theorem pos_lt {x : PySem.Str} (h : posT x = true) (hl : x.length ≤ 100) : (iv x).natAbs < 2 ^ 400 := by
  have h6 : x.length ≤ 4300 := Nat.le_trans hl (by decide)
  obtain ⟨a, b⟩ := posT_digits h
  have e := (iv_pos h h6).symm.trans (int_digits a b h6)
  rw [Option.some.inj e]
  rw [len_tl] at hl
  exact Nat.lt_trans (digits_lt a) (ten_100 hl)
theorem top_lt {x : PySem.Str} (h : (decide (x = ("0" : PySem.Str)) || posT (Txt.removeprefix x "-")) = true) (hl : x.length ≤ 100) : (iv x).natAbs < 2 ^ 400 := by
  have h6 : x.length ≤ 4300 := Nat.le_trans hl (by decide)
  have hi := iv_top h h6
  rcases Bool.or_eq_true_iff.mp h with z | z
  · have e : intText? ("0" : PySem.Str) = some 0 := by
      have y := int_tx (i := 0) (by rw [tx_zero]; decide)
      rwa [tx_zero] at y
    rw [of_decide_eq_true z] at hi ⊢
    rw [← Option.some.inj (e.symm.trans hi)]
    exact Nat.two_pow_pos _
  · obtain ⟨a, b⟩ := posT_digits z
    by_cases hx : (tl x).head? = some 45
    · cases e : tl x with
      | nil => rw [e] at hx; cases hx
      | cons c l =>
        rw [e] at hx
        cases (Option.some.inj hx)
        rw [rp_neg e] at a b
        rw [Option.some.inj (hi.symm.trans (intText_neg e a b h6)), Int.natAbs_neg]
        rw [len_tl, e, List.length_cons] at hl
        exact Nat.lt_trans (digits_lt a) (ten_100 (by omega))
    · rw [rp_same hx] at a b
      rw [Option.some.inj (hi.symm.trans (int_digits a b h6))]
      rw [len_tl] at hl
      exact Nat.lt_trans (digits_lt a) (ten_100 hl)
theorem rdq_400 {x : PySem.Str} (hl : x.length ≤ 100) (hx : isTx x = true) : Sz 400 (rdq x) := by
  have pl := part_len x
  unfold isTx at hx
  unfold rdq
  generalize Txt.partition x "/" = pp at pl hx
  obtain ⟨a, b, c⟩ := pp
  dsimp only at pl hx ⊢
  obtain ⟨h1, h2⟩ := Bool.and_eq_true_iff.mp hx
  have la : a.length ≤ 100 := Nat.le_trans pl.1 hl
  have lc : c.length ≤ 100 := Nat.le_trans pl.2 hl
  by_cases h3 : b = ("" : PySem.Str)
  · rw [if_pos h3]
    exact Sz.int (top_lt h1 la) (by decide)
  · rw [if_neg h3]
    rw [decide_eq_false h3, Bool.false_or] at h2
    obtain ⟨hc, _⟩ := Bool.and_eq_true_iff.mp h2
    exact Sz.of (ivp_ne hc (by omega)) (top_lt h1 la) (pos_lt hc lc)
theorem words_400 {x : PySem.Str} (hl : x.length ≤ 100) : ∀ y ∈ Txt.split x " ", isTx y = true → Sz 400 (rdq y) := fun y hy h => rdq_400 (Nat.le_trans (word_sub hy).2 hl) h
end SK

/-! _law_entry_text: a word of a line. -/
namespace SK
open PySem PySem.Spec PyProof.Rows L2 SF SQ TL
theorem tx_5 {i : Int} (h : i.natAbs < 10000) : (tx i).length ≤ 5 := by
  rw [len_tl]
  rcases tx_cases i with ⟨n, rfl, e⟩ | ⟨n, _, rfl, e⟩
  · rw [e]
    have := numL_len (n := n) (k := 4) (by decide) (by simpa using h)
    omega
  · rw [e, List.length_cons]
    have := numL_len (n := n) (k := 4) (by decide) (by rw [Int.natAbs_neg] at h; simpa using h)
    omega
theorem plain_pa {x : PySem.Str} (h : ∀ c ∈ tl x, plainC c = true) : PA x := fun c hc => by
  have := h c hc
  simp only [plainC, Bool.and_eq_true, decide_eq_true_eq] at this
  omega
theorem estr_pa (r : Ent) : PA (estr r) := plain_pa fun c hc => (estr_plain r c hc).1
end SK
namespace T08
open PySem PySem.Spec PyProof.Rows L2 SF SQ SFT L2H LamX TL SK
section
variable {P : Program} {w : World} {K : PySem.W.Frag} {mg : Str → Option Value} {base : Heap} {C : Addr}
def spNumT : Sp := fun vs H Q _ => ∃ a q, vs = [.ref a] ∧ PQ H a PN q ∧ Q (.str (rstr q)) H
theorem tlogN {i : Int} (h : i.natAbs < 2 ^ PN) : i.natAbs.log2 < 1920 := tlog h (by decide)
theorem tx_lenN {i : Int} (h : i.natAbs < 2 ^ PN) : (tx i).length ≤ 250 := tx_short (Nat.lt_of_lt_of_le h (two_le (by decide)))
theorem emp_add (x : Str) : Str.empty ++ x = x := by
  have e : TL.tl (Str.empty ++ x) = TL.tl x := by rw [TL.tl_append]; rfl
  exact (List.cons.inj (TL.map_tl_inj (l := [_]) (m := [_]) (by rw [List.map_cons, List.map_cons, e]))).1
theorem ok_Num (T : Tx K mg C) : FnOk P w K mg base CX0 1 T.aNum T.dNum ["_law_pair_here"] spNumT := by
  refine T.FNum.ok scNum (fun vs H Q E h => ?_) (fun cdv A outer s H vs Q E hr h => ?_)
  · obtain ⟨a, q, rfl, _⟩ := h
    rfl
  · obtain ⟨a, x, rfl, ⟨ra, sz⟩, z⟩ := h
    have l5 := line5
    have x1 := tx_lenN sz.1
    have x2 := tx_lenN (show (x.den : Int).natAbs < 2 ^ PN from sz.2)
    have s1 : ("/" : Str).length = 1 := rfl
    have b1 := tlogN sz.1
    have b2 := tlogN (show (x.den : Int).natAbs < 2 ^ PN from sz.2)
    refine ⟨_, (pss_one (ps_ret (pe_ifExp (pt_cmpR op_eq (pe_ix ix_tup (pv 0) pe_int (fun _ _ => rfl)) pe_int (nomark _)) (pe_callTy call_str_int (by rfl) T.rc.str_ (by decide +kernel) (pa_cons (pe_ix ix_tup (pv 0) pe_int (fun _ _ => rfl)) pa_nil))
      (pe_op op_add_str (pe_op op_add_str (pe_callTy call_str_int (by rfl) T.rc.str_ (by decide +kernel) (pa_cons (pe_ix ix_tup (pv 0) pe_int (fun _ _ => rfl)) pa_nil)) pe_str) (pe_callTy call_str_int (by rfl) T.rc.str_ (by decide +kernel) (pa_cons (pe_ix ix_tup (pv 0) pe_int (fun _ _ => rfl)) pa_nil)))))), ?_⟩
    refine ⟨_, rfl, a, _, 1, _, rfl, rfl, SqT.of ra, at_of (j := 1) rfl rfl, rfl, _, rfl, ?_⟩
    unfold rstr at z
    refine ite2 (fun hc => ?_) (fun hc => ?_)
    · have hc : x.den = 1 := by
        have := V.int.inj (of_decide_eq_true hc)
        omega
      rw [if_pos hc] at z
      exact ⟨_, rfl, a, _, 0, _, rfl, rfl, SqT.of ra, at_of (j := 0) rfl rfl, _, rfl, b1, z⟩
    · have hc : ¬ x.den = 1 := fun e => hc (decide_eq_true (by rw [e]; rfl))
      rw [if_neg hc, emp_add] at z
      exact ⟨_, rfl, a, _, 0, _, rfl, rfl, SqT.of ra, at_of (j := 0) rfl rfl, _, rfl, b1, _, _, rfl, rfl, (by show (tx x.num).length + _ ≤ _; omega), _, rfl, a, _, 1, _, rfl, rfl, SqT.of ra, at_of (j := 1) rfl rfl, _, rfl, b2, _, _, rfl, rfl, (by rw [Str.length_append]; show (tx x.num).length + _ + (tx (x.den : Int)).length ≤ _; omega), z⟩

def spEntT : Sp := fun vs H Q _ => ∃ a : Addr, vs = [.ref a] ∧ SrcAt H a ∧ ∀ y H', PA y → y.length ≤ 11 → SrcAt H' a → But a H H' → Q (.str y) H'
theorem ok_EntT (T : Tx K mg C) : FnOk P w K mg base CX0 3 T.aEntT T.dEntT ["_law_source_here"] spEntT := by
  have GD : FnOk P w K mg base CX0 2 T.aDraw T.dDraw ["_law_source_here", "_law_many"] spDraw := (ok_draw T.FDraw T.blt).mono (by decide)
  have GL : FnOk P w K mg base CX0 2 T.aLow T.dLow ["_law_upper", "_law_lower"] spLowest := ok_lowest T.FLow T.FCom T.bCom T.gCom T.blt
  have GN : FnOk P w K mg base CX0 2 T.aNum T.dNum ["_law_pair_here"] spNumT := (ok_Num T).mono (by decide)
  refine T.FEntT.ok scEntT (fun vs H Q E h => ?_) (fun cdv A outer s H vs Q E hr h => ?_)
  · obtain ⟨a, rfl, _⟩ := h
    rfl
  · obtain ⟨a, rfl, hs, q⟩ := h
    refine ⟨_, (pss_cons (ps_if (pt_cmpR op_eq (pe_call GD hr (by rfl) T.gDraw T.FDraw.kp T.bDraw .nil pass0 (pa_cons (pv 0) (pa_cons pe_int pa_nil))) pe_int (nomark _)) (pss_one (ps_ret pe_str)) pss_nil)
      (pss_one (ps_ret (pe_call GN hr (by rfl) T.gNum T.FNum.kp T.bNum .nil pass0 (pa_cons (pe_call GL hr (by rfl) T.gLow T.FLow.kp T.bLow .nil pass0 (pa_cons (pe_op op_sub (pe_call GD hr (by rfl) T.gDraw T.FDraw.kp T.bDraw .nil pass0 (pa_cons (pv 0) (pa_cons pe_int pa_nil))) pe_int)
        (pa_cons (pe_op op_add pe_int (pe_call GD hr (by rfl) T.gDraw T.FDraw.kp T.bDraw .nil pass0 (pa_cons (pv 0) (pa_cons pe_int pa_nil)))) pa_nil))) pa_nil))))), ?_⟩
    refine ⟨_, rfl, a, 3, rfl, by decide, by decide, hs, fun d H1 d0 d1 s1 k1 => ⟨rfl, _, rfl, ?_⟩⟩
    refine ite2 (fun _ => ?_) (fun _ => ?_)
    · exact q ("_" : PySem.Str) H1 (estr_pa none) (by decide) s1 k1
    refine ⟨_, rfl, a, 2001, rfl, by decide, by decide, s1, fun e H2 e0 e1 s2 k2 => ⟨_, _, rfl, rfl, ?_⟩⟩
    refine ⟨_, rfl, a, 9, rfl, by decide, by decide, s2, fun g H3 g0 g1 s3 k3 => ⟨_, _, rfl, rfl, ?_⟩⟩
    have gz : (1 + g : Int) ≠ 0 := by omega
    have hu : (e - 1000).natAbs < 2 ^ 10 := by show (e - 1000).natAbs < 1024; omega
    have hw : (1 + g).natAbs < 2 ^ 10 := by show (1 + g).natAbs < 1024; omega
    refine ⟨_, _, rfl, gz, Nat.lt_of_lt_of_le hw (two_le (by decide)), fun p hp => ?_⟩
    rw [nt_rat gz, nb_rat gz]
    have s10 : Sz 10 (Rat.divInt (e - 1000) (1 + g)) := Sz.of gz hu hw
    generalize Rat.divInt (e - 1000) (1 + g) = x at s10
    have S4 := same_new (o := .tup [.int x.num, .int (x.den : Int)]) (Same.refl H3) hp
    refine ⟨p, x, rfl, ⟨upd_same, s10.mono (by decide)⟩, ?_⟩
    have t1 := s10.1
    have t2 : (x.den : Int).natAbs < 2 ^ 10 := s10.2
    have n10 : (2 : Nat) ^ 10 = 1024 := rfl
    have l1 := rstr_len (q := x) (n := 5) (tx_5 (by omega)) (tx_5 (by omega))
    exact q _ _ (estr_pa (some x)) (by omega) (s3.same S4) (((k1.trans k2).trans k3).same S4)
end
end T08

/-! _law_texts_right: lines, and lines bent. -/
namespace SK
open PySem PySem.Spec PyProof.Rows L2 SF SQ TL
theorem joinL_len : ∀ (xs : List (List Nat)), (∀ x ∈ xs, x.length ≤ 11) → (joinL [32] xs).length ≤ 12 * xs.length
  | [], _ => Nat.le_refl _
  | [x], h => by
    have := h x List.mem_cons_self
    show x.length ≤ 12 * 1
    omega
  | x :: y :: r, h => by
    have h1 := h x List.mem_cons_self
    have ih := joinL_len (y :: r) fun z hz => h z (List.mem_cons_of_mem _ hz)
    show (x ++ ([32] ++ joinL [32] (y :: r))).length ≤ _
    simp only [List.length_append, List.length_cons, List.length_nil] at ih ⊢
    omega
theorem join_is (ws : List PySem.Str) : tl (Txt.join (" " : PySem.Str) ws) = joinL [32] (ws.map tl) := by
  rw [join_eq, tl_join] <;> rfl
theorem join_ok {ws : List PySem.Str} (h : ∀ y ∈ ws, PA y ∧ y.length ≤ 11) : PA (Txt.join (" " : PySem.Str) ws) ∧ (Txt.join (" " : PySem.Str) ws).length ≤ 12 * ws.length := by
  refine ⟨fun c hc => ?_, ?_⟩
  · rw [join_is] at hc
    rcases joinL_mem hc with z | ⟨x, hx, z⟩
    · rw [List.mem_singleton.mp z]; decide
    · obtain ⟨y, hy, rfl⟩ := List.mem_map.mp hx
      exact (h y hy).1 c z
  · rw [len_tl, join_is]
    refine Nat.le_trans (joinL_len _ fun x hx => ?_) (by rw [List.length_map]; exact Nat.le_refl _)
    obtain ⟨y, hy, rfl⟩ := List.mem_map.mp hx
    rw [← len_tl]
    exact (h y hy).2
end SK
namespace T08
open PySem PySem.Spec PyProof.Rows L2 SF SQ SFT L2H LamX TL SK
theorem SrcAt.extN {s : Addr} {H H' : Hp} (h : SrcAt H s) (x : ExtN H H') : SrcAt H' s := let ⟨a, b, c, e⟩ := h; ⟨a, b, c, x _ _ e (fun ps z => by cases z)⟩
/-- all but the thing at s and the tables is as it was -/
def ButN (s : Addr) (H H' : Hp) : Prop := ∀ b o, b ≠ s → H b = some o → (∀ ps, o ≠ .tbl ps) → H' b = some o
theorem ButN.of {s : Addr} {H H' : Hp} (x : ExtN H H') : ButN s H H' := fun b o _ e h => x b o e h
theorem ButN.trans {s : Addr} {H H1 H2 : Hp} (x : ButN s H H1) (y : ButN s H1 H2) : ButN s H H2 := fun b o n e h => y b o n (x b o n e h) h
theorem ButN.but {s : Addr} {H H' : Hp} (x : But s H H') : ButN s H H' := fun b o n e _ => x b o n e
theorem tabs_but {s : Addr} {Tb : List (Addr × Str)} {H H' : Hp} (t : Tabs Tb H) (hs : SrcAt H s) (S : But s H H') : Tabs Tb H' := fun r hr => by
  obtain ⟨i, j, k, es⟩ := hs
  obtain ⟨ps, h1, h2, h3⟩ := t r hr
  have n : r.1 ≠ s := fun z => by
    rw [z, es] at h1
    cases h1
  refine ⟨ps, S _ _ n h1, h2, fun pos cv hc => ?_⟩
  obtain ⟨c, e1, e2⟩ := h3 pos cv hc
  have m : c ≠ s := fun z => by
    rw [z, es] at e2
    have w := Option.some.inj e2
    unfold CodeO at w
    cases w
  exact ⟨c, e1, S _ _ m e2⟩

def signS : PySem.Str := " _0-/1,x.2"
theorem signS_len : signS.length = 10 := by decide +kernel
theorem signS_pa : PA signS := pa_of (by decide +kernel)
def spTsR (TT : List (Addr × Str)) : Sp := fun vs H Q _ => ∃ a : Addr, vs = [.ref a] ∧ SrcAt H a ∧ Tabs TT H ∧ ∀ H', SrcAt H' a → ButN a H H' → Tabs TT H' → Q (.bl true) H'
section
variable {P : Program} {w : World} {K : PySem.W.Frag} {mg : Str → Option Value} {base : Heap} {C c1 fIT : Addr} {cs bs : Nat → Addr} {fdT : FuncData} {TT : List (Addr × Str)}
theorem ok_TsR (T : Tx K mg C) (GTR : FnG P w K mg base CX0 14 T.aTRight T.dTRight ["_law_line"] (spTR TT)) : FnG P w K mg base CX0 15 T.aTsR T.dTsR ["_law_source_here"] (spTsR TT) := by
  have GD : FnOk P w K mg base CX0 3 T.aDraw T.dDraw ["_law_source_here", "_law_many"] spDraw := (ok_draw T.FDraw T.blt).mono (by decide)
  have GE : FnOk P w K mg base CX0 3 T.aEntT T.dEntT ["_law_source_here"] spEntT := ok_EntT T
  refine okG T.FTsR scTsR (fun vs H Q E h => ?_) (fun cdv A outer s0 H vs Q E hgd hr h => ?_)
  · obtain ⟨a, rfl, _⟩ := h
    rfl
  · obtain ⟨a, rfl, hs, hT, z⟩ := h
    have hr3 := hr.mono (show 3 ≤ 14 by decide)
    have l6 : 1000 ≤ sizeLine := by decide
    refine ⟨_, (pss_cons (ps_setLc (i := 1) (own := [("_law_k", 2)]) (g := gName 2) (tt := tYes) rfl scTsR.nd rfl rfl (sw_true rfl rfl rfl (by decide +kernel)) (pi_range1 rfl T.rc.range_ (pa_cons (pe_call GD hr3 (by rfl) T.gDraw T.FDraw.kp T.bDraw .nil pass0 (pa_cons (pv 0) (pa_cons pe_int pa_nil))) pa_nil)) (blkOk_by (N := ["_law_source_here", "_law_words", "_law_k", "_law_line", "_law_turn", "_law_spot", "_law_sign", "_law_bent"]) (sc := defScope sTsR) (by decide +kernel)) (fun _ _ _ _ _ => pg_name (i := 2) scTsR.nd rfl (Or.inl rfl)) (fun _ _ _ _ _ => pts_nil)
        (fun _ _ _ _ _ => pe_call GE hr3 (by rfl) T.gEntT T.FEntT.kp T.bEntT .nil pass0 (pa_cons (pv 0) pa_nil)))
      (pss_cons (ps_set (i := 3) scTsR.nd rfl (.inl rfl) (pe_join pe_str (pv 1)))
      (pss_cons (ps_if (pt_not (pt_val (pe_callG GTR hgd hr (by rfl) T.gTRight T.FTRight.kp T.bTRight .nil pass0 (pa_cons (pv 3) pa_nil)))) (pss_one (ps_ret pe_bl)) pss_nil)
      (pss_cons (ps_for PassesOwn.never rfl (pi_range1 rfl T.rc.range_ (pa_cons pe_int pa_nil)) (pg_name (i := 4) scTsR.nd rfl (.inl rfl))
        (pss_cons (ps_set (i := 5) scTsR.nd rfl (.inl rfl) (pe_call GD hr3 (by rfl) T.gDraw T.FDraw.kp T.bDraw .nil pass0 (pa_cons (pv 0) (pa_cons (pe_op op_add (pe_callB call_len_str (by rfl) T.len (by decide +kernel) (pa_cons (pv 3) pa_nil)) pe_int) pa_nil))))
        (pss_cons (ps_set (i := 6) scTsR.nd rfl (.inl rfl) (pe_ix ix_str pe_str (pe_call GD hr3 (by rfl) T.gDraw T.FDraw.kp T.bDraw .nil pass0 (pa_cons (pv 0) (pa_cons pe_int pa_nil))) (fun _ _ => rfl)))
        (pss_cons (ps_set (i := 7) scTsR.nd rfl (.inl rfl) (pe_op op_add_str (pe_op op_add_str (pe_slice sl_str (pv 3) po_none (po_some (pv 5))) (pv 6)) (pe_slice sl_str (pv 3) (po_some (pe_op op_add (pv 5) (pe_call GD hr3 (by rfl) T.gDraw T.FDraw.kp T.bDraw .nil pass0 (pa_cons (pv 0) (pa_cons pe_int pa_nil))))) po_none)))
        (pss_one (ps_if (PW.pt (pw_or (pt_not (pt_val (pe_callG GTR hgd hr (by rfl) T.gTRight T.FTRight.kp T.bTRight .nil pass0 (pa_cons (pv 7) pa_nil))))
          (pw_or1 (pt_not (pt_val (pe_callG GTR hgd hr (by rfl) T.gTRight T.FTRight.kp T.bTRight .nil pass0 (pa_cons (pe_op op_add_str (pe_slice sl_str (pv 7) po_none (po_some (pv 5))) (pe_slice sl_str (pv 7) (po_some (pe_op op_add (pv 5) pe_int)) po_none)) pa_nil))))))) (pss_one (ps_ret pe_bl)) pss_nil))))))
      (pss_one (ps_ret pe_bl)))))), ?_⟩
    have pn400 : ∀ x : PySem.Str, x.length ≤ 100 → ∀ y ∈ Txt.split x " ", isTx y = true → Sz PN (rdq y) := fun x h => words_400 h
    refine ⟨_, rfl, a, 8, rfl, (by decide), (by decide), hs, fun n H1 n0 n1 s1 k1 => ⟨n, rfl, by omega, by omega, fun D hD => ?_⟩⟩
    have nDa : D ≠ a := Ne.symm (s1.ne hD)
    have T1 := tabs_but hT hs k1
    refine lc_range (lo := 0) (n := n.toNat) (fun i J => SrcAt J a ∧ But a H1 J ∧ ∃ ys : List PySem.Str, J D = some (.lst (ys.map V.str)) ∧ ys.length = i ∧ ∀ y ∈ ys, PA y ∧ y.length ≤ 11) ⟨s1.same (same_new (Same.refl _) hD), (But.refl a H1).new hD, [], upd_same, rfl, fun v hv => by simp at hv⟩ ?_ ?_
    · rintro i J hi ⟨sJ, kJ, ys, ey, yl, yv⟩
      refine ⟨rfl, _, rfl, a, rfl, sJ, fun y J2 py ly sJ2 kJ2 => ⟨_, lst_but ey nDa kJ2, by rw [List.length_map]; omega, ?_, fun b o hb e => ?_, ys ++ [y], by rw [upd_same, List.map_append]; rfl, by rw [List.length_append, yl]; rfl, fun u hu => ?_⟩⟩
      · obtain ⟨x, y', z', e⟩ := sJ2
        exact ⟨x, y', z', by rw [upd_ne (Ne.symm nDa)]; exact e⟩
      · rw [upd_ne (ne_of_none e hD)]
        exact kJ2 _ _ hb (kJ _ _ hb e)
      · rcases List.mem_append.mp hu with h | h
        · exact yv u h
        · rw [List.mem_singleton.mp h]
          exact ⟨py, ly⟩
    · rintro J ⟨sJ, kJ, ys, ey, yl, yv⟩
      have kHJ : But a H J := k1.trans kJ
      have TJ := tabs_but T1 s1 kJ
      obtain ⟨pl, ll⟩ := join_ok yv
      have l84 : (Txt.join (" " : PySem.Str) ys).length ≤ 84 := by omega
      generalize hx : Txt.join (" " : PySem.Str) ys = x at pl ll l84
      refine ⟨⟨_, rfl⟩, _, rfl, (" " : Str), D, ys, rfl, rfl, .inl (SqL.of ey), ?_, ?_⟩
      · have h1 := sum_le (k := 11) (xs := ys.map (·.length)) fun n hn => by
          obtain ⟨y, hy, rfl⟩ := List.mem_map.mp hn
          exact (yv y hy).2
        rw [List.length_map] at h1
        have e : (" " : PySem.Str).length = 1 := rfl
        rw [e]
        omega
      rw [hx]
      refine ⟨_, rfl, x, rfl, pl, by omega, pn400 x (by omega), TJ, fun H3 X3 T3 => ⟨_, rfl, iteF ?_⟩⟩
      have s3 := SrcAt.extN sJ X3
      have B3 : ButN a H H3 := (ButN.but kHJ).trans (ButN.of X3)
      refine ⟨6, rfl, by decide, by decide, for_range (lo := 0) (n := 6) (fun i σ H' => SrcAt H' a ∧ Tabs TT H' ∧ ButN a H H' ∧ ∃ w1 w2 w4 w5 w6 w7, σ = [some (.ref a), w1, w2, some (.str x), w4, w5, w6, w7]) ⟨s3, T3, B3, _, _, _, _, _, _, rfl⟩ ?_ ?_⟩
      · rintro i σ H' hi ⟨sA, TA, BA, w1, w2, w4, w5, w6, w7, rfl⟩
        refine ⟨_, rfl, _, rfl, x, rfl, by omega, _, _, rfl, rfl, a, _, rfl, by omega, by omega, sA, fun f H5 f0 f1 s5 k5 => ?_⟩
        refine ⟨_, rfl, a, 10, rfl, by decide, by decide, s5, fun g H6 g0 g1 s6 k6 => ?_⟩
        have hg : g.toNat < signS.cps.toList.length := by
          have : signS.cps.toList.length = 10 := by decide +kernel
          omega
        obtain ⟨c0, c1⟩ := signS_pa _ (List.getElem_mem hg)
        generalize hcc : signS.cps.toList[g.toNat] = cc at c0 c1
        refine ⟨signS, g, cc, rfl, rfl, (by rw [signS_len]; omega), atN g0 (by rw [← hcc]; exact List.getElem?_eq_getElem hg), ?_⟩
        have lc : (⟨#[cc]⟩ : PySem.Str).length = 1 := rfl
        have lP : (cutS x none (some f)).length = min f.toNat x.length := cl_pre f0
        have pP : PA (cutS x none (some f)) := pa_cut pl _ _
        have pc : PA (⟨#[cc]⟩ : PySem.Str) := one_pa c0 c1
        have a1 := Str.length_append (cutS x none (some f)) ⟨#[cc]⟩
        refine ⟨_, rfl, _, rfl, _, rfl, x, rfl, by omega, _, rfl, _, _, rfl, rfl, by omega, _, rfl, _, rfl, _, rfl, a, 2, rfl, by decide, by decide, s6, fun d H7 d0 d1 s7 k7 => ?_⟩
        have lS : (cutS x (some (f + d)) none).length = x.length - (f + d).toNat := cl_suf (by omega)
        have pS : PA (cutS x (some (f + d)) none) := pa_cut pl _ _
        have a2 := Str.length_append (cutS x none (some f) ++ ⟨#[cc]⟩) (cutS x (some (f + d)) none)
        refine ⟨_, _, rfl, rfl, _, rfl, x, rfl, by omega, _, _, rfl, rfl, by omega, ?_⟩
        have py := (pP.app pc).app pS
        have ly : ((cutS x none (some f) ++ ⟨#[cc]⟩) ++ cutS x (some (f + d)) none).length ≤ 85 := by omega
        generalize (cutS x none (some f) ++ ⟨#[cc]⟩) ++ cutS x (some (f + d)) none = y at py ly
        have k57 := (k5.trans k6).trans k7
        have T7 := tabs_but TA sA k57
        have B7 : ButN a H H7 := BA.trans (ButN.but k57)
        refine ⟨_, rfl, y, rfl, py, by omega, pn400 y (by omega), T7, fun H8 X8 T8 => ⟨_, rfl, iteF ?_⟩⟩
        have s8 := SrcAt.extN s7 X8
        have lP2 : (cutS y none (some f)).length = min f.toNat y.length := cl_pre f0
        have lS2 : (cutS y (some (f + 1)) none).length = y.length - (f + 1).toNat := cl_suf (by omega)
        have pP2 : PA (cutS y none (some f)) := pa_cut py _ _
        have pS2 : PA (cutS y (some (f + 1)) none) := pa_cut py _ _
        have a3 := Str.length_append (cutS y none (some f)) (cutS y (some (f + 1)) none)
        refine ⟨_, rfl, _, rfl, _, rfl, y, rfl, by omega, _, rfl, _, rfl, _, _, rfl, rfl, _, rfl, y, rfl, by omega, _, _, rfl, rfl, by omega, ?_⟩
        refine ⟨_, rfl, pP2.app pS2, by omega, pn400 _ (by omega), T8, fun H9 X9 T9 => ⟨_, rfl, iteF ?_⟩⟩
        exact ⟨SrcAt.extN s8 X9, T9, (B7.trans (ButN.of X8)).trans (ButN.of X9), _, _, _, _, _, _, rfl⟩
      · rintro σ H' ⟨sA, TA, BA, w1, w2, w4, w5, w6, w7, rfl⟩
        exact z H' sA BA TA
end
end T08

/-! repr of tuples and lists of plain things and own instances. -/
namespace SK
open PySem PySem.Spec PyProof.Rows L2 SF SQ
open PySem.Builtin (listReprAt)
section
variable {X : Cx}
/-- repr of v below other reprs, run by A, is t; what is tracked stays -/
def ItemH (X : Cx) (A : Around) (H0 : Hp) (v : V) (t : PySem.Str) : Prop := ∀ (pins : List (Addr × Obj)) (σ : L2.St) (H : Hp) (u : Value) (b : Nat) (s : Shared) (Q : PySem.Str → Shared → Prop), Same H0 H → Inv X pins σ H s → RelV v u → b + t.length ≤ sizeLine →
  (∀ s' H', Same H H' → Inv X pins σ H' s' → Q t s') → wpAny (model X.prog X.w) A (pyReprUnder b u) Q X.xe s
inductive ItemsH (X : Cx) (A : Around) (H0 : Hp) : List V → List PySem.Str → Prop
  | nil : ItemsH X A H0 [] []
  | cons {v : V} {t : PySem.Str} {vs : List V} {ts : List PySem.Str} : ItemH X A H0 v t → ItemsH X A H0 vs ts → ItemsH X A H0 (v :: vs) (t :: ts)
theorem ItemsH.len {A : Around} {H0 : Hp} {vs : List V} {ts : List PySem.Str} (h : ItemsH X A H0 vs ts) : ts.length = vs.length := by
  induction h with
  | nil => rfl
  | cons _ _ ih => simp [ih]
theorem ItemsH.at {A : Around} {H0 : Hp} {vs : List V} {ts : List PySem.Str} (h : ItemsH X A H0 vs ts) : ∀ {i : Nat} {v : V}, vs[i]? = some v → ∃ t, ts[i]? = some t ∧ ItemH X A H0 v t := by
  induction h with
  | nil => intro i v e; cases i <;> cases e
  | cons h _ ih =>
    intro i v e
    cases i with
    | zero => cases e; exact ⟨_, rfl, h⟩
    | succ i => exact ih e
theorem ItemsH.up {A : Around} {H0 H : Hp} {vs : List V} {ts : List PySem.Str} (S : Same H0 H) (h : ItemsH X A H0 vs ts) : ItemsH X A H vs ts := by
  induction h with
  | nil => exact .nil
  | cons h _ ih => exact .cons (fun pins σ H1 u b s Q S1 => h pins σ H1 u b s Q (S.trans S1)) ih
/-- under the invariant, as SFU's folds want it -/
theorem ItemsH.j {A : Around} {H0 H : Hp} {pins : List (Addr × Obj)} {σ : L2.St} {vs : List V} {ts : List PySem.Str} (h : ItemsH X A H0 vs ts) (S : Same H0 H) : ∀ {us : List Value}, Vals vs us → SFx.ItemsJ X.prog X.w A X.xe (fun s => ∃ H', Same H H' ∧ Inv X pins σ H' s) us ts := by
  induction h with
  | nil => intro us r; cases r; exact .nil
  | cons h _ ih =>
    intro us r
    cases r with
    | cons r0 r1 => exact .cons (fun b s Q hb ⟨H1, S1, I⟩ k => h pins σ H1 _ b s Q (S.trans S1) I r0 hb fun s' H2 S2 I2 => k s' ⟨H2, S1.trans S2, I2⟩) (ih r1)
theorem texts_val : ∀ {ts : List PySem.Str} {its : List Value}, Vals (ts.map V.str) its → ∃ dn : List (PySem.Str × Tok), its = strValues dn ∧ dn.map (·.1) = ts
  | [], _, r => by cases r; exact ⟨[], rfl, rfl⟩
  | t :: ts, _, r => by
    cases r with
    | cons r0 r1 =>
      obtain ⟨k, rfl⟩ := (show ∃ k, _ = Value.str t k from r0)
      obtain ⟨dn, rfl, e⟩ := texts_val r1
      exact ⟨(t, k) :: dn, rfl, by rw [List.map_cons, e]⟩
variable {pins : List (Addr × Obj)} {σ : L2.St} {A : Around} {a P : Addr} {vs : List V} {ts : List PySem.Str} {base : Nat} {H : Hp} {R : Result → Shared → Prop}
theorem list_loopH (ha : H a = some (.lst vs)) (hP : H P = none) (hT : ∀ rest, ItemsH X (A.under (.builtin "list.__repr__.loop" ⟨.ref a :: rest, []⟩)) H vs ts) (hsz : base + (listText ts).length ≤ sizeLine) (hE : ∀ e s', X.xe e s' → R (.error e) s')
    (hR : ∀ s' u H', Same H H' → Inv X pins σ H' s' → R (.ok (.ret (.str (listText ts) u))) s') : ∀ (k i : Nat) (s : Shared) (H' : Hp), vs.length - i = k → i ≤ vs.length → Same H H' → H' P = some (.lst ((ts.take i).map V.str)) → Inv X pins σ H' s →
      codeAny (model X.prog X.w) A (.builtin "list.__repr__.loop" ⟨[.ref a, rawInt i, .ref P, rawInt ((base + piled (ts.take i) : Nat) : Int)], []⟩) R s := by
  have hlen : ts.length = vs.length := (hT []).len
  have hX : (listText ts).length = (textFrom 0 "[" ts).length + 1 := by
    show (textFrom 0 "[" ts ++ "]").length = _
    rw [strLen_append]
    rfl
  obtain ⟨L1, L2, _⟩ := textFrom_len ts 0 "["
  rw [if_neg (Nat.lt_irrefl 0)] at L1
  have z1 : ∀ t ∈ ts, t.length ≤ sizeLine := fun t ht => by have := L2 t ht; omega
  have z3 := piled_le_listText ts
  have naP : a ≠ P := ne_of_none ha hP
  intro k
  induction k with
  | zero =>
    intro i s H' hk hi S hp I
    have ei : i = ts.length := by omega
    subst ei
    rw [List.take_length] at hp ⊢
    obtain ⟨_, its, n, rv, e⟩ := I.hok a _ (S _ _ ha)
    obtain ⟨_, itp, np, rp, ep⟩ := I.hok P _ hp
    obtain ⟨dn, rfl, ed⟩ := texts_val rp
    have hl := rv.length
    refine codeAny_builtin F.entry_list_repr_loop ?_
    show wpAny _ _ (PySem.Builtin.«list.__repr__.loop» ⟨[.ref a, .int (ts.length : Nat) 0, .ref P, .int ((base + piled ts : Nat) : Int) 0], []⟩) _ _ s
    rw [repr_loop_tree]
    refine wpAny_bind (wpAny_listItems e rfl ?_)
    have hn : its.toArray[((ts.length : Nat) : Int).toNat]? = none := by simp; omega
    simp only [hn]
    unfold reprEnd
    refine wpAny_bind (wpAny_listItems ep rfl ?_)
    rw [List.toList_toArray, repr_fold, ed]
    exact wpAny_bind (wpAny_pure (wpAny_bind (wpAny_mkStr (wpAny_pure (hR _ _ _ S (I.tok _))) (show (listText ts).length ≤ sizeLine by omega))))
  | succ k ih =>
    intro i s H' hk hi S hp I
    obtain ⟨va, its, n, rv, e⟩ := I.hok a _ (S _ _ ha)
    have hl := rv.length
    have li : i < vs.length := by omega
    obtain ⟨u, hu, ru⟩ := rv.get (List.getElem?_eq_getElem li)
    refine codeAny_builtin F.entry_list_repr_loop ?_
    show wpAny _ _ (PySem.Builtin.«list.__repr__.loop» ⟨[.ref a, .int i 0, .ref P, .int ((base + piled (ts.take i) : Nat) : Int) 0], []⟩) _ _ s
    rw [repr_loop_tree]
    refine wpAny_bind (wpAny_listItems e rfl ?_)
    have hs : its.toArray[((i : Nat) : Int).toNat]? = some u := by simpa using hu
    simp only [hs]
    obtain ⟨t, ht, hit⟩ := (hT _).at (List.getElem?_eq_getElem li)
    have p1 := piled_take_succ ht
    have p2 := piled_take_le ts (i + 1)
    rw [Int.toNat_natCast]
    refine wpAny_bind (wpAny_holding (wpAny_mono (hit pins σ _ u (base + piled (ts.take i) + 1) s _ S I ru (by omega) fun s1 H2 S2 I1 => ?_) (fun _ _ z => z) (fun x s' z => hE x s' z)))
    refine wpAny_bind (wpAny_mkStr ?_ (z1 t (List.mem_of_getElem? ht)))
    have I1 := I1.tok (s1.toks + 1)
    have hp2 := S2 _ _ hp
    obtain ⟨_, itp, np, rp, ep⟩ := I1.hok P _ hp2
    have lp := rp.length
    rw [List.length_map, List.length_take] at lp
    refine wpAny_bind ?_
    show wpAny _ _ (updateSeq P _) _ _ _
    have va : vs.length ≤ sizeLine := va
    have zz : itp.length ≤ sizeLine := by rw [← lp]; exact Nat.le_trans (Nat.min_le_left _ _) (Nat.le_trans hi va)
    refine wpAny_updateSeq ep rfl (wpAny_pure ⟨F.quiet_list_repr_loop _, ?_⟩) (by rw [List.size_toArray]; exact zz) (by simp; omega)
    have q1 : ((i : Int) + 1) = ((i + 1 : Nat) : Int) := by omega
    have q2 : base + piled (ts.take i) + (t.length + 2) = base + piled (ts.take (i + 1)) := by omega
    rw [q1, q2]
    refine ih (i + 1) _ (upd H2 P (.lst ((ts.take (i + 1)).map V.str))) (by omega) li (fun b o z => by rw [upd_ne (ne_of_none z hP)]; exact S2 _ _ (S _ _ z)) upd_same ?_
    have ex : (ts.take (i + 1)).map V.str = (ts.take i).map V.str ++ [V.str t] := by rw [List.take_add_one, ht, List.map_append]; rfl
    have W := I1.write (x := P) (e := P) (o := .lst ((ts.take i).map V.str ++ [V.str t])) (t' := s1.toks + 1) (h' := s1.heap.update P (Obj.mapSeq (·.push (.str t s1.toks)))) (by rw [hp2]; trivial) (.inl rfl) (fun b o hb z => (Heap.get?_update_other _ _ (Ne.symm hb)).trans z) ⟨_, Heap.get?_update_self _ ep rfl⟩
      ⟨by rw [List.length_append, List.length_map, List.length_take]; show _ + 1 ≤ _; omega, itp ++ [.str t s1.toks], np + 1, rp.append (.cons ⟨_, rfl⟩ .nil), by rw [Heap.get?_update_self _ ep rfl]; simp [Obj.mapSeq]⟩
    rw [ex]
    exact W
end
end SK
namespace SK
open PySem PySem.Spec PyProof.Rows L2 SF SQ L2H
/-- where a repr runs below the reprs of the things at en: what surrounds it, and room for k and n more -/
structure RA (X : Cx) (k n : Nat) (en : List Addr) (A : Around) : Prop where
  fr : A.frames = X.A.frames
  hd : A.handled = X.A.handled
  room : RoomH (k + n) A
  gd : ∃ g, A.guards = some g ∧ ∀ b, b ∉ en → Clear g b
theorem depth_g {A : Around} {args : Args} : (A.under (.builtin "tuple.__repr__.under" args)).depth = A.depth + 1 ∧ (A.under (.builtin "list.__repr__.loop" args)).depth = A.depth + 1 ∧ (A.under (.builtin "tuple.__repr__" args)).depth = A.depth + 1 := by
  refine ⟨?_, ?_, ?_⟩ <;> first | rfl | simp [Around.under, Code.weight, Code.isCreation, Code.isGuard, Code.isCaller, Code.frames, Code.isFrame, guardIds]
theorem RA.under {X : Cx} {k n : Nat} {en : List Addr} {A : Around} {a : Addr} (r : RA X k (n + 1) en A) {id : String} {rest : List Value} (hg : (Code.builtin id ⟨.ref a :: rest, []⟩).isGuard = true) (hu : (A.under (.builtin id ⟨.ref a :: rest, []⟩)).units = A.units + 1) (hd : (A.under (.builtin id ⟨.ref a :: rest, []⟩)).depth = A.depth + 1)
    (hf : (Code.builtin id ⟨.ref a :: rest, []⟩).envs = []) : RA X k n (a :: en) (A.under (.builtin id ⟨.ref a :: rest, []⟩)) := by
  obtain ⟨g, g1, g2⟩ := r.gd
  obtain ⟨d1, d2⟩ := r.room
  exact ⟨(frames_u hf).trans r.fr, (handled_u).trans r.hd, ⟨by omega, by omega⟩, _, guards_under_guard hg g1, fun b hb => (g2 b fun z => hb (List.mem_cons_of_mem _ z)).cons fun z => hb (by rw [z]; exact List.mem_cons_self)⟩
section
variable {X : Cx} {k n : Nat} {en : List Addr} {A : Around} {a : Addr} {vs : List V} {ts : List PySem.Str} {H0 : Hp}
/-- a tuple below other reprs -/
theorem item_tup (r : RA X k (n + 1) en A) (ha : H0 a = some (.tup vs)) (hn : a ∉ en) (hT : ∀ A', RA X k n (a :: en) A' → ItemsH X A' H0 vs ts) : ItemH X A H0 (.ref a) (tupleText ts) := by
  intro pins σ H u b s Q S I ru hz q
  cases (show u = Value.ref a from ru)
  obtain ⟨g, g1, g2⟩ := r.gd
  have hr := r.room
  refine SFx.under_tupJ (J := fun s => ∃ H', Same H H' ∧ Inv X pins σ H' s) (g := g) (by have := hr.un; omega) (fun s t ⟨H', S', z⟩ => ⟨H', S', z.tok _⟩) g1 (g2 a hn) (fun s ⟨H', S', z⟩ => ?_) b s Q hz ⟨H, Same.refl _, I⟩ fun s' ⟨H', S', z⟩ => q s' H' S' z
  obtain ⟨_, its, rv, o, e1, e2, m, e3⟩ := (show ObjOk X.prog X.w H' s.heap a (.tup vs) from z.hok a _ (S' _ _ (S _ _ ha)))
  exact ⟨o, its.toArray, m, e1, e2, e3, fun b' => by
    rw [List.toList_toArray]
    exact (hT _ (r.under (isGuard_tuple_repr_under _) (units_under_tuple_repr_under _ _) depth_g.1 rfl)).j S rv⟩
/-- a list below other reprs -/
theorem item_lst (r : RA X k (n + 1) en A) (ha : H0 a = some (.lst vs)) (hn : a ∉ en) (hT : ∀ A', RA X k n (a :: en) A' → ItemsH X A' H0 vs ts) : ItemH X A H0 (.ref a) (listText ts) := by
  intro pins σ H u b s Q S I ru hz q
  cases (show u = Value.ref a from ru)
  obtain ⟨g, g1, g2⟩ := r.gd
  have hr := r.room
  have hu : A.units < cLine := by have := hr.un; omega
  have ha' := S _ _ ha
  obtain ⟨va, its, m, rv, e⟩ := I.hok a _ ha'
  have items : ∀ rest, ItemsH X (A.under (.builtin "list.__repr__.loop" ⟨.ref a :: rest, []⟩)) H vs ts := fun rest => (hT _ (r.under (id := "list.__repr__.loop") (rest := rest) (isGuard_list_loop _) (units_under_list_loop _ _) depth_g.2.1 rfl)).up S
  cases vs with
  | nil =>
    have el : ts = [] := List.eq_nil_of_length_eq_zero (items []).len
    subst el
    cases rv
    exact wpAny_pyReprUnder_ref (by omega) (wpAny_pyReprObjUnder_list_empty ⟨_, e, rfl⟩ hu e rfl ⟨_, _, rfl, q _ H (Same.refl _) (I.tok _)⟩)
  | cons v0 vr =>
    cases rv with
    | cons r0 rr =>
      rename_i u0 ur
      refine wpAny_pyReprUnder_ref (by omega) (wpAny_pyReprObjUnder_twin (twin := "list.__repr__.under") ⟨_, e, rfl⟩ F.slot_list_repr.toG rfl hu (call_twin_plain F.plain_list_repr_under F.entry_list_repr_under F.check_list_repr_under ⟨_, e, rfl⟩ F.slot_list_repr.toG (F.args_list_repr_1 _) ?_))
      refine wpAny_list_repr_head (A := A.in1) g1 (fun v rest kw hm => listSameRef_of_ne (g2 a hn _ _ _ _ hm)) e rfl (wpAny_bind (m := newList []) (wpAny_newObj_type (wpAny_pure ⟨F.quiet_list_repr_loop _, ?_⟩)))
      have hP : H s.heap.objs.size = none := I.hok.fresh (Nat.le_refl _)
      have I2 := I.laid (t' := s.toks) (a := s.heap.objs.size) (o := .lst []) (h' := s.heap.push { cls := .type "list", data := .seq ([] : List Value).toArray }) (fun b o z => Heap.get?_push_of_some _ z) (Nat.le_refl _) ⟨Nat.zero_le _, [], 0, .nil, Heap.get?_push_size _ rfl⟩
      have L := list_loopH (X := X) (pins := pins) (σ := σ) (A := A) (a := a) (P := s.heap.objs.size) (base := b) (H := H) (R := callEnd (fun v s' => (∃ x t, v = Value.str x t) ∧ ∃ y t, v = Value.str y t ∧ Q y s') X.xe) ha' hP items hz (fun e s' z => z) (fun s' u H' S' I' => ⟨⟨_, _, rfl⟩, _, _, rfl, q s' H' S' I'⟩)
        _ 0 _ _ rfl (Nat.zero_le _) (same_new (Same.refl _) hP) upd_same I2
      exact L
end
section
variable {X : Cx} {A : Around} {H0 : Hp}
theorem item_is {v : V} {t : PySem.Str} (h : ∀ u, RelV v u → ReprIs X.prog X.w u t) : ItemH X A H0 v t := fun pins σ H u b s Q S I ru hz q => h u ru b hz A X.xe s Q fun tk => q _ H (Same.refl _) (I.tok tk)
theorem item_non : ItemH X A H0 .non "None" := item_is fun u ru => by
  cases (show u = Value.none from ru)
  exact ReprIs.none
theorem item_bl (b : Bool) : ItemH X A H0 (.bl b) (if b then "True" else "False") := item_is fun u ru => by
  cases (show u = Value.bool b from ru)
  exact ReprIs.bool b
theorem item_int {i : Int} (h : i.natAbs.log2 < 1920) : ItemH X A H0 (.int i) (toString i) := item_is fun u ru => by
  obtain ⟨t, rfl⟩ := (show ∃ t, u = Value.int i t from ru)
  exact ReprIs.int t h
theorem item_str {y : PySem.Str} (h : (reprText y).length ≤ sizeLine) : ItemH X A H0 (.str y) (reprText y) := item_is fun u ru => by
  obtain ⟨t, rfl⟩ := (show ∃ t, u = Value.str y t from ru)
  exact ReprIs.str y t h
/-- an own instance below other reprs -/
theorem item_own {k n : Nat} {en : List Addr} {C f a : Addr} {sp : Sp} {y : PySem.Str} (r : RA X k n en A) (hs : PySem.W.findIn X.K (.ref C) "__repr__" = some (some (.ref f))) (hf : PySem.W.isFn X.K (.ref f) = true) (R : RunAny X k f sp E0)
    (ho : ∃ dx fs, H0 a = some (.ins C dx fs)) (hq : ∀ H, Same H0 H → ∀ Q : VK, (∀ H', Same H H' → Q (.str y) H') → sp [.ref a] H Q E0) : ItemH X A H0 (.ref a) y := by
  intro pins σ H u b s Q S I ru hz q
  cases (show u = Value.ref a from ru)
  obtain ⟨dx, fs, e⟩ := ho
  obtain ⟨od, J⟩ := inst_of I (S _ _ e)
  have hr := r.room
  refine SFx.under_own (by omega) (by have := hr.un; omega) I.kIn J hs hf ?_
  refine wpAny_mono (R A pins σ H s (fun v H' => v = .str y ∧ Same H H') [.ref a] [.ref a] r.fr r.hd (hr.mono (by omega)) I (.cons rfl .nil) (hq H S _ fun H' S' => ⟨rfl, S'⟩)) (fun v s2 z => ?_) fun _ _ e => e
  obtain ⟨v', H', I2, rv2, rfl, S'⟩ := z
  obtain ⟨t, rfl⟩ := (show ∃ t, v = Value.str y t from rv2)
  exact ⟨y, t, rfl, q s2 H' S' I2⟩
end
end SK

/-! What repr shows of plain things, fractions and series in tuples and lists. -/
namespace SK
open PySem PySem.Spec PyProof.Rows L2 SF SQ L2H
mutual
/-- repr of v, below the things at en and with at most n levels of its own, is t; PN: the size of fractions -/
inductive Sv (C S : Addr) (N : Nat) (H : Hp) : Nat → List Addr → V → PySem.Str → Prop
  | non {n en} : Sv C S N H n en .non "None"
  | bl {n en} (b : Bool) : Sv C S N H n en (.bl b) (if b then "True" else "False")
  | int {n en} {i : Int} : i.natAbs.log2 < 1920 → Sv C S N H n en (.int i) (toString i)
  | str {n en} {y : PySem.Str} : (reprText y).length ≤ sizeLine → Sv C S N H n en (.str y) (reprText y)
  | fr {n en} {a : Addr} {q : Rat} : RQ C H a N q → Sv C S N H n en (.ref a) (rrepr q)
  | ser {n en} {a : Addr} {rs : List Ent} : SerAt C S N H a rs → Sv C S N H n en (.ref a) (srepr rs)
  | tup {n en} {a : Addr} {vs : List V} {ts : List PySem.Str} : H a = some (.tup vs) → a ∉ en → SvAll C S N H n (a :: en) vs ts → Sv C S N H (n + 1) en (.ref a) (tupleText ts)
  | lst {n en} {a : Addr} {vs : List V} {ts : List PySem.Str} : H a = some (.lst vs) → a ∉ en → SvAll C S N H n (a :: en) vs ts → Sv C S N H (n + 1) en (.ref a) (listText ts)
  | dct {n en} {a : Addr} : H a = some (.dK []) → a ∉ en → Sv C S N H (n + 1) en (.ref a) (dictText [])
inductive SvAll (C S : Addr) (N : Nat) (H : Hp) : Nat → List Addr → List V → List PySem.Str → Prop
  | nil {n en} : SvAll C S N H n en [] []
  | cons {n en} {v : V} {t : PySem.Str} {vs : List V} {ts : List PySem.Str} : Sv C S N H n en v t → SvAll C S N H n en vs ts → SvAll C S N H n en (v :: vs) (t :: ts)
end
theorem rq_same {C : Addr} {H H' : Hp} {a : Addr} {n : Nat} {q : Rat} (x : RQ C H a n q) (s : Same H H') : RQ C H' a n q := let ⟨⟨dx, e⟩, y⟩ := x; ⟨⟨dx, s _ _ e⟩, y⟩
theorem ser_same {C S : Addr} {N : Nat} {H H' : Hp} {a : Addr} {rs : List Ent} (x : SerAt C S N H a rs) (s : Same H H') : SerAt C S N H' a rs := by
  obtain ⟨dx, t, vs, e1, e2, hv, hl⟩ := x
  exact ⟨dx, t, vs, s _ _ e1, s _ _ e2, hv.imp fun v r z => z.same s, hl⟩
section
variable {X : Cx} {k n : Nat} {en : List Addr} {A : Around} {H0 : Hp} {a : Addr}
theorem item_dct (r : RA X k (n + 1) en A) (ha : H0 a = some (.dK [])) (hn : a ∉ en) : ItemH X A H0 (.ref a) (dictText []) := by
  intro pins σ H u b s Q S I ru hz q
  cases (show u = Value.ref a from ru)
  obtain ⟨g, g1, g2⟩ := r.gd
  have hr := r.room
  obtain ⟨_, hsys, vs, kv, o, es, ep, e, hc, hd, hx⟩ := I.hok a _ (S _ _ ha)
  cases kv
  have e0 : es.toList = [] := by
    generalize es.toList = l at hx
    cases hx.2.1
    rfl
  exact ReprK.dict (as := []) (d := 0) (ps := []) e hc.1 hd hsys (by simp) (by rw [e0]; exact .nil) b hz A g X.xe s Q g1 (fun c hc' => by rw [List.mem_singleton.mp hc']; exact g2 a hn) (by have := hr.un; omega) (fun _ _ z => z) fun h' tk hk => q _ H (Same.refl _) (I.kept hk)
/-- where the own classes' __repr__ stand -/
structure Own (X : Cx) (k : Nat) (C S fC fS : Addr) (spS : Sp) : Prop where
  hC : PySem.W.findIn X.K (.ref C) "__repr__" = some (some (.ref fC))
  iC : PySem.W.isFn X.K (.ref fC) = true
  rC : RunAny X k fC (spRepr C) E0
  hS : PySem.W.findIn X.K (.ref S) "__repr__" = some (some (.ref fS))
  iS : PySem.W.isFn X.K (.ref fS) = true
  rS : RunAny X k fS spS E0
mutual
theorem Sv.item {C S fC fS : Addr} {spS : Sp} {N : Nat} (hN : N ≤ 1900) (O : Own X k C S fC fS spS) (hsp : ∀ a rs H (Q : VK), SerAt C S N H a rs → (∀ H', Same H H' → Q (.str (srepr rs)) H') → spS [.ref a] H Q E0) : ∀ {n : Nat} {en : List Addr} {v : V} {t : PySem.Str} {A : Around}, RA X k n en A → Sv C S N H0 n en v t → ItemH X A H0 v t
  | _, _, _, _, _, _, .non => item_non
  | _, _, _, _, _, _, .bl b => item_bl b
  | _, _, _, _, _, _, .int h => item_int h
  | _, _, _, _, _, _, .str h => item_str h
  | _, _, _, _, _, r, .fr h => by
    obtain ⟨⟨dx, e⟩, y⟩ := id h
    exact item_own r O.hC O.iC O.rC ⟨dx, _, e⟩ fun H S Q q => ⟨_, N, _, rfl, rq_same h S, hN, q H (Same.refl _)⟩
  | _, _, _, _, _, r, .ser h => by
    obtain ⟨dx, t, vs, e, y⟩ := id h
    exact item_own r O.hS O.iS O.rS ⟨dx, _, e⟩ fun H S Q q => hsp _ _ H Q (ser_same h S) q
  | _, _, _, _, _, r, .tup e hn h => item_tup r e hn fun A' r' => SvAll.items hN O hsp r' h
  | _, _, _, _, _, r, .lst e hn h => item_lst r e hn fun A' r' => SvAll.items hN O hsp r' h
  | _, _, _, _, _, r, .dct e hn => item_dct r e hn
theorem SvAll.items {C S fC fS : Addr} {spS : Sp} {N : Nat} (hN : N ≤ 1900) (O : Own X k C S fC fS spS) (hsp : ∀ a rs H (Q : VK), SerAt C S N H a rs → (∀ H', Same H H' → Q (.str (srepr rs)) H') → spS [.ref a] H Q E0) : ∀ {n : Nat} {en : List Addr} {vs : List V} {ts : List PySem.Str} {A : Around}, RA X k n en A → SvAll C S N H0 n en vs ts → ItemsH X A H0 vs ts
  | _, _, _, _, _, _, .nil => .nil
  | _, _, _, _, _, r, .cons h t => .cons (Sv.item hN O hsp r h) (SvAll.items hN O hsp r t)
end
/-- repr of a tuple of such -/
def rSv (C S : Addr) (N n : Nat) : List V → Hp → VK → Prop := fun xs H Q => ∃ (p : Addr) (vs : List V) (ts : List PySem.Str), xs = [V.ref p] ∧ H p = some (.tup vs) ∧ SvAll C S N H n [p] vs ts ∧ (tupleText ts).length ≤ sizeLine ∧ ∀ H', Same H H' → Q (.str (tupleText ts)) H'
theorem mono_rSv {C S : Addr} {N n : Nat} : SFT.Mono (rSv C S N n) := fun xs H Q Q' h ⟨p, vs, ts, e1, e2, e3, e4, q⟩ => ⟨p, vs, ts, e1, e2, e3, e4, fun H' s => h _ _ (q H' s)⟩
theorem call_reprSv {C S fC fS : Addr} {spS : Sp} {N : Nat} (hN : N ≤ 1900) (O : Own X k C S fC fS spS) (hsp : ∀ a rs H (Q : VK), SerAt C S N H a rs → (∀ H', Same H H' → Q (.str (srepr rs)) H') → spS [.ref a] H Q E0) (hg : X.A.guards = some []) (hr : RoomH (k + n + 2) X.A) : CallR X (.builtin "repr") (rSv C S N n) := by
  intro pins s σ H xs us Q I r h
  obtain ⟨p, vs, ts, rfl, ep, hv, hz, q⟩ := h
  obtain ⟨u, rfl, ru⟩ := r.one
  cases (show u = Value.ref p from ru)
  obtain ⟨_, its, rv, o, e1, e2, m, e3⟩ := (show ObjOk X.prog X.w H s.heap p (.tup vs) from I.hok p _ ep)
  have hu := hr.un
  have hd := hr.dp
  refine call_repr_slot (by omega) ⟨o, e1, e2⟩ F.slot_tuple_repr ?_
  have ra : RA X k n [p] (X.A.in1.under (.builtin "tuple.__repr__" ⟨[.ref p], []⟩)) := by
    refine ⟨frames_u rfl, rfl, ⟨?_, ?_⟩, _, guards_under_guard (isGuard_tuple_repr _) (show X.A.in1.guards = some [] from hg), fun b hb => (Clear.nil b).cons fun z => hb (by rw [z]; exact List.mem_cons_self)⟩
    · have h1 := depth_tr (A := X.A.in1) (args := ⟨[.ref p], []⟩)
      have h2 : X.A.in1.depth = X.A.depth := rfl
      omega
    · rw [units_under_tuple_repr]
      show X.A.units + 1 + 1 + 16 * (k + n) + 200 < cLine
      omega
  refine SFx.call_tupJ (J := fun s' => ∃ H', Same H H' ∧ Inv X pins σ H' s') (g := []) e2 e3 e1 (fun s' t ⟨H', S', z⟩ => ⟨H', S', z.tok _⟩) hg (Clear.nil _) (by rw [List.toList_toArray]; exact (SvAll.items hN O hsp ra hv).j (Same.refl _) rv) ⟨H, Same.refl _, I⟩ (fun s' t ⟨H', S', z⟩ => ⟨_, _, rfl, .str _, H', z, ⟨t, rfl⟩, q H' S'⟩) hz
end
end SK

/-! _law_number, _law_good: entries that are given. -/
namespace T08
open PySem PySem.Spec PyProof.Rows L2 SF SQ SFT L2H LamX TL SK
/-- the pair stands in its slot -/
def GP (q : Rat) : L2.St → Hp → Prop := fun σ H => ∃ p, σ[0]? = some (some (.ref p)) ∧ PQ H p PN q
theorem GP.gs {q : Rat} : GS (GP q) := fun σ H H' ⟨p, a, b, c⟩ S => ⟨p, a, S _ _ b, c⟩
theorem vP {X : Cx} {e : Expr} {q : Rat} (h : PE X e (tVar 0)) : PE X e (TP (GP q) PN q True) := pe_weak h fun σ H Q ⟨⟨p, a, b⟩, _, z⟩ => ⟨_, a, z p H (Same.refl _) b⟩
def spMkN (C : Addr) : Sp := fun vs H Q _ => ∃ a q, vs = [.ref a] ∧ PQ H a PN q ∧ ∀ b H', Same H H' → RQ C H' b PN q → Q (.ref b) H'
def spGood (C : Addr) : Sp := fun vs H Q _ => ∃ a : Addr, vs = [.ref a] ∧ SrcAt H a ∧ ∀ r v H', SK.GN C PN H' v r → SrcAt H' a → But a H H' → Q v H'
section
variable {P : Program} {w : World} {K : PySem.W.Frag} {mg : Str → Option Value} {base : Heap} {C : Addr}
theorem ok_MkN (T : Tx K mg C) : FnOk P w K mg base CX0 4 T.aMkN T.dMkN ["_law_pair_here"] (spMkN C) := by
  refine T.FMkN.ok scMkN (fun vs H Q E h => ?_) (fun cdv A outer s H vs Q E hr h => ?_)
  · obtain ⟨a, q, rfl, _⟩ := h
    rfl
  · obtain ⟨a, q, rfl, ⟨ra, sz⟩, z⟩ := h
    refine ⟨_, pss_one (ps_ret (pq_make (G := GP q) (n := PN) T.M (ok_init T) T.b2 hr (by rfl) T.rc.mgC GP.gs (pI_p0 (vP (pv 0))) (pI_p1 (vP (pv 0))) sz.1 (show (q.den : Int).natAbs < 2 ^ PN from sz.2))), ?_⟩
    refine ⟨⟨a, rfl, ra, sz⟩, ⟨trivial, trivial, (by show (q.den : Int) ≠ 0; have := q.den_nz; omega), (by decide)⟩, fun v H' S nv => ?_⟩
    obtain ⟨b, rfl, rq⟩ := nv_true nv
    rw [Rat.num_divInt_den] at rq
    exact z b H' S rq
theorem ok_Good (T : Tx K mg C) : FnOk P w K mg base CX0 5 T.aGood T.dGood ["_law_source_here"] (spGood C) := by
  have GD : FnOk P w K mg base CX0 4 T.aDraw T.dDraw ["_law_source_here", "_law_many"] spDraw := (ok_draw T.FDraw T.blt).mono (by decide)
  have GW : FnOk P w K mg base CX0 4 T.aWho T.dWho ["_law_source_here"] spWhole := (ok_whole T.FWho T.FDraw T.bDraw T.gDraw T.blt).mono (by decide)
  have GP : FnOk P w K mg base CX0 4 T.aPair T.dPair ["_law_source_here"] spPair := (ok_pair T).mono (by decide)
  have GM : FnOk P w K mg base CX0 4 T.aMkN T.dMkN ["_law_pair_here"] (spMkN C) := ok_MkN T
  refine T.FGood.ok scGood (fun vs H Q E h => ?_) (fun cdv A outer s H vs Q E hr h => ?_)
  · obtain ⟨a, rfl, _⟩ := h
    rfl
  · obtain ⟨a, rfl, hs, q⟩ := h
    refine ⟨_, (pss_cons (ps_set (i := 1) scGood.nd rfl (.inl rfl) (pe_call GD hr (by rfl) T.gDraw T.FDraw.kp T.bDraw .nil pass0 (pa_cons (pv 0) (pa_cons pe_int pa_nil))))
      (pss_cons (ps_if (pt_cmpR op_eq (pv 1) pe_int (nomark _)) (pss_one (ps_ret pe_non)) pss_nil)
      (pss_one (ps_ret (pe_ifExp (pt_cmpR op_eq (pv 1) pe_int (nomark _)) (pe_call GW hr (by rfl) T.gWho T.FWho.kp T.bWho .nil pass0 (pa_cons (pv 0) pa_nil)) (pe_call GM hr (by rfl) T.gMkN T.FMkN.kp T.bMkN .nil pass0 (pa_cons (pe_call GP hr (by rfl) T.gPair T.FPair.kp T.bPair .nil pass0 (pa_cons (pv 0) pa_nil)) pa_nil))))))), ?_⟩
    refine ⟨_, rfl, a, 3, rfl, by decide, by decide, hs, fun d H1 d0 d1 s1 k1 => ⟨_, rfl, rfl, _, rfl, ?_⟩⟩
    refine ite2 (fun _ => ?_) (fun _ => ?_)
    · exact q none .non H1 rfl s1 k1
    refine ⟨_, rfl, rfl, _, rfl, ?_⟩
    refine ite2 (fun _ => ?_) (fun _ => ?_)
    · exact ⟨_, rfl, a, rfl, s1, fun n H2 n0 n1 s2 k2 => q (some (n : Rat)) _ H2 ⟨false, n, rfl, rfl, big_pn n0 n1, by decide⟩ s2 (k1.trans k2)⟩
    · exact ⟨_, rfl, a, rfl, s1, fun x p H2 sz e s2 k2 => ⟨p, x, rfl, ⟨e, sz⟩, fun b H3 S3 rq => q (some x) _ H3 ⟨true, b, rfl, rq⟩ (s2.same S3) ((k1.trans k2).same S3)⟩⟩
end
end T08

/-! What is refused, with the error's context known to be None. -/
namespace T08
open PySem PySem.Spec PyProof.Rows L2 SF SQ SK
section
variable {P : Program} {w : World} {K : PySem.W.Frag} {mg : Str → Option Value} {base : Heap} {C D : Addr} {fI : Addr} {fdI : FuncData}
theorem zw_SIN (T : Tx K mg C) (O : OE P w K mg base "InvalidEntries" D fI fdI) : FnOk P w K mg base (L2N.CX P w) 4 T.aSI T.dSI ["self", "entries"] (spSIX C T.S D) := by
  have GN : FnOk P w K mg base CX0 2 T.aIsN T.dIsN ["value"] (fun vs H Q E => spIsN C vs H Q E ∨ spIsX T.S vs H Q E) := fn_or (ok_isN T) (ok_isNX T)
  refine SQ.Fun.okX T.FSI scSI (fun vs H Q E h => ?_) (fun cdv A outer s H vs Q E hr h => ?_)
  · obtain ⟨p, v, rfl, _⟩ := h
    rfl
  · obtain ⟨p, v, rfl, hv, z⟩ := h
    have hr2 := hr.mono (show 2 ≤ 3 by decide)
    have tk : L2N.Takes (cxOf (L2N.CX P w) P w K mg base ["self", "entries", "entry"] "Series.__init__" (defScope sSI) T.aSI cdv A outer s H E) (fun cls d _ H => E cls d H) := L2N.takes_of (E := E) rfl rfl rfl rfl
    refine ⟨_, (pss_cons (ps_if (pt_not (pt_val (pe_callB call_isi (by rfl) T.rc.isi (by decide +kernel) (pa_cons (pv 1) (pa_cons (pe_bltn (v := .ty "tuple") (u := .type "tuple") (by rfl) T.tup (by decide +kernel) rfl) pa_nil))))) (pss_one (ps_oeN O rfl tk hr2 (by rfl) (pv 1) (fun _ _ _ _ k ⟨v, e, q⟩ => ⟨v, e, k _ _ q⟩))) pss_nil)
      (pss_cons (ps_for (passes_of rfl) rfl (pi_tup (pv 1)) (pg_name (i := 2) scSI.nd rfl (.inl rfl)) (pss_one (ps_if (PW.pt (pw_and (pt_cmpR op_notN (pv 2) pe_non (nomark _)) (pw_and1 (pt_not (pt_val (pe_call GN hr2 (by rfl) T.gIsN T.FIsN.kp T.bIsN .nil pass0 (pa_cons (pv 2) pa_nil))))))) (pss_one (ps_oeN O rfl tk hr2 (by rfl) (pv 1) (fun _ _ _ _ k ⟨v, e, q⟩ => ⟨v, e, k _ _ q⟩))) pss_nil)))
      pss_never)), ?_⟩
    rcases hv with ⟨k, d, hk⟩ | ⟨a, dx, fs, rfl, ha⟩ | ⟨t, xs, rfl, ht, hall, ⟨x0, hx0, hb⟩⟩
    · have d' := d
      cases d with
      | tup e => exact absurd rfl hk
      | non => exact ⟨_, rfl, _, _, _, _, false, rfl, .ty _, d'.typ, kit_ty (by decide +kernel), false, rfl, iteT ⟨_, rfl, z⟩⟩
      | bl b => exact ⟨_, rfl, _, _, _, _, false, rfl, .ty _, d'.typ, kit_ty (by decide +kernel), false, rfl, iteT ⟨_, rfl, z⟩⟩
      | int i => exact ⟨_, rfl, _, _, _, _, false, rfl, .ty _, d'.typ, kit_ty (by decide +kernel), false, rfl, iteT ⟨_, rfl, z⟩⟩
      | str x => exact ⟨_, rfl, _, _, _, _, false, rfl, .ty _, d'.typ, kit_ty (by decide +kernel), false, rfl, iteT ⟨_, rfl, z⟩⟩
      | lst e => exact ⟨_, rfl, _, _, _, _, false, rfl, .ty _, d'.typ, kit_ty (by decide +kernel), false, rfl, iteT ⟨_, rfl, z⟩⟩
      | dK e => exact ⟨_, rfl, _, _, _, _, false, rfl, .ty _, d'.typ, kit_ty (by decide +kernel), false, rfl, iteT ⟨_, rfl, z⟩⟩
    · exact ⟨_, rfl, _, _, _, _, false, rfl, .ty _, T.tyS ha, T.kST _ (by decide), false, rfl, iteT ⟨_, rfl, z⟩⟩
    · refine ⟨_, rfl, _, _, _, _, true, rfl, .ty _, (Dec.tup ht).typ, kit_ty (by decide +kernel), true, rfl, iteF ?_⟩
      refine ⟨_, rfl, t, rfl, ⟨_, SqT.of ht⟩, for_tup (xs := xs) (fun i σ' H' => H' = H ∧ (∃ o, σ' = [some (.ref p), some (.ref t), o]) ∧ ∀ j, j < i → ∀ x, xs[j]? = some x → OkE C H x) ⟨rfl, ⟨_, rfl⟩, fun j hj => by omega⟩ (fun i σ' H' _ hh => by rw [hh.1]; exact SqT.of ht) ?_ ?_⟩
      · rintro i x σ' H' hx ⟨rfl, ⟨o, rfl⟩, hok⟩
        have nxt : OkE C H' x → ∀ j, j < i + 1 → ∀ y, xs[j]? = some y → OkE C H' y := fun hh j hj y hy => by
          by_cases e : j = i
          · subst e; rw [hx] at hy; cases hy; exact hh
          · exact hok j (by omega) y hy
        refine ⟨_, rfl, rfl, _, rfl, ?_⟩
        rcases hall x (List.mem_of_getElem? hx) with h | h
        · rcases h with rfl | ⟨j, rfl⟩ | h
          · exact iteF ⟨rfl, ⟨_, rfl⟩, nxt (.inl rfl)⟩
          · exact iteT ⟨_, rfl, .inl ⟨_, rfl, .inl ⟨_, .int j, _, rfl, iteF ⟨rfl, ⟨_, rfl⟩, nxt (.inr (.inl ⟨j, rfl⟩))⟩⟩⟩⟩
          · have h' := h
            obtain ⟨a, dx, fs, rfl, ha⟩ := h
            exact iteT ⟨_, rfl, .inl ⟨_, rfl, .inr ⟨h', _, rfl, iteF ⟨rfl, ⟨_, rfl⟩, nxt (.inr (.inr h'))⟩⟩⟩⟩
        · rcases h with ⟨k, d, hi, hn⟩ | h
          · have e : decide (x = V.non) = false := decide_eq_false hn
            rw [e]
            exact iteT ⟨_, rfl, .inl ⟨_, rfl, .inl ⟨_, d, _, rfl, by rw [hi]; exact iteT ⟨_, rfl, z⟩⟩⟩⟩
          · have h' := h
            obtain ⟨a, dx, fs, rfl, ha⟩ := h
            exact iteT ⟨_, rfl, .inr ⟨_, rfl, h', _, rfl, iteT ⟨_, rfl, z⟩⟩⟩
      · rintro σ' H' ⟨rfl, ⟨o, rfl⟩, hok⟩
        obtain ⟨i, hi, e⟩ := List.getElem_of_mem hx0
        have ok := hok i hi x0 (by rw [List.getElem?_eq_getElem hi, e])
        exfalso
        rcases hb with ⟨k, d, hi, hn⟩ | ⟨a, dx, fs, rfl, ha⟩
        · rcases ok with rfl | ⟨j, rfl⟩ | ⟨a, dx, fs, rfl, ha⟩
          · exact hn rfl
          · cases hi
          · cases d with
            | lst e => rw [ha] at e; cases e
            | tup e => rw [ha] at e; cases e
            | dK e => rw [ha] at e; cases e
        · rcases ok with e | ⟨j, e⟩ | ⟨a', dx', fs', e, ha'⟩
          · cases e
          · cases e
          · cases e
            rw [ha] at ha'
            have e2 := (HO.ins.inj (Option.some.inj ha')).1
            exact absurd T.kSC (by rw [e2, T.rc.kC]; decide)
/-- what is no text -/
def NoT (C S : Addr) (H : Hp) (v : V) : Prop := (∃ k, Dec H v k ∧ k ≠ "str") ∨ IsIns C H v ∨ IsIns S H v
def spSRW (C S D : Addr) : Sp := fun vs H _ E => ∃ v, vs = [.ref S, v] ∧ NoT C S H v ∧ ErrG E D v H
theorem zw_SRW (T : Tx K mg C) (O : OE P w K mg base "InvalidText" D fI fdI) : FnOk P w K mg base (L2N.CX P w) 4 T.aSR T.dSR ["cls", "text"] (spSRW C T.S D) := by
  refine SQ.Fun.okX T.FSR scSR (fun vs H Q E h => ?_) (fun cdv A outer s H vs Q E hr h => ?_)
  · obtain ⟨v, rfl, _⟩ := h
    rfl
  · obtain ⟨v, rfl, hv, z⟩ := h
    have hr2 := hr.mono (show 2 ≤ 3 by decide)
    refine ⟨_, (pss_cons (ps_if (pt_not (pt_val (pe_callB call_isi (by rfl) T.rc.isi (by decide +kernel) (pa_cons (pv 1) (pa_cons (pe_bltn (v := .ty "str") (u := .type "str") (by rfl) T.rc.str_ (by decide +kernel) rfl) pa_nil))))) (pss_one (ps_oeN O rfl (L2N.takes_of (E := E) rfl rfl rfl rfl) hr2 (by rfl) (pv 1) (fun _ _ _ _ k ⟨v, e, q⟩ => ⟨v, e, k _ _ q⟩))) pss_nil) pss_never), ?_⟩
    rcases hv with ⟨k, d, hk⟩ | ⟨a, dx, fs, rfl, ha⟩ | ⟨a, dx, fs, rfl, ha⟩
    · have d' := d
      cases d with
      | str x => exact absurd rfl hk
      | non => exact ⟨_, rfl, _, _, _, _, false, rfl, .ty _, d'.typ, kit_ty (by decide +kernel), false, rfl, iteT ⟨_, rfl, z⟩⟩
      | bl b => exact ⟨_, rfl, _, _, _, _, false, rfl, .ty _, d'.typ, kit_ty (by decide +kernel), false, rfl, iteT ⟨_, rfl, z⟩⟩
      | int i => exact ⟨_, rfl, _, _, _, _, false, rfl, .ty _, d'.typ, kit_ty (by decide +kernel), false, rfl, iteT ⟨_, rfl, z⟩⟩
      | tup e => exact ⟨_, rfl, _, _, _, _, false, rfl, .ty _, d'.typ, kit_ty (by decide +kernel), false, rfl, iteT ⟨_, rfl, z⟩⟩
      | lst e => exact ⟨_, rfl, _, _, _, _, false, rfl, .ty _, d'.typ, kit_ty (by decide +kernel), false, rfl, iteT ⟨_, rfl, z⟩⟩
      | dK e => exact ⟨_, rfl, _, _, _, _, false, rfl, .ty _, d'.typ, kit_ty (by decide +kernel), false, rfl, iteT ⟨_, rfl, z⟩⟩
    · exact ⟨_, rfl, _, _, _, _, false, rfl, .ty _, T.tyC ha, T.kCT _ (by decide), false, rfl, iteT ⟨_, rfl, z⟩⟩
    · exact ⟨_, rfl, _, _, _, _, false, rfl, .ty _, T.tyS ha, T.kST _ (by decide), false, rfl, iteT ⟨_, rfl, z⟩⟩
end
end T08

/-! try .. except (A, B, C) as n, and f(lambda: e), where the error's context is known to be None. -/
namespace SK
open PySem PySem.Spec PyProof.Rows L2 SF SFT LamX
section
variable {X : Cx} {x1 x2 x3 n : Str} {c1 c2 c3 : Value} {i kk : Nat} {body suite : List Stmt} {b₀ : Stmt} {np1 np2 np3 tpos pos pos' : Pos} {tb : WX → TS} {ts : Addr → Value → Option Addr → TS}
theorem ps_try_tup3N (hs : X.stack = X.env :: X.outer) (hf : X.env.frame = some X.env.locals) (hN : X.N.Nodup) (hi : X.N[i]? = some n) (hln : X.env.kindOf n = some .local) (hc1 : Names X x1 c1) (hc2 : Names X x2 c2) (hc3 : Names X x3 c3)
    (hb : ∀ (W : WX) (pn : List (Addr × Obj)) (xe : Value → Shared → Prop), (∀ q ∈ X.pn, q ∈ pn) → L2N.Takes (X.tr pn xe) W → PassesOwn (model X.prog X.w) X.A X.env xe → PSs (X.tr pn xe) body (tb W))
    (hsu : ∀ (a : Addr) (oe : Obj) (cls : Value) (d : Option Addr) (pn : List (Addr × Obj)), L2N.Zn cls d oe → (∃ vs, oe.data = .fields vs) → PSs (X.suite a ((a, oe) :: pn)) (b₀ :: suite) (ts a cls d)) :
    PS X (.Try body [.ExceptHandler (some (.Tuple [.Name x1 np1, .Name x2 np2, .Name x3 np3] kk tpos)) (some n) (b₀ :: suite) pos'] [] [] pos) (fun D σ H => tb (wTup X.K [c1, c2, c3] i ts D) D σ H) := by
  refine ⟨fun pins s σ H D I h => ?_⟩
  have ok := I.ok
  have hfr : X.A.frames = some (X.env :: X.outer) := by rw [ok.frames, hs]
  have hloc : Loc X.env.scope n := .inl hln
  refine wpAny_Try_except ?_
  refine wpAny_mono ((hb (wTup X.K [c1, c2, c3] i ts D) (X.pn ++ pins) (fun e s₁ => wpAny (model X.prog X.w) X.A (noteFrame e X.env) (fun _ s₂ => wpAny (model X.prog X.w) X.A (setFlight e none) (fun _ s₃ =>
    wpAny (model X.prog X.w) X.A (handleBy e X.env [.ExceptHandler (some (.Tuple [.Name x1 np1, .Name x2 np2, .Name x3 np3] kk tpos)) (some n) (b₀ :: suite) pos']) (SP X pins D) X.xe s₃) X.xe s₂) X.xe s₁) (fun q hq => List.mem_append_left _ hq) (fun u s' xx => ?_) PassesOwn.looking).run [] s σ H D (I.toTry _) h) (fun f s1 hsp => ?_) (fun e s1 he => he)
  · -- the catch
    obtain ⟨a, B, sI, pins', σ', H', cls, d, rfl, J', nb, up, sky, na, os, ag, hb1, hyes⟩ := xx
    have J : Inv X pins σ' H' sI := J'.ofTry ok
    have sky' : Sky B (X.env :: X.outer) a (L2N.Zn cls d) X.env.locals s'.heap := by rw [← hs]; exact sky
    show wpAny (model X.prog X.w) X.A (noteFrame (.ref a) X.env) _ _ _
    refine L2N.Sky.land L2N.Zn.steady hfr hf sky' fun h3 fl3 up3 => ?_
    have J3 : Inv X pins σ' H' { s' with heap := h3 } := J.landed nb fl3.1 (up.trans up3) os ag
    obtain ⟨oe3, vs3, he3, hz3, hd3⟩ := fl3.there
    have notFr : ∀ {h : Heap} {o : Obj} {vs : Array Value}, h.FunFrames B (X.env :: X.outer) → h.get? a = some o → o.data = .fields vs → a ∉ frs (X.env :: X.outer) := fun {h o vs} ff e dd hm => by
      obtain ⟨_, o', e', hnf⟩ := ff.mem hm
      rw [e] at e'; cases e'
      exact hnf _ dd
    have nfr := notFr fl3.2.2.1 he3 hd3
    have nL : a ≠ X.env.locals := fun z => nfr (List.mem_filterMap.mpr ⟨X.env, List.mem_cons_self, by rw [hf, z]⟩)
    have nF : a ∉ X.fs := fun hm => by
      obtain ⟨e, he, q⟩ := List.mem_filterMap.mp hm
      exact nfr (List.mem_filterMap.mpr ⟨e, List.mem_cons_of_mem _ he, q⟩)
    have S3 := J3.suite he3 hd3 na nL nF
    refine wpAny_handleBy_cons (codeAny_handlers_test ?_) (by intro q; cases q)
    have LT : PySem.W.Looks (model X.prog X.w) h3 (typeOf (.ref a)) cls := fun A Q E s k q => wpAny_typeOf_ref (k _ _ he3) (by rw [hz3.1]; exact q)
    have test : ∀ {x : Str} {c : Value} {np : Pos} {Q : Value → Shared → Prop} {E : Value → Shared → Prop}, Names X x c → Q c { s' with heap := h3 } → wpAny (model X.prog X.w) (X.A.mark (some (.ref a))) (eval (.Name x np) X.env) Q E { s' with heap := h3 } := fun {x c np Q E} hc q => by
      obtain ⟨hg, hdbg, hm | ⟨hm, hv, hnn⟩⟩ := hc
      · exact ld_glob (X := X.suite a ((a, oe3) :: (X.pn ++ pins))) S3 hg hm q hdbg
      · exact ld_blt (X := X.suite a ((a, oe3) :: (X.pn ++ pins))) S3 hg hm hv q hnn hdbg
    refine wpAny_Tuple ?_
    refine wpAny_items_cons (test hc1 ?_)
    refine wpAny_items_cons (test hc2 ?_)
    refine wpAny_items_cons (test hc3 ?_)
    refine wpAny_items_nil ⟨by size_fits, ?_⟩
    have kp : ∀ q o, h3.get? q = some o → (h3.push { cls := .type "tuple", data := .seq [c1, c2, c3].toArray }).get? q = some o := fun _ _ z => Heap.get?_push_of_some _ z
    have fl3' := flyingZ_keeps fl3 kp
    have LM := PySem.W.exm_tup3 (M := model X.prog X.w) ((J3.kIn).keeps kp) (LT.keeps kp) (Heap.get?_push_size h3 rfl) hb1
    refine LM.here ?_
    refine codeAny_handlers_suite_as ?_
    refine PySem.HandSPX.lands_againZ (s := { s' with heap := h3.push { cls := .type "tuple", data := .seq [c1, c2, c3].toArray } }) fl3' fun h4 fl4 up4 => ?_
    have J4 : Inv X pins σ' H' { s' with heap := h4 } := J.landed nb fl4.1 (((up.trans up3).trans (Heap.UpToSlots.of_keeps kp)).trans up4) os ag
    obtain ⟨oe4, vs4, he4, hz4, hd4⟩ := fl4.there
    have S4 := J4.suite he4 hd4 na nL nF
    refine store_ok (X := X.suite a ((a, oe4) :: (X.pn ++ pins))) (v := .ref a) S4 hN hi hloc rfl (fun s5 S5 => ?_) (.inr hln)
    refine wpAny_mono ((hsu a oe4 cls d (X.pn ++ pins) hz4 ⟨_, hd4⟩).run [] s5 _ H' _ S5 (hyes a na)) (fun f s6 hsp => ?_) (fun _ _ z => False.elim z)
    have end_ : ∀ {σ6 : L2.St} {H6 : Hp} {Q : Shared → Prop}, Inv (X.suite a ((a, oe4) :: (X.pn ++ pins))) [] σ6 H6 s6 → (∀ s7, Inv X pins (σ6.set i none) H6 s7 → Q s7) →
        wpAny (model X.prog X.w) X.A (do bindName X.env n .none; unbindBehindTheSuite X.env n pos') (fun _ s7 => Q s7) X.xe s6 := fun {σ6 H6 Q} S6 hq => gone_ok (S6.unsuite ok) hN hi hln hq
    cases f with
    | next =>
      obtain ⟨σ6, H6, S6, q6⟩ := hsp
      exact end_ S6 fun s7 J7 => ⟨_, _, J7, q6⟩
    | brk =>
      obtain ⟨σ6, H6, S6, q6⟩ := hsp
      exact end_ S6 fun s7 J7 => ⟨_, _, J7, q6⟩
    | cont =>
      obtain ⟨σ6, H6, S6, q6⟩ := hsp
      exact end_ S6 fun s7 J7 => ⟨_, _, J7, q6⟩
    | ret u =>
      obtain ⟨v6, σ6, H6, S6, r6, q6⟩ := hsp
      exact end_ S6 fun s7 J7 => ⟨_, _, _, J7, r6, q6⟩
  · cases f with
    | next =>
      obtain ⟨σ', H', J', q⟩ := hsp
      exact wpAny_execs_nil ⟨σ', H', J'.ofTry ok, q⟩
    | brk =>
      obtain ⟨σ', H', J', q⟩ := hsp
      exact ⟨σ', H', J'.ofTry ok, q⟩
    | cont =>
      obtain ⟨σ', H', J', q⟩ := hsp
      exact ⟨σ', H', J'.ofTry ok, q⟩
    | ret u =>
      obtain ⟨v, σ', H', J', r, q⟩ := hsp
      exact ⟨v, σ', H', J'.ofTry ok, r, q⟩
end
/-- the lambda's body, its errors' context known -/
def lamCxN (X : Cx) (A : Around) (outer : List PySem.Env) (s : Shared) (H : Hp) (E : XK) (scope : Scope) (f c' : Addr) : Cx :=
  (lamCx X A outer s H E scope f c').wish fun e s' => wpAny (model X.prog X.w) (A.deeper (lamEnv X scope s.heap.objs.size f c')) (leaving (lamEnv X scope s.heap.objs.size f c') e) (fun _ s'' => L2N.CX X.prog X.w outer H s E e s'') (fun e' s'' => L2N.CX X.prog X.w outer H s E e' s'') s'
section
variable {X : Cx} {pins : List (Addr × Obj)} {σ : L2.St} {H : Hp} {s : Shared}
/-- what a def called with the lambda f makes of x() -/
theorem pe_actN {CXg : CXT} {Eg E : XK} {Ng : List Str} {qg a : Str} {sg scope : Scope} {g f c' : Addr} {cdg pm ctv : Value} {params : Arguments} {body : Expr} {k i : Nat} {pn : List (Addr × Obj)} {xe : Value → Shared → Prop} {W : WX} {tb : TE} {p1 p2 : Pos} (I : Inv X pins σ H s) (L : LamS X.env.scope scope)
    (of : s.heap.get? f = some (PySem.W.kla_obj "<lambda>" (X.env.qual ++ "<lambda>") params body scope (cloFrom X.env.cells scope.names []) pm c' ctv)) (nf : H f = none) (ff : f ∉ frs X.stack) (bind : bindArgs (PySem.W.kla_fn "<lambda>" (X.env.qual ++ "<lambda>") params body scope (cloFrom X.env.cells scope.names []) pm (.ref c') ctv) ⟨[], []⟩ = pure [])
    (tk : L2N.Takes ((cxOf CXg X.prog X.w X.K X.mg X.base Ng qg sg g cdg X.A X.stack s H Eg).tr pn xe) W) (hW : ∀ cls d σ' H', E cls d H' → W cls d σ' H') (room : Room (k + 1) (X.A.deeper (envOfC qg sg s.heap.objs.size g cdg)))
    (bd : ∀ (A : Around) (outer : List PySem.Env) (s : Shared) (H : Hp), Room k (A.deeper (lamEnv X scope s.heap.objs.size f c')) → PE (lamCxN X A outer s H E scope f c') body tb) (hN : Ng[i]? = some a) (hv : Vis sg a) (h1 : (a == ("__debug__" : Str)) = false := by decide) (h2 : (a == ("__classdict__" : Str)) = false := by decide) :
    PE ((cxOf CXg X.prog X.w X.K X.mg X.base Ng qg sg g cdg X.A X.stack s H Eg).tr pn xe) (.Call (.Name a p1) [] [] p2) (fun σZ HZ Q => σZ[i]? = some (some (.ref f)) ∧ HZ c' = some (CodeO c' (X.env.qual ++ "<lambda>")) ∧ tb σ HZ Q) := by
  refine ⟨fun pinsZ sZ σZ HZ Q IZ ⟨hs, hc, ht⟩ => wpAny_Call_Name_kw (thn ((pe_var (pos := p1) (i := i) hN hv h1 h2).run pinsZ sZ σZ HZ (fun v H1 => v = .ref f ∧ H1 = HZ) IZ ⟨.ref f, hs, rfl, rfl⟩) fun u s1 ⟨v, H1, I1, r1, q1⟩ => ?_)⟩
  obtain ⟨rfl, rfl⟩ := q1
  cases (show u = Value.ref f from r1)
  have of1 := I1.base.keep f _ of nf ff (fun z => nomatch (show f ∈ ([] : List Addr) from z))
  obtain ⟨⟨oc, vs, t, hoc, hdc, hvc⟩, _, _⟩ := I1.hok c' _ hc
  have run : codeAny (model X.prog X.w) (X.A.deeper (envOfC qg sg s.heap.objs.size g cdg)) (.call (.ref f) ⟨[], []⟩) (CR (L2N.CX X.prog X.w) (envOfC qg sg s.heap.objs.size g cdg :: X.stack) X.prog X.w H1 s1 Q E) s1 := by
    refine PySem.W.kla_callFunE room.depth of1 rfl L.co L.gen rfl ⟨c', oc, vs, t, rfl, hoc, hdc, hvc⟩ ?_
    rw [bind]
    refine wpAny_pure (wpAny_newFunctionEnv (fun y hy => (L.own y hy).2) (fun y hy => by cases hy) (fun h₁ hns hsb => ⟨I1.nolimit.fresh _ hsb, ?_⟩) L.kind)
    show codeAny _ _ (.expr body (lamEnv X scope s1.heap.objs.size f c')) _ _
    have J := (lam_start2 (E := E) (f := f) (c' := c') (h₁ := h₁) (tk := s1.toks + ([] : List (Str × Value)).length) I L I1.env0 room.hd I1.base hns fun b o e => hsb.extBut b o (Nat.ne_of_lt (Heap.lt_size e)) (Heap.get?_push_of_some _ e)).wish fun e s' => wpAny (model X.prog X.w) ((X.A.deeper (envOfC qg sg s.heap.objs.size g cdg)).deeper (lamEnv X scope s1.heap.objs.size f c')) (leaving (lamEnv X scope s1.heap.objs.size f c') e)
      (fun _ s'' => L2N.CX X.prog X.w (envOfC qg sg s.heap.objs.size g cdg :: X.stack) H1 s1 E e s'') (fun e' s'' => L2N.CX X.prog X.w (envOfC qg sg s.heap.objs.size g cdg :: X.stack) H1 s1 E e' s'') s'
    refine PySem.W.kla_codeExpr (wpAny_mono ((bd _ _ s1 H1 (room.deeper _)).run [] _ _ H1 Q J ht) (fun v s' ⟨w', H', J', rv, q⟩ => ⟨w', H', J'.os, J'.bare, J'.base, J'.hok, rv, q⟩) fun e s' z => z)
  refine PySem.W.callWith_F0 ⟨_, _, _, _, of1⟩ (wpAny_call (codeAny_mono run fun r s' z => ?_))
  cases r with
  | error e => exact L2N.passes_call tk hW pinsZ σZ H1 s1 e s' I1 z
  | ok fl =>
    cases fl with
    | ret u => exact I1.after z
    | next => exact z.elim
    | brk => exact z.elim
    | cont => exact z.elim
/-- as LamX.GivesTo, the context of what the lambda lets out known -/
def GivesN (X : Cx) (Ng : List Str) (x : Str) (sg : Scope) (g : Addr) (cdg : Value) (bg : List Stmt) (a q : Str) (TT : (XK → Hp → VK → Prop) → Hp → VK → Prop) : Prop := ∀ (f c' : Addr) (s : Shared) (H : Hp) (Q : VK) (tl : XK → Hp → VK → Prop),
  (∀ (W : WX) (pn : List (Addr × Obj)) (xe : Value → Shared → Prop) (E : XK) (p1 p2 : Pos), L2N.Takes ((cxOf C8.CX0 X.prog X.w X.K X.mg X.base Ng x sg g cdg X.A X.stack s H C8.E0).tr pn xe) W → (∀ cls d σ' H', E cls d H' → W cls d σ' H') →
    PE ((cxOf C8.CX0 X.prog X.w X.K X.mg X.base Ng x sg g cdg X.A X.stack s H C8.E0).tr pn xe) (.Call (.Name a p1) [] [] p2) (fun σZ HZ Q => σZ[0]? = some (some (.ref f)) ∧ HZ c' = some (CodeO c' q) ∧ tl E HZ Q)) → H c' = some (CodeO c' q) → TT tl H Q →
  ∃ t, PSs (cxOf C8.CX0 X.prog X.w X.K X.mg X.base Ng x sg g cdg X.A X.stack s H C8.E0).nox bg t ∧ t { nx := fun _ H' => Q .non H', rt := Q } (L2.start Ng [.ref f]) H
theorem pe_lamcallN {T : List (Addr × Str)} {TT : (XK → Hp → VK → Prop) → Hp → VK → Prop} {x a : Str} {g c P : Addr} {k : Nat} {pg params : Arguments} {bg : List Stmt} {sg scope : Scope} {dV kV doc pm cdv ct oc : Value} {an od : Option Addr} {osl : Array (Option Value)} {Ng : List Str} {body : Expr} {t : XK → TE} {p lpos pos : Pos}
    (hg : Gl X x) (hm : X.mg x = some (.ref g)) (hk : PySem.W.keepIn X.K (.ref g) = true) (lk : X.K.lookup g = some ⟨oc, od, .func (PySem.W.fnOf x x pg bg sg dV kV doc pm an cdv ct), osl⟩) (hcg : PySem.W.codeIn X.K cdv x = true) (hb : L2.Binds X.K (PySem.W.fnOf x x pg bg sg dV kV doc pm an cdv ct) [a] [])
    (Sg : FnScope Ng [a] sg) (hNg : Ng[0]? = some a) (hva : Vis sg a) (hG : GivesN X Ng x sg g cdv bg a (X.env.qual ++ "<lambda>") TT) (TB : TabB X.base X.mg c P) (hcode : X.env.code = .ref c) (hmT : (P, X.env.qual ++ "<lambda>") ∈ T) (hu : ∀ p ∈ T, p.1 = P → p.2 = X.env.qual ++ "<lambda>") (hr : Room (k + 2) X.A) (L : LamS X.env.scope scope)
    (hdef : defaultsOf params X.env = ([], [])) (hbind : ∀ (q : Str) (cl : List (Str × Addr)) (pm cv ctv : Value), bindArgs (PySem.W.kla_fn "<lambda>" q params body scope cl pm cv ctv) ⟨[], []⟩ = pure []) (hbody : ∀ (A : Around) (outer : List PySem.Env) (s : Shared) (H : Hp) (E : XK) (f c' : Addr), Room k (A.deeper (lamEnv X scope s.heap.objs.size f c')) → PE (lamCxN X A outer s H E scope f c') body (t E))
    (h0 : (x == ("__debug__" : Str)) = false := by decide) (h1 : (a == ("__debug__" : Str)) = false := by decide) (h2 : (a == ("__classdict__" : Str)) = false := by decide) : PE X (.Call (.Name x p) [.Lambda params body scope lpos] [] pos) (tLam T TT t) := by
  refine ⟨fun pins s σ H Q I ⟨hT, h⟩ => wpAny_Call_Name_kw (ld_glob I hg hm (PySem.W.callWith_K (h₀ := X.base) I.ok.mod.kin hk ?_ (by rfl) (by rfl)) h0)⟩
  show wpAny _ _ (spliced ((false, eval (.Lambda params body scope lpos) X.env) :: backTo pos (starEach [] X.env))) _ _ s
  refine Calls.spliced_cons (lam_make2 I TB hcode hmT hu hT hdef (L.has I.ok) fun f c' pm' ctv H1 s' I1 eN T1 hf hfn hfr hco => Calls.spliced_nil ⟨I1.kIn, ?_⟩)
  have run : codeAny (model X.prog X.w) X.A (.call (.ref g) ⟨[.ref f], []⟩) (CR C8.CX0 X.stack X.prog X.w H1 s' Q C8.E0) s' :=
    run_ofS (N := Ng) (ps := [a]) (us := [.ref f]) (vs := [.ref f]) lk hcg Sg hr I1.env0 (hb s' [.ref f] I1.kIn rfl) (.cons rfl .nil) rfl fun hr' => by
      obtain ⟨t', ht', hq'⟩ := hG f c' s' H1 Q (fun E H' Q' => t E σ H' Q') (fun W pn xe E p1 p2 tk hW => pe_actN (i := 0) I1 L hf hfn hfr (hbind _ _ _ _ _) tk hW hr' (fun A outer s H hr2 => hbody A outer s H E f c' hr2) hNg hva h1 h2) hco (h H1 eN T1)
      exact ⟨t', ht'.nox, hq'⟩
  refine wpAny_call (codeAny_mono run fun r s2 z => ?_)
  cases r with
  | error e => exact (show False from z).elim
  | ok fl =>
    cases fl with
    | ret u => exact I1.after z
    | next => exact z.elim
    | brk => exact z.elim
    | cont => exact z.elim
end
end SK

/-! _law_caught, the error's context known to be None. -/
namespace T08
open PySem PySem.Spec PyProof.Rows L2 SF SQ SFT L2H LamX SK
section
variable {X : Cx} {cs bs : Nat → Addr} {RV RP : List V → Hp → VK → Prop} {g fW fF : Addr} {fdW fdF : FuncData} {cdg : Value} {q : Str}
theorem caught_givesN (T : CErr X.K X.mg cs bs) (hgd : X.A.guards = some []) (hr : Room 3 X.A) (FW : Fun X.K "_law_word" "_law_word" sWord fW fdW) (bW : Binds X.K fdW ["_law_e"] []) (gW : X.mg "_law_word" = some (.ref fW))
    (FF : Fun X.K "_law_fields" "_law_fields" sFields fF fdF) (bF : Binds X.K fdF ["_law_e", "_law_word_here"] []) (gF : X.mg "_law_fields" = some (.ref fF))
    (mV : Mono RV) (mP : Mono RP) (hRV : ∀ s H, CallR (cxC X g cdg s H) (.builtin "repr") RV) (hRP : ∀ s H a oe pn, L2H.Hot1 ((cxC X g cdg s H).suite a ((a, oe) :: pn)).A (a, oe) → CallR ((cxC X g cdg s H).suite a ((a, oe) :: pn)) (.builtin "repr") RP) :
    GivesN X ["_law_action", "_law_shown", "_law_e", "_law_word_here"] "_law_caught" (defScope sCaught) g cdg (defBody sCaught) "_law_action" q (TTc cs RV RP) := by
  intro f c' s H Q tl act hc h
  refine ⟨_, pss_cons (ps_try_tup3N (X := cxC X g cdg s H) (i := 2) (c1 := .ref (bs 0)) (c2 := .ref (bs 1)) (c3 := .ref (bs 2)) rfl rfl scCaught.nd rfl rfl ⟨rfl, by decide, .inl (T.gb 0 (by decide))⟩ ⟨rfl, by decide, .inl (T.gb 1 (by decide))⟩ ⟨rfl, by decide, .inl (T.gb 2 (by decide))⟩
      (tb := fun W D σ H => ∃ Ech : XK, (∀ cls d σ' H', Ech cls d H' → W cls d σ' H') ∧ σ[0]? = some (some (.ref f)) ∧ H c' = some (CodeO c' q) ∧ tl Ech H (fun v H1 => D.nx (σ.set 1 (some v)) H1))
      (ts := fun a cls d D σ H => (σ.length = 4 → σ[2]? = some (some (.ref a))) ∧ XKc cs RP D.rt cls d H) (fun W pn xe _ tk _ => ?_) (fun a oe cls d pn hz hf => ?_))
    (pss_one (ps_ret (pe_lst (pa_cons pe_str (pa_cons (pe_callB (hRV s H) (by rfl) T.rep (by decide +kernel) (pa_cons (pv 1) pa_nil)) pa_nil))))), ?_⟩
  · refine ⟨fun pins s' σ H' D I h' => ?_⟩
    obtain ⟨Ech, hW, h1, h2, h3⟩ := h'
    exact (pss_one (ps_set (i := 1) scCaught.nd rfl (.inl rfl) (act W pn xe Ech _ _ tk hW))).run pins s' σ H' D I ⟨h1, h2, h3⟩
  · refine pss_of fun pins s' σ H' D I h' => ?_
    obtain ⟨hs, i, fs, ys, hi, rfl, ed, hg, z⟩ := h'
    have ht : L2H.Hot1 ((cxC X g cdg s H).suite a ((a, oe) :: pn)).A (a, oe) := by
      obtain ⟨vs, hv⟩ := hf
      exact ⟨rfl, vs, hv, hz.2.2 vs hv⟩
    have hrd : Room 2 (cxC X g cdg s H).A := hr.deeper _
    have hrH : RoomH 2 ((cxC X g cdg s H).suite a ((a, oe) :: pn)).A := ⟨hrd.dp, hrd.un⟩
    have GW : FnP X.prog X.w X.K X.mg X.base CX0 2 (a, oe) fW fdW ["_law_e"] (spWd a d fs i) := (okWd FW T hi hz.zc hf).mono (by decide)
    have GF : FnP X.prog X.w X.K X.mg X.base CX0 2 (a, oe) fF fdF ["_law_e", "_law_word_here"] (spFd a d fs i) := (okFd FF T hi hz.zc hf).mono (by decide)
    obtain ⟨x0, x1, x2, x3, rfl⟩ := len4 I.len
    cases (show some x2 = some (some (.ref a)) from hs rfl)
    refine ⟨_, pss_cons (ps_set (i := 3) scCaught.nd rfl (.inl rfl) (pe_callP (E := fun _ => E0) GW hgd hrH List.mem_cons_self (by rfl) gW FW.kp bW (fun _ => passA) (pa_cons (pv 2) pa_nil)))
      (pss_one (ps_ret (pe_lst (pa_cons (pv 3) (pa_cons (pe_callB (hRP s H a oe pn ht) (by rfl) T.rep (by decide +kernel) (pa_cons (pe_callP (E := fun _ => E0) GF hgd hrH List.mem_cons_self (by rfl) gF FF.kp bF (fun _ => passA) (pa_cons (pv 2) (pa_cons (pv 3) pa_nil))) pa_nil)) pa_nil))))), ?_⟩
    refine ⟨_, rfl, rfl, ed, fun H1 S1 => ⟨_, rfl, _, rfl, _, rfl, ys, rfl, ed.same S1, hg, fun p H2 S2 e2 => ?_⟩⟩
    exact mP _ _ _ _ (fun y H3 ⟨t, e, r⟩ => ⟨(by show 2 ≤ sizeLine; decide), fun L nL => by subst e; exact r L _ (fun b o e => by rw [upd_ne (ne_of_none e nL)]; exact e) nL upd_same⟩) (z p H2 (fun b o e => S2 b o (S1 b o e)) e2)
  · refine ⟨XKc cs RP Q, fun cls d σ' H' x => ?_, rfl, hc, ?_⟩
    · obtain ⟨i, fs, ys, hi, rfl, r⟩ := id x
      refine ⟨T.cat i hi, fun a na => ⟨fun hl => ?_, x⟩⟩
      rw [List.getElem?_set_self (by rw [List.length_set] at hl; omega)]
    · exact h _ fun v H1 r => ⟨_, rfl, mV _ _ _ _ (fun y H3 ⟨t, e, r⟩ => ⟨(by show 2 ≤ sizeLine; decide), fun L nL => by subst e; exact r L _ (fun b o e => by rw [upd_ne (ne_of_none e nL)]; exact e) nL upd_same⟩) r⟩
end
end T08

/-! Tuples walked with an error in hand. -/
namespace SK
open PySem PySem.Spec PyProof.Rows L2 SF SQ
section
variable {prog : Program} {w : World} {A : Around} {E : Value → Shared → Prop} {s : Shared}
/-- a tuple's end while an exception is handled -/
theorem tup_end_hot {it t x1 : Addr} {i : Nat} {items : Array Value} {Q : Option Value → Shared → Prop} (hot : HotX.HotAt A x1 s.heap) (hit : s.heap.IsTupleIter it t i) (ht : s.heap.IsTuple t items) (hx : items[i]? = none) (nx : x1 ≠ it)
    (hQ : ∀ h', Heap.ExtBut it s.heap h' → Q none { s with heap := h' }) : wpAny (model prog w) A (pyNext (.ref it)) Q E s := by
  obtain ⟨o, ho, hc, hd⟩ := id hit
  obtain ⟨ol, hol, _, nl, hdl⟩ := ht
  obtain ⟨hh, o1, v1, g1, d1, c1⟩ := hot
  unfold pyNext
  refine wpAny_bind (wpAny_attempt (wpAny_callSpecial?_slot (name := Str.ofString "__next__") hit.typeIs F.slot_tuple_iterator_next (wpAny_call_entry F.slot_tuple_iterator_next hit.typeIs F.entry_tuple_iterator_next ?_ (F.args_tuple_iterator_next_1 _))))
  show wpAny _ _ (field (.ref it) 0 >>= _) _ _ s
  refine wpAny_bind (wpAny_field ho hd (x := .ref t) rfl ?_)
  show wpAny _ _ (if (Value.ref t == Value.none) = true then _ else _) _ _ s
  rw [if_neg (show ¬ ((Value.ref t == Value.none) = true) from Bool.false_ne_true)]
  show wpAny _ _ (field (.ref it) 1 >>= _) _ _ s
  refine wpAny_bind (wpAny_field ho hd (x := .int i 0) rfl ?_)
  show wpAny _ _ (seqItems? (.ref t) >>= _) _ _ s
  refine wpAny_bind (wpAny_seqItems hol hdl ?_)
  simp only [Int.toNat_natCast, hx]
  have k1 : ∀ f : Obj → Obj, (s.heap.update it f).get? x1 = some o1 := fun f => (Heap.get?_update_other _ _ (Ne.symm nx)).trans g1
  refine wpAny_bind (wpAny_rule (wpAny_bind (wpAny_setField ho hd (by simp) (wpAny_bind ?_))))
  simp only [newExc, newTuple]
  refine wpAny_bind (wpAny_newObj_type (wpAny_bind (m := firstArgMember _ _) (wpAny_of_eq (a := Value.none) (by first | rfl | (simp only [firstArgMember]; rfl)) (wpAny_newObj_type ?_ (by size_fits)))) (by size_fits))
  refine HotX.raiseNew_hot ⟨hh, o1, v1, Heap.get?_push_of_some _ (Heap.get?_push_of_some _ (k1 _)), d1, c1⟩ (Nat.ne_of_lt (Heap.lt_size (Heap.get?_push_of_some _ (k1 _)))) (Heap.get?_push_size _ rfl) rfl (by first | (simp; done) | (simp; omega)) ?_
  refine wpAny_bind (wpAny_isInstance (T := "StopIteration") (b := true) ⟨_, Heap.get?_update_self _ (Heap.get?_push_size _ rfl) rfl, rfl⟩ isSubtype_stop (wpAny_pure (hQ _ fun b o nb e => ?_)))
  have e1 := Heap.get?_push_of_some { cls := .type "tuple", dict := none, data := .seq ([] : List Value).toArray } ((Heap.get?_update_other s.heap (Obj.mapFields (·.setIfInBounds 0 Value.none)) (Ne.symm nb)).trans e)
  rw [Heap.get?_update_other _ _ (Nat.ne_of_gt (Heap.lt_size e1))]
  exact Heap.get?_push_of_some _ e1
end
theorem turn_tupH {P : Program} {w : World} {K : PySem.W.Frag} {tg : Expr} (a it : Addr) : L2H.TurnH P w K tg (Itt K a) [it] it (fun i h => h.IsTupleIter it a i) where
  mem := by simp
  obj := (turn_tuple (P := P) (w := w) (K := K) (tg := tg) a it).obj
  keep := (turn_tuple (P := P) (w := w) (K := K) (tg := tg) a it).keep
  item := by
    intro X hP hw hK hc i pins s σ H E I hf st hg
    subst hP hw hK
    obtain ⟨xs, x, hq, hx⟩ := hg
    obtain ⟨its, rv, pl, hz⟩ := I.tuple hq
    obtain ⟨u, hu, ru⟩ := rv.get hx
    obtain ⟨f0, f1, f2, f3, f4, f5⟩ := hf it (by simp)
    refine wpAny_pyNext_tuple_item st (show s.heap.IsTuple a its.toArray from pl) (x := u) (by simpa using hu) fun h' st' sb => ?_
    have I1 : Inv X pins σ H { s with heap := h' } := I.turned (t' := s.toks) (fun b o nb e => (sb.2 b nb).trans e) f0 f1 f3 f4 f5
    obtain ⟨o, e, c, d⟩ := id st'
    exact ⟨u, rfl, go_of (s := { s with heap := h' }) e c d (by decide) ⟨x, H, I1, ru, ⟨rfl, fun ys hy => by rw [I.tuple_inj hy hq]; exact hx⟩, st', fun b hb => (hf b hb).1⟩⟩
  done := by
    intro X hP hw hK hc i pins s σ H E I hf st hg
    subst hP hw hK
    obtain ⟨xs, hq, hx⟩ := hg
    obtain ⟨its, rv, pl, hz⟩ := I.tuple hq
    obtain ⟨f0, f1, f2, f3, f4, f5⟩ := hf it (by simp)
    obtain ⟨p, ⟨hh, v1, e1, c1⟩, hp⟩ := hc
    have hl := rv.length
    exact tup_end_hot (x1 := p.1) ⟨hh, p.2, v1, (I.pin p (List.mem_append_left _ hp)).1, e1, c1⟩ st (show s.heap.IsTuple a its.toArray from pl) (by simp; omega) (f5 p (List.mem_append_left _ hp)) fun h' eb => ⟨rfl, I.turned (t' := s.toks) (fun b o nb e => eb b o nb e) f0 f1 f3 f4 f5⟩
  self := (turn_tuple (P := P) (w := w) (K := K) (tg := tg) a it).self
section
variable {X : Cx}
theorem pi_tupH {tg l : Expr} {tl : TE} (hl : PE X l tl) : L2H.PIH X tg l (iTup X.K tl) := by
  refine ⟨fun pins s σ H R I h => thn (hl.run pins s σ H _ I h) fun v s1 ⟨x, H1, I1, r1, a, e, ⟨xs, hq⟩, q⟩ => ?_⟩
  subst e
  cases r1
  obtain ⟨its, rv, pl, hz⟩ := I1.tuple hq
  refine wpAny_pyIter_tuple (show s1.heap.IsTuple a its.toArray from pl) ⟨s1.heap.objs.size, [s1.heap.objs.size], _, _, H1, rfl, I1.kept (t' := s1.toks) fun b o e => Heap.get?_push_of_some _ e, turn_tupH a _, ⟨_, Heap.get?_push_size _ rfl, rfl, rfl⟩, fun b hb => ?_, q⟩
  rw [List.mem_singleton.mp hb]
  exact I1.fpOk (Nat.le_refl _) (I1.hok.fresh (Nat.le_refl _))
/-- [elt for tg in iter], with an error in hand -/
theorem pe_lcH {p : Addr × Obj} {elt tg iter : Expr} {scope : Scope} {own : List (Str × Nat)} {pos : Pos} {wi : TI} {g : TG} {te : TE} (hot : L2H.Hot1 X.A p) (hp : p ∈ X.pn) (hN : X.N.Nodup) (hi : L2H.PIH X tg iter wi) (ok : BlkOk X.N X.env.scope scope own)
    (hg : ∀ (s : Shared) (H : Hp) (C : Addr) (cl : List (Str × Addr)) (fp : List Addr), PG (blkX X s H scope (compEnvC scope cl C X.env) fp [p] fun _ _ => False) tg g) (he : ∀ (s : Shared) (H : Hp) (C : Addr) (cl : List (Str × Addr)) (fp : List Addr), PE (blkX X s H scope (compEnvC scope cl C X.env) fp [p] fun _ _ => False) elt te)
    (hs : ∀ x, foldedSetIterable iter X.env x = pure x := by intro _; rfl) : PE X (.ListComp elt [⟨tg, iter, [], 0⟩] scope pos) (tLc wi g tYes te (own.map (·.2))) := by
  refine ⟨fun pins s σ H Q I h => ?_⟩
  rw [eval_ListComp]
  have free : ∀ y ∈ scope.names, y.2 = .free → ∃ c, X.env.cells.lookup y.1 = some c := fun y hy e => I.ok.has _ ((ok.free y hy e).elim .inl .inr)
  refine comprehension_at (use := none) rfl hs (closure_ok free) ok.kind (fun y hy e => by rw [ok.uniq y hy, e]) (thn (hi.run pins s σ H _ I h) fun xv s1 hx => thn hx fun itv s2 h2 => ?_)
  obtain ⟨it, fp, tn, J, H2, rfl, I2, T, st2, f2, q⟩ := h2
  refine wpAny_newObj_type (newEnv_comp ?_) (by show 0 ≤ sizeLine; decide)
  obtain ⟨D, hD⟩ : ∃ D, s2.heap.objs.size = D := ⟨_, rfl⟩
  have hDn : H2 D = none := I2.hok.fresh (Nat.le_of_eq hD)
  obtain ⟨W, ⟨m0, w0⟩, turn⟩ := q D hDn
  generalize hs3 : ({ s2 with heap := s2.heap.push { cls := .type "list", data := .seq ([] : List Value).toArray } } : Shared) = s3
  have h3 : s3.heap = s2.heap.push { cls := .type "list", data := .seq ([] : List Value).toArray } := by rw [← hs3]
  have I3 : Inv X pins σ (upd H2 D (.lst [])) s3 := by
    subst hs3
    exact I2.laid (t' := s2.toks) (fun b o e => Heap.get?_push_of_some _ e) (Nat.le_of_eq hD) ⟨Nat.zero_le _, [], 0, .nil, by rw [← hD]; exact Heap.get?_push_size _ rfl⟩
  have lt2 : ∀ b ∈ fp, b < s2.heap.objs.size := fun b hb => let ⟨_, e, _⟩ := T.obj _ _ st2 b hb; Heap.lt_size e
  have f3 : ∀ b ∈ fp, FpOk X pins (upd H2 D (.lst [])) b ∧ b < s3.heap.objs.size := fun b hb =>
    ⟨⟨by rw [upd_ne (by rw [← hD]; exact Nat.ne_of_lt (lt2 b hb))]; exact (f2 b hb).1, (f2 b hb).2⟩, by rw [h3, Heap.size_push]; exact Nat.lt_succ_of_lt (lt2 b hb)⟩
  have st3 : tn 0 s3.heap := T.keep _ _ _ st2 fun b _ o e => by rw [h3]; exact Heap.get?_push_of_some _ e
  have P3 := I3.pin p (List.mem_append_left _ hp)
  have I4 := (block_start I3 ok hN f3).pins_of (pins' := [p]) (fun q hq => by
    rw [List.mem_singleton.mp hq]
    have lt : p.1 < s3.heap.objs.size := Heap.lt_size P3.1
    refine ⟨pushCells_keeps _ _ _ _ (Heap.get?_push_of_some _ P3.1), P3.2.1, Nat.ne_of_lt lt, fun hm => ?_, P3.2.2.2.2⟩
    exact (List.mem_cons.mp (I3.stkSub p.1 hm)).elim P3.2.2.1 P3.2.2.2.1)
  have I4 : Inv (blkX X s3 (upd H2 D (.lst [])) scope (compEnvC scope (cellsFrom (s3.heap.objs.size + 1) scope.names (cloFrom X.env.cells scope.names [])) s3.heap.objs.size X.env) fp [p] fun _ _ => False) [] (wipe σ (own.map (·.2))) (upd H2 D (.lst [])) { s3 with heap := pushCells (s3.heap.push { cls := .type "dict", data := .dict #[] }) scope.names } := I4.toTry (fun _ _ => False)
  have pg := hg s3 (upd H2 D (.lst [])) s3.heap.objs.size (cellsFrom (s3.heap.objs.size + 1) scope.names (cloFrom X.env.cells scope.names [])) fp
  have pe := he s3 (upd H2 D (.lst [])) s3.heap.objs.size (cellsFrom (s3.heap.objs.size + 1) scope.names (cloFrom X.env.cells scope.names [])) fp
  rw [hD]
  show codeAny _ _ (.compStart (.ListComp elt [⟨tg, iter, [], 0⟩] scope pos) 0 (.ref it) (.ref D) (compEnvC scope (cellsFrom (s3.heap.objs.size + 1) scope.names (cloFrom X.env.cells scope.names [])) s3.heap.objs.size X.env))
    (compEnds (model X.prog X.w) X.A X.xe none (EP X pins σ Q) (.ref D) (compEnvC scope (cellsFrom (s3.heap.objs.size + 1) scope.names (cloFrom X.env.cells scope.names [])) s3.heap.objs.size X.env)) { s3 with heap := pushCells (s3.heap.push { cls := .type "dict", data := .dict #[] }) scope.names }
  have nfp : ∀ b ∈ fp, (upd H2 D (.lst [])) b = none := fun b hb => (f3 b hb).1.1
  generalize hce : compEnvC scope (cellsFrom (s3.heap.objs.size + 1) scope.names (cloFrom X.env.cells scope.names [])) s3.heap.objs.size X.env = ce at I4 pg pe ⊢
  have cL : ce.locals = s3.heap.objs.size := by subst hce; rfl
  have cF : ce.frame = X.env.frame := by subst hce; rfl
  generalize hH3 : upd H2 D (.lst []) = H3 at I3 I4 pg pe w0 nfp f3
  generalize hs4 : ({ s3 with heap := pushCells (s3.heap.push { cls := .type "dict", data := .dict #[] }) scope.names } : Shared) = s4 at I4 ⊢
  have st4 : tn 0 s4.heap := T.keep _ _ _ st3 fun b _ o e => by rw [← hs4]; exact pushCells_keeps _ _ _ _ (Heap.get?_push_of_some _ e)
  have stat : ∀ {σ' : L2.St} {H' : Hp} {s' : Shared}, Inv (blkX X s3 H3 scope ce fp [p] fun _ _ => False) [] σ' H' s' → (∀ b ∈ fp, H' b = none) → ∀ b ∈ fp, FpOk (blkX X s3 H3 scope ce fp [p] fun _ _ => False) [] H' b := fun {_ _ _} J' hn b hb =>
    ⟨hn b hb, (J'.ok.exf b hb).1, J'.ok.exfs b hb, .inl hb, fun x c e => (J'.ok.exf b hb).2 x c e, fun q hq => by rw [List.mem_singleton.mp (show q ∈ [p] from by simpa using hq)]; exact (f3 b hb).1.2.2.2.2.2 p (List.mem_append_left _ hp)⟩
  -- from the block back to the def
  have out : ∀ {X' : Cx} {pn' : List (Addr × Obj)} {σ' : L2.St} {H' : Hp} {s' : Shared}, s'.os = s3.os → L2.Un (frs X.stack) fp H3 H' s3.heap s'.heap → HOk X.prog X.w H' s'.heap → AllBare s'.gens → H' ce.locals = none → Inv X pins σ H' s' ∧ FpOk X pins H' ce.locals := fun {_ _ _ _ _} os u hok bare fr =>
    ⟨I3.call' (ch := fp) os u hok bare fun b hb => ⟨(f3 b hb).1.2.2.2.1, (f3 b hb).1.2.1, (f3 b hb).1.2.2.2.2.1, (f3 b hb).1.2.2.2.2.2⟩, I3.fpOk (Nat.le_of_eq cL.symm) fr⟩
  have loop : codeAny (model X.prog X.w) X.A (.compLoop (.ListComp elt [⟨tg, iter, [], 0⟩] scope pos) 0 (.ref it) (.ref D) ce) (compEnds (model X.prog X.w) X.A X.xe none (EP X pins σ Q) (.ref D) ce) s4 := by
    refine compLoop_any (fun n s' => ∃ i H', Inv (blkX X s3 H3 scope ce fp [p] fun _ _ => False) [] (wipe σ (own.map (·.2))) H' s' ∧ tn i s'.heap ∧ (∀ b ∈ fp, H' b = none) ∧ W i n H') ?_ m0 ⟨0, H3, I4, st4, nfp, w0⟩
    rintro n s5 ⟨i, H5, I5, st5, n5, w5⟩
    rcases turn i n H5 w5 with ⟨stop, qq⟩ | ⟨go, Nx, hNx, step⟩
    · refine thnF (T.done (blkX X s3 H3 scope ce fp [p] fun _ _ => False) rfl rfl rfl ⟨p, hot, List.mem_cons_self⟩ i [] s5 _ H5 (fun _ _ => False) I5 (stat I5 n5) st5 stop) fun r s6 ⟨hr, I6⟩ => ?_
      subst hr
      obtain ⟨I7, f7⟩ := out (X' := X) (pn' := []) (σ' := σ) I6.os I6.base I6.hok I6.bare I6.free
      obtain ⟨m, hn, _⟩ := I6.loc
      exact ⟨m, hn, fun h7 sb => ⟨.ref D, H5, I7.turned (t' := s6.toks) (fun b o hb e => (sb.2 b hb).trans e) f7.1 f7.2.1 f7.2.2.2.1 f7.2.2.2.2.1 f7.2.2.2.2.2, rfl, qq⟩⟩
    · refine thnF (T.item (blkX X s3 H3 scope ce fp [p] fun _ _ => False) rfl rfl rfl ⟨p, hot, List.mem_cons_self⟩ i [] s5 _ H5 (fun _ _ => False) I5 (stat I5 n5) st5 go) fun r s6 ⟨u, hr, h6⟩ => ?_
      subst hr
      refine thnF h6 fun _ s7 ⟨x, H7, I7, r7, y7, st7, n7⟩ => ?_
      refine thnF (pg.run _ s7 _ H7 x u _ (I7.pinned (stat I7 n7) (T.obj _ _ st7)) r7 (step x H7 y7)) fun _ s8 ⟨σ8, H8, I8, hw8, q8⟩ => wpAny_tests_nil ?_
      have q8 : te σ8 H8 fun y H4 => ∃ acc, H4 D = some (.lst acc) ∧ acc.length < sizeLine ∧ Nx (upd H4 D (.lst (acc ++ [y]))) := q8
      refine thnF (pe.run _ s8 σ8 H8 _ I8 q8) fun z s10 ⟨yv, H10, I10, r10, acc, hD10, hz10, nx⟩ => ?_
      refine app_ok (X := blkX X s3 H3 scope ce fp [p] fun _ _ => False) I10 hD10 hz10 r10 fun s11 I11 => ?_
      obtain ⟨m', hm, w'⟩ := hNx _ nx
      have pin' : ∀ b ∈ fp, ∀ o, s7.heap.get? b = some o → s11.heap.get? b = some o ∧ (upd H10 D (.lst (acc ++ [yv]))) b = none := fun b hb o e =>
        let z := I11.pin (b, o) (List.mem_append_right _ (List.mem_append_right _ (mem_pinsAt hb e)))
        ⟨z.1, z.2.1⟩
      have hl : (wipe σ (own.map (·.2))).length = σ8.length := by rw [← hw8, wipe_length]
      refine ⟨m', hm, i + 1, _, (I11.unpinned (pins := [])).weak hl (fun j v e => by rw [← hw8] at e; exact (wipe_some e).1), T.keep _ _ _ st7 fun b hb o e => (pin' b hb o e).1, fun b hb => ?_, w'⟩
      obtain ⟨o, e, _⟩ := T.obj _ _ st7 b hb
      exact (pin' b hb o e).2
  exact codeAny_compStart_list loop (T.self X.A 0 _ _ _ st4 loop)
end
end SK

/-! Defs called with an error in hand whose own context is None; str of own instances there. -/
namespace SK
open PySem PySem.Spec PyProof.Rows L2 SF SQ SFT L2H
section
variable {P : Program} {w : World} {K : PySem.W.Frag} {mg : Str → Option Value} {base : Heap}
theorem okHot {x qual : Str} {st : Stmt} {f : Addr} {fd : FuncData} {N ps : List Str} {k : Nat} {sp : Sp} (F : L2.Fun K x qual st f fd) (S : FnScope N ps (defScope st)) (len : ∀ vs H Q E, sp vs H Q E → vs.length = ps.length)
    (hbody : ∀ (cdv : Value) (A : Around) (outer : List PySem.Env) (s : Shared) (H : Hp) (vs : List V) (Q : VK) (E : XK) (p : Addr × Obj), Hot1 (A.deeper (envOfC qual (defScope st) s.heap.objs.size f cdv)) p → RoomH k (A.deeper (envOfC qual (defScope st) s.heap.objs.size f cdv)) → sp vs H Q E →
      ∃ t, PSs (cxH CX0 P w K mg base N qual (defScope st) f cdv A outer s H E p).nox (defBody st) t ∧ t { nx := fun _ H' => Q .non H', rt := Q } (start N vs) H) : FnH P w K mg base CX0 (k + 1) f fd ps sp := by
  obtain ⟨oc, od, kV, doc, pm, an, cdv, ct, osl, rfl, lk, hcd⟩ := F.ex
  refine fn_ofH lk hcd S len fun A outer s H vs Q E p hot hr hsp => ?_
  obtain ⟨t, h, q⟩ := hbody cdv A outer s H vs Q E p hot hr hsp
  exact ⟨t, h.nox, q⟩
end
section
variable {X : Cx} {k : Nat} {f : Addr} {fd : FuncData} {ps : List Str} {sp : Sp}
theorem runAny_ofH (F : FnH X.prog X.w X.K X.mg X.base CX0 k f fd ps sp) (hc : HotC X) (hb : Binds X.K fd ps []) : RunAny X k f sp E0 := fun A pins σ H s Q us vs hA hh hr I r h => by
  obtain ⟨p, hot, hp⟩ := hc
  have hl : us.length = ps.length := by rw [← r.length]; exact F.len _ _ _ _ h
  have b := hb s us I.kIn (by rw [List.append_nil]; exact hl)
  rw [List.append_nil] at b
  have P1 := I.pin p (List.mem_append_left _ hp)
  have hpin : PinOk X.stack H s p := ⟨P1.1, P1.2.1, fun hm => (List.mem_cons.mp (I.stkSub p.1 hm)).elim P1.2.2.1 P1.2.2.2.1, P1.2.2.2.2⟩
  have e0 : Env0 X.prog X.w X.K X.mg X.base A X.stack s H := by
    have e := I.env0
    exact ⟨hA.trans e.frames, e.mod, e.bs, e.bsz, e.funs, e.frf, e.hok, e.bare⟩
  refine wpAny_call (codeAny_mono (F.run A X.stack s H ⟨us, []⟩ us vs Q E0 p hr ⟨hh.trans hot.1, hot.2⟩ hpin e0 b r h) fun r s' hq => ?_)
  cases r with
  | error e => exact False.elim hq
  | ok fl =>
    cases fl with
    | ret u => exact I.after hq
    | next => exact False.elim hq
    | brk => exact False.elim hq
    | cont => exact False.elim hq
end
section
variable {X : Cx} {C g : Addr} {n : Nat} {sp : Sp} {E : XK}
/-- str of an own instance whose __str__ runs in any surroundings -/
theorem call_strAny (hs : PySem.W.findIn X.K (.ref C) "__str__" = some (some (.ref g))) (hf : PySem.W.isFn X.K (.ref g) = true) (R : RunAny X n g sp E) (hr : RoomH (n + 2) X.A) : CallR X (.type "str") (rOwnStr C sp E) := by
  intro pins s σ H xs us Q I r h
  obtain ⟨a, dx, fs, rfl, ha, q⟩ := h
  obtain ⟨u, rfl, ru⟩ := r.one
  cases (show u = Value.ref a from ru)
  obtain ⟨od, J⟩ := inst_of I ha
  have hd := hr.dp
  have hu := hr.un
  have hr2 : RoomH n X.A.in1.in1 := by
    refine ⟨?_, ?_⟩
    · show X.A.depth + 3 * n + 5 < _
      omega
    · show X.A.units + 1 + 1 + 16 * n + 200 < _
      omega
  refine SFx.str_own (by show X.A.units + 1 + 1 < cLine; omega) I.kIn J hs hf ?_
  refine wpAny_mono (R X.A.in1.in1 pins σ H s _ [.ref a] [.ref a] rfl rfl hr2 I (.cons rfl .nil) q) (fun w s' z => ?_) fun _ _ x => x
  obtain ⟨z', H', I', rz, qz⟩ := z
  obtain ⟨y, ez, qz⟩ := qz
  subst ez
  obtain ⟨t, e⟩ := (show ∃ t, w = Value.str y t from rz)
  cases e
  exact ⟨.str y, H', I', ⟨t, rfl⟩, qz⟩
end
end SK

/-! str and repr of fractions and series with an error in hand. -/
namespace T08
open PySem PySem.Spec PyProof.Rows L2 SF SQ SK SFT L2H
section
variable {P : Program} {w : World} {K : PySem.W.Frag} {mg : Str → Option Value} {base : Heap} {C : Addr}
theorem ok_StrQ {p : Addr × Obj} (T : Tx K mg C) : FnQ P w K mg base CX0 1 p T.aStr T.dStr ["self"] (spStr C) := by
  refine SFT.Fun.okQ T.FStr scStr (fun vs H Q E h => ?_) (fun cdv A outer s H vs Q E hr h => ?_)
  · obtain ⟨a, n, q, rfl, _⟩ := h
    rfl
  · obtain ⟨a, n, x, rfl, ⟨⟨dx, hp⟩, sz⟩, hn, q⟩ := h
    have l5 := line5
    have lt : x.num.natAbs.log2 < 1920 := tlog sz.1 hn
    have lb : ((x.den : Int)).natAbs.log2 < 1920 := tlog (show (x.den : Int).natAbs < 2 ^ n from sz.2) hn
    have x1 : (Str.ofString (toString x.num)).length ≤ 1921 := tx_len sz.1 hn
    have x2 : (Str.ofString (toString (x.den : Int))).length ≤ 1921 := tx_len (show (x.den : Int).natAbs < 2 ^ n from sz.2) hn
    refine ⟨_, (pss_cons (ps_if (pt_cmpR op_eq (pe_fld (pv 0) rfl) pe_int (nomark _)) (pss_one (ps_ret (pe_callTy call_str_int (by rfl) T.rc.str_ (by decide +kernel) (pa_cons (pe_fld (pv 0) rfl) pa_nil)))) pss_nil)
      (pss_one (ps_ret (pe_joined (.cons (pe_fmt (pe_fld (pv 0) rfl)) (.cons pe_str (.cons (pe_fmt (pe_fld (pv 0) rfl)) .nil))))))), ?_⟩
    refine ⟨_, rfl, a, C, dx, _, _, rfl, hp, T.rc.cl, T.rc.nB, rf_bot _ _, rfl, _, rfl, ?_⟩
    refine ite2 (fun hc => ?_) (fun hc => ?_)
    · have e : (x.den : Int) = 1 := V.int.inj (of_decide_eq_true hc)
      refine ⟨_, rfl, a, C, dx, _, _, rfl, hp, T.rc.cl, T.rc.nT, rf_top _ _, _, rfl, lt, ?_⟩
      have e2 : rstr x = tx x.num := if_pos (by omega)
      rw [e2] at q
      exact q
    · have e : ¬ (x.den : Int) = 1 := fun z => hc (decide_eq_true (congrArg V.int z))
      have e2 : rstr x = ((Str.empty ++ tx x.num) ++ ("/" : Str)) ++ tx x.den := if_neg (by omega)
      rw [e2] at q
      have s1 : ("/" : Str).length = 1 := rfl
      refine ⟨_, rfl, a, C, dx, _, _, rfl, hp, T.rc.cl, T.rc.nT, rf_top _ _, .inr ⟨_, rfl, lt, _, rfl, ?_, _, rfl, ?_, _, rfl, a, C, dx, _, _, rfl, hp, T.rc.cl, T.rc.nB, rf_bot _ _, .inr ⟨_, rfl, lb, _, rfl, ?_, q⟩⟩⟩
      · rw [Str.length_append]
        have : Str.empty.length = 0 := rfl
        omega
      · rw [Str.length_append, Str.length_append, s1]
        have : Str.empty.length = 0 := rfl
        omega
      · rw [Str.length_append, Str.length_append, Str.length_append, s1]
        have : Str.empty.length = 0 := rfl
        omega
theorem ok_SStrH (T : Tx K mg C) : FnH P w K mg base CX0 4 T.aSStr T.dSStr ["self"] (spSStr C T.S) := by
  refine SK.okHot T.FSStr scSStr (fun vs H Q E h => ?_) (fun cdv A outer s H vs Q E p hot hr h => ?_)
  · obtain ⟨a, rs, rfl, _⟩ := h
    rfl
  · obtain ⟨a, rs, rfl, hs, q⟩ := h
    obtain ⟨dx, t, ha, ⟨vs, ht, hv⟩, hl⟩ := hs.tup
    have ll := line400
    have sz : SzE 800 rs := SzE.mono (EN.sz hv) (by decide)
    refine ⟨_, (pss_one (ps_ret (pe_join pe_str (pe_lcH (own := [("entry", 1)]) (g := gName 1) (p := p) hot List.mem_cons_self scSStr.nd (pi_tupH (pe_fld (pv 0) rfl)) (blkOk_by (N := ["self", "entry"]) (sc := defScope sSStr) (by decide +kernel)) (fun _ _ _ _ _ => pg_name (i := 1) scSStr.nd rfl (Or.inl rfl))
        (fun s3 H3 C3 cl fp => pe_ifExp (pt_cmpR op_isN (pv 1) pe_non (nomark _)) (pe_glob (v := .str "_") (by rfl) T.gap ⟨_, rfl⟩) (pe_callTy (call_strAny (E := E0) T.hStr.h T.hStr.i (runAny_ofQ (p := p) (ok_StrQ T) List.mem_cons_self T.bStr) (hr.mono (by decide))) (by rfl) T.rc.str_ (by decide +kernel) (pa_cons (pv 1) pa_nil))))))), ?_⟩
    refine ⟨⟨_, rfl⟩, _, rfl, a, T.S, dx, _, _, rfl, ha, T.clS, T.nE, ent_look t, t, rfl, ⟨_, SqT.of ht⟩, fun D hD => lcS_tup (P := fun i y _ => ∃ r, rs[i]? = some r ∧ y = .str (estr r)) ?_ ?_ (SqT.of ht) (by rw [hv.1]; omega) hD ?_ ?_⟩
    · rintro k y H1 H2 S h; exact h
    · rintro k y H1 D1 xs zs hd h; exact h
    · intro i x H1 Q1 hx S1 z
      obtain ⟨r, hr', ex⟩ := hv.get hx
      refine ⟨_, rfl, rfl, _, rfl, ?_⟩
      cases r with
      | none =>
        have e : x = .non := ex
        subst e
        exact iteT (z _ _ (Same.refl _) ⟨none, hr', rfl⟩)
      | some q1 =>
        obtain ⟨b, rfl, ⟨dy, hb⟩, s1⟩ := ex
        refine iteF ⟨_, rfl, b, dy, _, rfl, S1 _ _ hb, b, PN, q1, rfl, ⟨⟨dy, S1 _ _ hb⟩, s1⟩, (by decide), _, rfl, z _ _ (Same.refl _) ⟨some q1, hr', rfl⟩⟩
    · intro H1 ys S1 hys hyl hP
      have ey : ys = (rs.map estr).map V.str := by
        refine List.ext_getElem? fun i => ?_
        rw [List.map_map, List.getElem?_map]
        by_cases hi : i < ys.length
        · obtain ⟨r, e1, e2⟩ := hP i ys[i] (List.getElem?_eq_getElem hi)
          rw [e1, List.getElem?_eq_getElem hi, e2]
          rfl
        · rw [List.getElem?_eq_none (by omega), List.getElem?_eq_none (by rw [← hv.1]; omega)]
          rfl
      rw [ey] at hys
      refine ⟨(" " : Str), D, rs.map estr, rfl, rfl, .inl (SqL.of hys), ?_, q H1 S1⟩
      have h1 := line_sum sz
      have e : (" " : Str).length = 1 := rfl
      rw [List.length_map, e]
      omega
theorem ok_SReprH (T : Tx K mg C) : FnH P w K mg base CX0 7 T.aSRepr T.dSRepr ["self"] (spSRepr C T.S) := by
  refine SK.okHot T.FSRepr scSRepr (fun vs H Q E h => ?_) (fun cdv A outer s H vs Q E p hot hr h => ?_)
  · obtain ⟨a, rs, rfl, _⟩ := h
    rfl
  · obtain ⟨a, rs, rfl, hs, q⟩ := h
    obtain ⟨dx, t, ha, ⟨vs, ht, hv⟩, hl⟩ := hs.tup
    have sz : SzE 800 rs := SzE.mono (EN.sz hv) (by decide)
    have lz := line_len sz
    have lb := line_big
    refine ⟨_, (pss_one (ps_ret (pe_joined (.cons pe_str (.cons (pe_fmtR (pe_callTy (call_strAny (E := E0) T.hSStr.h T.hSStr.i (runAny_ofH (ok_SStrH T) ⟨p, hot, List.mem_cons_self⟩ T.bSStr) hr) (by rfl) T.rc.str_ (by decide +kernel) (pa_cons (pv 0) pa_nil))) (.cons pe_str .nil)))))), ?_⟩
    have s0 : Str.empty.length = 0 := rfl
    have s1 : ("Series(" : Str).length = 7 := rfl
    have s2 : (")" : Str).length = 1 := rfl
    have s3 : ("'" : Str).length = 1 := rfl
    refine ⟨_, rfl, ?_, _, rfl, a, dx, _, rfl, ha, a, rs, rfl, hs, fun H1 S1 => ⟨_, rfl, .inl ⟨line rs, rfl, ?_, ?_⟩⟩⟩
    · simp only [Str.length_append]; omega
    · rw [line_repr]
      simp only [Str.length_append]; omega
    · rw [line_repr]
      refine ⟨_, rfl, ?_, _, rfl, ?_, q H1 S1⟩
      · simp only [Str.length_append]; omega
      · simp only [Str.length_append]; omega
end
end T08

/-! _law_caught(lambda: e), where the error may hold fractions and series; its context known to be None. -/
namespace T08
open PySem PySem.Spec PyProof.Rows L2 SF SQ SFT L2H LamX TL SK
def rAny (C S : Addr) (n : Nat) : List V → Hp → VK → Prop := fun xs H Q => SX.rReprS xs H Q ∨ rSv C S PN n xs H Q
theorem mono_rAny {C S : Addr} {n : Nat} : Mono (rAny C S n) := fun xs H Q Q' h z => z.imp (SFT.mono_reprS xs H Q Q' h) (mono_rSv xs H Q Q' h)
theorem runAny_mono {X : Cx} {j k : Nat} {f : Addr} {sp : Sp} {E : XK} (R : RunAny X j f sp E) (h : j ≤ k) : RunAny X k f sp E := fun A pins σ H s Q us vs a b hr I r q => R A pins σ H s Q us vs a b (hr.mono h) I r q
section
variable {X : Cx} {C : Addr} {k n : Nat}
theorem own_calm (T : Tx X.K X.mg C) (hd : X.A.handled = none) : Own X 7 C T.S T.aRepr T.aSRepr (spSRepr C T.S) where
  hC := T.hRepr.h
  iC := T.hRepr.i
  rC := runAny_mono (runAny_of (E := E0) (ok_Repr T) T.bRepr pass0 hd) (by decide)
  hS := T.hSRepr.h
  iS := T.hSRepr.i
  rS := runAny_of (E := E0) (ok_SRepr T) T.bSRepr pass0 hd
theorem own_hot {p : Addr × Obj} (T : Tx X.K X.mg C) (hot : Hot1 X.A p) (hp : p ∈ X.pn) : Own X 7 C T.S T.aRepr T.aSRepr (spSRepr C T.S) where
  hC := T.hRepr.h
  iC := T.hRepr.i
  rC := runAny_mono (runAny_ofQ (ok_ReprQ T) hp T.bRepr) (by decide)
  hS := T.hSRepr.h
  iS := T.hSRepr.i
  rS := runAny_ofH (ok_SReprH T) ⟨p, hot, hp⟩ T.bSRepr
theorem sp_ser {C S : Addr} (a : Addr) (rs : List Ent) (H : Hp) (Q : VK) (h : SerAt C S PN H a rs) (q : ∀ H', Same H H' → Q (.str (srepr rs)) H') : spSRepr C S [.ref a] H Q E0 := ⟨a, rs, rfl, h, q⟩
theorem call_rAny (T : Tx X.K X.mg C) (hgd : X.A.guards = some []) (hr : Room (7 + n + 2) X.A) : CallR X (.builtin "repr") (rAny C T.S n) :=
  callR_or (SX.call_reprS hgd (k := 7 + n + 2) hr) (call_reprSv (by decide) (own_calm T hr.hd) sp_ser hgd ⟨hr.dp, hr.un⟩)
theorem call_rAnyH {p : Addr × Obj} (T : Tx X.K X.mg C) (hot : Hot1 X.A p) (hp : p ∈ X.pn) (hgd : X.A.guards = some []) (hr : RoomH (7 + n + 2) X.A) : CallR X (.builtin "repr") (rAny C T.S n) :=
  callR_or (call_reprH (k := 7 + n + 2) hgd hr) (call_reprSv (by decide) (own_hot T hot hp) sp_ser hgd hr)
end
section
variable {X : Cx} {C : Addr} {cs bs : Nat → Addr} {T : List (Addr × Str)} {c P : Addr} {k n : Nat} {params : Arguments} {body : Expr} {scope : Scope} {t : XK → TE} {p lpos pos : Pos}
theorem lam_caughtN (T0 : Tx X.K X.mg C) (Z : CErr X.K X.mg cs bs) (hgd : X.A.guards = some []) (hr : Room (k + n + 12) X.A) (hg : Gl X "_law_caught") (TB : TabB X.base X.mg c P) (hcode : X.env.code = .ref c) (hmT : (P, X.env.qual ++ "<lambda>") ∈ T) (hu : ∀ p ∈ T, p.1 = P → p.2 = X.env.qual ++ "<lambda>")
    (L : LamS X.env.scope scope) (hbody : ∀ (A : Around) (outer : List PySem.Env) (s : Shared) (H : Hp) (E : XK) (f c' : Addr), Room (k + 2) (A.deeper (lamEnv X scope s.heap.objs.size f c')) → PE (lamCxN X A outer s H E scope f c') body (t E))
    (hdef : defaultsOf params X.env = ([], []) := by rfl) (hbind : ∀ (q : Str) (cl : List (Str × Addr)) (pm cv ctv : Value), bindArgs (PySem.W.kla_fn "<lambda>" q params body scope cl pm cv ctv) ⟨[], []⟩ = pure [] := by intros; rfl) :
    PE X (.Call (.Name "_law_caught" p) [.Lambda params body scope lpos] [] pos) (tLam T (TTc cs SX.rReprS (rAny C T0.S n)) t) := by
  obtain ⟨oc, od, kV, doc, pm, an, cdv, ct, osl, ed, lk, hcd⟩ := T0.FCaught.ex
  have hb := T0.bCaught
  rw [ed] at lk hb
  refine pe_lamcallN (k := k + 2) hg T0.gCaught T0.FCaught.kp lk hcd hb scCaught rfl (.inl rfl) ?_ TB hcode hmT hu (hr.mono (by omega)) L hdef hbind hbody
  refine caught_givesN Z hgd (hr.mono (by omega)) T0.FWord T0.bWord T0.gWord T0.FFields T0.bFields T0.gFields SFT.mono_reprS mono_rAny (fun s H => ?_) (fun s H a oe pn hot => ?_)
  · have hr3 : Room 3 (X.A.deeper (envOfC "_law_caught" (defScope sCaught) s.heap.objs.size T0.aCaught cdv)) := (hr.mono (show 4 ≤ k + n + 12 by omega)).deeper _
    exact SX.call_reprS hgd (k := 3) hr3
  · have hr3 : Room (7 + n + 2) (X.A.deeper (envOfC "_law_caught" (defScope sCaught) s.heap.objs.size T0.aCaught cdv)) := (hr.mono (show 7 + n + 2 + 1 ≤ k + n + 12 by omega)).deeper _
    exact call_rAnyH (X := (cxC X T0.aCaught cdv s H).suite a ((a, oe) :: pn)) (p := (a, oe)) T0 hot List.mem_cons_self hgd ⟨hr3.dp, hr3.un⟩
end
end T08

/-! A thing's text stays when its tuple of one is around it: what holds the thing isn't within it. -/
namespace SK
open PySem PySem.Spec PyProof.Rows L2 SF SQ L2H
section
variable {C S : Addr} {N : Nat} {H : Hp} {p a0 : Addr}
/-- a container -/
def Box (H : Hp) (a : Addr) : Prop := (∃ vs, H a = some (.tup vs)) ∨ (∃ vs, H a = some (.lst vs)) ∨ ∃ kv, H a = some (.dK kv)
theorem Sv.nself {n : Nat} {en : List Addr} {t : PySem.Str} (h : Sv C S N H n en (.ref a0) t) (hb : Box H a0) (hm : a0 ∈ en) : False := by
  cases h with
  | fr h => obtain ⟨⟨dx, e⟩, _⟩ := h; rcases hb with ⟨_, z⟩ | ⟨_, z⟩ | ⟨_, z⟩ <;> rw [e] at z <;> cases z
  | ser h => obtain ⟨dx, t, vs, e, _⟩ := h; rcases hb with ⟨_, z⟩ | ⟨_, z⟩ | ⟨_, z⟩ <;> rw [e] at z <;> cases z
  | tup _ hn _ => exact hn hm
  | lst _ hn _ => exact hn hm
  | dct _ hn => exact hn hm
mutual
theorem Sv.outer (hp : H p = some (.tup [.ref a0])) (hb : Box H a0) : ∀ {n : Nat} {en : List Addr} {v : V} {t : PySem.Str}, a0 ∈ en → Sv C S N H n en v t → Sv C S N H n (en ++ [p]) v t
  | _, _, _, _, _, .non => .non
  | _, _, _, _, _, .bl b => .bl b
  | _, _, _, _, _, .int h => .int h
  | _, _, _, _, _, .str h => .str h
  | _, _, _, _, _, .fr h => .fr h
  | _, _, _, _, _, .ser h => .ser h
  | _, _, _, _, hm, .tup (a := a) e hn h => by
    refine .tup e (fun z => ?_) (SvAll.outer hp hb (List.mem_cons_of_mem _ hm) h)
    rcases List.mem_append.mp z with z | z
    · exact hn z
    · rw [List.mem_singleton.mp z, hp] at e
      cases e
      cases h with
      | cons h _ => exact h.nself hb (List.mem_cons_of_mem _ hm)
  | _, _, _, _, hm, .lst (a := a) e hn h => by
    refine .lst e (fun z => ?_) (SvAll.outer hp hb (List.mem_cons_of_mem _ hm) h)
    rcases List.mem_append.mp z with z | z
    · exact hn z
    · rw [List.mem_singleton.mp z, hp] at e
      cases e
  | _, _, _, _, hm, .dct (a := a) e hn => by
    refine .dct e (fun z => ?_)
    rcases List.mem_append.mp z with z | z
    · exact hn z
    · rw [List.mem_singleton.mp z, hp] at e
      cases e
theorem SvAll.outer (hp : H p = some (.tup [.ref a0])) (hb : Box H a0) : ∀ {n : Nat} {en : List Addr} {vs : List V} {ts : List PySem.Str}, a0 ∈ en → SvAll C S N H n en vs ts → SvAll C S N H n (en ++ [p]) vs ts
  | _, _, _, _, _, .nil => .nil
  | _, _, _, _, hm, .cons h t => .cons (Sv.outer hp hb hm h) (SvAll.outer hp hb hm t)
end
/-- the thing's text with the tuple of it around -/
theorem Sv.held {n : Nat} {v : V} {t : PySem.Str} (hp : H p = some (.tup [v])) (h : Sv C S N H n [] v t) : Sv C S N H n [p] v t := by
  cases h with
  | non => exact .non
  | bl b => exact .bl b
  | int h => exact .int h
  | str h => exact .str h
  | fr h => exact .fr h
  | ser h => exact .ser h
  | tup e hn h =>
    refine .tup e (fun z => ?_) (SvAll.outer hp (.inl ⟨_, e⟩) List.mem_cons_self h)
    have z := List.mem_singleton.mp z
    subst z
    have e' := e
    rw [hp] at e'
    cases e'
    cases h with
    | cons h _ => exact h.nself (.inl ⟨_, e⟩) List.mem_cons_self
  | lst e hn h =>
    refine .lst e (fun z => ?_) (SvAll.outer hp (.inr (.inl ⟨_, e⟩)) List.mem_cons_self h)
    rw [List.mem_singleton.mp z, hp] at e
    cases e
  | dct e hn =>
    refine .dct e (fun z => ?_)
    rw [List.mem_singleton.mp z, hp] at e
    cases e
end
end SK

/-! The text of a thing that an error holds: plain, or with fractions and series within. -/
namespace SK
open PySem PySem.Spec PyProof.Rows L2 SF SQ SFT L2H LamX
section
variable {C S : Addr} {N : Nat} {H H' : Hp}
theorem EN.extN {v : V} {r : Ent} (h : EN C N H v r) (s : ExtN H H') : EN C N H' v r := by
  cases r with
  | none => exact h
  | some q => obtain ⟨a, e, x⟩ := h; exact ⟨a, e, x.extN s⟩
theorem SerAt.extN {a : Addr} {rs : List Ent} (h : SerAt C S N H a rs) (s : ExtN H H') : SerAt C S N H' a rs :=
  let ⟨dx, t, vs, h1, h2, h3, h4⟩ := h; ⟨dx, t, vs, s _ _ h1 (fun ps z => by cases z), s _ _ h2 (fun ps z => by cases z), h3.imp fun _ _ z => EN.extN z s, h4⟩
mutual
theorem Sv.extN (s : ExtN H H') : ∀ {n : Nat} {en : List Addr} {v : V} {t : PySem.Str}, Sv C S N H n en v t → Sv C S N H' n en v t
  | _, _, _, _, .non => .non
  | _, _, _, _, .bl b => .bl b
  | _, _, _, _, .int h => .int h
  | _, _, _, _, .str h => .str h
  | _, _, _, _, .fr h => .fr (RQ.extN h s)
  | _, _, _, _, .ser h => .ser (SerAt.extN h s)
  | _, _, _, _, .tup e hn h => .tup (s _ _ e (fun ps z => by cases z)) hn (SvAll.extN s h)
  | _, _, _, _, .lst e hn h => .lst (s _ _ e (fun ps z => by cases z)) hn (SvAll.extN s h)
  | _, _, _, _, .dct e hn => .dct (s _ _ e (fun ps z => by cases z)) hn
theorem SvAll.extN (s : ExtN H H') : ∀ {n : Nat} {en : List Addr} {vs : List V} {ts : List PySem.Str}, SvAll C S N H n en vs ts → SvAll C S N H' n en vs ts
  | _, _, _, _, .nil => .nil
  | _, _, _, _, .cons h t => .cons (Sv.extN s h) (SvAll.extN s t)
end
mutual
theorem Sv.up : ∀ {n : Nat} {en : List Addr} {v : V} {t : PySem.Str}, Sv C S N H n en v t → Sv C S N H (n + 1) en v t
  | _, _, _, _, .non => .non
  | _, _, _, _, .bl b => .bl b
  | _, _, _, _, .int h => .int h
  | _, _, _, _, .str h => .str h
  | _, _, _, _, .fr h => .fr h
  | _, _, _, _, .ser h => .ser h
  | _, _, _, _, .tup e hn h => .tup e hn (SvAll.up h)
  | _, _, _, _, .lst e hn h => .lst e hn (SvAll.up h)
  | _, _, _, _, .dct e hn => .dct e hn
theorem SvAll.up : ∀ {n : Nat} {en : List Addr} {vs : List V} {ts : List PySem.Str}, SvAll C S N H n en vs ts → SvAll C S N H (n + 1) en vs ts
  | _, _, _, _, .nil => .nil
  | _, _, _, _, .cons h t => .cons (Sv.up h) (SvAll.up t)
end
end
end SK
namespace T08
open PySem PySem.Spec PyProof.Rows L2 SF SQ SFT L2H LamX TL SK
/-- repr((v,)) is t -/
def Shn (C S : Addr) (n : Nat) (H : Hp) (v : V) (t : PySem.Str) : Prop :=
  (∃ d, SX.Sd H v d ∧ (PyData.tuple [d]).showable = true ∧ (PyData.tuple [d]).depth ≤ 8 ∧ (PyData.tuple [d]).shown.length ≤ sizeLine ∧ t = (PyData.tuple [d]).shown) ∨
  (∃ y, Sv C S PN H n [] v y ∧ (tupleText [y]).length ≤ sizeLine ∧ t = tupleText [y])
section
variable {C S : Addr} {n : Nat} {H H' : Hp} {v : V} {t : PySem.Str}
theorem Shn.extN (h : Shn C S n H v t) (s : ExtN H H') : Shn C S n H' v t :=
  h.imp (fun ⟨d, a, b⟩ => ⟨d, SQ.Sd.extN s a, b⟩) fun ⟨y, a, b⟩ => ⟨y, Sv.extN s a, b⟩
theorem Shn.rAny (h : Shn C S n H v t) {p : Addr} {Q : VK} (hp : H p = some (.tup [v])) (q : ∀ H', Same H H' → Q (.str t) H') : rAny C S n [.ref p] H Q := by
  rcases h with ⟨d, a, b1, b2, b3, rfl⟩ | ⟨y, a, b, rfl⟩
  · exact .inl ⟨p, _, rfl, .tup hp (.cons a .nil), b1, b2, b3, q H (Same.refl _)⟩
  · exact .inr ⟨p, [v], [y], rfl, hp, .cons (a.held hp) .nil, b, q⟩
end
section
variable {X : Cx} {C S : Addr} {n : Nat} {T : List (Addr × PySem.Str)} {G : L2.St → Hp → Prop} {cs : Nat → Addr} {e : Expr} {s : Prop} {t : PySem.Str} {v : V}
/-- what is caught of e, which lets an error out that holds v -/
theorem pc_errN {RV : List V → Hp → VK → Prop} {j : Nat} (hj : j < 12) (hgv : ∀ v, given j [("given", v)] = some [v]) (h : PE X e (tLam T (TTc cs RV (rAny C S n)) (fun E => TErr E (cs j) G v s))) (hG : GN G) (hs : ∀ σ H, G σ H → Shn C S n H v t) : PE X e (TC T G (cnm j) t s) :=
  pe_weak h fun σ H Q ⟨hg, hT, h1, z⟩ => ⟨hT, fun H1 S1 T1 Q0 hQ0 => ⟨hG _ _ _ hg S1, h1, fun H2 S2 dx H3 S3 ex => ⟨j, [("given", v)], [v], hj, rfl, .inr ⟨dx, rfl, ex⟩, hgv v, fun p H4 S4 ep =>
    Shn.rAny ((hs _ _ hg).extN (S1.trans (ExtN.of fun b o z => S4 b o (S3 b o (S2 b o z))))) ep fun H5 S5 => ⟨_, rfl, fun L H6 S6 nL eL => z L H6 (S1.trans (ExtN.of fun b o z => S6 b o (S5 b o (S4 b o (S3 b o (S2 b o z)))))) (T1.ext fun b o z => S6 b o (S5 b o (S4 b o (S3 b o (S2 b o z))))) eL⟩⟩⟩⟩
end
end T08

/-! Series(e), Series(entries=e), Series.read(e) of what is refused. -/
namespace SK
open PySem PySem.Spec PyProof.Rows L2 SF SQ SFT L2H LamX
section
variable {C S : Addr} {H H' : Hp} {v : V}
theorem Dec.sameK (s : Same H H') {T : String} (d : Dec H v T) : Dec H' v T := SQ.Dec.extN (ExtN.of s) d
theorem ins_same (h : IsIns C H v) (s : Same H H') : IsIns C H' v := let ⟨a, dx, fs, e, x⟩ := h; ⟨a, dx, fs, e, s _ _ x⟩
theorem OkE.same (h : OkE C H v) (s : Same H H') : OkE C H' v := h.imp id fun h => h.imp id fun h => ins_same h s
theorem NoE.same (h : NoE S H v) (s : Same H H') : NoE S H' v := h.imp (fun ⟨k, d, x⟩ => ⟨k, Dec.sameK s d, x⟩) fun h => ins_same h s
theorem NoRow.same (h : NoRow C S H v) (s : Same H H') : NoRow C S H' v :=
  h.imp (fun ⟨k, d, x⟩ => ⟨k, Dec.sameK s d, x⟩) fun h => h.imp (fun h => ins_same h s) fun ⟨t, xs, e, ht, ha, x, hx, hn⟩ => ⟨t, xs, e, s _ _ ht, fun x hx => (ha x hx).imp (fun h => OkE.same h s) fun h => NoE.same h s, x, hx, NoE.same hn s⟩
end
end SK
namespace T08
open PySem PySem.Spec PyProof.Rows L2 SF SQ SFT L2H LamX TL SK
/-- e is v -/
def TVal (G : L2.St → Hp → Prop) (v : V) (s : Prop) : TE := fun σ H Q => G σ H ∧ s ∧ ∀ H', Same H H' → Q v H'
section
variable {C S : Addr} {H H' : Hp} {v : V}
theorem NoT.same (h : NoT C S H v) (s : Same H H') : NoT C S H' v := h.imp (fun ⟨k, d, x⟩ => ⟨k, Dec.sameK s d, x⟩) fun h => h.imp (fun h => ins_same h s) fun h => ins_same h s
end
section
variable {X : Cx} {C D fI : Addr} {fdI : FuncData} {G : L2.St → Hp → Prop} {E : XK} {o a : Expr} {s : Prop} {p : Pos} {pos apos kpos cpos npos : Pos} {v : V} {pl : Sem Bool}
theorem kSI8 {K : PySem.W.Frag} {mg : Str → Option Value} (T : Tx K mg C) : KBn K T.dSI ["self", "entries"] 1 ["entries"] gK2 gK2 := kbnF T.FSI 1 ["entries"] gK2 gK2 rel_gK2 fun _ _ _ _ _ _ us ws h1 h2 => match us, ws, h1, h2 with | [_], [_], _, _ => rfl
theorem pe_serX (T : Tx X.K X.mg C) (O : OE X.prog X.w X.K X.mg X.base "InvalidEntries" D fI fdI) (hx : Passes (L2N.CX X.prog X.w) X E) (hr : Room 5 X.A) (hg : Gl X "Series") (ha : PE X a (TVal G v s)) (hn : ∀ σ H, G σ H → NoRow C T.S H v)
    (he : starEach (a :: []) X.env = (false, eval a X.env) :: starEach [] X.env := by rfl) (hpl : (backTo pos (starEach [] X.env)).any (·.1) = false := by rfl) :
    PE X (.Call (.Name "Series" p) [a] [] pos) (TErr E D G v s) :=
  pe_weak (pe_make (E := E) T.MS (zw_SIN T O) hr hg T.gS T.bSI .nil hx (pa_cons ha pa_nil he) (by decide) he hpl) fun σ H Q ⟨hg, h1, z⟩ => ⟨hg, h1, fun H1 S1 x dx hx hd hne => by
    have S3 := same_new (o := HO.ins T.S dx []) (same_new (o := HO.own x) (Same.refl H1) hd) (by rw [upd_ne (Ne.symm hne)]; exact hx)
    exact ⟨x, v, rfl, NoRow.same (hn _ _ hg) (S1.trans S3), z _ (S1.trans S3)⟩⟩
theorem pe_serXK (T : Tx X.K X.mg C) (O : OE X.prog X.w X.K X.mg X.base "InvalidEntries" D fI fdI) (hx : Passes (L2N.CX X.prog X.w) X E) (hr : Room 5 X.A) (hg : Gl X "Series") (ha : PE X a (TVal G v s)) (hn : ∀ σ H, G σ H → NoRow C T.S H v)
    (hall : (backToKw pos (keywordEach [⟨some "entries", a, kpos⟩] X.env)).all (·.1.isSome) = true := by rfl) (hks : (backToKw pos (keywordEach [⟨some "entries", a, kpos⟩] X.env)).filterMap (·.1) = (["entries"] : List PySem.Str) := by rfl)
    (hpl : ((backTo pos (starEach [] X.env)).any (·.1) || (backToKw pos (keywordEach [⟨some "entries", a, kpos⟩] X.env)).any (·.1.isNone)) = false := by rfl) :
    PE X (.Call (.Name "Series" p) [] [⟨some "entries", a, kpos⟩] pos) (TErr E D G v s) :=
  pe_weak (pe_makeK0 (E := E) T.MS (zw_SIN T O) hr hg T.gS (kSI8 T) hx (pk_cons ha pk_nil) hall hks (by decide) hpl) fun σ H Q ⟨hg, h1, z⟩ => ⟨hg, h1, fun H1 S1 => ⟨rfl, rfl, fun x dx hx hd hne => by
    have S3 := same_new (o := HO.ins T.S dx []) (same_new (o := HO.own x) (Same.refl H1) hd) (by rw [upd_ne (Ne.symm hne)]; exact hx)
    exact ⟨x, v, rfl, NoRow.same (hn _ _ hg) (S1.trans S3), z _ (S1.trans S3)⟩⟩⟩
theorem pe_rdW (T : Tx X.K X.mg C) (O : OE X.prog X.w X.K X.mg X.base "InvalidText" D fI fdI) (hx : Passes (L2N.CX X.prog X.w) X E) (hr : Room 4 X.A) (ho : PE X o (tC (.ref T.S))) (ha : PE X a (TVal G v s)) (hn : ∀ σ H, G σ H → NoT C T.S H v)
    (hst : starEach (a :: []) X.env = (false, eval a X.env) :: starEach [] X.env := by rfl) (hpl : (backTo pos (starEach [] X.env)).any (·.1) = false := by rfl)
    (hev : eval (.Call (.Attribute o "read" apos) (a :: []) [] pos) X.env = (do let ov ← eval o X.env; standAt apos.atName; let (f, first) ← holding [ov] (getMethod ov "read" pl); callWith pos f first (backTo pos (starEach (a :: []) X.env)) (backToKw pos (keywordEach [] X.env))) := by rfl) :
    PE X (.Call (.Attribute o "read" apos) [a] [] pos) (TErr E D G v s) :=
  pe_weak (ClX.pe_cmeth (E := E) ho T.rSR T.cSR ((zw_SRW T O).raw T.bSR .nil) hr hx (pa_cons ha pa_nil hst) hst hpl hev) fun σ H Q ⟨hg, h1, z⟩ =>
    ⟨rfl, hg, h1, fun H1 S1 => ⟨v, rfl, NoT.same (hn _ _ hg) S1, z _ S1⟩⟩
end
end T08

/-! Things of many sorts that an expression gives; they keep off one object that changes (at a). -/
namespace SQ
open PySem PySem.Spec PyProof.Rows L2 SF SFT LamX
theorem same_del {H H' : Hp} {a : Addr} (S : Same H H') : Same (del H a) (del H' a) := fun b o e => by
  by_cases h : b = a
  · subst h
    rw [del_same] at e
    cases e
  · rw [del_ne h] at e ⊢
    exact S b o e
theorem extN_del {H H' : Hp} {a : Addr} (S : ExtN H H') : ExtN (del H a) (del H' a) := fun b o e nt => by
  by_cases h : b = a
  · subst h
    rw [del_same] at e
    cases e
  · rw [del_ne h] at e ⊢
    exact S b o e nt
theorem del_sub {H : Hp} {a : Addr} : Same (del H a) H := fun b o e => by
  by_cases h : b = a
  · subst h
    rw [del_same] at e
    cases e
  · rw [del_ne h] at e
    exact e
theorem Thing.same {C : Addr} {H H' : Hp} {v : V} {t : Str} {k : TK} (h : Thing C H v t k) (S : Same H H') : Thing C H' v t k := h.extN (ExtN.of S)
/-- e is a thing off a -/
def TVd (R : V → Prop) (C a : Addr) (G : L2.St → Hp → Prop) (k : TK) (t : Str) : TE := fun σ H Q => G σ H ∧ ∀ v H', Same H H' → Thing C (del H' a) v t k → R v → Q v H'
/-- things off a, one behind the other -/
def Things (R : V → Prop) (C : Addr) (H : Hp) : List V → List (TK × Str) → Prop
  | [], [] => True
  | v :: vs, k :: ks => Thing C H v k.2 k.1 ∧ R v ∧ Things R C H vs ks
  | _, _ => False
theorem Things.same {R : V → Prop} {C : Addr} {H H' : Hp} (S : Same H H') : ∀ {vs : List V} {ks : List (TK × Str)}, Things R C H vs ks → Things R C H' vs ks
  | [], [], h => h
  | _ :: _, _ :: _, h => ⟨h.1.same S, h.2.1, Things.same S h.2.2⟩
  | [], _ :: _, h => h.elim
  | _ :: _, [], h => h.elim
theorem Things.len {R : V → Prop} {C : Addr} {H : Hp} : ∀ {vs : List V} {ks : List (TK × Str)}, Things R C H vs ks → vs.length = ks.length
  | [], [], _ => rfl
  | _ :: _, _ :: _, h => by simp [Things.len h.2.2]
  | [], _ :: _, h => h.elim
  | _ :: _, [], h => h.elim
theorem Things.at_ {R : V → Prop} {C : Addr} {H : Hp} : ∀ {vs : List V} {ks : List (TK × Str)} {i : Nat}, Things R C H vs ks → i < ks.length → ∃ v k, vs[i]? = some v ∧ ks[i]? = some k ∧ Thing C H v k.2 k.1 ∧ R v
  | [], [], _, _, h => by simp at h
  | v :: vs, k :: ks, 0, h, _ => ⟨v, k, rfl, rfl, h.1, h.2.1⟩
  | v :: vs, k :: ks, i + 1, h, hi => by
    obtain ⟨v', k', e1, e2, x⟩ := Things.at_ (i := i) h.2.2 (by simpa using hi)
    exact ⟨v', k', by simpa using e1, by simpa using e2, x⟩
  | [], _ :: _, _, h, _ => h.elim
  | _ :: _, [], _, h, _ => h.elim
def TAd (R : V → Prop) (C a : Addr) (G : L2.St → Hp → Prop) (ks : List (TK × Str)) : TA := fun σ H Q => G σ H ∧ ∀ vs H', Same H H' → Things R C (del H' a) vs ks → Q vs H'
/-- the object at a stands -/
def GA (a : Addr) (G : L2.St → Hp → Prop) : Prop := ∀ σ H, G σ H → ∃ x y z : Int, H a = some (.lst [.int x, .int y, .int z])
section
variable {R : V → Prop} {X : Cx} {C a : Addr} {G : L2.St → Hp → Prop} {e : Expr} {es : List Expr} {ks : List (TK × Str)} {k : TK} {t : Str} {v : V} {vs : List V} {ds : List PyData} {d : PyData} {te : TE} {ta : TA} {pos : Pos}
theorem td_nil : L2.PA X [] (TAd R C a G []) := ⟨fun pos pins s σ H Q I h => (pa_nil (X := X)).run pos pins s σ H Q I (h.2 [] H (Same.refl H) trivial)⟩
theorem td_cons (hG : GS G) (ha : PE X e (TVd R C a G k t)) (hr : L2.PA X es (TAd R C a G ks)) (hs : starEach (e :: es) X.env = (false, eval e X.env) :: starEach es X.env := by rfl) : L2.PA X (e :: es) (TAd R C a G ((k, t) :: ks)) :=
  ⟨fun pos pins s σ H Q I h => (pa_cons ha hr hs).run pos pins s σ H Q I ⟨h.1, fun v H1 S1 tv rv => ⟨hG _ _ _ h.1 S1, fun vs H2 S2 tvs => h.2 _ _ (S1.trans S2) ⟨tv.same (same_del S2), rv, tvs⟩⟩⟩⟩
/-- the text of the tuple of what d is can be had -/
def OkD (d : PyData) : Prop := (PyData.tuple [d]).showable = true ∧ (PyData.tuple [d]).depth ≤ 8 ∧ (PyData.tuple [d]).shown.length ≤ sizeLine
theorem txt_of {H : Hp} (h : SX.Sd H v d) (o : OkD d) : TxtV C H v (PyData.tuple [d]).shown := .inl ⟨d, h, o.1, o.2.1, o.2.2, rfl⟩
/-- a literal -/
theorem td_lit (h : PE X e te) (hte : ∀ σ H Q, Q v H → te σ H Q) (hv : ∀ H, Thing C H v t k) (hR : R v := by trivial) : PE X e (TVd R C a G k t) := pe_weak h fun σ H Q ⟨hg, z⟩ => hte σ H Q (z v H (Same.refl H) (hv _) hR)
theorem off (hA : GA a G) {σ : L2.St} {H : Hp} (hg : G σ H) {p : Addr} (np : H p = none) : p ≠ a := fun e => by
  obtain ⟨x, y, z, h⟩ := hA σ H hg
  rw [e, h] at np
  cases np
theorem td_tup {x1 : Nat} (hA : GA a G) (h : L2.PA X es ta) (hta : ∀ σ H Q, Q vs H → ta σ H Q) (hd : ∀ H, SX.SdAll H vs ds) (hl : vs.length ≤ sizeLine) (o : OkD (.tuple ds)) (hR : ∀ p, R (.ref p) := by intros; trivial) : PE X (.Tuple es x1 pos) (TVd R C a G .other (PyData.tuple [.tuple ds]).shown) :=
  pe_weak (pe_tup h) fun σ H Q ⟨hg, z⟩ => hta σ H _ ⟨hl, fun p np => by
    have e : del (upd H p (.tup vs)) a p = some (.tup vs) := by rw [del_ne (off hA hg np)]; exact upd_same
    exact z _ _ (same_new (Same.refl H) np) ⟨⟨"tuple", .tup e, rfl⟩, txt_of (.tup e (hd _)) o⟩ (hR _)⟩
theorem td_lst (hA : GA a G) (h : L2.PA X es ta) (hta : ∀ σ H Q, Q vs H → ta σ H Q) (hd : ∀ H, SX.SdAll H vs ds) (hl : vs.length ≤ sizeLine) (o : OkD (.list ds)) (hR : ∀ p, R (.ref p) := by intros; trivial) : PE X (.List es pos) (TVd R C a G .other (PyData.tuple [.list ds]).shown) :=
  pe_weak (SX.pe_lstS h) fun σ H Q ⟨hg, z⟩ => hta σ H _ ⟨hl, fun p np ns => by
    have e : del (upd H p (.lst vs)) a p = some (.lst vs) := by rw [del_ne (off hA hg np)]; exact upd_same
    exact z _ _ (same_new (Same.refl H) np) ⟨⟨"list", .lst e, rfl⟩, txt_of (.lst ns e (hd _)) o⟩ (hR _)⟩
theorem td_dct0 (hA : GA a G) (o : OkD (.dict [])) (hR : ∀ p, R (.ref p) := by intros; trivial) : PE X (.Dict [] [] pos) (TVd R C a G .other (PyData.tuple [.dict []]).shown) :=
  pe_weak pe_dnewK fun σ H Q ⟨hg, z⟩ => fun p np => by
    have e : del (upd H p (.dK [])) a p = some (.dK []) := by rw [del_ne (off hA hg np)]; exact upd_same
    exact z _ _ (same_new (Same.refl H) np) ⟨⟨"dict", .dK e, rfl⟩, txt_of (.dct e .nil) o⟩ (hR _)
theorem td_dct {keys : List (Option Expr)} {values : List Expr} {trs : List (TE × TE)} {kvs : List (Key × V)} {D : List (PyData × PyData)} (hA : GA a G) (h : PPs X pos keys values trs)
    (hta : ∀ σ H Q, Q (kvs.map (fun kv => (kV kv.1, kv.2))) H → tPairs trs σ H Q) (hd : ∀ H, SX.SdP H (mergeK [] kvs) D) (o : OkD (.dict D)) (h0 : keys ≠ [] := by simp) (hall : keys.all (·.isSome) = true := by rfl) (hl : keys.length = values.length := by rfl) (h15 : keys.length ≤ 15 := by decide) (hk : kvs.length ≤ 15 := by decide) (hR : ∀ p, R (.ref p) := by intros; trivial) :
    PE X (.Dict keys values pos) (TVd R C a G .other (PyData.tuple [.dict D]).shown) :=
  pe_weak (pe_disp h hall hl h0 h15) fun σ H Q ⟨hg, z⟩ => fun p np => hta σ _ _ ⟨upd_same, kvs, rfl, hk, by
    have e : del (upd (upd H p (.dK [])) p (.dK (mergeK [] kvs))) a p = some (.dK (mergeK [] kvs)) := by rw [del_ne (off hA hg np)]; exact upd_same
    refine z _ _ (fun b u eb => ?_) ⟨⟨"dict", .dK e, rfl⟩, txt_of (.dct e (hd _)) o⟩ (hR _)
    have nb : b ≠ p := ne_of_none eb np
    rw [upd_ne nb, upd_ne nb]
    exact eb⟩
theorem td_num {n : Nat} {q : Rat} {s : Prop} (hA : GA a G) (hG : GS G) (h : PE X e (TQ C G true n q s)) (hs : s) (hn : n ≤ 1900) (hl : (tupleText [rrepr q]).length ≤ sizeLine) (hR : ∀ p, R (.ref p) := by intros; trivial) : PE X e (TVd R C a G (.num n q) (tupleText [rrepr q])) :=
  pe_weak h fun σ H Q ⟨hg, z⟩ => ⟨hg, hs, fun v H' S nv => by
    obtain ⟨p, rfl, r⟩ := nv_true nv
    obtain ⟨x, y, w, ea⟩ := hA σ H' (hG _ _ _ hg S)
    obtain ⟨⟨dx, ep⟩, sz⟩ := id r
    have ne : p ≠ a := fun e => by rw [e, ea] at ep; cases ep
    have r' : RQ C (del H' a) p n q := ⟨⟨dx, by rw [del_ne ne]; exact ep⟩, sz⟩
    exact z _ _ S ⟨⟨p, rfl, r'⟩, .inr ⟨p, n, q, rfl, r', hn, hl, rfl⟩⟩ (hR _)⟩
end
end SQ

/-! Things within a tuple that holds them; slices and sums of tuples; things off an object that changes. -/
namespace SK
open PySem PySem.Spec PyProof.Rows L2 SF SQ L2H
section
variable {C S : Addr} {N : Nat} {H H' : Hp} {p a0 : Addr} {xs : List V}
mutual
theorem Sv.same (s : Same H H') : ∀ {n : Nat} {en : List Addr} {v : V} {t : PySem.Str}, Sv C S N H n en v t → Sv C S N H' n en v t
  | _, _, _, _, .non => .non
  | _, _, _, _, .bl b => .bl b
  | _, _, _, _, .int h => .int h
  | _, _, _, _, .str h => .str h
  | _, _, _, _, .fr h => .fr (rq_same h s)
  | _, _, _, _, .ser h => .ser (ser_same h s)
  | _, _, _, _, .tup e hn h => .tup (s _ _ e) hn (SvAll.same s h)
  | _, _, _, _, .lst e hn h => .lst (s _ _ e) hn (SvAll.same s h)
  | _, _, _, _, .dct e hn => .dct (s _ _ e) hn
theorem SvAll.same (s : Same H H') : ∀ {n : Nat} {en : List Addr} {vs : List V} {ts : List PySem.Str}, SvAll C S N H n en vs ts → SvAll C S N H' n en vs ts
  | _, _, _, _, .nil => .nil
  | _, _, _, _, .cons h t => .cons (Sv.same s h) (SvAll.same s t)
end
theorem SvAll.mem {n : Nat} {en : List Addr} {v : V} : ∀ {vs : List V} {ts : List PySem.Str}, SvAll C S N H n en vs ts → v ∈ vs → ∃ t, Sv C S N H n en v t
  | _, _, .nil, hm => by cases hm
  | _, _, .cons h t, hm => (List.mem_cons.mp hm).elim (fun e => by subst e; exact ⟨_, h⟩) fun hm => SvAll.mem t hm
mutual
theorem Sv.outerM (hp : H p = some (.tup xs)) (hx : V.ref a0 ∈ xs) (hb : Box H a0) : ∀ {n : Nat} {en : List Addr} {v : V} {t : PySem.Str}, a0 ∈ en → Sv C S N H n en v t → Sv C S N H n (en ++ [p]) v t
  | _, _, _, _, _, .non => .non
  | _, _, _, _, _, .bl b => .bl b
  | _, _, _, _, _, .int h => .int h
  | _, _, _, _, _, .str h => .str h
  | _, _, _, _, _, .fr h => .fr h
  | _, _, _, _, _, .ser h => .ser h
  | _, _, _, _, hm, .tup (a := a) e hn h => by
    refine .tup e (fun z => ?_) (SvAll.outerM hp hx hb (List.mem_cons_of_mem _ hm) h)
    rcases List.mem_append.mp z with z | z
    · exact hn z
    · rw [List.mem_singleton.mp z, hp] at e
      cases e
      obtain ⟨t', h'⟩ := h.mem hx
      exact h'.nself hb (List.mem_cons_of_mem _ hm)
  | _, _, _, _, hm, .lst (a := a) e hn h => by
    refine .lst e (fun z => ?_) (SvAll.outerM hp hx hb (List.mem_cons_of_mem _ hm) h)
    rcases List.mem_append.mp z with z | z
    · exact hn z
    · rw [List.mem_singleton.mp z, hp] at e
      cases e
  | _, _, _, _, hm, .dct (a := a) e hn => by
    refine .dct e (fun z => ?_)
    rcases List.mem_append.mp z with z | z
    · exact hn z
    · rw [List.mem_singleton.mp z, hp] at e
      cases e
theorem SvAll.outerM (hp : H p = some (.tup xs)) (hx : V.ref a0 ∈ xs) (hb : Box H a0) : ∀ {n : Nat} {en : List Addr} {vs : List V} {ts : List PySem.Str}, a0 ∈ en → SvAll C S N H n en vs ts → SvAll C S N H n (en ++ [p]) vs ts
  | _, _, _, _, _, .nil => .nil
  | _, _, _, _, hm, .cons h t => .cons (Sv.outerM hp hx hb hm h) (SvAll.outerM hp hx hb hm t)
end
/-- the thing's text within a tuple that holds it -/
theorem Sv.heldM {n : Nat} {v : V} {t : PySem.Str} (hp : H p = some (.tup xs)) (hx : v ∈ xs) (h : Sv C S N H n [] v t) : Sv C S N H n [p] v t := by
  cases h with
  | non => exact .non
  | bl b => exact .bl b
  | int h => exact .int h
  | str h => exact .str h
  | fr h => exact .fr h
  | ser h => exact .ser h
  | tup e hn h =>
    refine .tup e (fun z => ?_) (SvAll.outerM hp hx (.inl ⟨_, e⟩) List.mem_cons_self h)
    have z := List.mem_singleton.mp z
    subst z
    have e' := e
    rw [hp] at e'
    cases e'
    obtain ⟨t', h'⟩ := h.mem hx
    exact h'.nself (.inl ⟨_, e⟩) List.mem_cons_self
  | lst e hn h =>
    refine .lst e (fun z => ?_) (SvAll.outerM hp hx (.inr (.inl ⟨_, e⟩)) List.mem_cons_self h)
    rw [List.mem_singleton.mp z, hp] at e
    cases e
  | dct e hn =>
    refine .dct e (fun z => ?_)
    rw [List.mem_singleton.mp z, hp] at e
    cases e
theorem svAll_of {n : Nat} {en : List Addr} {P : PySem.Str → Prop} : ∀ {vs : List V}, (∀ v ∈ vs, ∃ t, Sv C S N H n en v t ∧ P t) → ∃ ts, SvAll C S N H n en vs ts ∧ ts.length = vs.length ∧ ∀ t ∈ ts, P t
  | [], _ => ⟨[], .nil, rfl, fun t h => by cases h⟩
  | v :: vs, h => by
    obtain ⟨t, h1, h2⟩ := h v List.mem_cons_self
    obtain ⟨ts, h3, h4, h5⟩ := svAll_of fun u hu => h u (List.mem_cons_of_mem _ hu)
    exact ⟨t :: ts, .cons h1 h3, by simp [h4], fun u hu => (List.mem_cons.mp hu).elim (fun e => by subst e; exact h2) (h5 u)⟩
end
/-! ### texts -/
theorem ok_join {sep : PySem.Str} (hs : PyData.strOk sep = true) : ∀ {ts : List PySem.Str}, (∀ t ∈ ts, PyData.strOk t = true) → PyData.strOk (Str.join sep ts) = true
  | [], _ => by show PyData.strOk (Str.empty) = true; decide +kernel
  | [t], h => h t List.mem_cons_self
  | t :: u :: ts, h => ok_app (ok_app (h t List.mem_cons_self) hs) (ok_join hs fun x hx => h x (List.mem_cons_of_mem _ hx))
theorem ok_tupleText {ts : List PySem.Str} (h : ∀ t ∈ ts, PyData.strOk t = true) : PyData.strOk (tupleText ts) = true := by
  unfold tupleText
  refine ok_app (ok_app (by decide +kernel) (ok_join (by decide +kernel) h)) ?_
  split <;> decide +kernel
theorem ok_listText {ts : List PySem.Str} (h : ∀ t ∈ ts, PyData.strOk t = true) : PyData.strOk (listText ts) = true := by
  rw [listText_eq_join]
  exact ok_app (ok_app (by decide +kernel) (ok_join (by decide +kernel) h)) (by decide +kernel)
theorem sum_len {k : Nat} : ∀ {ts : List PySem.Str}, (∀ t ∈ ts, t.length ≤ k) → (ts.map (·.length)).sum ≤ k * ts.length
  | [], _ => Nat.zero_le _
  | t :: ts, h => by
    have h1 := h t List.mem_cons_self
    have h2 := sum_len fun u hu => h u (List.mem_cons_of_mem t hu)
    simp only [List.map_cons, List.sum_cons, List.length_cons, Nat.mul_add, Nat.mul_one]
    omega
/-! ### tuples -/
section
variable {K : PySem.W.Frag} {a b : Addr} {xs ys : List V} {lo hi : Option Int} {H : Hp} {Q : VK}
theorem slA_of (h : H a = some (.tup xs)) (q : ∀ p H', Same H H' → H' p = some (.tup (cutV xs lo hi)) → Q (.ref p) H') : rSlA K (.ref a) lo hi H Q := by
  refine ⟨a, xs, rfl, SqT.of h, fun ⟨h0, h1⟩ => q a H (Same.refl _) ?_, fun _ p np => q p _ (same_new (Same.refl _) np) upd_same⟩
  have e : cutV xs lo hi = xs := by
    unfold cutV
    rw [h0, h1]
    simp
  rw [e]
  exact h
theorem catA_of (ha : H a = some (.tup xs)) (hb : H b = some (.tup ys)) (hl : xs.length + ys.length ≤ sizeLine) (q : ∀ p H', Same H H' → H' p = some (.tup (xs ++ ys)) → Q (.ref p) H') : rCatA K (.ref a) (.ref b) H Q :=
  ⟨a, b, xs, ys, rfl, rfl, SqT.of ha, SqT.of hb, hl, fun e => by subst e; exact q b H (Same.refl _) hb, fun _ e => by subst e; exact q a H (Same.refl _) (by rw [List.append_nil]; exact ha), fun _ _ p np => q p _ (same_new (Same.refl _) np) upd_same⟩
end
/-! ### things off an object that changes -/
/-- e is a thing of which Φ holds off a -/
def TPd (Φ : V → Hp → Prop) (a : Addr) (G : L2.St → Hp → Prop) : TE := fun σ H Q => G σ H ∧ ∀ v H', Same H H' → Φ v (del H' a) → Q v H'
def TPs (Φ : V → Hp → Prop) (a : Addr) (G : L2.St → Hp → Prop) (n : Nat) : TA := fun σ H Q => G σ H ∧ ∀ vs H', Same H H' → (∀ v ∈ vs, Φ v (del H' a)) → vs.length = n → Q vs H'
section
variable {Φ : V → Hp → Prop} {X : Cx} {a : Addr} {G : L2.St → Hp → Prop} {e : Expr} {es : List Expr} {n : Nat} {te : TE} {ta : TA} {v : V} {vs : List V} {pos : Pos}
theorem tp_nil : L2.PA X [] (TPs Φ a G 0) := ⟨fun pos pins s σ H Q I h => (pa_nil (X := X)).run pos pins s σ H Q I (h.2 [] H (Same.refl H) (fun v h => by cases h) rfl)⟩
theorem tp_cons (hG : GS G) (hΦ : ∀ v H H', Same H H' → Φ v H → Φ v H') (ha : PE X e (TPd Φ a G)) (hr : L2.PA X es (TPs Φ a G n)) (hs : starEach (e :: es) X.env = (false, eval e X.env) :: starEach es X.env := by rfl) : L2.PA X (e :: es) (TPs Φ a G (n + 1)) :=
  ⟨fun pos pins s σ H Q I h => (pa_cons ha hr hs).run pos pins s σ H Q I ⟨h.1, fun v H1 S1 tv => ⟨hG _ _ _ h.1 S1, fun vs H2 S2 tvs hl => h.2 _ _ (S1.trans S2) (fun u hu => (List.mem_cons.mp hu).elim (fun e => by subst e; exact hΦ _ _ _ (same_del S2) tv) (tvs u)) (by simp [hl])⟩⟩⟩
theorem tp_lit (h : PE X e te) (hte : ∀ σ H Q, Q v H → te σ H Q) (hv : ∀ H, Φ v H) : PE X e (TPd Φ a G) := pe_weak h fun σ H Q ⟨hg, z⟩ => hte σ H Q (z v H (Same.refl H) (hv _))
theorem tp_tup {x1 : Nat} (hA : GA a G) (h : L2.PA X es ta) (hta : ∀ σ H Q, Q vs H → ta σ H Q) (hv : ∀ H p, H p = some (.tup vs) → Φ (.ref p) H) (hl : vs.length ≤ sizeLine) : PE X (.Tuple es x1 pos) (TPd Φ a G) :=
  pe_weak (pe_tup h) fun σ H Q ⟨hg, z⟩ => hta σ H _ ⟨hl, fun p np => z _ _ (same_new (Same.refl H) np) (hv _ _ (by rw [del_ne (off hA hg np)]; exact upd_same))⟩
theorem tp_lst (hA : GA a G) (h : L2.PA X es ta) (hta : ∀ σ H Q, Q vs H → ta σ H Q) (hv : ∀ H p, H p = some (.lst vs) → Φ (.ref p) H) (hl : vs.length ≤ sizeLine) : PE X (.List es pos) (TPd Φ a G) :=
  pe_weak (pe_lst h) fun σ H Q ⟨hg, z⟩ => hta σ H _ ⟨hl, fun p np => z _ _ (same_new (Same.refl H) np) (hv _ _ (by rw [del_ne (off hA hg np)]; exact upd_same))⟩
theorem tp_dct0 (hA : GA a G) (hv : ∀ H p, H p = some (.dK []) → Φ (.ref p) H) : PE X (.Dict [] [] pos) (TPd Φ a G) :=
  pe_weak pe_dnewK fun σ H Q ⟨hg, z⟩ => fun p np => z _ _ (same_new (Same.refl H) np) (hv _ _ (by rw [del_ne (off hA hg np)]; exact upd_same))
end
end SK

/-! _law_thing: what is no entry. -/
namespace SK
open PySem PySem.Spec PyProof.Rows L2 SF SQ SFT L2H LamX
section
variable {C S : Addr} {H H' : Hp} {v : V}
theorem OkE.extN (h : OkE C H v) (s : ExtN H H') : OkE C H' v := h.imp id fun h => h.imp id fun ⟨a, dx, fs, e, x⟩ => ⟨a, dx, fs, e, s _ _ x (fun ps z => by cases z)⟩
theorem NoE.extN (h : NoE S H v) (s : ExtN H H') : NoE S H' v := h.imp (fun ⟨k, d, x⟩ => ⟨k, SQ.Dec.extN s d, x⟩) fun ⟨a, dx, fs, e, x⟩ => ⟨a, dx, fs, e, s _ _ x (fun ps z => by cases z)⟩
theorem NoRow.extN (h : NoRow C S H v) (s : ExtN H H') : NoRow C S H' v :=
  h.imp (fun ⟨k, d, x⟩ => ⟨k, SQ.Dec.extN s d, x⟩) fun h => h.imp (fun ⟨a, dx, fs, e, x⟩ => ⟨a, dx, fs, e, s _ _ x (fun ps z => by cases z)⟩) fun ⟨t, xs, e, ht, ha, x, hx, hn⟩ => ⟨t, xs, e, s _ _ ht (fun ps z => by cases z), fun x hx => (ha x hx).imp (fun h => OkE.extN h s) fun h => NoE.extN h s, x, hx, NoE.extN hn s⟩
end
end SK
namespace T08
open PySem PySem.Spec PyProof.Rows L2 SF SQ SFT L2H LamX TL SK
/-- what is no entry, and its text -/
def Thg (C S : Addr) (v : V) (H : Hp) : Prop := NoE S H v ∧ ∃ t, Sv C S PN H 1 [] v t ∧ PyData.strOk t = true ∧ t.length ≤ 600
section
variable {C S : Addr} {H H' : Hp} {v : V}
theorem Thg.same (v : V) (H H' : Hp) (s : Same H H') (h : Thg C S v H) : Thg C S v H' := ⟨NoE.same h.1 s, let ⟨t, a, b⟩ := h.2; ⟨t, Sv.same s a, b⟩⟩
def spThg (C S : Addr) : Sp := fun vs H Q _ => ∃ a : Addr, vs = [.ref a] ∧ SrcAt H a ∧ ∀ v H', Thg C S v (del H' a) → SrcAt H' a → But a H H' → Q v H'
theorem thg_tup {a : Addr} {vs : List V} {ts : List PySem.Str} (h : H a = some (.tup vs)) (hs : SvAll C S PN H 0 [a] vs ts) (hk : PyData.strOk (tupleText ts) = true) (hl : (tupleText ts).length ≤ 600) : Thg C S (.ref a) H := ⟨.inl ⟨_, .tup h, rfl, by intro z; cases z⟩, _, .tup h (by simp) hs, hk, hl⟩
theorem thg_lst {a : Addr} {vs : List V} {ts : List PySem.Str} (h : H a = some (.lst vs)) (hs : SvAll C S PN H 0 [a] vs ts) (hk : PyData.strOk (listText ts) = true) (hl : (listText ts).length ≤ 600) : Thg C S (.ref a) H := ⟨.inl ⟨_, .lst h, rfl, by intro z; cases z⟩, _, .lst h (by simp) hs, hk, hl⟩
theorem thg_bl (b : Bool) (H : Hp) : Thg C S (.bl b) H := ⟨.inl ⟨_, .bl b, rfl, by intro z; cases z⟩, _, .bl b, by cases b <;> decide +kernel, by cases b <;> decide +kernel⟩
theorem thg_str (x : PySem.Str) (hx : PyData.strOk (reprText x) = true) (hl : (reprText x).length ≤ 600) (H : Hp) : Thg C S (.str x) H := ⟨.inl ⟨_, .str x, rfl, by intro z; cases z⟩, _, .str (Nat.le_trans hl (by decide)), hx, hl⟩
theorem log1 : (1 : Int).natAbs.log2 < 1920 := by decide
end
theorem but_del {a : Addr} {H H' : Hp} (k : But a H H') : Same (del H a) (del H' a) := fun b o e => by
  by_cases h : b = a
  · subst h
    rw [del_same] at e
    cases e
  · rw [del_ne h] at e ⊢
    exact k b o h e
/-- the new series of one entry 1 -/
def TS1 (C S a : Addr) (G : L2.St → Hp → Prop) : TE := TPd (Thg C S) a G
section
variable {X : Cx} {C : Addr} {a : Addr} {G : L2.St → Hp → Prop} {p1 p2 p3 : Pos} {pc : Pos}
theorem tp_serI {S : Addr} {es1 : List Expr} {x1 : Nat} (T : Tx X.K X.mg C) (eS : T.S = S) (hr : Room 6 X.A) (hg : Gl X "Series") (hA : GA a G) (hG : GS G) (h1 : PA X es1 (fun σ H Q => Q [.int 1] H)) (he : starEach [.Tuple es1 x1 p2] X.env = (false, eval (.Tuple es1 x1 p2) X.env) :: starEach [] X.env := by rfl) (hpl : (backTo p3 (starEach [] X.env)).any (·.1) = false := by rfl) :
    PE X (.Call (.Name "Series" p1) [.Tuple es1 x1 p2] [] p3) (TPd (fun v H => IsIns S H v ∧ ∃ t, Sv C S PN H 1 [] v t ∧ PyData.strOk t = true ∧ t.length ≤ 600) a G) := by
  subst eS
  exact pe_weak (pe_make (E := E0) T.MS (ok_SI T) hr hg T.gS T.bSI .nil pass0 (pa_cons (pe_tup h1) pa_nil he) (by decide) he hpl) fun σ H Q ⟨hg, z⟩ => ⟨by decide, fun t ht => by
    generalize hE : upd H t _ = H1
    have gt := upd_got hE
    have st := upd_stay hE ht
    exact fun x dx hx hd hn => mk_ser hx hd hn ⟨[.int 1], gt, ⟨rfl, fun i v r e1 e2 => by
      match i, e1, e2 with
      | 0, e1, e2 =>
        cases e1
        cases e2
        exact ⟨false, 1, rfl, rfl, by decide, by decide⟩
      | i + 1, e1, _ => cases e1⟩⟩ (show [some (1 : Rat)].length ≤ 400 by decide) fun H2 S2 sr => ⟨rfl, z _ _ (st.trans S2) (by
      obtain ⟨u1, u2, u3, ea⟩ := hA σ H2 (hG _ _ _ hg (st.trans S2))
      obtain ⟨dy, t', vs, e1, e2, hv, hl⟩ := sr
      have n1 : x ≠ a := fun e => by rw [e, ea] at e1; cases e1
      have n2 : t' ≠ a := fun e => by rw [e, ea] at e2; cases e2
      have sr' : SerAt C T.S PN (del H2 a) x [some 1] := ⟨dy, t', vs, by rw [del_ne n1]; exact e1, by rw [del_ne n2]; exact e2, hv.imp fun v r w => by
        cases r with
        | none => exact w
        | some q =>
          obtain ⟨b, e, ⟨⟨dz, eb⟩, sz⟩⟩ := w
          have n3 : b ≠ a := fun e => by rw [e, ea] at eb; cases eb
          exact ⟨b, e, ⟨⟨dz, by rw [del_ne n3]; exact eb⟩, sz⟩⟩, hl⟩
      exact ⟨⟨x, dy, _, rfl, by rw [del_ne n1]; exact e1⟩, _, .ser sr', by decide +kernel, by decide +kernel⟩)⟩⟩
theorem tp_ser1 {S : Addr} {es1 : List Expr} {x1 : Nat} (T : Tx X.K X.mg C) (eS : T.S = S) (hr : Room 6 X.A) (hg : Gl X "Series") (hA : GA a G) (hG : GS G) (h1 : PA X es1 (fun σ H Q => Q [.int 1] H)) (he : starEach [.Tuple es1 x1 p2] X.env = (false, eval (.Tuple es1 x1 p2) X.env) :: starEach [] X.env := by rfl) (hpl : (backTo p3 (starEach [] X.env)).any (·.1) = false := by rfl) :
    PE X (.Call (.Name "Series" p1) [.Tuple es1 x1 p2] [] p3) (TPd (Thg C S) a G) :=
  pe_weak (tp_serI T eS hr hg hA hG h1 he hpl) fun σ H Q ⟨hg, z⟩ => ⟨hg, fun v H' S1 th => z v H' S1 ⟨.inr th.1, th.2⟩⟩
end
section
variable {P : Program} {w : World} {K : PySem.W.Frag} {mg : Str → Option Value} {base : Heap} {C : Addr}
theorem ok_Thg (T : Tx K mg C) : FnOk P w K mg base CX0 7 T.aThing T.dThing ["_law_source_here"] (spThg C T.S) := by
  have GD : FnOk P w K mg base CX0 1 T.aDraw T.dDraw ["_law_source_here", "_law_many"] spDraw := ok_draw T.FDraw T.blt
  refine T.FThing.ok scThing (fun vs H Q E h => ?_) (fun cdv A outer s H vs Q E hr h => ?_)
  · obtain ⟨a, rfl, _⟩ := h
    rfl
  · obtain ⟨a, rfl, hs, q⟩ := h
    have hr1 := hr.mono (show 1 ≤ 6 by decide)
    let G : L2.St → Hp → Prop := fun _ H => SrcAt H a
    have hG : GS G := fun σ H H' h S => SrcAt.same h S
    have hA : GA a G := fun σ H h => h
    have hΦ := @Thg.same C T.S
    refine ⟨_, (pss_cons (ps_set (i := 1) scThing.nd rfl (.inl rfl) (pe_lst (tp_cons hG hΦ (tp_lit pe_bl (fun _ _ _ q => q) (thg_bl true))
        (tp_cons hG hΦ (tp_lit pe_bl (fun _ _ _ q => q) (thg_bl false))
        (tp_cons hG hΦ (tp_lit pe_str (fun _ _ _ q => q) (thg_str _ (by decide +kernel) (by decide +kernel)))
        (tp_cons hG hΦ (tp_lit pe_str (fun _ _ _ q => q) (thg_str _ (by decide +kernel) (by decide +kernel)))
        (tp_cons hG hΦ (tp_lit pe_str (fun _ _ _ q => q) (thg_str _ (by decide +kernel) (by decide +kernel)))
        (tp_cons hG hΦ (tp_tup hA pa_nil (fun _ _ _ q => q) (fun H p e => thg_tup e .nil (by decide +kernel) (by decide +kernel)) (by decide))
        (tp_cons hG hΦ (tp_tup hA (pa_cons pe_int pa_nil) (fun _ _ _ q => q) (fun H p e => thg_tup e (.cons (.int log1) .nil) (by decide +kernel) (by decide +kernel)) (by decide))
        (tp_cons hG hΦ (tp_lst hA (pa_cons pe_int pa_nil) (fun _ _ _ q => q) (fun H p e => thg_lst e (.cons (.int log1) .nil) (by decide +kernel) (by decide +kernel)) (by decide))
        (tp_cons hG hΦ (tp_dct0 hA (fun H p e => ⟨.inl ⟨_, .dK e, rfl, by intro z; cases z⟩, _, .dct e (by simp), by decide +kernel, by decide +kernel⟩))
        (tp_cons hG hΦ (tp_lst hA (pa_cons pe_non pa_nil) (fun _ _ _ q => q) (fun H p e => thg_lst e (.cons .non .nil) (by decide +kernel) (by decide +kernel)) (by decide))
        (tp_cons hG hΦ (tp_ser1 T rfl hr (by rfl) hA hG (pa_weak (pa_cons pe_int pa_nil) fun _ _ _ q => q))
        (tp_cons hG hΦ (tp_tup hA (pa_cons pe_non pa_nil) (fun _ _ _ q => q) (fun H p e => thg_tup e (.cons .non .nil) (by decide +kernel) (by decide +kernel)) (by decide))
        tp_nil))))))))))))))
      (pss_one (ps_ret (pe_ix ix_list (pv 1) (pe_call GD hr1 (by rfl) T.gDraw T.FDraw.kp T.bDraw .nil pass0 (pa_cons (pv 0) (pa_cons pe_int pa_nil))) (fun _ _ => rfl))))), ?_⟩
    refine ⟨hs, fun vs H1 S1 hv hl => ⟨by rw [hl]; decide, fun p np => ?_⟩⟩
    have s1 := hs.same S1
    have pa := s1.ne np
    refine ⟨_, rfl, _, rfl, a, 12, rfl, (by decide), (by decide), s1.same (same_new (Same.refl _) np), fun e H3 e0 e1 s3 k3 => ?_⟩
    have ep : H3 p = some (.lst vs) := k3 _ _ (Ne.symm pa) upd_same
    have kk : But a H H3 := (((But.refl a H).same S1).new np).trans k3
    obtain ⟨m, rfl⟩ := Int.eq_ofNat_of_zero_le e0
    have hm : m < vs.length := by omega
    refine ⟨p, _, _, vs[m], rfl, rfl, SqL.of ep, atI_nat (List.getElem?_eq_getElem hm), q _ H3 ?_ s3 kk⟩
    exact hΦ _ _ _ ((same_del (same_new (o := HO.lst vs) (Same.refl H1) np)).trans (but_del k3)) (hv _ (List.getElem_mem hm))
end
end T08

/-! _law_entries_right: what is told and caught of rows. -/
namespace T08
open PySem PySem.Spec PyProof.Rows L2 SF SQ SFT L2H LamX TL SK
theorem PTN {X : Cx} {E : XK} {scope : Scope} {A : Around} {outer : List PySem.Env} {s : Shared} {H : Hp} {f c' : Addr} : Passes (L2N.CX (lamCxN X A outer s H E scope f c').prog (lamCxN X A outer s H E scope f c').w) (lamCxN X A outer s H E scope f c') E :=
  L2N.passes_call (L2N.takes_of (E := E) rfl rfl rfl rfl) (fun _ _ _ _ h => h)
def rInt : List V → Hp → VK → Prop := fun xs H Q => ∃ i, xs = [.int i] ∧ i.natAbs.log2 < 1920 ∧ Q (.str (toString i)) H
theorem mono_rInt : Mono rInt := fun xs H Q Q' h ⟨i, a, b, q⟩ => ⟨i, a, b, h _ _ q⟩
section
variable {X : Cx} {C : Addr} {cs bs : Nat → Addr} {T : List (Addr × Str)} {c P : Addr} {k n : Nat} {params : Arguments} {body : Expr} {scope : Scope} {t : XK → TE} {p lpos pos : Pos} {RV : List V → Hp → VK → Prop}
theorem lam_caughtR {S : Addr} (mRV : Mono RV) (hRV : ∀ Y : Cx, CallR Y (.builtin "repr") RV) (T0 : Tx X.K X.mg C) (eS : T0.S = S) (Z : CErr X.K X.mg cs bs) (hgd : X.A.guards = some []) (hr : Room (k + n + 12) X.A) (hg : Gl X "_law_caught") (TB : TabB X.base X.mg c P) (hcode : X.env.code = .ref c) (hmT : (P, X.env.qual ++ "<lambda>") ∈ T) (hu : ∀ p ∈ T, p.1 = P → p.2 = X.env.qual ++ "<lambda>")
    (L : LamS X.env.scope scope) (hbody : ∀ (A : Around) (outer : List PySem.Env) (s : Shared) (H : Hp) (E : XK) (f c' : Addr), Room (k + 2) (A.deeper (lamEnv X scope s.heap.objs.size f c')) → PE (lamCxN X A outer s H E scope f c') body (t E))
    (hdef : defaultsOf params X.env = ([], []) := by rfl) (hbind : ∀ (q : Str) (cl : List (Str × Addr)) (pm cv ctv : Value), bindArgs (PySem.W.kla_fn "<lambda>" q params body scope cl pm cv ctv) ⟨[], []⟩ = pure [] := by intros; rfl) :
    PE X (.Call (.Name "_law_caught" p) [.Lambda params body scope lpos] [] pos) (tLam T (TTc cs RV (rAny C S n)) t) := by
  subst eS
  obtain ⟨oc, od, kV, doc, pm, an, cdv, ct, osl, ed, lk, hcd⟩ := T0.FCaught.ex
  have hb := T0.bCaught
  rw [ed] at lk hb
  refine pe_lamcallN (k := k + 2) hg T0.gCaught T0.FCaught.kp lk hcd hb scCaught rfl (.inl rfl) ?_ TB hcode hmT hu (hr.mono (by omega)) L hdef hbind hbody
  refine caught_givesN Z hgd (hr.mono (by omega)) T0.FWord T0.bWord T0.gWord T0.FFields T0.bFields T0.gFields mRV mono_rAny (fun s H => hRV _) (fun s H a oe pn hot => ?_)
  have hr3 : Room (7 + n + 2) (X.A.deeper (envOfC "_law_caught" (defScope sCaught) s.heap.objs.size T0.aCaught cdv)) := (hr.mono (show 7 + n + 2 + 1 ≤ k + n + 12 by omega)).deeper _
  exact call_rAnyH (X := (cxC X T0.aCaught cdv s H).suite a ((a, oe) :: pn)) (p := (a, oe)) T0 hot List.mem_cons_self hgd ⟨hr3.dp, hr3.un⟩
theorem pc_toldI {RP : List V → Hp → VK → Prop} {G : L2.St → Hp → Prop} {e : Expr} {i : Int} {s : Prop} (h : PE X e (tLam T (TTc cs rInt RP) (fun _ => TI G i s))) (hG : SQ.GN G) (hi : i.natAbs.log2 < 1920) : PE X e (TC T G "told" (tx i) s) :=
  pe_weak h fun σ H Q ⟨hg, hT, h1, z⟩ => ⟨hT, fun H1 S1 T1 Q0 hQ0 => ⟨hG _ _ _ hg S1, h1, fun H2 S2 => hQ0 _ H2
    ⟨i, rfl, hi, _, rfl, fun L H3 S3 nL eL => z L H3 (S1.trans (ExtN.of fun b o z => S3 b o (S2 b o z))) (T1.ext fun b o z => S3 b o (S2 b o z)) eL⟩⟩⟩
end
/-- the row stands in its slot -/
def GRow (C t : Addr) (rs : List Ent) : L2.St → Hp → Prop := fun σ H => σ[1]? = some (some (.ref t)) ∧ TupG C PN H t rs ∧ rs.length ≤ 10
theorem GN.extN {C : Addr} {H H' : Hp} {v : V} {r : Ent} (h : SK.GN C PN H v r) (s : ExtN H H') : SK.GN C PN H' v r := by
  cases r with
  | none => exact h
  | some q => obtain ⟨k, x⟩ := h; exact ⟨k, NV.extN x s⟩
theorem TupG.extN {C t : Addr} {rs : List Ent} {H H' : Hp} (h : TupG C PN H t rs) (s : ExtN H H') : TupG C PN H' t rs := let ⟨vs, e, hv⟩ := h; ⟨vs, s _ _ e (fun ps z => by cases z), hv.imp fun v r z => GN.extN z s⟩
theorem GRow.gn {C t : Addr} {rs : List Ent} : SQ.GN (GRow C t rs) := fun σ H H' ⟨a, b, c⟩ s => ⟨a, TupG.extN b s, c⟩
theorem GRow.gs {C t : Addr} {rs : List Ent} : SQ.GS (GRow C t rs) := fun σ H H' h s => GRow.gn _ _ _ h (ExtN.of s)
/-- what is tried in turn, and its text -/
def GWh (C S : Addr) (v : V) (t : PySem.Str) : L2.St → Hp → Prop := fun σ H => σ[7]? = some (some v) ∧ NoRow C S H v ∧ Shn C S 2 H v t ∧ ∃ d, σ[8]? = some (some (.ref d)) ∧ H d = some (.lst [.str "InvalidEntries", .str t])
theorem GWh.gn {C S : Addr} {v : V} {t : PySem.Str} : SQ.GN (GWh C S v t) := fun σ H H' ⟨a, b, c, d, e, f⟩ s => ⟨a, NoRow.extN b s, Shn.extN c s, d, e, s _ _ f (fun ps z => by cases z)⟩
theorem GWh.gs {C S : Addr} {v : V} {t : PySem.Str} : SQ.GS (GWh C S v t) := fun σ H H' h s => GWh.gn _ _ _ h (ExtN.of s)
section
variable {X : Cx} {C : Addr} {a : Expr} {t S : Addr} {rs : List Ent} {G : L2.St → Hp → Prop} {v : V} {tt : PySem.Str} {s : Prop} {p1 p2 p3 p4 : Pos} {C' : Addr}
theorem vRow (h : PE X a (tVar 1)) : PE X a (fun σ H Q => GRow C t rs σ H ∧ ∀ H', Same H H' → Q (.ref t) H') := pe_weak h fun σ H Q ⟨⟨e, _, _⟩, z⟩ => ⟨_, e, z H (Same.refl _)⟩
theorem vWh (h : PE X a (tVar 7)) : PE X a (TVal (GWh C S v tt) v True) := pe_weak h fun σ H Q ⟨⟨e, _⟩, _, z⟩ => ⟨_, e, z H (Same.refl _)⟩
/-- len(Series(row)) -/
theorem pe_lenS (T : Tx X.K X.mg C) (hr : Room 6 X.A) (hg1 : Gl X "len") (hg : Gl X "Series") (ha : PE X a (tVar 1))
    (he : starEach [a] X.env = (false, eval a X.env) :: starEach [] X.env := by rfl) (hpl : (backTo p2 (starEach [a] X.env)).any (·.1) = false := by rfl) (hpl0 : (backTo p2 (starEach [] X.env)).any (·.1) = false := by rfl)
    (he2 : starEach [.Call (.Name "Series" p1) [a] [] p2] X.env = (false, eval (.Call (.Name "Series" p1) [a] [] p2) X.env) :: starEach [] X.env := by rfl) (hpl2 : (backTo p4 (starEach [] X.env)).any (·.1) = false := by rfl) :
    PE X (.Call (.Name "len" p3) [.Call (.Name "Series" p1) [a] [] p2] [] p4) (TI (GRow C t rs) (rs.length : Nat) True) :=
  pe_weak (pe_callB (call_lenOwn (E := E0) T.hSLen.h T.hSLen.i (ok_SLen T) T.bSLen (hr.mono (by decide)) pass0) hg1 T.len (by decide +kernel) (pa_cons (pe_make (E := E0) T.MS (ok_SI T) hr hg T.gS T.bSI .nil pass0 (pa_cons (vRow (C := C) (t := t) (rs := rs) ha) pa_nil he) (by decide) he hpl0) pa_nil he2) (by decide) (by decide) he2 hpl2)
    fun σ H Q ⟨hg, _, z⟩ => ⟨hg, fun H1 S1 => fun x dx hx hd hn => mk_ser hx hd hn (hg.2.1.same S1) (by have := hg.2.2; omega) fun H2 S2 sr => ⟨rfl, by
      obtain ⟨dy, t', vs, e1, _⟩ := id sr
      exact ⟨x, dy, _, rfl, e1, x, rs, rfl, sr, _, rfl, by omega, by have := hg.2.2; omega, z H2 (S1.trans S2)⟩⟩⟩
end
end T08

/-! _law_entries_right. -/
namespace T08
open PySem PySem.Spec PyProof.Rows L2 SF SQ SFT L2H LamX TL SK
theorem rrepr_short {q : Rat} (h : Sz PN q) : (rrepr q).length ≤ 520 := by
  have x1 := tx_lenN h.1
  have x2 := tx_lenN (show (q.den : Int).natAbs < 2 ^ PN from h.2)
  unfold rrepr
  simp only [Str.length_append]
  have s0 : Str.empty.length = 0 := rfl
  have s1 : ("Ratio(" : Str).length = 6 := rfl
  have s2 : (", " : Str).length = 2 := rfl
  have s3 : (")" : Str).length = 1 := rfl
  have x2 : (Str.ofString (toString q.den)).length ≤ 250 := x2
  have x3 : (tx (q.den : Int)).length ≤ 250 := x2
  omega
theorem gn_text {C S : Addr} {H : Hp} {v : V} {r : Ent} (h : SK.GN C PN H v r) : ∃ t, (∀ n en, Sv C S PN H n en v t) ∧ PyData.strOk t = true ∧ t.length ≤ 600 := by
  cases r with
  | none =>
    cases (show v = .non from h)
    exact ⟨_, fun _ _ => .non, by decide +kernel, by decide +kernel⟩
  | some q =>
    obtain ⟨k, x⟩ := h
    cases k with
    | true =>
      obtain ⟨a, rfl, x⟩ := x
      exact ⟨_, fun _ _ => .fr x, ok_rrepr q, Nat.le_trans (rrepr_short x.2) (by decide)⟩
    | false =>
      obtain ⟨i, rfl, _, hb, _⟩ := x
      exact ⟨_, fun _ _ => .int (tlogN hb), ok_of _, Nat.le_trans (tx_lenN hb) (by decide)⟩
theorem gn_oke {C : Addr} {H : Hp} {v : V} {r : Ent} (h : SK.GN C PN H v r) : OkE C H v := by
  cases r with
  | none => exact .inl h
  | some q =>
    obtain ⟨k, x⟩ := h
    rcases x.kind with h | ⟨i, rfl⟩
    · exact .inr (.inr h)
    · exact .inr (.inl ⟨i, rfl⟩)
theorem gn_but {C a : Addr} {H H' : Hp} {v : V} {r : Ent} (h : SK.GN C PN H v r) (s : SrcAt H a) (k : But a H H') : SK.GN C PN H' v r := by
  cases r with
  | none => exact h
  | some q =>
    obtain ⟨kk, x⟩ := h
    refine ⟨kk, ?_⟩
    cases kk with
    | true =>
      obtain ⟨p, e, ⟨⟨dx, ep⟩, sz⟩⟩ := x
      obtain ⟨x1, x2, x3, ea⟩ := s
      have ne : p ≠ a := fun z => by rw [z, ea] at ep; cases ep
      exact ⟨p, e, ⟨⟨dx, k _ _ ne ep⟩, sz⟩⟩
    | false => exact x
theorem tupG_but {C a t : Addr} {rs : List Ent} {H H' : Hp} (h : TupG C PN H t rs) (s : SrcAt H a) (k : But a H H') : TupG C PN H' t rs := by
  obtain ⟨vs, e, hv⟩ := h
  obtain ⟨x1, x2, x3, ea⟩ := id s
  have ne : t ≠ a := fun z => by rw [z, ea] at e; cases e
  exact ⟨vs, k _ _ ne e, hv.imp fun v r z => gn_but z s k⟩
/-- what is no row, with its text -/
def Wht (C S : Addr) (v : V) (H : Hp) : Prop := ∃ t, NoRow C S H v ∧ Shn C S 2 H v t ∧ PyData.strOk t = true
theorem Wht.extN {C S : Addr} {v : V} {H H' : Hp} (h : Wht C S v H) (s : ExtN H H') : Wht C S v H' := let ⟨t, a, b, c⟩ := h; ⟨t, NoRow.extN a s, Shn.extN b s, c⟩
theorem line10 : 40000 ≤ sizeLine := by decide
theorem shn_of {C S : Addr} {H : Hp} {v : V} {y : PySem.Str} (h : Sv C S PN H 2 [] v y) (ho : PyData.strOk y = true) (hl : y.length ≤ 30000) : ∃ t, Shn C S 2 H v t ∧ PyData.strOk t = true := by
  refine ⟨tupleText [y], .inr ⟨y, h, ?_, rfl⟩, ok_tupleText fun t ht => ?_⟩
  · have := tupleText_len_le [y]
    have l := line10
    simp only [List.map_cons, List.map_nil, List.sum_cons, List.sum_nil, List.length_cons, List.length_nil] at this
    omega
  · rw [List.mem_singleton.mp ht]
    exact ho
theorem cut_mem {xs : List V} {lo hi : Option Int} {v : V} (h : v ∈ cutV xs lo hi) : v ∈ xs := List.mem_of_mem_drop (List.mem_of_mem_take h)
def tOrNon (C S : Addr) : TE := fun σ H Q => ∃ v, σ[4]? = some (some v) ∧ Thg C S v H ∧ ∀ y, Wht C S y H → Q y H
theorem wht_thg {C S : Addr} {v : V} {H : Hp} (h : Thg C S v H) (hn : NoRow C S H v) : Wht C S v H := by
  obtain ⟨_, t, hs, ho, hl⟩ := h
  obtain ⟨t', a, b⟩ := shn_of (Sv.up hs) ho (by omega)
  exact ⟨t', hn, a, b⟩
theorem wht_non {C S : Addr} {H : Hp} : Wht C S .non H := by
  obtain ⟨t', a, b⟩ := shn_of (C := C) (S := S) (H := H) (v := .non) .non (by decide +kernel) (by decide +kernel)
  exact ⟨t', .inl ⟨_, .non, by decide⟩, a, b⟩
theorem wht_zero {C S : Addr} {H : Hp} : Wht C S (.int 0) H := by
  obtain ⟨t', a, b⟩ := shn_of (C := C) (S := S) (H := H) (v := .int 0) (.int (by decide)) (by decide +kernel) (by decide +kernel)
  exact ⟨t', .inl ⟨_, .int 0, by decide⟩, a, b⟩
theorem wht_dict {C S d : Addr} {H : Hp} (h : H d = some (.dK [(.inl 0, .int 1)])) : Wht C S (.ref d) H :=
  ⟨_, .inl ⟨_, .dK h, by decide⟩, .inl ⟨.dict [(.int 0, .int 1)], .dct h (.cons (.int 1) .nil), by decide +kernel, by decide +kernel, by decide +kernel, rfl⟩, by decide +kernel⟩
theorem wht_list {C S l : Addr} {H : Hp} {vs : List V} {rs : List Ent} (h : H l = some (.lst vs)) (hv : All2 (SK.GN C PN H) vs rs) (hl : vs.length ≤ 40) : Wht C S (.ref l) H := by
  obtain ⟨ts, h1, h2, h3⟩ := svAll_of (C := C) (S := S) (N := PN) (H := H) (n := 1) (en := [l]) (vs := vs) (P := fun t => PyData.strOk t = true ∧ t.length ≤ 600) fun v hv' => by
    obtain ⟨i, hi, e⟩ := List.getElem_of_mem hv'
    obtain ⟨r, _, g⟩ := hv.get (by rw [List.getElem?_eq_getElem hi, e] : vs[i]? = some v)
    obtain ⟨t, a, b⟩ := gn_text g
    exact ⟨t, a _ _, b⟩
  have len := listText_len_le ts
  have sl := sum_len (k := 600) fun t ht => (h3 t ht).2
  obtain ⟨t', a, b⟩ := shn_of (C := C) (S := S) (H := H) (v := .ref l) (.lst h (by simp) h1) (ok_listText fun t ht => (h3 t ht).1) (by omega)
  exact ⟨t', .inl ⟨_, .lst h, by decide⟩, a, b⟩
theorem wht_bent {C S p : Addr} {H : Hp} {xs : List V} {x : V} (h : H p = some (.tup xs)) (hv : ∀ v ∈ xs, v = x ∨ ∃ r, SK.GN C PN H v r) (hx : x ∈ xs) (hg : Thg C S x H) (hl : xs.length ≤ 40) : Wht C S (.ref p) H := by
  obtain ⟨ts, h1, h2, h3⟩ := svAll_of (C := C) (S := S) (N := PN) (H := H) (n := 1) (en := [p]) (vs := xs) (P := fun t => PyData.strOk t = true ∧ t.length ≤ 600) fun v hv' => by
    rcases hv v hv' with rfl | ⟨r, g⟩
    · obtain ⟨_, t, hs, ho, hl⟩ := hg
      exact ⟨t, Sv.heldM h hx hs, ho, hl⟩
    · obtain ⟨t, a, b⟩ := gn_text g
      exact ⟨t, a _ _, b⟩
  have len := tupleText_len_le ts
  have sl := sum_len (k := 600) fun t ht => (h3 t ht).2
  obtain ⟨t', a, b⟩ := shn_of (C := C) (S := S) (H := H) (v := .ref p) (.tup h (by simp) h1) (ok_tupleText fun t ht => (h3 t ht).1) (by omega)
  exact ⟨t', .inr (.inr ⟨p, xs, rfl, h, fun v hv' => (hv v hv').elim (fun e => by subst e; exact .inr hg.1) fun ⟨r, g⟩ => .inl (gn_oke g), x, hx, hg.1⟩), a, b⟩
theorem tupB {a p : Addr} {H H' : Hp} {xs : List V} (h : H p = some (.tup xs)) (s : SrcAt H a) (k : But a H H') : H' p = some (.tup xs) := by
  obtain ⟨x1, x2, x3, ea⟩ := s
  exact k _ _ (fun z => by rw [z, ea] at h; cases h) h
theorem cut_len {xs : List V} {lo hi : Option Int} {n : Nat} (h : xs.length ≤ n) : (cutV xs lo hi).length ≤ n := Nat.le_trans (cutV_length _ _ _) h
def tEach (C S a : Addr) (TT : List (Addr × Str)) : L2.TS := fun D σ H1 => ∃ o1 o2 o3 o4 o5 o6 o8 v, σ = [some (.ref a), o1, o2, o3, o4, o5, o6, some v, o8] ∧ Wht C S v H1 ∧ Tabs TT H1 ∧ ∀ H' o8', ExtN H1 H' → Tabs TT H' → D.nx [some (.ref a), o1, o2, o3, o4, o5, o6, some v, o8'] H'
theorem svAll_flat {C S : Addr} {N : Nat} {H : Hp} {P : PySem.Str → Prop} : ∀ {vs : List V}, (∀ v ∈ vs, ∃ t, (∀ n en, Sv C S N H n en v t) ∧ P t) → ∃ ts, (∀ n en, SvAll C S N H n en vs ts) ∧ ts.length = vs.length ∧ ∀ t ∈ ts, P t
  | [], _ => ⟨[], fun _ _ => .nil, rfl, fun t h => by cases h⟩
  | v :: vs, h => by
    obtain ⟨t, h1, h2⟩ := h v List.mem_cons_self
    obtain ⟨ts, h3, h4, h5⟩ := svAll_flat fun u hu => h u (List.mem_cons_of_mem _ hu)
    exact ⟨t :: ts, fun n en => .cons (h1 n en) (h3 n en), by simp [h4], fun u hu => (List.mem_cons.mp hu).elim (fun e => by subst e; exact h2) (h5 u)⟩
theorem cut_pre {xs : List V} {f : Int} (h0 : 0 ≤ f) : cutV xs none (some f) = xs.take f.toNat := by
  obtain ⟨n, rfl⟩ := Int.eq_ofNat_of_zero_le h0
  unfold cutV
  rw [HT.sIx_none, HT.sIx_nat]
  simp [List.take_eq_take_iff]
abbrev lamE : Str := "_law_entries_right" ++ ".<locals>." ++ "<lambda>"
def spEntR (TT : List (Addr × Str)) : Sp := fun vs H Q _ => ∃ a : Addr, vs = [.ref a] ∧ SrcAt H a ∧ Tabs TT H ∧ ∀ H', SrcAt H' a → ButN a H H' → Tabs TT H' → Q (.bl true) H'
section
variable {P : Program} {w : World} {K : PySem.W.Frag} {mg : Str → Option Value} {base : Heap} {C c1 fIE : Addr} {cs bs : Nat → Addr} {fdE : FuncData} {TT : List (Addr × Str)}
theorem ok_EntR (T : Tx K mg C) (Z : SFT.CErr K mg cs bs) (OT : OE P w K mg base "InvalidEntries" (cs 5) fIE fdE) (hc1 : T.dEntR.code = .ref c1) (TB : TabB base mg c1 (SFY.tabOf K c1)) (hm : (SFY.tabOf K c1, lamE) ∈ TT) (hu : ∀ p ∈ TT, p.1 = SFY.tabOf K c1 → p.2 = lamE) :
    FnG P w K mg base CX0 19 T.aEntR T.dEntR ["_law_source_here"] (spEntR TT) := by
  have GD : FnOk P w K mg base CX0 5 T.aDraw T.dDraw ["_law_source_here", "_law_many"] spDraw := (ok_draw T.FDraw T.blt).mono (by decide)
  have GG : FnOk P w K mg base CX0 5 T.aGood T.dGood ["_law_source_here"] (spGood C) := ok_Good T
  have GT : FnOk P w K mg base CX0 7 T.aThing T.dThing ["_law_source_here"] (spThg C T.S) := ok_Thg T
  refine okGc T.FEntR hc1 scEntR (fun vs H Q E h => ?_) (fun A outer s0 H vs Q E hgd hr h => ?_)
  · obtain ⟨a, rfl, _⟩ := h
    rfl
  · obtain ⟨a, rfl, hs, hT, z⟩ := h
    have hr5 := hr.mono (show 5 ≤ 18 by decide)
    have hr7 := hr.mono (show 7 ≤ 18 by decide)
    have hr11 := hr.mono (show 7 + 2 + 2 ≤ 18 by decide)
    have hrL := hr.mono (show 4 + 2 + 12 ≤ 18 by decide)
    have two2 : 2 ≤ sizeLine := by decide
    refine ⟨_, (pss_cons (ps_set (i := 1) scEntR.nd rfl (.inr rfl) (pe_callTy call_tuple_of (by rfl) T.tup (by decide +kernel) (pa_cons (pe_lc (own := [("_law_k", 2)]) (g := gName 2) (tt := tYes) rfl scEntR.nd (pi_range1 rfl T.rc.range_ (pa_cons (pe_call GD hr5 (by rfl) T.gDraw T.FDraw.kp T.bDraw .nil pass0 (pa_cons (pv 0) (pa_cons pe_int pa_nil))) pa_nil)) (blkOk_by (N := ["_law_source_here", "_law_row", "_law_k", "_law_spot", "_law_thing_here", "_law_bent", "_law_some", "_law_what", "_law_due"]) (sc := defScope sEntR) (by decide +kernel)) (fun _ _ _ _ _ => pg_name (i := 2) scEntR.nd rfl (Or.inl rfl)) (fun _ _ _ _ _ => pts_nil)
        (fun _ _ _ _ _ => pe_call GG hr5 (by rfl) T.gGood T.FGood.kp T.bGood .nil pass0 (pa_cons (pv 0) pa_nil))) pa_nil)))
      (pss_of (t' := fun D σ H1 => ∃ t rs w2 w3 w4 w5 w6 w7 w8, σ = [some (.ref a), some (.ref t), w2, w3, w4, w5, w6, w7, w8] ∧ TupG C PN H1 t rs ∧ rs.length ≤ 10 ∧ SrcAt H1 a ∧ Tabs TT H1 ∧ ∀ H', SrcAt H' a → ButN a H1 H' → Tabs TT H' → D.rt (.bl true) H') fun pins s' σ H1 D I h1 => ?_)), ?_⟩
    · obtain ⟨t, rs, w2, w3, w4, w5, w6, w7, w8, rfl, hrow, hl, hs1, hT1, z1⟩ := h1
      have hi : ((rs.length : Nat) : Int).natAbs.log2 < 1920 := by
        refine tlogN (Nat.lt_of_le_of_lt (show ((rs.length : Nat) : Int).natAbs ≤ 10 by omega) (by decide))
      have okt : ([("told" : PySem.Str), tx (rs.length : Nat)] : List PySem.Str).all PyData.strOk = true := by
        simp only [List.all_cons, List.all_nil, Bool.and_true, Bool.and_eq_true]
        exact ⟨by decide +kernel, ok_of _⟩
      refine ⟨_, (pss_cons (ps_if (pc_neT (T := TT) (G := GRow C t rs) (ys := [("told" : PySem.Str), tx (rs.length : Nat)]) (s1 := True) (s2 := True) hr.units GRow.gn (by rfl)
          (pc_toldI (G := GRow C t rs) (i := (rs.length : Nat)) (s := True) (lam_caughtR (k := 4) (n := 2) (T := TT) (t := fun _ => TI (GRow C t rs) (rs.length : Nat) True) mono_rInt (fun Y => SkE.call_repr_int) T rfl Z hgd hrL (by rfl) TB rfl hm hu (lamS_by (by show lamSB (defScope sEntR) _ = true; decide +kernel)) (fun A outer s H E f c' hq => pe_lenS (X := lamCxN _ A outer s H E _ f c') T (hq.mono (by decide)) (by rfl) (by rfl) (pv 1)) (by rfl) (by intros; rfl)) GRow.gn hi)
          (pe_weak (pe_lst (pa_cons pe_str (pa_cons (pe_callTy call_str_int (by rfl) T.rc.str_ (by decide +kernel) (pa_cons (pe_callB call_len_seq (by rfl) T.len (by decide +kernel) (pa_cons (pv 1) pa_nil)) pa_nil)) pa_nil))) fun σ H Q ⟨⟨e, ⟨vs, et, hv⟩, hl⟩, _, z⟩ => ⟨_, e, t, vs, rfl, .inr (SqT.of et), _, rfl, by rw [hv.1]; exact hi, two2, fun p np => by rw [hv.1]; exact z p _ (same_new (Same.refl H) np) upd_same⟩) okt okt) (pss_one (ps_ret pe_bl)) pss_nil)
        (pss_cons (ps_par (i := 3) (j := 4) (by rfl) scEntR.nd rfl rfl (by decide) rfl rfl (pa_cons (pe_call GD hr5 (by rfl) T.gDraw T.FDraw.kp T.bDraw .nil pass0 (pa_cons (pv 0) (pa_cons (pe_op op_add (pe_callB call_len_seq (by rfl) T.len (by decide +kernel) (pa_cons (pv 1) pa_nil)) pe_int) pa_nil))) (pa_cons (pe_call GT hr7 (by rfl) T.gThing T.FThing.kp T.bThing .nil pass0 (pa_cons (pv 0) pa_nil)) pa_nil)) (by rfl))
        (pss_cons (ps_set (i := 5) scEntR.nd rfl (.inl rfl) (pe_op op_catA (pe_op op_catA (pe_slice sl_tupA (pv 1) po_none (po_some (pv 3))) (pe_tup (pa_cons (pv 4) pa_nil))) (pe_slice sl_tupA (pv 1) (po_some (pe_op op_add (pv 3) (pe_call GD hr5 (by rfl) T.gDraw T.FDraw.kp T.bDraw .nil pass0 (pa_cons (pv 0) (pa_cons pe_int pa_nil))))) po_none)))
        (pss_cons (ps_set (i := 6) scEntR.nd rfl (.inl rfl) (pe_lst (pa_cons (pv 5) (pa_cons (pe_callTy call_list_of (by rfl) T.lst (by decide +kernel) (pa_cons (pv 1) pa_nil)) (pa_cons (pe_weak (t' := tOrNon C T.S) (pe_ifExp (pt_not (pt_val (pe_callB call_isi (by rfl) T.rc.isi (by decide +kernel) (pa_cons (pv 4) (pa_cons (pe_bltn (v := .ty "tuple") (u := .type "tuple") (by rfl) T.tup (by decide +kernel) rfl) pa_nil))))) (pv 4) pe_non) fun σ H Q ⟨v, e, thg, zz⟩ => ?_) (pa_cons pe_int (pa_cons (pe_disp (pps_cons pe_int pe_int pps_nil) rfl rfl (by simp) (by decide)) pa_nil)))))))
        (pss_cons (ps_for PassesOwn.never rfl (pi_list (pv 6)) (pg_name (i := 7) scEntR.nd rfl (.inr rfl))
          (pss_of (t' := tEach C T.S a TT) fun pins s'' σ H2 D I h2 => ?_))
        (pss_one (ps_ret (pe_cmpR op_eq (pe_callB (call_rAny (n := 2) T hgd hr11) (by rfl) T.rc.repr_ (by decide +kernel) (pa_cons (pe_slice sl_tupA (pv 5) po_none (po_some (pv 3))) pa_nil)) (pe_callB (call_rAny (n := 2) T hgd hr11) (by rfl) T.rc.repr_ (by decide +kernel) (pa_cons (pe_slice sl_tupA (pv 1) po_none (po_some (pv 3))) pa_nil)) (nomark _))))))))), ?_⟩
      · have thg' := thg
        obtain ⟨hno, _⟩ := thg
        rcases hno with ⟨k, d, hi, hnn⟩ | ⟨p, dx, fs, rfl, hp⟩
        · have d' := d
          cases d with
          | non => exact absurd rfl hnn
          | bl b => exact ⟨_, e, _, _, _, _, false, rfl, .ty _, d'.typ, kit_ty (by decide +kernel), false, rfl, iteT ⟨_, e, zz _ (wht_thg thg' (.inl ⟨_, d', by decide⟩))⟩⟩
          | int i => cases hi
          | str x => exact ⟨_, e, _, _, _, _, false, rfl, .ty _, d'.typ, kit_ty (by decide +kernel), false, rfl, iteT ⟨_, e, zz _ (wht_thg thg' (.inl ⟨_, d', by decide⟩))⟩⟩
          | tup e1 => exact ⟨_, e, _, _, _, _, true, rfl, .ty _, d'.typ, kit_ty (by decide +kernel), true, rfl, iteF (zz _ wht_non)⟩
          | lst e1 => exact ⟨_, e, _, _, _, _, false, rfl, .ty _, d'.typ, kit_ty (by decide +kernel), false, rfl, iteT ⟨_, e, zz _ (wht_thg thg' (.inl ⟨_, d', by decide⟩))⟩⟩
          | dK e1 => exact ⟨_, e, _, _, _, _, false, rfl, .ty _, d'.typ, kit_ty (by decide +kernel), false, rfl, iteT ⟨_, e, zz _ (wht_thg thg' (.inl ⟨_, d', by decide⟩))⟩⟩
        · exact ⟨_, e, _, _, _, _, false, rfl, .ty _, T.tyS hp, T.kST _ (by decide), false, rfl, iteT ⟨_, e, zz _ (wht_thg thg' (.inr (.inl ⟨p, dx, fs, rfl, hp⟩)))⟩⟩
      · obtain ⟨o1, o2, o3, o4, o5, o6, o8, v, rfl, ⟨tx0, hn, hsh, hok⟩, hT2, z2⟩ := h2
        have okd : ([("InvalidEntries" : PySem.Str), tx0] : List PySem.Str).all PyData.strOk = true := by
          simp only [List.all_cons, List.all_nil, Bool.and_true, Bool.and_eq_true]
          exact ⟨by decide +kernel, hok⟩
        have hdue : ∀ {X : Cx} {e : Expr}, PE X e (tVar 8) → PE X e (SQ.TL (GWh C T.S v tx0) [("InvalidEntries" : PySem.Str), tx0] True) := fun h => pe_weak h fun σ H Q ⟨⟨_, _, _, d, e, hd⟩, _, z⟩ => ⟨_, e, z d H (Same.refl _) hd⟩
        refine ⟨_, (pss_cons (ps_set (i := 8) scEntR.nd rfl (.inl rfl) (pe_lst (pa_cons pe_str (pa_cons (pe_callB (call_rAny (n := 2) T hgd hr11) (by rfl) T.rc.repr_ (by decide +kernel) (pa_cons (pe_tup (pa_cons (pv 7) pa_nil)) pa_nil)) pa_nil))))
          (pss_cons (ps_if (pc_neT (T := TT) (G := GWh C T.S v tx0) (w := cnm 5) (ys := [("InvalidEntries" : PySem.Str), tx0]) (s1 := True) (s2 := True) hr.units GWh.gn (by rfl)
            (pc_errN (RV := rInt) (j := 5) (cs := cs) (C := C) (S := T.S) (n := 2) (v := v) (G := GWh C T.S v tx0) (s := True) (by decide) (fun v => rfl) (lam_caughtR (k := 4) (n := 2) (T := TT) (t := fun E => TErr E (cs 5) (GWh C T.S v tx0) v True) mono_rInt (fun Y => SkE.call_repr_int) T rfl Z hgd hrL (by rfl) TB rfl hm hu (lamS_by (by show lamSB (defScope sEntR) _ = true; decide +kernel)) (fun A outer s H E f c' hq => pe_serX (X := lamCxN _ A outer s H E _ f c') T OT PTN (hq.mono (by decide)) (by rfl) (vWh (pv 7)) (fun σ H h => h.2.1)) (by rfl) (by intros; rfl)) GWh.gn (fun σ H h => h.2.2.1)) (hdue (pv 8)) okd okd) (pss_one (ps_ret pe_bl)) pss_nil)
          (pss_one (ps_if (pc_neT (T := TT) (G := GWh C T.S v tx0) (w := cnm 5) (ys := [("InvalidEntries" : PySem.Str), tx0]) (s1 := True) (s2 := True) hr.units GWh.gn (by rfl)
            (pc_errN (RV := rInt) (j := 5) (cs := cs) (C := C) (S := T.S) (n := 2) (v := v) (G := GWh C T.S v tx0) (s := True) (by decide) (fun v => rfl) (lam_caughtR (k := 4) (n := 2) (T := TT) (t := fun E => TErr E (cs 5) (GWh C T.S v tx0) v True) mono_rInt (fun Y => SkE.call_repr_int) T rfl Z hgd hrL (by rfl) TB rfl hm hu (lamS_by (by show lamSB (defScope sEntR) _ = true; decide +kernel)) (fun A outer s H E f c' hq => pe_serXK (X := lamCxN _ A outer s H E _ f c') T OT PTN (hq.mono (by decide)) (by rfl) (vWh (pv 7)) (fun σ H h => h.2.1)) (by rfl) (by intros; rfl)) GWh.gn (fun σ H h => h.2.2.1)) (hdue (pv 8)) okd okd) (pss_one (ps_ret pe_bl)) pss_nil)))), ?_⟩
        have one1 : 1 ≤ sizeLine := by decide
        have hb : (!decide (([cnm 5, tx0] : List PySem.Str) = [("InvalidEntries" : PySem.Str), tx0])) = false := by
          rw [show cnm 5 = ("InvalidEntries" : PySem.Str) from rfl, decide_eq_true rfl]
          rfl
        refine ⟨_, rfl, one1, fun p np => Shn.rAny (Shn.extN hsh (ExtN.of (same_new (Same.refl _) np))) upd_same fun H3 S3 => ⟨two2, fun d nd => ?_⟩⟩
        have S23 : Same H2 H3 := (same_new (Same.refl _) np).trans S3
        generalize hE : upd H3 d _ = H4
        have e4 := upd_got hE
        have S4 : ExtN H2 H4 := ExtN.of (S23.trans (upd_stay hE nd))
        have T4 := hT2.ext (S23.trans (upd_stay hE nd))
        refine ⟨⟨rfl, NoRow.extN hn S4, Shn.extN hsh S4, d, rfl, e4⟩, T4, ⟨trivial, trivial⟩, fun H5 X5 T5 => ?_⟩
        rw [hb]
        refine iteF ⟨⟨rfl, NoRow.extN hn (S4.trans X5), Shn.extN hsh (S4.trans X5), d, rfl, X5 _ _ e4 (fun ps z => by cases z)⟩, T5, ⟨trivial, trivial⟩, fun H6 X6 T6 => ?_⟩
        exact iteF (z2 H6 _ ((S4.trans X5).trans X6) T6)
      · obtain ⟨vs, et, hv⟩ := id hrow
        have one1 : 1 ≤ sizeLine := by decide
        have l10 := line10
        have hb : (!decide (([("told" : PySem.Str), tx (rs.length : Nat)] : List PySem.Str) = [("told" : PySem.Str), tx (rs.length : Nat)])) = false := by rw [decide_eq_true rfl]; rfl
        refine ⟨⟨rfl, hrow, hl⟩, hT1, ⟨trivial, trivial⟩, fun H2 X2 T2 => ?_⟩
        rw [hb]
        have s2 := SrcAt.extN hs1 X2
        have hrow2 := TupG.extN hrow X2
        refine iteF ?_
        have vl : vs.length ≤ 10 := by rw [hv.1]; exact hl
        have et2 := X2 _ _ et (fun ps z => by cases z)
        refine ⟨_, rfl, _, rfl, t, vs, rfl, .inr (SqT.of et2), _, _, rfl, rfl, a, _, rfl, by omega, by omega, s2, fun f H3 f0 f1 s3 k3 => ?_⟩
        refine ⟨_, rfl, a, rfl, s3, fun x H4 thg s4 k4 => ?_⟩
        refine ⟨_, _, rfl, ?_⟩
        have hrow4 := tupG_but hrow2 s2 (k3.trans k4)
        obtain ⟨vs4, et4, hv4⟩ := id hrow4
        have evs : vs4 = vs := by
          obtain ⟨x1, x2, x3, ea⟩ := id s2
          have ne : t ≠ a := fun z => by rw [z, ea] at et2; cases et2
          have e5 := (k3.trans k4) _ _ ne et2
          rw [et4] at e5
          cases e5
          rfl
        subst evs
        have hf : ∀ g : Int, 0 ≤ g → g < (rs.length : Int) + 1 → True := fun _ _ _ => trivial
        refine ⟨_, rfl, _, rfl, _, rfl, slA_of et4 fun p1 H5 S5 e1 => ?_⟩
        refine ⟨_, rfl, one1, fun p2 n2 => ?_⟩
        generalize hE5 : upd H5 p2 _ = H6
        have e2 := upd_got hE5
        have S6 := upd_stay hE5 n2
        have c1l : (cutV vs4 none (some f)).length ≤ 10 := Nat.le_trans (cutV_length _ _ _) vl
        refine catA_of (S6 _ _ e1) e2 (by show (cutV vs4 none (some f)).length + 1 ≤ _; omega) fun p3 H7 S7 e3 => ?_
        have S47 : Same H4 H7 := (S5.trans S6).trans S7
        refine ⟨_, rfl, _, rfl, _, rfl, a, 2, rfl, by decide, by decide, s4.same S47, fun d H8 d0 d1 s8 k8 => ?_⟩
        have e38 := tupB e3 (s4.same S47) k8
        have hrow8 := tupG_but (hrow4.same S47) (s4.same S47) k8
        have et8 := tupB (S47 _ _ et4) (s4.same S47) k8
        have thg8 : Thg C T.S x (del H8 a) := Thg.same _ _ _ ((same_del S47).trans (but_del k8)) thg
        refine ⟨_, _, rfl, rfl, _, rfl, ?_⟩
        unfold tNoPart
        refine slA_of et8 fun p4 H9 S9 e4 => ?_
        have c2l : (cutV vs4 (some (f + d)) none).length ≤ 10 := cut_len vl
        refine catA_of (S9 _ _ e38) e4 (by rw [List.length_append]; show _ + 1 + _ ≤ _; omega) fun pb Hb Sb eb => ?_
        have S8b : Same H8 Hb := S9.trans Sb
        have hrowb := hrow8.same S8b
        have thgb : Thg C T.S x Hb := Thg.same _ _ _ ((del_sub (a := a)).trans S8b) thg8
        have etb := S8b _ _ et8
        have sb := s8.same S8b
        refine ⟨_, rfl, _, rfl, t, vs4, rfl, .inr (SqT.of etb), fun l nl => ?_⟩
        generalize hEl : upd Hb l _ = Hl
        have el := upd_got hEl
        have Sl := upd_stay hEl nl
        refine ⟨x, rfl, Thg.same _ _ _ Sl thgb, fun y hy => fun dd ndd => ⟨upd_same, [(.inl 0, .int 1)], rfl, by decide, (by show 5 ≤ sizeLine; decide), fun l6 n6 => ?_⟩⟩
        have Sd : Same Hl (upd (upd Hl dd (.dK [])) dd (.dK (mergeK [] [(.inl 0, .int 1)]))) := fun b o eb => by
          have nb : b ≠ dd := ne_of_none eb ndd
          rw [upd_ne nb, upd_ne nb]
          exact eb
        generalize hEd : upd (upd Hl dd (.dK [])) dd (.dK (mergeK [] [(.inl 0, .int 1)])) = Hd at Sd n6 ⊢
        have ed : Hd dd = some (.dK [(.inl 0, .int 1)]) := by rw [← hEd]; exact upd_same
        generalize hE6 : upd Hd l6 _ = H6'
        have e6 := upd_got hE6
        have Sl6 := upd_stay hE6 n6
        have Sb6 : Same Hb H6' := (Sl.trans Sd).trans Sl6
        have rowmem : ∀ v ∈ vs4, ∃ r, SK.GN C PN Hb v r := fun v hv' => by
          obtain ⟨vs5, e5, hv5⟩ := hrowb
          rw [etb] at e5
          cases e5
          obtain ⟨i, hi, e⟩ := List.getElem_of_mem hv'
          obtain ⟨r, _, g⟩ := hv5.get (by rw [List.getElem?_eq_getElem hi, e] : vs4[i]? = some v)
          exact ⟨r, g⟩
        have wb : Wht C T.S (.ref pb) Hb := wht_bent (x := x) eb (fun v hv' => by
          rcases List.mem_append.mp hv' with h | h
          · rcases List.mem_append.mp h with h | h
            · exact .inr (rowmem v (cut_mem h))
            · exact .inl (List.mem_singleton.mp h)
          · exact .inr (rowmem v (cut_mem h))) (by simp) thgb (by rw [List.length_append, List.length_append]; show _ + 1 + _ ≤ _; omega)
        have wl : Wht C T.S (.ref l) Hl := by
          obtain ⟨vs5, e5, hv5⟩ := hrowb.same Sl
          rw [Sl _ _ etb] at e5
          cases e5
          exact wht_list el hv5 (by omega)
        have xb := ExtN.of Sb6
        have wall : ∀ v ∈ [V.ref pb, V.ref l, y, V.int 0, V.ref dd], Wht C T.S v H6' := fun v hv' => by
          simp only [List.mem_cons, List.not_mem_nil, or_false] at hv'
          rcases hv' with rfl | rfl | rfl | rfl | rfl
          · exact wb.extN xb
          · exact wl.extN (ExtN.of (Sd.trans Sl6))
          · exact hy.extN (ExtN.of (Sd.trans Sl6))
          · exact wht_zero
          · exact wht_dict (Sl6 _ _ ed)
        have T6 : Tabs TT H6' := (tabs_but ((tabs_but T2 s2 (k3.trans k4)).ext S47) (s4.same S47) k8).ext (S8b.trans Sb6)
        refine ⟨_, rfl, l6, rfl, ⟨_, SqL.of e6⟩, ?_⟩
        refine for_list (K := K) (a := l6) (xs := [V.ref pb, V.ref l, y, V.int 0, V.ref dd]) (fun i σ' J => Tabs TT J ∧ ExtN H6' J ∧ ∃ w7' w8', σ' = [some (.ref a), some (.ref t), w2, some (.int f), some x, some (.ref pb), some (.ref l6), w7', w8']) ⟨T6, ExtN.of (Same.refl _), _, _, rfl⟩ (fun i σ' J _ hh => SqL.of (hh.2.1 _ _ e6 (fun ps z => by cases z))) ?_ ?_
        · rintro i v σ' J hi ⟨TJ, XJ, w7', w8', rfl⟩
          exact ⟨_, _, _, _, _, _, _, v, rfl, (wall v (List.mem_of_getElem? hi)).extN XJ, TJ, fun J' o8' X' T' => ⟨T', XJ.trans X', _, _, rfl⟩⟩
        · rintro σ' J ⟨TJ, XJ, w7', w8', rfl⟩
          have f1' : f < (vs4.length : Int) + 1 := f1
          have fl : f.toNat ≤ vs4.length := by omega
          have cb : cutV (cutV vs4 none (some f) ++ [x] ++ cutV vs4 (some (f + d)) none) none (some f) = vs4.take f.toNat := by
            rw [cut_pre f0, cut_pre f0, List.append_assoc, List.take_append_of_le_length (by rw [List.length_take]; omega), List.take_take, Nat.min_self]
          have XbJ : ExtN Hb J := (ExtN.of Sb6).trans XJ
          have ebJ := XbJ _ _ eb (fun ps z => by cases z)
          have etJ := XbJ _ _ etb (fun ps z => by cases z)
          obtain ⟨ts, h1, h2, h3⟩ := svAll_flat (C := C) (S := T.S) (N := PN) (H := J) (vs := vs4.take f.toNat) (P := fun t => PyData.strOk t = true ∧ t.length ≤ 600) fun v hv' => by
            obtain ⟨r, g⟩ := rowmem v (List.mem_of_mem_take hv')
            exact gn_text (GN.extN g XbJ)
          have tl := tupleText_len_le ts
          have sl := sum_len (k := 600) fun t ht => (h3 t ht).2
          have h2' : ts.length ≤ 10 := by rw [h2, List.length_take]; omega
          have tlen : (tupleText ts).length ≤ sizeLine := by omega
          refine ⟨_, rfl, _, rfl, _, rfl, slA_of ebJ fun pa Ja Sa ea => ?_⟩
          rw [cb] at ea
          refine .inr ⟨pa, _, ts, rfl, ea, SvAll.same Sa (h1 _ _), tlen, fun Jb Sb' => ?_⟩
          refine ⟨_, rfl, _, rfl, _, rfl, slA_of (Sb' _ _ (Sa _ _ etJ)) fun pc Jc Sc ec => ?_⟩
          rw [cut_pre f0] at ec
          refine .inr ⟨pc, _, ts, rfl, ec, SvAll.same ((Sa.trans Sb').trans Sc) (h1 _ _), tlen, fun Jd Sd' => ?_⟩
          refine ⟨rfl, ?_⟩
          rw [decide_eq_true rfl]
          have SJd : Same J Jd := ((Sa.trans Sb').trans Sc).trans Sd'
          have XJd : ExtN Hb Jd := XbJ.trans (ExtN.of SJd)
          refine z1 Jd (SrcAt.extN sb XJd) ?_ (TJ.ext SJd)
          exact ((((((ButN.of X2).trans (ButN.but (k3.trans k4))).trans (ButN.of (ExtN.of S47))).trans (ButN.but k8)).trans (ButN.of (ExtN.of S8b))).trans (ButN.of XJd))
    · refine ⟨_, rfl, a, 11, rfl, by decide, by decide, hs, fun n H1 n0 n1 s1 k1 => ⟨n, rfl, by omega, by omega, fun D hD => ?_⟩⟩
      have nDa : D ≠ a := Ne.symm (s1.ne hD)
      refine lc_range (lo := 0) (n := n.toNat) (fun i J => SrcAt J a ∧ But a H1 J ∧ ∃ ys rs, J D = some (.lst ys) ∧ ys.length = i ∧ All2 (SK.GN C PN J) ys rs) ⟨s1.same (same_new (Same.refl _) hD), (But.refl a H1).new hD, [], [], upd_same, rfl, All2.nil⟩ ?_ ?_
      · rintro i J hi ⟨sJ, kJ, ys, rs, ey, yl, yv⟩
        refine ⟨rfl, _, rfl, a, rfl, sJ, fun r v J2 gv sJ2 kJ2 => ?_⟩
        have ey2 : J2 D = some (.lst ys) := kJ2 _ _ nDa ey
        refine ⟨_, ey2, (by have : 40000 ≤ sizeLine := line10; omega), ?_, fun b o hb e => ?_, ys ++ [v], rs ++ [r], upd_same, by rw [List.length_append, yl]; rfl, ?_⟩
        · obtain ⟨x, y', z', e⟩ := sJ2
          exact ⟨x, y', z', by rw [upd_ne (Ne.symm nDa)]; exact e⟩
        · rw [upd_ne (ne_of_none e hD)]
          exact kJ2 _ _ hb (kJ _ _ hb e)
        · exact (yv.imp fun v r g => (gn_but g sJ kJ2).offL ey2).snoc (gv.offL ey2)
      · rintro J ⟨sJ, kJ, ys, rs, ey, yl, yv⟩
        refine ⟨D, _, rfl, .inl ⟨SqL.of ey, fun t nt => ?_⟩⟩
        have S1 := same_new (o := .tup ys) (Same.refl J) nt
        generalize hE : upd J t _ = J1 at S1
        have et := upd_got hE
        have kk : But a H J := k1.trans kJ
        exact ⟨t, rs, _, _, _, _, _, _, _, rfl, ⟨ys, et, yv.imp fun v r g => g.same S1⟩, by rw [← yv.1]; omega, sJ.same S1, (tabs_but hT hs kk).ext S1, fun H' s' k' T' => z H' s' (((ButN.but kk).trans (ButN.of (ExtN.of S1))).trans k') T'⟩
end
end T08

/-! _law_right of k08. -/
namespace SQ
open PySem PySem.Spec PyProof.Rows L2 SF LamX
def TCb (T : List (Addr × PySem.Str)) (G : L2.St → Hp → Prop) (b : Bool) (s : Prop) : TE := fun σ H Q => G σ H ∧ Tabs T H ∧ s ∧ ∀ H', ExtN H H' → Tabs T H' → Q (.bl b) H'
section
variable {X : Cx} {T : List (Addr × PySem.Str)} {G : L2.St → Hp → Prop} {a b : Expr} {s1 s2 : Prop} {pos : Pos} {w x : PySem.Str} {ys : List PySem.Str}
theorem pc_eq (hu : X.A.units + 64 < cLine) (hG : GN G) (hm : behindInMarks .Eq b = false) (ha : PE X a (TC T G w x s1)) (hb : PE X b (TL G ys s2)) (hx : [w, x].all PyData.strOk = true) (hy : ys.all PyData.strOk = true) :
    PE X (.Compare a [.Eq] [b] pos) (TCb T G (decide ([w, x] = ys)) (s1 ∧ s2)) :=
  pe_weak (pe_cmpR (op_eqD hu) ha hb hm) fun σ H Q ⟨hg, hT, ⟨h1, h2⟩, z⟩ => ⟨hg, hT, h1, fun p H1 S1 T1 e1 => ⟨hG _ _ _ hg S1, h2, fun u H2 S2 e2 =>
    ⟨_, _, .lst (SqL.of (S2 _ _ e1)) (dp_strs [w, x]), .lst (SqL.of e2) (dp_strs ys), shaped_strs hx, shaped_strs hy, by
      show Q (.bl (PyData.eqvAll ([w, x].map .str) (ys.map .str))) H2
      rw [eqv_strs]
      exact z H2 (S1.trans (ExtN.of S2)) (T1.ext S2)⟩⟩⟩
theorem seq_extN {K : PySem.W.Frag} {H H' : Hp} {a : Addr} {xs : List V} (h : SqL K H a xs) (s : ExtN H H') : SqL K H' a xs := by
  rcases h with (h | ⟨o, h⟩) | h
  · exact .inl (.inl (s _ _ h (fun ps z => by cases z)))
  · exact .inl (.inr ⟨o, s _ _ h (fun ps z => by cases z)⟩)
  · exact .inr h
end
end SQ
namespace T08
open PySem PySem.Spec PyProof.Rows L2 SF SQ SFT L2H LamX TL SK
/-- what is no text, and its text -/
def ThT (C S : Addr) (v : V) (H : Hp) : Prop := NoT C S H v ∧ ∃ t, Sv C S PN H 1 [] v t ∧ PyData.strOk t = true ∧ t.length ≤ 600
section
variable {C S : Addr} {H H' : Hp} {v : V}
theorem ThT.same (v : V) (H H' : Hp) (s : Same H H') (h : ThT C S v H) : ThT C S v H' := ⟨NoT.same h.1 s, let ⟨t, a, b⟩ := h.2; ⟨t, Sv.same s a, b⟩⟩
theorem NoT.extN (h : NoT C S H v) (s : ExtN H H') : NoT C S H' v := h.imp (fun ⟨k, d, x⟩ => ⟨k, SQ.Dec.extN s d, x⟩) fun h => h.imp (fun ⟨a, dx, fs, e, x⟩ => ⟨a, dx, fs, e, s _ _ x (fun ps z => by cases z)⟩) fun ⟨a, dx, fs, e, x⟩ => ⟨a, dx, fs, e, s _ _ x (fun ps z => by cases z)⟩
theorem tht_tup {a : Addr} {vs : List V} {ts : List PySem.Str} (h : H a = some (.tup vs)) (hs : SvAll C S PN H 0 [a] vs ts) (hk : PyData.strOk (tupleText ts) = true) (hl : (tupleText ts).length ≤ 600) : ThT C S (.ref a) H := ⟨.inl ⟨_, .tup h, by decide⟩, _, .tup h (by simp) hs, hk, hl⟩
theorem tht_lst {a : Addr} {vs : List V} {ts : List PySem.Str} (h : H a = some (.lst vs)) (hs : SvAll C S PN H 0 [a] vs ts) (hk : PyData.strOk (listText ts) = true) (hl : (listText ts).length ≤ 600) : ThT C S (.ref a) H := ⟨.inl ⟨_, .lst h, by decide⟩, _, .lst h (by simp) hs, hk, hl⟩
theorem tht_of_thg (h : Thg C S v H) (hn : NoT C S H v) : ThT C S v H := ⟨hn, h.2⟩
theorem strtext1 : (reprText ("1" : PySem.Str)).length ≤ sizeLine := by decide +kernel
theorem strtextg : (reprText ("_" : PySem.Str)).length ≤ sizeLine := by decide +kernel
end
section
variable {X : Cx} {C : Addr} {a : Addr} {G : L2.St → Hp → Prop} {p1 p2 p3 : Pos} {e : Expr}
/-- Ratio(1) -/
theorem tht_num {S : Addr} {q : Rat} {s : Prop} {n : Nat} (hA : GA a G) (hG : GS G) (h : PE X e (TQ C G true n q s)) (hs : s) (hn : n ≤ PN) : PE X e (TPd (ThT C S) a G) :=
  pe_weak h fun σ H Q ⟨hg, z⟩ => ⟨hg, hs, fun v H' S1 nv => by
    obtain ⟨p, rfl, r⟩ := nv_true nv
    obtain ⟨x, y, w, ea⟩ := hA σ H' (hG _ _ _ hg S1)
    obtain ⟨⟨dx, ep⟩, sz⟩ := id r
    have ne : p ≠ a := fun e => by rw [e, ea] at ep; cases ep
    have r' : RQ C (del H' a) p PN q := ⟨⟨dx, by rw [del_ne ne]; exact ep⟩, sz.mono hn⟩
    exact z _ _ S1 ⟨.inr (.inl ⟨p, dx, _, rfl, by rw [del_ne ne]; exact ep⟩), _, .fr r', ok_rrepr q, Nat.le_trans (rrepr_short r'.2) (by decide)⟩⟩
theorem tht_ser1 {S : Addr} {es1 : List Expr} {x1 : Nat} (T : Tx X.K X.mg C) (eS : T.S = S) (hr : Room 6 X.A) (hg : Gl X "Series") (hA : GA a G) (hG : GS G) (h1 : PA X es1 (fun σ H Q => Q [.int 1] H)) (he : starEach [.Tuple es1 x1 p2] X.env = (false, eval (.Tuple es1 x1 p2) X.env) :: starEach [] X.env := by rfl) (hpl : (backTo p3 (starEach [] X.env)).any (·.1) = false := by rfl) :
    PE X (.Call (.Name "Series" p1) [.Tuple es1 x1 p2] [] p3) (TPd (ThT C S) a G) :=
  pe_weak (tp_serI T eS hr hg hA hG h1 he hpl) fun σ H Q ⟨hg, z⟩ => ⟨hg, fun v H' S1 th => z v H' S1 ⟨.inr (.inr th.1), th.2⟩⟩
end
theorem fnG_up {P : Program} {w : World} {K : PySem.W.Frag} {mg : Str → Option Value} {base : Heap} {CX : CXT} {k k' : Nat} {f : Addr} {fd : FuncData} {ps : List Str} {sp : Sp} (F : FnG P w K mg base CX k f fd ps sp) (h : k ≤ k') : FnG P w K mg base CX k' f fd ps sp :=
  ⟨F.len, fun A outer s H args us vs Q E hg hr => F.run A outer s H args us vs Q E hg (hr.mono h)⟩
theorem call_rS {X : Cx} {C S : Addr} {n : Nat} (T : Tx X.K X.mg C) (eS : T.S = S) (hgd : X.A.guards = some []) (hr : Room (7 + n + 2) X.A) : CallR X (.builtin "repr") (rAny C S n) := by
  subst eS
  exact call_rAny T hgd hr
abbrev lamR : Str := "_law_right" ++ ".<locals>." ++ "<lambda>"
def tb4 (K : PySem.W.Frag) (c1 c2 c3 : Addr) : List (Addr × Str) := [(SFY.tabOf K c1, lamE), (SFY.tabOf K c2, lamT), (SFY.tabOf K c3, lamR)]
theorem tb4_1 {K : PySem.W.Frag} {c1 c2 c3 : Addr} (h2 : SFY.tabOf K c1 ≠ SFY.tabOf K c2) (h3 : SFY.tabOf K c1 ≠ SFY.tabOf K c3) : ∀ p ∈ tb4 K c1 c2 c3, p.1 = SFY.tabOf K c1 → p.2 = lamE := fun p hp e => by
  simp only [tb4, List.mem_cons, List.not_mem_nil, or_false] at hp
  rcases hp with rfl | rfl | rfl
  · rfl
  · exact absurd e.symm h2
  · exact absurd e.symm h3
theorem tb4_2 {K : PySem.W.Frag} {c1 c2 c3 : Addr} (h2 : SFY.tabOf K c1 ≠ SFY.tabOf K c2) (h3 : SFY.tabOf K c2 ≠ SFY.tabOf K c3) : ∀ p ∈ tb4 K c1 c2 c3, p.1 = SFY.tabOf K c2 → p.2 = lamT := fun p hp e => by
  simp only [tb4, List.mem_cons, List.not_mem_nil, or_false] at hp
  rcases hp with rfl | rfl | rfl
  · exact absurd e h2
  · rfl
  · exact absurd e.symm h3
theorem tb4_3 {K : PySem.W.Frag} {c1 c2 c3 : Addr} (h2 : SFY.tabOf K c1 ≠ SFY.tabOf K c3) (h3 : SFY.tabOf K c2 ≠ SFY.tabOf K c3) : ∀ p ∈ tb4 K c1 c2 c3, p.1 = SFY.tabOf K c3 → p.2 = lamR := fun p hp e => by
  simp only [tb4, List.mem_cons, List.not_mem_nil, or_false] at hp
  rcases hp with rfl | rfl | rfl
  · exact absurd e h2
  · exact absurd e h3
  · rfl
/-- the thing stands in its slot -/
def GTh (C S : Addr) (v : V) (t : PySem.Str) : L2.St → Hp → Prop := fun σ H => σ[1]? = some (some v) ∧ NoT C S H v ∧ Shn C S 2 H v t
theorem GTh.gn {C S : Addr} {v : V} {t : PySem.Str} : SQ.GN (GTh C S v t) := fun σ H H' ⟨a, b, c⟩ s => ⟨a, NoT.extN b s, Shn.extN c s⟩
theorem vTh {X : Cx} {a : Expr} {C S : Addr} {v : V} {t : PySem.Str} (h : PE X a (tVar 1)) : PE X a (TVal (GTh C S v t) v True) := pe_weak h fun σ H Q ⟨⟨e, _⟩, _, z⟩ => ⟨_, e, z H (Same.refl _)⟩
def tRest (C S a : Addr) (TT : List (Addr × Str)) : L2.TS := fun D σ H1 => ∃ v, σ = [some (.ref a), some v] ∧ (∃ t, NoT C S H1 v ∧ Shn C S 2 H1 v t ∧ PyData.strOk t = true) ∧ Tabs TT H1 ∧ ∀ H', ExtN H1 H' → Tabs TT H' → D.rt (.bl true) H'
section
variable {P : Program} {w : World} {K : PySem.W.Frag} {mg : Str → Option Value} {base : Heap} {C c1 c2 c3 fIE fIT : Addr} {cs bs : Nat → Addr} {fdE fdT : FuncData}
theorem ok_Right (T : Tx K mg C) (Z : SFT.CErr K mg cs bs) (N : ND K) (OT : OEK K mg "InvalidText" "InvalidText.__init__" sETxt (cs 1) fIT fdT) (OE' : OEK K mg "InvalidEntries" "InvalidEntries.__init__" sEEnt (cs 5) fIE fdE) (hme : PySem.W.exmOne K (.ref (cs 1)) (.ref (cs 1)) = some true)
    (hc1 : T.dEntR.code = .ref c1) (hc2 : T.dTRight.code = .ref c2) (hc3 : T.dRight.code = .ref c3) (n12 : SFY.tabOf K c1 ≠ SFY.tabOf K c2) (n13 : SFY.tabOf K c1 ≠ SFY.tabOf K c3) (n23 : SFY.tabOf K c2 ≠ SFY.tabOf K c3) (TB1 : TabB base mg c1 (SFY.tabOf K c1)) (TB2 : TabB base mg c2 (SFY.tabOf K c2)) (TB3 : TabB base mg c3 (SFY.tabOf K c3)) :
    FnG P w K mg base CX0 20 T.aRight T.dRight ["_law_source_here"] (spEntR (tb4 K c1 c2 c3)) := by
  have GTR : FnG P w K mg base CX0 14 T.aTRight T.dTRight ["_law_line"] (spTR (tb4 K c1 c2 c3)) := ok_TRight T Z N OT hme hc2 TB2 (List.mem_cons_of_mem _ List.mem_cons_self) (tb4_2 n12 n23)
  have GTs : FnG P w K mg base CX0 19 T.aTsR T.dTsR ["_law_source_here"] (spTsR (tb4 K c1 c2 c3)) := fnG_up (ok_TsR T GTR) (by decide)
  have GEn : FnG P w K mg base CX0 19 T.aEntR T.dEntR ["_law_source_here"] (spEntR (tb4 K c1 c2 c3)) := ok_EntR T Z (ok_EEnt OE') hc1 TB1 List.mem_cons_self (tb4_1 n12 n13)
  have GD : FnOk P w K mg base CX0 1 T.aDraw T.dDraw ["_law_source_here", "_law_many"] spDraw := ok_draw T.FDraw T.blt
  refine okGc T.FRight hc3 scRight (fun vs H Q E h => ?_) (fun A outer s0 H vs Q E hgd hr h => ?_)
  · obtain ⟨a, rfl, _⟩ := h
    rfl
  · obtain ⟨a, rfl, hs, hT, z⟩ := h
    have hr1 := hr.mono (show 1 ≤ 19 by decide)
    have hr6 := hr.mono (show 6 ≤ 19 by decide)
    have hr11 := hr.mono (show 7 + 2 + 2 ≤ 19 by decide)
    have hrL := hr.mono (show 4 + 2 + 12 ≤ 19 by decide)
    have two2 : 2 ≤ sizeLine := by decide
    have one1 : 1 ≤ sizeLine := by decide
    let G : L2.St → Hp → Prop := fun _ H => SrcAt H a
    have hG : GS G := fun σ H H' h S => SrcAt.same h S
    have hA : GA a G := fun σ H h => h
    have hΦ := @ThT.same C T.S
    refine ⟨_, (pss_cons (ps_if (PW.pt (pw_or (pt_not (pt_val (pe_callG GEn hgd hr (by rfl) T.gEntR T.FEntR.kp T.bEntR .nil pass0 (pa_cons (pv 0) pa_nil)))) (pw_or1 (pt_not (pt_val (pe_callG GTs hgd hr (by rfl) T.gTsR T.FTsR.kp T.bTsR .nil pass0 (pa_cons (pv 0) pa_nil))))))) (pss_one (ps_ret pe_bl)) pss_nil)
      (pss_cons (ps_set (i := 1) scRight.nd rfl (.inr rfl) (pe_ix ix_list (pe_lst (tp_cons hG hΦ (tp_lit pe_non (fun _ _ _ q => q) (fun H => ⟨.inl ⟨_, .non, by decide⟩, _, .non, by decide +kernel, by decide +kernel⟩))
        (tp_cons hG hΦ (tp_lit pe_bl (fun _ _ _ q => q) (fun H => ⟨.inl ⟨_, .bl _, by decide⟩, _, .bl _, by decide +kernel, by decide +kernel⟩))
        (tp_cons hG hΦ (tp_lit pe_int (fun _ _ _ q => q) (fun H => ⟨.inl ⟨_, .int _, by decide⟩, _, .int (by decide), by decide +kernel, by decide +kernel⟩))
        (tp_cons hG hΦ (tp_tup hA pa_nil (fun _ _ _ q => q) (fun H p e => tht_tup e .nil (by decide +kernel) (by decide +kernel)) (by decide))
        (tp_cons hG hΦ (tp_tup hA (pa_cons pe_str pa_nil) (fun _ _ _ q => q) (fun H p e => tht_tup e (.cons (.str strtext1) .nil) (by decide +kernel) (by decide +kernel)) (by decide))
        (tp_cons hG hΦ (tp_lst hA (pa_cons pe_str pa_nil) (fun _ _ _ q => q) (fun H p e => tht_lst e (.cons (.str strtextg) .nil) (by decide +kernel) (by decide +kernel)) (by decide))
        (tp_cons hG hΦ (tp_dct0 hA (fun H p e => ⟨.inl ⟨_, .dK e, by decide⟩, _, .dct e (by simp), by decide +kernel, by decide +kernel⟩))
        (tp_cons hG hΦ (tp_tup hA (pa_cons pe_non pa_nil) (fun _ _ _ q => q) (fun H p e => tht_tup e (.cons .non .nil) (by decide +kernel) (by decide +kernel)) (by decide))
        (tp_cons hG hΦ (tht_ser1 T rfl hr6 (by rfl) hA hG (pa_weak (pa_cons pe_int pa_nil) fun _ _ _ q => q))
        (tp_cons hG hΦ (tht_num (S := T.S) (n := 8) hA hG (pq_make1 (G := G) (n := 8) T.M (ok_init T) T.b1 T.vv (hr.mono (by decide)) (by rfl) T.rc.mgC (pI_int (i := 1)) (by decide) (by decide)) ⟨trivial, by decide⟩ (by decide))
        tp_nil))))))))))) (pe_call GD hr1 (by rfl) T.gDraw T.FDraw.kp T.bDraw .nil pass0 (pa_cons (pv 0) (pa_cons pe_int pa_nil))) (fun _ _ => rfl)))
      (pss_of (t' := tRest C T.S a (tb4 K c1 c2 c3)) fun pins s' σ H1 D I h1 => ?_))), ?_⟩
    · obtain ⟨v, rfl, ⟨t, hn, hsh, hok⟩, hT1, z1⟩ := h1
      have okd : ([("InvalidText" : PySem.Str), t] : List PySem.Str).all PyData.strOk = true := by
        simp only [List.all_cons, List.all_nil, Bool.and_true, Bool.and_eq_true]
        exact ⟨by decide +kernel, hok⟩
      have hb : decide (([cnm 1, t] : List PySem.Str) = [("InvalidText" : PySem.Str), t]) = true := by
        rw [show cnm 1 = ("InvalidText" : PySem.Str) from rfl, decide_eq_true rfl]
      refine ⟨_, pss_one (ps_ret (pc_eq (T := tb4 K c1 c2 c3) (G := GTh C T.S v t) (w := cnm 1) (ys := [("InvalidText" : PySem.Str), t]) (s1 := True) (s2 := True) hr.units GTh.gn (by rfl)
          (pc_errN (RV := rInt) (j := 1) (cs := cs) (C := C) (S := T.S) (n := 2) (v := v) (G := GTh C T.S v t) (s := True) (by decide) (fun v => rfl) (lam_caughtR (k := 4) (n := 2) (T := tb4 K c1 c2 c3) (t := fun E => TErr E (cs 1) (GTh C T.S v t) v True) mono_rInt (fun Y => SkE.call_repr_int) T rfl Z hgd hrL (by rfl) TB3 rfl (List.mem_cons_of_mem _ (List.mem_cons_of_mem _ List.mem_cons_self)) (tb4_3 n13 n23) (lamS_by (by show lamSB (defScope sRight) _ = true; decide +kernel)) (fun A outer s H E f c' hq => pe_rdW (X := lamCxN _ A outer s H E _ f c') T (ok_ETxt OT) PTN (hq.mono (by decide)) (pe_glob (v := .ref T.S) (by rfl) T.gS rfl) (vTh (pv 1)) (fun σ H h => h.2.1)) (by rfl) (by intros; rfl)) GTh.gn (fun σ H h => h.2.2))
          (pe_weak (pe_lst (pa_cons pe_str (pa_cons (pe_callB (call_rS (C := C) (S := T.S) (n := 2) T rfl hgd hr11) (by rfl) T.rc.repr_ (by decide +kernel) (pa_cons (pe_tup (pa_cons (pv 1) pa_nil)) pa_nil)) pa_nil))) fun σ H Q ⟨⟨e, hn, hsh⟩, _, z⟩ => ⟨_, e, one1, fun p np => Shn.rAny (Shn.extN hsh (ExtN.of (same_new (Same.refl _) np))) upd_same fun H3 S3 => ⟨two2, fun d nd => z d _ (same_new ((same_new (Same.refl _) np).trans S3) nd) upd_same⟩⟩) okd okd)), ?_⟩
      refine ⟨⟨rfl, hn, hsh⟩, hT1, ⟨trivial, trivial⟩, fun H2 X2 T2 => ?_⟩
      rw [hb]
      exact z1 H2 X2 T2
    · refine ⟨_, rfl, a, rfl, hs, hT, fun H1 s1 k1 T1 => ⟨_, rfl, iteF ⟨_, rfl, a, rfl, s1, T1, fun H2 s2 k2 T2 => ⟨_, rfl, iteF ?_⟩⟩⟩⟩
      refine ⟨s2, fun vs H3 S3 hv hl => ⟨by rw [hl]; decide, fun p np => ?_⟩⟩
      have s3 := s2.same S3
      have pa := s3.ne np
      refine ⟨_, rfl, a, 10, rfl, (by decide), (by decide), s3.same (same_new (Same.refl _) np), fun e H4 e0 e1 s4 k4 => ?_⟩
      have ep : H4 p = some (.lst vs) := k4 _ _ (Ne.symm pa) upd_same
      obtain ⟨m, rfl⟩ := Int.eq_ofNat_of_zero_le e0
      have hm : m < vs.length := by omega
      refine ⟨p, _, _, vs[m], rfl, rfl, SqL.of ep, atI_nat (List.getElem?_eq_getElem hm), ?_⟩
      have th4 : ThT C T.S vs[m] H4 := hΦ _ _ _ (del_sub (a := a)) (hΦ _ _ _ ((same_del (same_new (o := HO.lst vs) (Same.refl H3) np)).trans (but_del k4)) (hv _ (List.getElem_mem hm)))
      have S3p : Same H2 (upd H3 p (.lst vs)) := same_new S3 np
      have T4 := tabs_but (T2.ext S3p) (s2.same S3p) k4
      refine ⟨_, rfl, ?_, T4, fun H5 X5 T5 => z H5 (SrcAt.extN s4 X5) ((((ButN.trans k1 k2).trans (ButN.of (ExtN.of S3p))).trans (ButN.but k4)).trans (ButN.of X5)) T5⟩
      obtain ⟨hn, t, hsv, hok, hlen⟩ := th4
      obtain ⟨t', a', b'⟩ := shn_of (Sv.up hsv) hok (by omega)
      exact ⟨t', hn, a', b'⟩
end
end T08

/-! law of k08. -/
namespace T08
open PySem PySem.Spec PyProof.Rows L2 SF SQ SFT L2H LamX TL SK
def lawTx : List PySem.Str := [" ", "_ ", " _", "_  _", "1 2 ", "1, 2", "1;2", "__", "1 2/4", "-0", "01", "1 -", "None", "_ _", "1 -1/2 _"]
theorem lawTx_ok : lawTx.all (fun x => PAB x && decide (x.length ≤ 100)) = true := by decide +kernel
def spLaw (K : PySem.W.Frag) (TT : List (Addr × Str)) : Sp := fun vs H Q _ => ∃ (a : Addr) (ns : List Int), vs = [.ref a] ∧ SqL K H a (ns.map V.int) ∧ ns.length ≤ 63 ∧ Tabs TT H ∧ ∀ H', Q (.bl true) H'
section
variable {P : Program} {w : World} {K : PySem.W.Frag} {mg : Str → Option Value} {base : Heap} {C c1 c2 c3 fIE fIT : Addr} {cs bs : Nat → Addr} {fdE fdT : FuncData}
theorem ok_law (T : Tx K mg C) (Z : SFT.CErr K mg cs bs) (N : ND K) (OT : OEK K mg "InvalidText" "InvalidText.__init__" sETxt (cs 1) fIT fdT) (OE' : OEK K mg "InvalidEntries" "InvalidEntries.__init__" sEEnt (cs 5) fIE fdE) (hme : PySem.W.exmOne K (.ref (cs 1)) (.ref (cs 1)) = some true)
    (hc1 : T.dEntR.code = .ref c1) (hc2 : T.dTRight.code = .ref c2) (hc3 : T.dRight.code = .ref c3) (n12 : SFY.tabOf K c1 ≠ SFY.tabOf K c2) (n13 : SFY.tabOf K c1 ≠ SFY.tabOf K c3) (n23 : SFY.tabOf K c2 ≠ SFY.tabOf K c3) (TB1 : TabB base mg c1 (SFY.tabOf K c1)) (TB2 : TabB base mg c2 (SFY.tabOf K c2)) (TB3 : TabB base mg c3 (SFY.tabOf K c3)) :
    FnG P w K mg base CX0 21 T.aLaw T.dLaw ["_law_cells"] (spLaw K (tb4 K c1 c2 c3)) := by
  have GC : FnOk P w K mg base CX0 1 T.aCell T.dCell ["_law_cells", "_law_k"] (spCell K) := ok_cell T.FCell T.blt
  have GSo : FnOk P w K mg base CX0 1 T.aSrc T.dSrc ["_law_cell_here"] spSource := ok_source T.FSrc T.blt
  have GTR : FnG P w K mg base CX0 20 T.aTRight T.dTRight ["_law_line"] (spTR (tb4 K c1 c2 c3)) := fnG_up (ok_TRight T Z N OT hme hc2 TB2 (List.mem_cons_of_mem _ List.mem_cons_self) (tb4_2 n12 n23)) (by decide)
  have GR : FnG P w K mg base CX0 20 T.aRight T.dRight ["_law_source_here"] (spEntR (tb4 K c1 c2 c3)) := ok_Right T Z N OT OE' hme hc1 hc2 hc3 n12 n13 n23 TB1 TB2 TB3
  refine okG T.FLaw scLaw (fun vs H Q E h => ?_) (fun cdv A outer s0 H vs Q E hgd hr h => ?_)
  · obtain ⟨a, ns, rfl, _⟩ := h
    rfl
  · obtain ⟨a, ns, rfl, hS, hlen, hT, q⟩ := h
    have hr1 := hr.mono (show 1 ≤ 20 by decide)
    have l40 := line10
    refine ⟨_, (pss_cons (ps_set (i := 1) scLaw.nd rfl (.inl rfl) (pe_lst (pa_cons pe_str (pa_cons pe_str (pa_cons pe_str (pa_cons pe_str (pa_cons pe_str (pa_cons pe_str (pa_cons pe_str (pa_cons pe_str (pa_cons pe_str (pa_cons pe_str (pa_cons pe_str (pa_cons pe_str (pa_cons pe_str (pa_cons pe_str (pa_cons pe_str pa_nil)))))))))))))))))
      (pss_cons (ps_if (pt_not (pt_val (pe_callB (cr_all rfl) (by rfl) T.all_ (by decide +kernel) (pa_cons (pe_lc (own := [("_law_line", 2)]) (g := gName 2) (tt := tYes) rfl scLaw.nd (pi_list (pv 1)) (blkOk_by (N := ["_law_cells", "_law_some", "_law_line", "_law_k", "_law_source_here", "_law_turn"]) (sc := defScope sLaw) (by decide +kernel)) (fun _ _ _ _ _ => pg_name (i := 2) scLaw.nd rfl (Or.inl rfl)) (fun _ _ _ _ _ => pts_nil) (fun _ _ _ _ _ => pe_callG GTR hgd hr (by rfl) T.gTRight T.FTRight.kp T.bTRight .nil pass0 (pa_cons (pv 2) pa_nil))) pa_nil)))) (pss_one (ps_ret pe_bl)) pss_nil)
      (pss_cons (ps_for PassesOwn.never rfl (pi_range1 rfl T.rc.range_ (pa_cons (pe_callB (call_max2 rfl) (by rfl) T.max_ (by decide +kernel) (pa_cons pe_int (pa_cons (pe_callB (call_min2 rfl) (by rfl) T.min_ (by decide +kernel) (pa_cons (pe_callB call_len_seq (by rfl) T.len (by decide +kernel) (pa_cons (pv 0) pa_nil)) (pa_cons pe_int pa_nil))) pa_nil))) pa_nil)) (pg_name (i := 3) scLaw.nd rfl (.inl rfl)) (pss_cons (ps_set (i := 4) scLaw.nd rfl (.inr rfl) (pe_call GSo hr1 (by rfl) T.gSrc T.FSrc.kp T.bSrc .nil pass0 (pa_cons (pe_call GC hr1 (by rfl) T.gCell T.FCell.kp T.bCell .nil pass0 (pa_cons (pv 0) (pa_cons (pv 3) pa_nil))) pa_nil)))
      (pss_one (ps_if (pt_not (pt_val (pe_callB (cr_all rfl) (by rfl) T.all_ (by decide +kernel) (pa_cons (pe_lc (own := [("_law_turn", 5)]) (g := gName 5) (tt := tYes) rfl scLaw.nd (pi_range1 rfl T.rc.range_ (pa_cons pe_int pa_nil)) (blkOk_by (N := ["_law_cells", "_law_some", "_law_line", "_law_k", "_law_source_here", "_law_turn"]) (sc := defScope sLaw) (by decide +kernel)) (fun _ _ _ _ _ => pg_name (i := 5) scLaw.nd rfl (Or.inl rfl)) (fun _ _ _ _ _ => pts_nil) (fun _ _ _ _ _ => pe_callG GR hgd hr (by rfl) T.gRight T.FRight.kp T.bRight .nil pass0 (pa_cons (pv 4) pa_nil))) pa_nil)))) (pss_one (ps_ret pe_bl)) pss_nil))))
      (pss_one (ps_ret pe_bl))))), ?_⟩
    refine ⟨(by show 15 ≤ sizeLine; omega), fun ps nps => ?_⟩
    generalize hE : upd H ps _ = H1
    have eps : H1 ps = some (.lst (lawTx.map V.str)) := upd_got hE
    have S1 := upd_stay hE nps
    have T1 := hT.ext S1
    have ll : (lawTx.map V.str).length = 15 := rfl
    refine ⟨_, rfl, ps, rfl, ⟨_, SqL.of eps⟩, fun D1 hD1 => lc_list (K := K) (a := ps) (xs := lawTx.map V.str) (fun i J => ExtN H1 J ∧ Tabs (tb4 K c1 c2 c3) J ∧ J D1 = some (.lst ((List.replicate i true).map V.bl))) ⟨ExtN.of (same_new (Same.refl _) hD1), T1.ext (same_new (Same.refl _) hD1), upd_same⟩ (fun i J _ hh => SqL.of (hh.1 _ _ eps (fun ps z => by cases z))) ?_ ?_⟩
    · rintro i x J hx ⟨XJ, TJ, eD⟩
      have hi : i < 15 := by rw [← ll]; exact (List.getElem?_eq_some_iff.mp hx).1
      obtain ⟨y, hy, rfl⟩ : ∃ y ∈ lawTx, V.str y = x := List.mem_map.mp (List.mem_of_getElem? hx)
      have hk := List.all_eq_true.mp lawTx_ok y hy
      obtain ⟨k1, k2⟩ := Bool.and_eq_true_iff.mp hk
      have k2 : y.length ≤ 100 := of_decide_eq_true k2
      refine ⟨rfl, _, rfl, y, rfl, pa_of k1, by omega, words_400 k2, TJ, fun J2 X2 T2 => ⟨_, X2 _ _ eD (fun ps z => by cases z), by rw [List.length_map, List.length_replicate]; omega, ?_, ?_, ?_⟩⟩
      · exact fun b o e nt => by
          rw [upd_ne (ne_of_none e hD1)]
          exact X2 _ _ (XJ _ _ e nt) nt
      · exact tabs_lst T2 (X2 _ _ eD (fun ps z => by cases z))
      · rw [upd_same, List.replicate_succ', List.map_append]
        rfl
    rintro J1 ⟨X1, TJ1, eD1⟩
    refine ⟨D1, List.replicate 15 true, rfl, SqL.of eD1, _, rfl, iteF ?_⟩
    have S01 : ExtN H J1 := (ExtN.of S1).trans X1
    have hS1 := seq_extN hS S01
    obtain ⟨Nn, hN, n0, n8⟩ : ∃ N : Int, (if (if (6 : Int) < ((ns.map V.int).length : Int) then (6 : Int) else ((ns.map V.int).length : Int)) > 2 then (if (6 : Int) < ((ns.map V.int).length : Int) then (6 : Int) else ((ns.map V.int).length : Int)) else 2) = N ∧ 0 ≤ N ∧ N ≤ 6 := by
      refine ⟨_, rfl, ?_, ?_⟩
      · split <;> split <;> omega
      · split <;> split <;> omega
    refine ⟨_, rfl, a, _, rfl, .inl hS1, _, _, rfl, 2, _, rfl, Nn, by rw [← hN], by omega, by omega, for_range (lo := 0) (n := Nn.toNat) (fun i σ H' => ExtN H H' ∧ Tabs (tb4 K c1 c2 c3) H' ∧ ∃ w2 w3 w4 w5, σ = [some (.ref a), some (.ref ps), w2, w3, w4, w5]) ⟨S01, TJ1, _, _, _, _, rfl⟩ ?_ ?_⟩
    · rintro i σ H' hi ⟨zH, tH, w2, w3, w4, w5, rfl⟩
      have hi8 : (i : Int) < 6 := by omega
      refine ⟨_, rfl, _, rfl, a, ns, 0 + (i : Int), rfl, seq_extN hS zH, hlen, by omega, by omega, fun c J1 zc => ?_⟩
      refine ⟨c, rfl, fun p J2 hp zs hsrc => ?_⟩
      have hp0 : H' p = none := zc.free hp
      have t2 := (tH.ext zc).ext zs
      refine ⟨6, rfl, by decide, by decide, fun D hD => lc_range (lo := 0) (n := 6) (fun j H2 => SrcAt H2 p ∧ Tabs (tb4 K c1 c2 c3) H2 ∧ (∀ c u, c ≠ p → c ≠ D → J2 c = some u → (∀ ps, u ≠ .tbl ps) → H2 c = some u) ∧ H2 D = some (.lst ((List.replicate j true).map V.bl))) ?_ ?_ ?_⟩
      · obtain ⟨b1, b2, b3, eb⟩ := id hsrc
        exact ⟨⟨b1, b2, b3, keep eb hD⟩, t2.ext fun b o e => keep e hD, fun c u _ _ e _ => keep e hD, upd_same⟩
      · rintro j H2 hj ⟨hs2, tt2, k2, eD⟩
        have npD : D ≠ p := (hsrc.ne hD).symm
        refine ⟨rfl, _, rfl, p, rfl, hs2, tt2, fun H3 s3 k3 t3 => ⟨_, k3 D _ npD eD (fun ps z => by cases z), ?_, ?_, ?_, ?_, ?_⟩⟩
        · rw [List.length_map, List.length_replicate]
          exact Nat.lt_trans hj (by decide)
        · obtain ⟨b1, b2, b3, eb⟩ := s3
          exact ⟨b1, b2, b3, by rw [upd_ne (Ne.symm npD)]; exact eb⟩
        · exact tabs_lst t3 (k3 D _ npD eD (fun ps z => by cases z))
        · intro c u n1 n2 e hu
          rw [upd_ne n2]
          exact k3 c u n1 (k2 c u n1 n2 e hu) hu
        · rw [upd_same, List.replicate_succ', List.map_append]
          rfl
      · rintro H2 ⟨hs2, tt2, k2, eD⟩
        refine ⟨D, List.replicate 6 true, rfl, SqL.of eD, _, rfl, iteF ⟨fun c u e hu => ?_, tt2, _, _, _, _, rfl⟩⟩
        have e2 : J2 c = some u := zs _ _ (zc _ _ (zH c u e hu))
        exact k2 c u (ne_of_none (zc _ _ (zH c u e hu)) hp) (ne_of_none e2 hD) e2 hu
    · rintro σ H' ⟨zH, tH, w2, w3, w4, w5, rfl⟩
      exact q _
theorem law_start {a : Addr} {ns : List Int} {H : Hp} {E : XK} (hl : ns.length ≤ 63) (hH : ∀ p ∈ [c1, c2, c3].map (fun c => (c, SFY.tabOf K c)), H p.2 = some (.tbl #[])) (hS : SqL K H a (ns.map V.int)) : spLaw K (tb4 K c1 c2 c3) [.ref a] H (fun v _ => v = .bl true) E := by
  refine ⟨a, ns, rfl, hS, hl, fun r hr => ?_, fun _ => rfl⟩
  simp only [tb4, List.mem_cons, List.not_mem_nil, or_false] at hr
  have e : ∀ c, c = c1 ∨ c = c2 ∨ c = c3 → H (SFY.tabOf K c) = some (.tbl #[]) := fun c hc => hH (c, SFY.tabOf K c) (by rcases hc with rfl | rfl | rfl <;> simp)
  rcases hr with rfl | rfl | rfl
  · exact ⟨#[], e c1 (.inl rfl), trivial, fun pos cv h => nomatch h⟩
  · exact ⟨#[], e c2 (.inr (.inl rfl)), trivial, fun pos cv h => nomatch h⟩
  · exact ⟨#[], e c3 (.inr (.inr rfl)), trivial, fun pos cv h => nomatch h⟩
end
end T08

namespace T08
open PySem PySem.Spec PyProof.Rows L2 SF SQ
theorem mem12 {p : Nat → Prop} (a0 : p 0) (a1 : p 1) (a2 : p 2) (a3 : p 3) (a4 : p 4) (a5 : p 5) (a6 : p 6) (a7 : p 7) (a8 : p 8) (a9 : p 9) (a10 : p 10) (a11 : p 11) (i : Nat) (h : i < 12) : p i := by
  match i, h with
  | 0, _ => exact a0
  | 1, _ => exact a1
  | 2, _ => exact a2
  | 3, _ => exact a3
  | 4, _ => exact a4
  | 5, _ => exact a5
  | 6, _ => exact a6
  | 7, _ => exact a7
  | 8, _ => exact a8
  | 9, _ => exact a9
  | 10, _ => exact a10
  | 11, _ => exact a11
theorem mem3 {p : Nat → Prop} (a0 : p 0) (a1 : p 1) (a2 : p 2) (i : Nat) (h : i < 3) : p i := by
  match i, h with
  | 0, _ => exact a0
  | 1, _ => exact a1
  | 2, _ => exact a2
theorem mem7 {p : String → Prop} (a : p "int") (b : p "bool") (c : p "str") (d : p "NoneType") (e : p "list") (f : p "tuple") (g : p "dict") : ∀ T ∈ kinds, p T := by
  intro T h
  simp only [kinds, List.mem_cons, List.not_mem_nil, or_false] at h
  rcases h with rfl | rfl | rfl | rfl | rfl | rfl | rfl <;> assumption
theorem bnd {a b : Bool} (h : (a && b) = true) : a = true ∧ b = true := Bool.and_eq_true_iff.mp h
theorem law_binds {K : PySem.W.Frag} {f : Addr} {fd : FuncData} (F : Fun K "law" "law" sLaw f fd) (s : Shared) (u : Value) : BindsTo s fd ⟨[u], []⟩ [("_law_cells", u)] := by
  obtain ⟨oc, od, kV, doc, pm, an, cdv, ct, osl, rfl, lk, hcd⟩ := F.ex
  exact .of_eq rfl
theorem all_in {l : PySem.W.OpenLaw} {w : World} {K : PySem.W.Frag} {h : Heap} {mg : Str → Option Value} {fa : Addr} (X : K.In h) (G : h.Ns mainGlobals mg) (hfa : mg "law" = some (.ref fa)) (c : SJ.SaysJ fnJ exJ K) : SFY.LawAtG l w K 21 63 "_law_cells" mg fa [SJ.tabAt K (He.ga K "_law_entries_right"), SJ.tabAt K (He.ga K "_law_text_right"), SJ.tabAt K (He.ga K "_law_right")] := by
  have hh := c.facts
  obtain ⟨h0, hh⟩ := bnd hh
  obtain ⟨h1, hh⟩ := bnd hh
  obtain ⟨h2, hh⟩ := bnd hh
  obtain ⟨h3, hh⟩ := bnd hh
  obtain ⟨h4, hh⟩ := bnd hh
  obtain ⟨h5, hh⟩ := bnd hh
  obtain ⟨h6, hh⟩ := bnd hh
  obtain ⟨h7, hh⟩ := bnd hh
  obtain ⟨h8, hh⟩ := bnd hh
  obtain ⟨h9, hh⟩ := bnd hh
  have h10 := hh
  have e := hfa.symm.trans (PySem.W.mg_of X G (SJ.decB (p := PySem.W.nsIn K mainGlobals "law" = some (some (.ref (He.ga K "law")))) (SJ.nthB h2 18)))
  cases e
  obtain ⟨fdIsW, HIsW⟩ := c.def_ 0 (d := dj0) rfl
  have FIsW : Fun K "is_whole" "is_whole" sIsW (He.ga K "is_whole") fdIsW := SJ.fun_of HIsW
  have bIsW := FIsW.binds (ps := ["value"]) fun _ _ _ _ _ _ us hl => match us, hl with | [_], _ => rfl
  obtain ⟨fdIsN, HIsN⟩ := c.def_ 1 (d := dj1) rfl
  have FIsN : Fun K "is_number" "is_number" sIsN (He.ga K "is_number") fdIsN := SJ.fun_of HIsN
  have bIsN := FIsN.binds (ps := ["value"]) fun _ _ _ _ _ _ us hl => match us, hl with | [_], _ => rfl
  obtain ⟨fdAs, HAs⟩ := c.def_ 2 (d := dj2) rfl
  have FAs : Fun K "as_ratio" "as_ratio" sAs (He.ga K "as_ratio") fdAs := SJ.fun_of HAs
  have bAs := FAs.binds (ps := ["number"]) fun _ _ _ _ _ _ us hl => match us, hl with | [_], _ => rfl
  obtain ⟨fdIsT, HIsT⟩ := c.def_ 3 (d := dj3) rfl
  have FIsT : Fun K "_is_text" "_is_text" sIsT (He.ga K "_is_text") fdIsT := SJ.fun_of HIsT
  have bIsT := FIsT.binds (ps := ["text"]) fun _ _ _ _ _ _ us hl => match us, hl with | [_], _ => rfl
  obtain ⟨fdIsP, HIsP⟩ := c.def_ 4 (d := dj4) rfl
  have FIsP : Fun K "_is_positive_text" "_is_positive_text" sIsP (He.ga K "_is_positive_text") fdIsP := SJ.fun_of HIsP
  have bIsP := FIsP.binds (ps := ["text"]) fun _ _ _ _ _ _ us hl => match us, hl with | [_], _ => rfl
  obtain ⟨fdTop, HTop⟩ := c.def_ 5 (d := dj5) rfl
  have FTop : Fun K "top" "Ratio.top" sTop (SJ.recF K (He.ma K (He.ga K "Ratio") "top") "property") fdTop := SJ.fun_of HTop
  have bTop := FTop.binds (ps := ["self"]) fun _ _ _ _ _ _ us hl => match us, hl with | [_], _ => rfl
  obtain ⟨fdBot, HBot⟩ := c.def_ 6 (d := dj6) rfl
  have FBot : Fun K "bottom" "Ratio.bottom" sBot (SJ.recF K (He.ma K (He.ga K "Ratio") "bottom") "property") fdBot := SJ.fun_of HBot
  have bBot := FBot.binds (ps := ["self"]) fun _ _ _ _ _ _ us hl => match us, hl with | [_], _ => rfl
  obtain ⟨fdEq, HEq⟩ := c.def_ 7 (d := dj7) rfl
  have FEq : Fun K "__eq__" "Ratio.__eq__" sEq (He.ma K (He.ga K "Ratio") "__eq__") fdEq := SJ.fun_of HEq
  have bEq := FEq.binds (ps := ["self", "other"]) fun _ _ _ _ _ _ us hl => match us, hl with | [_, _], _ => rfl
  obtain ⟨fdStr, HStr⟩ := c.def_ 8 (d := dj8) rfl
  have FStr : Fun K "__str__" "Ratio.__str__" sStr (He.ma K (He.ga K "Ratio") "__str__") fdStr := SJ.fun_of HStr
  have bStr := FStr.binds (ps := ["self"]) fun _ _ _ _ _ _ us hl => match us, hl with | [_], _ => rfl
  obtain ⟨fdRepr, HRepr⟩ := c.def_ 9 (d := dj9) rfl
  have FRepr : Fun K "__repr__" "Ratio.__repr__" sRepr (He.ma K (He.ga K "Ratio") "__repr__") fdRepr := SJ.fun_of HRepr
  have bRepr := FRepr.binds (ps := ["self"]) fun _ _ _ _ _ _ us hl => match us, hl with | [_], _ => rfl
  obtain ⟨fdSLen, HSLen⟩ := c.def_ 10 (d := dj10) rfl
  have FSLen : Fun K "__len__" "Series.__len__" sSLen (He.ma K (He.ga K "Series") "__len__") fdSLen := SJ.fun_of HSLen
  have bSLen := FSLen.binds (ps := ["self"]) fun _ _ _ _ _ _ us hl => match us, hl with | [_], _ => rfl
  obtain ⟨fdSEq, HSEq⟩ := c.def_ 11 (d := dj11) rfl
  have FSEq : Fun K "__eq__" "Series.__eq__" sSEq (He.ma K (He.ga K "Series") "__eq__") fdSEq := SJ.fun_of HSEq
  have bSEq := FSEq.binds (ps := ["self", "other"]) fun _ _ _ _ _ _ us hl => match us, hl with | [_, _], _ => rfl
  obtain ⟨fdSStr, HSStr⟩ := c.def_ 12 (d := dj12) rfl
  have FSStr : Fun K "__str__" "Series.__str__" sSStr (He.ma K (He.ga K "Series") "__str__") fdSStr := SJ.fun_of HSStr
  have bSStr := FSStr.binds (ps := ["self"]) fun _ _ _ _ _ _ us hl => match us, hl with | [_], _ => rfl
  obtain ⟨fdSRepr, HSRepr⟩ := c.def_ 13 (d := dj13) rfl
  have FSRepr : Fun K "__repr__" "Series.__repr__" sSRepr (He.ma K (He.ga K "Series") "__repr__") fdSRepr := SJ.fun_of HSRepr
  have bSRepr := FSRepr.binds (ps := ["self"]) fun _ _ _ _ _ _ us hl => match us, hl with | [_], _ => rfl
  obtain ⟨fdSEnt, HSEnt⟩ := c.def_ 14 (d := dj14) rfl
  have FSEnt : Fun K "entries" "Series.entries" sSEnt (SJ.recF K (He.ma K (He.ga K "Series") "entries") "property") fdSEnt := SJ.fun_of HSEnt
  have bSEnt := FSEnt.binds (ps := ["self"]) fun _ _ _ _ _ _ us hl => match us, hl with | [_], _ => rfl
  obtain ⟨fdSMis, HSMis⟩ := c.def_ 15 (d := dj15) rfl
  have FSMis : Fun K "missing" "Series.missing" sSMis (SJ.recF K (He.ma K (He.ga K "Series") "missing") "property") fdSMis := SJ.fun_of HSMis
  have bSMis := FSMis.binds (ps := ["self"]) fun _ _ _ _ _ _ us hl => match us, hl with | [_], _ => rfl
  obtain ⟨fdREnt, HREnt⟩ := c.def_ 16 (d := dj16) rfl
  have FREnt : Fun K "_read_entry" "_read_entry" sREnt (He.ga K "_read_entry") fdREnt := SJ.fun_of HREnt
  have bREnt := FREnt.binds (ps := ["word", "text"]) fun _ _ _ _ _ _ us hl => match us, hl with | [_, _], _ => rfl
  obtain ⟨fdCell, HCell⟩ := c.def_ 17 (d := dj17) rfl
  have FCell : Fun K "_law_cell" "_law_cell" sCell (He.ga K "_law_cell") fdCell := SJ.fun_of HCell
  have bCell := FCell.binds (ps := ["_law_cells", "_law_k"]) fun _ _ _ _ _ _ us hl => match us, hl with | [_, _], _ => rfl
  obtain ⟨fdSrc, HSrc⟩ := c.def_ 18 (d := dj18) rfl
  have FSrc : Fun K "_law_source" "_law_source" sSrc (He.ga K "_law_source") fdSrc := SJ.fun_of HSrc
  have bSrc := FSrc.binds (ps := ["_law_cell_here"]) fun _ _ _ _ _ _ us hl => match us, hl with | [_], _ => rfl
  obtain ⟨fdDraw, HDraw⟩ := c.def_ 19 (d := dj19) rfl
  have FDraw : Fun K "_law_draw" "_law_draw" sDraw (He.ga K "_law_draw") fdDraw := SJ.fun_of HDraw
  have bDraw := FDraw.binds (ps := ["_law_source_here", "_law_many"]) fun _ _ _ _ _ _ us hl => match us, hl with | [_, _], _ => rfl
  obtain ⟨fdCom, HCom⟩ := c.def_ 20 (d := dj20) rfl
  have FCom : Fun K "_law_common" "_law_common" sCom (He.ga K "_law_common") fdCom := SJ.fun_of HCom
  have bCom := FCom.binds (ps := ["_law_one", "_law_two"]) fun _ _ _ _ _ _ us hl => match us, hl with | [_, _], _ => rfl
  obtain ⟨fdLow, HLow⟩ := c.def_ 21 (d := dj21) rfl
  have FLow : Fun K "_law_lowest" "_law_lowest" sLow (He.ga K "_law_lowest") fdLow := SJ.fun_of HLow
  have bLow := FLow.binds (ps := ["_law_upper", "_law_lower"]) fun _ _ _ _ _ _ us hl => match us, hl with | [_, _], _ => rfl
  obtain ⟨fdWho, HWho⟩ := c.def_ 22 (d := dj22) rfl
  have FWho : Fun K "_law_whole" "_law_whole" sWho (He.ga K "_law_whole") fdWho := SJ.fun_of HWho
  have bWho := FWho.binds (ps := ["_law_source_here"]) fun _ _ _ _ _ _ us hl => match us, hl with | [_], _ => rfl
  obtain ⟨fdPair, HPair⟩ := c.def_ 23 (d := dj23) rfl
  have FPair : Fun K "_law_pair" "_law_pair" sPair (He.ga K "_law_pair") fdPair := SJ.fun_of HPair
  have bPair := FPair.binds (ps := ["_law_source_here"]) fun _ _ _ _ _ _ us hl => match us, hl with | [_], _ => rfl
  obtain ⟨fdWord, HWord⟩ := c.def_ 24 (d := dj24) rfl
  have FWord : Fun K "_law_word" "_law_word" sWord (He.ga K "_law_word") fdWord := SJ.fun_of HWord
  have bWord := FWord.binds (ps := ["_law_e"]) fun _ _ _ _ _ _ us hl => match us, hl with | [_], _ => rfl
  obtain ⟨fdFields, HFields⟩ := c.def_ 25 (d := dj25) rfl
  have FFields : Fun K "_law_fields" "_law_fields" sFields (He.ga K "_law_fields") fdFields := SJ.fun_of HFields
  have bFields := FFields.binds (ps := ["_law_e", "_law_word_here"]) fun _ _ _ _ _ _ us hl => match us, hl with | [_, _], _ => rfl
  obtain ⟨fdCaught, HCaught⟩ := c.def_ 26 (d := dj26) rfl
  have FCaught : Fun K "_law_caught" "_law_caught" sCaught (He.ga K "_law_caught") fdCaught := SJ.fun_of HCaught
  have bCaught := FCaught.binds (ps := ["_law_action"]) fun _ _ _ _ _ _ us hl => match us, hl with | [_], _ => rfl
  obtain ⟨fdMkN, HMkN⟩ := c.def_ 27 (d := dj27) rfl
  have FMkN : Fun K "_law_number" "_law_number" sMkN (He.ga K "_law_number") fdMkN := SJ.fun_of HMkN
  have bMkN := FMkN.binds (ps := ["_law_pair_here"]) fun _ _ _ _ _ _ us hl => match us, hl with | [_], _ => rfl
  obtain ⟨fdNum, HNum⟩ := c.def_ 28 (d := dj28) rfl
  have FNum : Fun K "_law_number_text" "_law_number_text" sNum (He.ga K "_law_number_text") fdNum := SJ.fun_of HNum
  have bNum := FNum.binds (ps := ["_law_pair_here"]) fun _ _ _ _ _ _ us hl => match us, hl with | [_], _ => rfl
  obtain ⟨fdThing, HThing⟩ := c.def_ 29 (d := dj29) rfl
  have FThing : Fun K "_law_thing" "_law_thing" sThing (He.ga K "_law_thing") fdThing := SJ.fun_of HThing
  have bThing := FThing.binds (ps := ["_law_source_here"]) fun _ _ _ _ _ _ us hl => match us, hl with | [_], _ => rfl
  obtain ⟨fdGood, HGood⟩ := c.def_ 30 (d := dj30) rfl
  have FGood : Fun K "_law_good" "_law_good" sGood (He.ga K "_law_good") fdGood := SJ.fun_of HGood
  have bGood := FGood.binds (ps := ["_law_source_here"]) fun _ _ _ _ _ _ us hl => match us, hl with | [_], _ => rfl
  obtain ⟨fdEntR, HEntR⟩ := c.def_ 31 (d := dj31) rfl
  have FEntR : Fun K "_law_entries_right" "_law_entries_right" sEntR (He.ga K "_law_entries_right") fdEntR := SJ.fun_of HEntR
  have bEntR := FEntR.binds (ps := ["_law_source_here"]) fun _ _ _ _ _ _ us hl => match us, hl with | [_], _ => rfl
  obtain ⟨fdLRead, HLRead⟩ := c.def_ 32 (d := dj32) rfl
  have FLRead : Fun K "_law_read" "_law_read" sLRead (He.ga K "_law_read") fdLRead := SJ.fun_of HLRead
  have bLRead := FLRead.binds (ps := ["_law_line"]) fun _ _ _ _ _ _ us hl => match us, hl with | [_], _ => rfl
  obtain ⟨fdLIsN, HLIsN⟩ := c.def_ 33 (d := dj33) rfl
  have FLIsN : Fun K "_law_is_number" "_law_is_number" sLIsN (He.ga K "_law_is_number") fdLIsN := SJ.fun_of HLIsN
  have bLIsN := FLIsN.binds (ps := ["_law_word_here"]) fun _ _ _ _ _ _ us hl => match us, hl with | [_], _ => rfl
  obtain ⟨fdTRight, HTRight⟩ := c.def_ 34 (d := dj34) rfl
  have FTRight : Fun K "_law_text_right" "_law_text_right" sTRight (He.ga K "_law_text_right") fdTRight := SJ.fun_of HTRight
  have bTRight := FTRight.binds (ps := ["_law_line"]) fun _ _ _ _ _ _ us hl => match us, hl with | [_], _ => rfl
  obtain ⟨fdEntT, HEntT⟩ := c.def_ 35 (d := dj35) rfl
  have FEntT : Fun K "_law_entry_text" "_law_entry_text" sEntT (He.ga K "_law_entry_text") fdEntT := SJ.fun_of HEntT
  have bEntT := FEntT.binds (ps := ["_law_source_here"]) fun _ _ _ _ _ _ us hl => match us, hl with | [_], _ => rfl
  obtain ⟨fdTsR, HTsR⟩ := c.def_ 36 (d := dj36) rfl
  have FTsR : Fun K "_law_texts_right" "_law_texts_right" sTsR (He.ga K "_law_texts_right") fdTsR := SJ.fun_of HTsR
  have bTsR := FTsR.binds (ps := ["_law_source_here"]) fun _ _ _ _ _ _ us hl => match us, hl with | [_], _ => rfl
  obtain ⟨fdRight, HRight⟩ := c.def_ 37 (d := dj37) rfl
  have FRight : Fun K "_law_right" "_law_right" sRight (He.ga K "_law_right") fdRight := SJ.fun_of HRight
  have bRight := FRight.binds (ps := ["_law_source_here"]) fun _ _ _ _ _ _ us hl => match us, hl with | [_], _ => rfl
  obtain ⟨fdLaw, HLaw⟩ := c.def_ 38 (d := dj38) rfl
  have FLaw : Fun K "law" "law" sLaw (He.ga K "law") fdLaw := SJ.fun_of HLaw
  have bLaw := FLaw.binds (ps := ["_law_cells"]) fun _ _ _ _ _ _ us hl => match us, hl with | [_], _ => rfl
  obtain ⟨fdRd, HRd⟩ := c.def_ 39 (d := dj39) rfl
  have FRd : Fun K "read" "Ratio.read" sRd (SJ.recF K (SJ.clsP K (He.ga K "Ratio") "read") "classmethod") fdRd := SJ.fun_of HRd
  have bRd := FRd.binds (ps := ["cls", "text"]) fun _ _ _ _ _ _ us hl => match us, hl with | [_, _], _ => rfl
  obtain ⟨fdSR, HSR⟩ := c.def_ 40 (d := dj40) rfl
  have FSR : Fun K "read" "Series.read" sSR (SJ.recF K (SJ.clsP K (He.ga K "Series") "read") "classmethod") fdSR := SJ.fun_of HSR
  have bSR := FSR.binds (ps := ["cls", "text"]) fun _ _ _ _ _ _ us hl => match us, hl with | [_, _], _ => rfl
  obtain ⟨fdI, HI⟩ := c.def_ 41 (d := dj41) rfl
  have FI : FunD K "__init__" "Ratio.__init__" (defArgs sIni) (defBody sIni) (defScope sIni) [V.int 1] [] (He.ma K (He.ga K "Ratio") "__init__") fdI := HI
  obtain ⟨fdETxt, HETxt⟩ := c.def_ 43 (d := dj43) rfl
  have FETxt : Fun K "__init__" "InvalidText.__init__" sETxt (He.ma K (He.ga K "InvalidText") "__init__") fdETxt := SJ.fun_of HETxt
  have bETxt := FETxt.binds (ps := ["self", "given"]) fun _ _ _ _ _ _ us hl => match us, hl with | [_, _], _ => rfl
  have OTxt : OEK K mg "InvalidText" "InvalidText.__init__" sETxt (He.ga K "InvalidText") (He.ma K (He.ga K "InvalidText") "__init__") fdETxt := ⟨PySem.W.mg_of X G (SJ.decB (p := PySem.W.nsIn K mainGlobals "InvalidText" = some (some (.ref (He.ga K "InvalidText")))) (SJ.nthB h8 18)), (show (SQ.oexB K (He.ga K "InvalidText") (He.ma K (He.ga K "InvalidText") "__init__")) = true from (SJ.nthB h10 2)), FETxt, bETxt⟩
  obtain ⟨fdEEnt, HEEnt⟩ := c.def_ 44 (d := dj44) rfl
  have FEEnt : Fun K "__init__" "InvalidEntries.__init__" sEEnt (He.ma K (He.ga K "InvalidEntries") "__init__") fdEEnt := SJ.fun_of HEEnt
  have bEEnt := FEEnt.binds (ps := ["self", "given"]) fun _ _ _ _ _ _ us hl => match us, hl with | [_, _], _ => rfl
  have OEnt : OEK K mg "InvalidEntries" "InvalidEntries.__init__" sEEnt (He.ga K "InvalidEntries") (He.ma K (He.ga K "InvalidEntries") "__init__") fdEEnt := ⟨PySem.W.mg_of X G (SJ.decB (p := PySem.W.nsIn K mainGlobals "InvalidEntries" = some (some (.ref (He.ga K "InvalidEntries")))) (SJ.nthB h9 2)), (show (SQ.oexB K (He.ga K "InvalidEntries") (He.ma K (He.ga K "InvalidEntries") "__init__")) = true from (SJ.nthB h10 3)), FEEnt, bEEnt⟩
  obtain ⟨fdSI, HSI⟩ := c.def_ 42 (d := dj42) rfl
  have FSI : Fun K "__init__" "Series.__init__" sSI (He.ma K (He.ga K "Series") "__init__") fdSI := SJ.fun_of HSI
  have bSI := FSI.binds (ps := ["self", "entries"]) fun _ _ _ _ _ _ us hl => match us, hl with | [_, _], _ => rfl
  obtain ⟨tkG, eG⟩ := SK.isStr_ok X G (show (SK.isStr K "GAP" "_") = true from (SJ.nthB h8 0))
  obtain ⟨i0, v0, bI⟩ := FI.binds1 (ps := ["self", "top", "bottom"]) 3 1 (by simp) rfl (fun T kV doc pm an cdv ct us its h1 h2 => match us, its, h1, h2 with | [_, _, _], [_], _, _ => ⟨_, rfl, rfl⟩)
  cases v0
  obtain ⟨i1, v1, b1⟩ := FI.binds1 (ps := ["self", "top", "bottom"]) 2 0 (by simp) rfl (fun T kV doc pm an cdv ct us its h1 h2 => match us, its, h1, h2 with | [_, _], [_], _, _ => ⟨_, rfl, rfl⟩)
  have RR : RC K mg (He.ga K "Ratio") := { cl := ⟨(show (PySem.W.plainGet K (He.ga K "Ratio") Str.empty) = true from (SJ.nthB h3 14)), (show (PySem.W.hasDictIn K (He.ga K "Ratio")) = true from (SJ.nthB h3 15)), (show (PySem.W.plainOver K (He.ga K "Ratio")) = true from (SJ.nthB h3 16)), (SJ.decB (p := PySem.W.findIn K (.ref (He.ga K "Ratio")) "__setattr__" = some (some (.builtin "object.__setattr__"))) (SJ.nthB h3 17))⟩, nT := (SJ.decB (p := PySem.W.findIn K (.ref (He.ga K "Ratio")) "_top" = some none) (SJ.nthB h3 18)), nB := (SJ.decB (p := PySem.W.findIn K (.ref (He.ga K "Ratio")) "_bottom" = some none) (SJ.nthB h3 19)), mgC := PySem.W.mg_of X G (SJ.decB (p := PySem.W.nsIn K mainGlobals "Ratio" = some (some (.ref (He.ga K "Ratio")))) (SJ.nthB h0 0)), isi := (PySem.W.mg_none_of X G (SJ.decB (p := PySem.W.nsIn K mainGlobals "isinstance" = some none) (SJ.nthB h8 11))), int_ := (PySem.W.mg_none_of X G (SJ.decB (p := PySem.W.nsIn K mainGlobals "int" = some none) (SJ.nthB h8 3))), bool_ := (PySem.W.mg_none_of X G (SJ.decB (p := PySem.W.nsIn K mainGlobals "bool" = some none) (SJ.nthB h8 12))), str_ := (PySem.W.mg_none_of X G (SJ.decB (p := PySem.W.nsIn K mainGlobals "str" = some none) (SJ.nthB h8 13))), abs_ := (PySem.W.mg_none_of X G (SJ.decB (p := PySem.W.nsIn K mainGlobals "abs" = some none) (SJ.nthB h8 4))), range_ := (PySem.W.mg_none_of X G (SJ.decB (p := PySem.W.nsIn K mainGlobals "range" = some none) (SJ.nthB h8 6))), repr_ := (PySem.W.mg_none_of X G (SJ.decB (p := PySem.W.nsIn K mainGlobals "repr" = some none) (SJ.nthB h8 10))), gcd := PySem.W.mg_of X G (SJ.decB (p := PySem.W.nsIn K mainGlobals "gcd" = some (some (.builtin "math.gcd"))) (SJ.nthB h4 13)), kB := mem7 (p := fun T => PySem.W.kitOne K (.type T) (.ref (He.ga K "Ratio")) = some false) (SJ.decB (p := PySem.W.kitOne K (.type "int") (.ref (He.ga K "Ratio")) = some false) (SJ.nthB h4 0)) (SJ.decB (p := PySem.W.kitOne K (.type "bool") (.ref (He.ga K "Ratio")) = some false) (SJ.nthB h4 1)) (SJ.decB (p := PySem.W.kitOne K (.type "str") (.ref (He.ga K "Ratio")) = some false) (SJ.nthB h4 2)) (SJ.decB (p := PySem.W.kitOne K (.type "NoneType") (.ref (He.ga K "Ratio")) = some false) (SJ.nthB h4 3)) (SJ.decB (p := PySem.W.kitOne K (.type "list") (.ref (He.ga K "Ratio")) = some false) (SJ.nthB h4 4)) (SJ.decB (p := PySem.W.kitOne K (.type "tuple") (.ref (He.ga K "Ratio")) = some false) (SJ.nthB h4 5)) (SJ.decB (p := PySem.W.kitOne K (.type "dict") (.ref (He.ga K "Ratio")) = some false) (SJ.nthB h4 6)), kC := (SJ.decB (p := PySem.W.kitOne K (.ref (He.ga K "Ratio")) (.ref (He.ga K "Ratio")) = some true) (SJ.nthB h4 7)), ca := (SJ.decB (p := PySem.W.findIn K (.ref (He.ga K "Ratio")) "__class__" = some (some (.builtin "object.__class__"))) (SJ.nthB h4 9)), cn := (SJ.decB (p := PySem.W.specialIn K (.builtin "object.__class__") "__get__" = some (some (.builtin "getset_descriptor.__get__"))) (SJ.nthB h4 10)), ct := (SJ.decB (p := PySem.W.takesIn K (.builtin "object.__class__") = some true) (SJ.nthB h4 11)), cm := (SJ.decB (p := PySem.W.mroIn K (He.ga K "Ratio") (.type "object") = some true) (SJ.nthB h4 12)) }
  let T : Tx K mg (He.ga K "Ratio") := { rc := RR, kI := (SJ.decB (p := PySem.W.kitOne K (.ref (He.ga K "Ratio")) (.type "int") = some false) (SJ.nthB h4 8)), len := (PySem.W.mg_none_of X G (SJ.decB (p := PySem.W.nsIn K mainGlobals "len" = some none) (SJ.nthB h8 2))), dvm := (PySem.W.mg_none_of X G (SJ.decB (p := PySem.W.nsIn K mainGlobals "divmod" = some none) (SJ.nthB h8 5))), max_ := (PySem.W.mg_none_of X G (SJ.decB (p := PySem.W.nsIn K mainGlobals "max" = some none) (SJ.nthB h8 7))), min_ := (PySem.W.mg_none_of X G (SJ.decB (p := PySem.W.nsIn K mainGlobals "min" = some none) (SJ.nthB h8 8))), all_ := (PySem.W.mg_none_of X G (SJ.decB (p := PySem.W.nsIn K mainGlobals "all" = some none) (SJ.nthB h8 9))), aIni := (He.ma K (He.ga K "Ratio") "__init__"), dIni := fdI, dv := i1, vv := v1, FIni := FI, M := ⟨(show (PySem.W.makesIn K (He.ga K "Ratio")) = true from (SJ.nthB h3 12)), (SJ.decB (p := PySem.W.findIn K (.ref (He.ga K "Ratio")) "__init__" = some (some (.ref (He.ma K (He.ga K "Ratio") "__init__")))) (SJ.nthB h3 9)), (show (PySem.W.isFn K (.ref (He.ma K (He.ga K "Ratio") "__init__"))) = true from (SJ.nthB h3 10)), (show (PySem.W.keepIn K (.ref (He.ga K "Ratio"))) = true from (SJ.nthB h3 13))⟩, b2 := bI, b1 := b1, hNe := ⟨(SJ.decB (p := PySem.W.findIn K (.ref (He.ga K "Ratio")) "__ne__" = some (some (.builtin "object.__ne__"))) (SJ.nthB h3 11))⟩, sIC := ⟨(SJ.decB (p := PySem.W.subIn K (.type "int") (.ref (He.ga K "Ratio")) = some false) (SJ.nthB h4 14))⟩, S := (He.ga K "Series"), gS := PySem.W.mg_of X G (SJ.decB (p := PySem.W.nsIn K mainGlobals "Series" = some (some (.ref (He.ga K "Series")))) (SJ.nthB h4 15)), clS := ⟨(show (PySem.W.plainGet K (He.ga K "Series") Str.empty) = true from (SJ.nthB h5 0)), (show (PySem.W.hasDictIn K (He.ga K "Series")) = true from (SJ.nthB h5 1)), (show (PySem.W.plainOver K (He.ga K "Series")) = true from (SJ.nthB h5 2)), (SJ.decB (p := PySem.W.findIn K (.ref (He.ga K "Series")) "__setattr__" = some (some (.builtin "object.__setattr__"))) (SJ.nthB h5 3))⟩, nE := (SJ.decB (p := PySem.W.findIn K (.ref (He.ga K "Series")) "_entries" = some none) (SJ.nthB h5 4)), aSI := (He.ma K (He.ga K "Series") "__init__"), dSI := fdSI, FSI := FSI, bSI := bSI, MS := ⟨(show (PySem.W.makesIn K (He.ga K "Series")) = true from (SJ.nthB h4 18)), (SJ.decB (p := PySem.W.findIn K (.ref (He.ga K "Series")) "__init__" = some (some (.ref (He.ma K (He.ga K "Series") "__init__")))) (SJ.nthB h4 16)), (show (PySem.W.isFn K (.ref (He.ma K (He.ga K "Series") "__init__"))) = true from (SJ.nthB h4 17)), (show (PySem.W.keepIn K (.ref (He.ga K "Series"))) = true from (SJ.nthB h4 19))⟩, kST := mem7 (p := fun T => PySem.W.kitOne K (.ref (He.ga K "Series")) (.type T) = some false) (SJ.decB (p := PySem.W.kitOne K (.ref (He.ga K "Series")) (.type "int") = some false) (SJ.nthB h7 5)) (SJ.decB (p := PySem.W.kitOne K (.ref (He.ga K "Series")) (.type "bool") = some false) (SJ.nthB h7 7)) (SJ.decB (p := PySem.W.kitOne K (.ref (He.ga K "Series")) (.type "str") = some false) (SJ.nthB h7 9)) (SJ.decB (p := PySem.W.kitOne K (.ref (He.ga K "Series")) (.type "NoneType") = some false) (SJ.nthB h7 11)) (SJ.decB (p := PySem.W.kitOne K (.ref (He.ga K "Series")) (.type "list") = some false) (SJ.nthB h7 13)) (SJ.decB (p := PySem.W.kitOne K (.ref (He.ga K "Series")) (.type "tuple") = some false) (SJ.nthB h7 15)) (SJ.decB (p := PySem.W.kitOne K (.ref (He.ga K "Series")) (.type "dict") = some false) (SJ.nthB h7 17)), kCT := mem7 (p := fun T => PySem.W.kitOne K (.ref (He.ga K "Ratio")) (.type T) = some false) (SJ.decB (p := PySem.W.kitOne K (.ref (He.ga K "Ratio")) (.type "int") = some false) (SJ.nthB h7 6)) (SJ.decB (p := PySem.W.kitOne K (.ref (He.ga K "Ratio")) (.type "bool") = some false) (SJ.nthB h7 8)) (SJ.decB (p := PySem.W.kitOne K (.ref (He.ga K "Ratio")) (.type "str") = some false) (SJ.nthB h7 10)) (SJ.decB (p := PySem.W.kitOne K (.ref (He.ga K "Ratio")) (.type "NoneType") = some false) (SJ.nthB h7 12)) (SJ.decB (p := PySem.W.kitOne K (.ref (He.ga K "Ratio")) (.type "list") = some false) (SJ.nthB h7 14)) (SJ.decB (p := PySem.W.kitOne K (.ref (He.ga K "Ratio")) (.type "tuple") = some false) (SJ.nthB h7 16)) (SJ.decB (p := PySem.W.kitOne K (.ref (He.ga K "Ratio")) (.type "dict") = some false) (SJ.nthB h7 18)), kSC := (SJ.decB (p := PySem.W.kitOne K (.ref (He.ga K "Series")) (.ref (He.ga K "Ratio")) = some false) (SJ.nthB h7 19)), sk := ⟨⟨⟨mem7 (p := fun T => PySem.W.subIn K (.ref (He.ga K "Series")) (.type T) = some false) (SJ.decB (p := PySem.W.subIn K (.ref (He.ga K "Series")) (.type "int") = some false) (SJ.nthB h5 6)) (SJ.decB (p := PySem.W.subIn K (.ref (He.ga K "Series")) (.type "bool") = some false) (SJ.nthB h5 11)) (SJ.decB (p := PySem.W.subIn K (.ref (He.ga K "Series")) (.type "str") = some false) (SJ.nthB h5 16)) (SJ.decB (p := PySem.W.subIn K (.ref (He.ga K "Series")) (.type "NoneType") = some false) (SJ.nthB h6 1)) (SJ.decB (p := PySem.W.subIn K (.ref (He.ga K "Series")) (.type "list") = some false) (SJ.nthB h6 6)) (SJ.decB (p := PySem.W.subIn K (.ref (He.ga K "Series")) (.type "tuple") = some false) (SJ.nthB h6 11)) (SJ.decB (p := PySem.W.subIn K (.ref (He.ga K "Series")) (.type "dict") = some false) (SJ.nthB h6 16))⟩, mem7 (p := fun T => PySem.W.subIn K (.type T) (.ref (He.ga K "Series")) = some false) (SJ.decB (p := PySem.W.subIn K (.type "int") (.ref (He.ga K "Series")) = some false) (SJ.nthB h5 7)) (SJ.decB (p := PySem.W.subIn K (.type "bool") (.ref (He.ga K "Series")) = some false) (SJ.nthB h5 12)) (SJ.decB (p := PySem.W.subIn K (.type "str") (.ref (He.ga K "Series")) = some false) (SJ.nthB h5 17)) (SJ.decB (p := PySem.W.subIn K (.type "NoneType") (.ref (He.ga K "Series")) = some false) (SJ.nthB h6 2)) (SJ.decB (p := PySem.W.subIn K (.type "list") (.ref (He.ga K "Series")) = some false) (SJ.nthB h6 7)) (SJ.decB (p := PySem.W.subIn K (.type "tuple") (.ref (He.ga K "Series")) = some false) (SJ.nthB h6 12)) (SJ.decB (p := PySem.W.subIn K (.type "dict") (.ref (He.ga K "Series")) = some false) (SJ.nthB h6 17))⟩, mem7 (p := fun T => PySem.W.kitOne K (.type T) (.ref (He.ga K "Series")) = some false) (SJ.decB (p := PySem.W.kitOne K (.type "int") (.ref (He.ga K "Series")) = some false) (SJ.nthB h5 5)) (SJ.decB (p := PySem.W.kitOne K (.type "bool") (.ref (He.ga K "Series")) = some false) (SJ.nthB h5 10)) (SJ.decB (p := PySem.W.kitOne K (.type "str") (.ref (He.ga K "Series")) = some false) (SJ.nthB h5 15)) (SJ.decB (p := PySem.W.kitOne K (.type "NoneType") (.ref (He.ga K "Series")) = some false) (SJ.nthB h6 0)) (SJ.decB (p := PySem.W.kitOne K (.type "list") (.ref (He.ga K "Series")) = some false) (SJ.nthB h6 5)) (SJ.decB (p := PySem.W.kitOne K (.type "tuple") (.ref (He.ga K "Series")) = some false) (SJ.nthB h6 10)) (SJ.decB (p := PySem.W.kitOne K (.type "dict") (.ref (He.ga K "Series")) = some false) (SJ.nthB h6 15)), (SJ.decB (p := PySem.W.kitOne K (.ref (He.ga K "Series")) (.ref (He.ga K "Series")) = some true) (SJ.nthB h7 0)), (SJ.decB (p := PySem.W.findIn K (.ref (He.ga K "Series")) "__class__" = some (some (.builtin "object.__class__"))) (SJ.nthB h7 1)), (SJ.decB (p := PySem.W.specialIn K (.builtin "object.__class__") "__get__" = some (some (.builtin "getset_descriptor.__get__"))) (SJ.nthB h4 10)), (SJ.decB (p := PySem.W.takesIn K (.builtin "object.__class__") = some true) (SJ.nthB h4 11)), (SJ.decB (p := PySem.W.mroIn K (He.ga K "Series") (.type "object") = some true) (SJ.nthB h7 2)), (SJ.decB (p := PySem.W.findIn K (.ref (He.ga K "Series")) "__ne__" = some (some (.builtin "object.__ne__"))) (SJ.nthB h7 3)), (SJ.decB (p := PySem.W.findIn K (.ref (He.ga K "Series")) "__bool__" = some none) (SJ.nthB h7 4))⟩, cS := ⟨⟨mem7 (p := fun T => PySem.W.subIn K (.ref (He.ga K "Ratio")) (.type T) = some false) (SJ.decB (p := PySem.W.subIn K (.ref (He.ga K "Ratio")) (.type "int") = some false) (SJ.nthB h5 8)) (SJ.decB (p := PySem.W.subIn K (.ref (He.ga K "Ratio")) (.type "bool") = some false) (SJ.nthB h5 13)) (SJ.decB (p := PySem.W.subIn K (.ref (He.ga K "Ratio")) (.type "str") = some false) (SJ.nthB h5 18)) (SJ.decB (p := PySem.W.subIn K (.ref (He.ga K "Ratio")) (.type "NoneType") = some false) (SJ.nthB h6 3)) (SJ.decB (p := PySem.W.subIn K (.ref (He.ga K "Ratio")) (.type "list") = some false) (SJ.nthB h6 8)) (SJ.decB (p := PySem.W.subIn K (.ref (He.ga K "Ratio")) (.type "tuple") = some false) (SJ.nthB h6 13)) (SJ.decB (p := PySem.W.subIn K (.ref (He.ga K "Ratio")) (.type "dict") = some false) (SJ.nthB h6 18))⟩, mem7 (p := fun T => PySem.W.subIn K (.type T) (.ref (He.ga K "Ratio")) = some false) (SJ.decB (p := PySem.W.subIn K (.type "int") (.ref (He.ga K "Ratio")) = some false) (SJ.nthB h5 9)) (SJ.decB (p := PySem.W.subIn K (.type "bool") (.ref (He.ga K "Ratio")) = some false) (SJ.nthB h5 14)) (SJ.decB (p := PySem.W.subIn K (.type "str") (.ref (He.ga K "Ratio")) = some false) (SJ.nthB h5 19)) (SJ.decB (p := PySem.W.subIn K (.type "NoneType") (.ref (He.ga K "Ratio")) = some false) (SJ.nthB h6 4)) (SJ.decB (p := PySem.W.subIn K (.type "list") (.ref (He.ga K "Ratio")) = some false) (SJ.nthB h6 9)) (SJ.decB (p := PySem.W.subIn K (.type "tuple") (.ref (He.ga K "Ratio")) = some false) (SJ.nthB h6 14)) (SJ.decB (p := PySem.W.subIn K (.type "dict") (.ref (He.ga K "Ratio")) = some false) (SJ.nthB h6 19))⟩, tkG := tkG, gap := eG, enum := (PySem.W.mg_none_of X G (SJ.decB (p := PySem.W.nsIn K mainGlobals "enumerate" = some none) (SJ.nthB h8 14))), tup := (PySem.W.mg_none_of X G (SJ.decB (p := PySem.W.nsIn K mainGlobals "tuple" = some none) (SJ.nthB h8 15))), lst := (PySem.W.mg_none_of X G (SJ.decB (p := PySem.W.nsIn K mainGlobals "list" = some none) (SJ.nthB h8 16))), aET := (He.ga K "InvalidText"), gET := PySem.W.mg_of X G (SJ.decB (p := PySem.W.nsIn K mainGlobals "InvalidText" = some (some (.ref (He.ga K "InvalidText")))) (SJ.nthB h8 1)), aIsW := (He.ga K "is_whole"), dIsW := fdIsW, FIsW := FIsW, bIsW := bIsW, gIsW := PySem.W.mg_of X G (SJ.decB (p := PySem.W.nsIn K mainGlobals "is_whole" = some (some (.ref (He.ga K "is_whole")))) (SJ.nthB h0 1)), aIsN := (He.ga K "is_number"), dIsN := fdIsN, FIsN := FIsN, bIsN := bIsN, gIsN := PySem.W.mg_of X G (SJ.decB (p := PySem.W.nsIn K mainGlobals "is_number" = some (some (.ref (He.ga K "is_number")))) (SJ.nthB h0 2)), aAs := (He.ga K "as_ratio"), dAs := fdAs, FAs := FAs, bAs := bAs, gAs := PySem.W.mg_of X G (SJ.decB (p := PySem.W.nsIn K mainGlobals "as_ratio" = some (some (.ref (He.ga K "as_ratio")))) (SJ.nthB h0 3)), aIsT := (He.ga K "_is_text"), dIsT := fdIsT, FIsT := FIsT, bIsT := bIsT, gIsT := PySem.W.mg_of X G (SJ.decB (p := PySem.W.nsIn K mainGlobals "_is_text" = some (some (.ref (He.ga K "_is_text")))) (SJ.nthB h0 4)), aIsP := (He.ga K "_is_positive_text"), dIsP := fdIsP, FIsP := FIsP, bIsP := bIsP, gIsP := PySem.W.mg_of X G (SJ.decB (p := PySem.W.nsIn K mainGlobals "_is_positive_text" = some (some (.ref (He.ga K "_is_positive_text")))) (SJ.nthB h0 5)), aTop := (SJ.recF K (He.ma K (He.ga K "Ratio") "top") "property"), dTop := fdTop, FTop := FTop, bTop := bTop, pTop := (He.ma K (He.ga K "Ratio") "top"), PTop := ⟨(SJ.decB (p := PySem.W.findIn K (.ref (He.ga K "Ratio")) "top" = some (some (.ref (He.ma K (He.ga K "Ratio") "top")))) (SJ.nthB h0 6)), (SJ.decB (p := PySem.W.specialIn K (.ref (He.ma K (He.ga K "Ratio") "top")) "__get__" = some (some (.builtin "property.__get__"))) (SJ.nthB h0 7)), (SJ.decB (p := PySem.W.takesIn K (.ref (He.ma K (He.ga K "Ratio") "top")) = some true) (SJ.nthB h0 8)), ⟨_, (SJ.decB (p := PySem.W.recIn K (He.ma K (He.ga K "Ratio") "top") "property" = some (.ref (SJ.recF K (He.ma K (He.ga K "Ratio") "top") "property") :: SJ.recR K (He.ma K (He.ga K "Ratio") "top") "property")) (SJ.nthB h0 9))⟩⟩, aBot := (SJ.recF K (He.ma K (He.ga K "Ratio") "bottom") "property"), dBot := fdBot, FBot := FBot, bBot := bBot, pBot := (He.ma K (He.ga K "Ratio") "bottom"), PBot := ⟨(SJ.decB (p := PySem.W.findIn K (.ref (He.ga K "Ratio")) "bottom" = some (some (.ref (He.ma K (He.ga K "Ratio") "bottom")))) (SJ.nthB h0 10)), (SJ.decB (p := PySem.W.specialIn K (.ref (He.ma K (He.ga K "Ratio") "bottom")) "__get__" = some (some (.builtin "property.__get__"))) (SJ.nthB h0 11)), (SJ.decB (p := PySem.W.takesIn K (.ref (He.ma K (He.ga K "Ratio") "bottom")) = some true) (SJ.nthB h0 12)), ⟨_, (SJ.decB (p := PySem.W.recIn K (He.ma K (He.ga K "Ratio") "bottom") "property" = some (.ref (SJ.recF K (He.ma K (He.ga K "Ratio") "bottom") "property") :: SJ.recR K (He.ma K (He.ga K "Ratio") "bottom") "property")) (SJ.nthB h0 13))⟩⟩, aEq := (He.ma K (He.ga K "Ratio") "__eq__"), dEq := fdEq, FEq := FEq, bEq := bEq, hEq := ⟨(SJ.decB (p := PySem.W.findIn K (.ref (He.ga K "Ratio")) "__eq__" = some (some (.ref (He.ma K (He.ga K "Ratio") "__eq__")))) (SJ.nthB h0 14)), (show (PySem.W.isFn K (.ref (He.ma K (He.ga K "Ratio") "__eq__"))) = true from (SJ.nthB h0 15))⟩, aStr := (He.ma K (He.ga K "Ratio") "__str__"), dStr := fdStr, FStr := FStr, bStr := bStr, hStr := ⟨(SJ.decB (p := PySem.W.findIn K (.ref (He.ga K "Ratio")) "__str__" = some (some (.ref (He.ma K (He.ga K "Ratio") "__str__")))) (SJ.nthB h0 16)), (show (PySem.W.isFn K (.ref (He.ma K (He.ga K "Ratio") "__str__"))) = true from (SJ.nthB h0 17))⟩, aRepr := (He.ma K (He.ga K "Ratio") "__repr__"), dRepr := fdRepr, FRepr := FRepr, bRepr := bRepr, hRepr := ⟨(SJ.decB (p := PySem.W.findIn K (.ref (He.ga K "Ratio")) "__repr__" = some (some (.ref (He.ma K (He.ga K "Ratio") "__repr__")))) (SJ.nthB h0 18)), (show (PySem.W.isFn K (.ref (He.ma K (He.ga K "Ratio") "__repr__"))) = true from (SJ.nthB h0 19))⟩, aSLen := (He.ma K (He.ga K "Series") "__len__"), dSLen := fdSLen, FSLen := FSLen, bSLen := bSLen, hSLen := ⟨(SJ.decB (p := PySem.W.findIn K (.ref (He.ga K "Series")) "__len__" = some (some (.ref (He.ma K (He.ga K "Series") "__len__")))) (SJ.nthB h1 0)), (show (PySem.W.isFn K (.ref (He.ma K (He.ga K "Series") "__len__"))) = true from (SJ.nthB h1 1))⟩, aSEq := (He.ma K (He.ga K "Series") "__eq__"), dSEq := fdSEq, FSEq := FSEq, bSEq := bSEq, hSEq := ⟨(SJ.decB (p := PySem.W.findIn K (.ref (He.ga K "Series")) "__eq__" = some (some (.ref (He.ma K (He.ga K "Series") "__eq__")))) (SJ.nthB h1 2)), (show (PySem.W.isFn K (.ref (He.ma K (He.ga K "Series") "__eq__"))) = true from (SJ.nthB h1 3))⟩, aSStr := (He.ma K (He.ga K "Series") "__str__"), dSStr := fdSStr, FSStr := FSStr, bSStr := bSStr, hSStr := ⟨(SJ.decB (p := PySem.W.findIn K (.ref (He.ga K "Series")) "__str__" = some (some (.ref (He.ma K (He.ga K "Series") "__str__")))) (SJ.nthB h1 4)), (show (PySem.W.isFn K (.ref (He.ma K (He.ga K "Series") "__str__"))) = true from (SJ.nthB h1 5))⟩, aSRepr := (He.ma K (He.ga K "Series") "__repr__"), dSRepr := fdSRepr, FSRepr := FSRepr, bSRepr := bSRepr, hSRepr := ⟨(SJ.decB (p := PySem.W.findIn K (.ref (He.ga K "Series")) "__repr__" = some (some (.ref (He.ma K (He.ga K "Series") "__repr__")))) (SJ.nthB h1 6)), (show (PySem.W.isFn K (.ref (He.ma K (He.ga K "Series") "__repr__"))) = true from (SJ.nthB h1 7))⟩, aSEnt := (SJ.recF K (He.ma K (He.ga K "Series") "entries") "property"), dSEnt := fdSEnt, FSEnt := FSEnt, bSEnt := bSEnt, pSEnt := (He.ma K (He.ga K "Series") "entries"), PSEnt := ⟨(SJ.decB (p := PySem.W.findIn K (.ref (He.ga K "Series")) "entries" = some (some (.ref (He.ma K (He.ga K "Series") "entries")))) (SJ.nthB h1 8)), (SJ.decB (p := PySem.W.specialIn K (.ref (He.ma K (He.ga K "Series") "entries")) "__get__" = some (some (.builtin "property.__get__"))) (SJ.nthB h1 9)), (SJ.decB (p := PySem.W.takesIn K (.ref (He.ma K (He.ga K "Series") "entries")) = some true) (SJ.nthB h1 10)), ⟨_, (SJ.decB (p := PySem.W.recIn K (He.ma K (He.ga K "Series") "entries") "property" = some (.ref (SJ.recF K (He.ma K (He.ga K "Series") "entries") "property") :: SJ.recR K (He.ma K (He.ga K "Series") "entries") "property")) (SJ.nthB h1 11))⟩⟩, aSMis := (SJ.recF K (He.ma K (He.ga K "Series") "missing") "property"), dSMis := fdSMis, FSMis := FSMis, bSMis := bSMis, pSMis := (He.ma K (He.ga K "Series") "missing"), PSMis := ⟨(SJ.decB (p := PySem.W.findIn K (.ref (He.ga K "Series")) "missing" = some (some (.ref (He.ma K (He.ga K "Series") "missing")))) (SJ.nthB h1 12)), (SJ.decB (p := PySem.W.specialIn K (.ref (He.ma K (He.ga K "Series") "missing")) "__get__" = some (some (.builtin "property.__get__"))) (SJ.nthB h1 13)), (SJ.decB (p := PySem.W.takesIn K (.ref (He.ma K (He.ga K "Series") "missing")) = some true) (SJ.nthB h1 14)), ⟨_, (SJ.decB (p := PySem.W.recIn K (He.ma K (He.ga K "Series") "missing") "property" = some (.ref (SJ.recF K (He.ma K (He.ga K "Series") "missing") "property") :: SJ.recR K (He.ma K (He.ga K "Series") "missing") "property")) (SJ.nthB h1 15))⟩⟩, aREnt := (He.ga K "_read_entry"), dREnt := fdREnt, FREnt := FREnt, bREnt := bREnt, gREnt := PySem.W.mg_of X G (SJ.decB (p := PySem.W.nsIn K mainGlobals "_read_entry" = some (some (.ref (He.ga K "_read_entry")))) (SJ.nthB h1 16)), aCell := (He.ga K "_law_cell"), dCell := fdCell, FCell := FCell, bCell := bCell, gCell := PySem.W.mg_of X G (SJ.decB (p := PySem.W.nsIn K mainGlobals "_law_cell" = some (some (.ref (He.ga K "_law_cell")))) (SJ.nthB h1 17)), aSrc := (He.ga K "_law_source"), dSrc := fdSrc, FSrc := FSrc, bSrc := bSrc, gSrc := PySem.W.mg_of X G (SJ.decB (p := PySem.W.nsIn K mainGlobals "_law_source" = some (some (.ref (He.ga K "_law_source")))) (SJ.nthB h1 18)), aDraw := (He.ga K "_law_draw"), dDraw := fdDraw, FDraw := FDraw, bDraw := bDraw, gDraw := PySem.W.mg_of X G (SJ.decB (p := PySem.W.nsIn K mainGlobals "_law_draw" = some (some (.ref (He.ga K "_law_draw")))) (SJ.nthB h1 19)), aCom := (He.ga K "_law_common"), dCom := fdCom, FCom := FCom, bCom := bCom, gCom := PySem.W.mg_of X G (SJ.decB (p := PySem.W.nsIn K mainGlobals "_law_common" = some (some (.ref (He.ga K "_law_common")))) (SJ.nthB h2 0)), aLow := (He.ga K "_law_lowest"), dLow := fdLow, FLow := FLow, bLow := bLow, gLow := PySem.W.mg_of X G (SJ.decB (p := PySem.W.nsIn K mainGlobals "_law_lowest" = some (some (.ref (He.ga K "_law_lowest")))) (SJ.nthB h2 1)), aWho := (He.ga K "_law_whole"), dWho := fdWho, FWho := FWho, bWho := bWho, gWho := PySem.W.mg_of X G (SJ.decB (p := PySem.W.nsIn K mainGlobals "_law_whole" = some (some (.ref (He.ga K "_law_whole")))) (SJ.nthB h2 2)), aPair := (He.ga K "_law_pair"), dPair := fdPair, FPair := FPair, bPair := bPair, gPair := PySem.W.mg_of X G (SJ.decB (p := PySem.W.nsIn K mainGlobals "_law_pair" = some (some (.ref (He.ga K "_law_pair")))) (SJ.nthB h2 3)), aWord := (He.ga K "_law_word"), dWord := fdWord, FWord := FWord, bWord := bWord, gWord := PySem.W.mg_of X G (SJ.decB (p := PySem.W.nsIn K mainGlobals "_law_word" = some (some (.ref (He.ga K "_law_word")))) (SJ.nthB h2 4)), aFields := (He.ga K "_law_fields"), dFields := fdFields, FFields := FFields, bFields := bFields, gFields := PySem.W.mg_of X G (SJ.decB (p := PySem.W.nsIn K mainGlobals "_law_fields" = some (some (.ref (He.ga K "_law_fields")))) (SJ.nthB h2 5)), aCaught := (He.ga K "_law_caught"), dCaught := fdCaught, FCaught := FCaught, bCaught := bCaught, gCaught := PySem.W.mg_of X G (SJ.decB (p := PySem.W.nsIn K mainGlobals "_law_caught" = some (some (.ref (He.ga K "_law_caught")))) (SJ.nthB h2 6)), aMkN := (He.ga K "_law_number"), dMkN := fdMkN, FMkN := FMkN, bMkN := bMkN, gMkN := PySem.W.mg_of X G (SJ.decB (p := PySem.W.nsIn K mainGlobals "_law_number" = some (some (.ref (He.ga K "_law_number")))) (SJ.nthB h2 7)), aNum := (He.ga K "_law_number_text"), dNum := fdNum, FNum := FNum, bNum := bNum, gNum := PySem.W.mg_of X G (SJ.decB (p := PySem.W.nsIn K mainGlobals "_law_number_text" = some (some (.ref (He.ga K "_law_number_text")))) (SJ.nthB h2 8)), aThing := (He.ga K "_law_thing"), dThing := fdThing, FThing := FThing, bThing := bThing, gThing := PySem.W.mg_of X G (SJ.decB (p := PySem.W.nsIn K mainGlobals "_law_thing" = some (some (.ref (He.ga K "_law_thing")))) (SJ.nthB h2 9)), aGood := (He.ga K "_law_good"), dGood := fdGood, FGood := FGood, bGood := bGood, gGood := PySem.W.mg_of X G (SJ.decB (p := PySem.W.nsIn K mainGlobals "_law_good" = some (some (.ref (He.ga K "_law_good")))) (SJ.nthB h2 10)), aEntR := (He.ga K "_law_entries_right"), dEntR := fdEntR, FEntR := FEntR, bEntR := bEntR, gEntR := PySem.W.mg_of X G (SJ.decB (p := PySem.W.nsIn K mainGlobals "_law_entries_right" = some (some (.ref (He.ga K "_law_entries_right")))) (SJ.nthB h2 11)), aLRead := (He.ga K "_law_read"), dLRead := fdLRead, FLRead := FLRead, bLRead := bLRead, gLRead := PySem.W.mg_of X G (SJ.decB (p := PySem.W.nsIn K mainGlobals "_law_read" = some (some (.ref (He.ga K "_law_read")))) (SJ.nthB h2 12)), aLIsN := (He.ga K "_law_is_number"), dLIsN := fdLIsN, FLIsN := FLIsN, bLIsN := bLIsN, gLIsN := PySem.W.mg_of X G (SJ.decB (p := PySem.W.nsIn K mainGlobals "_law_is_number" = some (some (.ref (He.ga K "_law_is_number")))) (SJ.nthB h2 13)), aTRight := (He.ga K "_law_text_right"), dTRight := fdTRight, FTRight := FTRight, bTRight := bTRight, gTRight := PySem.W.mg_of X G (SJ.decB (p := PySem.W.nsIn K mainGlobals "_law_text_right" = some (some (.ref (He.ga K "_law_text_right")))) (SJ.nthB h2 14)), aEntT := (He.ga K "_law_entry_text"), dEntT := fdEntT, FEntT := FEntT, bEntT := bEntT, gEntT := PySem.W.mg_of X G (SJ.decB (p := PySem.W.nsIn K mainGlobals "_law_entry_text" = some (some (.ref (He.ga K "_law_entry_text")))) (SJ.nthB h2 15)), aTsR := (He.ga K "_law_texts_right"), dTsR := fdTsR, FTsR := FTsR, bTsR := bTsR, gTsR := PySem.W.mg_of X G (SJ.decB (p := PySem.W.nsIn K mainGlobals "_law_texts_right" = some (some (.ref (He.ga K "_law_texts_right")))) (SJ.nthB h2 16)), aRight := (He.ga K "_law_right"), dRight := fdRight, FRight := FRight, bRight := bRight, gRight := PySem.W.mg_of X G (SJ.decB (p := PySem.W.nsIn K mainGlobals "_law_right" = some (some (.ref (He.ga K "_law_right")))) (SJ.nthB h2 17)), aLaw := (He.ga K "law"), dLaw := fdLaw, FLaw := FLaw, bLaw := bLaw, gLaw := PySem.W.mg_of X G (SJ.decB (p := PySem.W.nsIn K mainGlobals "law" = some (some (.ref (He.ga K "law")))) (SJ.nthB h2 18)), aRd := (SJ.recF K (SJ.clsP K (He.ga K "Ratio") "read") "classmethod"), dRd := fdRd, FRd := FRd, bRd := bRd, pRd := (SJ.clsP K (He.ga K "Ratio") "read"), mc := .type "type", rRd := ⟨(show (PySem.W.readsIn K (He.ga K "Ratio") (.type "type")) = true from (SJ.nthB h3 2)), (SJ.decB (p := PySem.W.specialIn K (.ref (He.ga K "Ratio")) "__getattribute__" = some (some (.builtin "type.__getattribute__"))) (SJ.nthB h3 3))⟩, cRd := ⟨SJ.clsB_ok (show (SJ.clsB K (He.ga K "Ratio") "read") = true from (SJ.nthB h2 19)), ⟨_, (SJ.decB (p := PySem.W.recIn K (SJ.clsP K (He.ga K "Ratio") "read") "classmethod" = some (.ref (SJ.recF K (SJ.clsP K (He.ga K "Ratio") "read") "classmethod") :: SJ.recR K (SJ.clsP K (He.ga K "Ratio") "read") "classmethod")) (SJ.nthB h3 0))⟩, (show (PySem.W.fnIn K (SJ.recF K (SJ.clsP K (He.ga K "Ratio") "read") "classmethod")) = true from (SJ.nthB h3 1))⟩, aSR := (SJ.recF K (SJ.clsP K (He.ga K "Series") "read") "classmethod"), dSR := fdSR, FSR := FSR, bSR := bSR, pSR := (SJ.clsP K (He.ga K "Series") "read"), mcS := .type "type", rSR := ⟨(show (PySem.W.readsIn K (He.ga K "Series") (.type "type")) = true from (SJ.nthB h3 7)), (SJ.decB (p := PySem.W.specialIn K (.ref (He.ga K "Series")) "__getattribute__" = some (some (.builtin "type.__getattribute__"))) (SJ.nthB h3 8))⟩, cSR := ⟨SJ.clsB_ok (show (SJ.clsB K (He.ga K "Series") "read") = true from (SJ.nthB h3 4)), ⟨_, (SJ.decB (p := PySem.W.recIn K (SJ.clsP K (He.ga K "Series") "read") "classmethod" = some (.ref (SJ.recF K (SJ.clsP K (He.ga K "Series") "read") "classmethod") :: SJ.recR K (SJ.clsP K (He.ga K "Series") "read") "classmethod")) (SJ.nthB h3 5))⟩, (show (PySem.W.fnIn K (SJ.recF K (SJ.clsP K (He.ga K "Series") "read") "classmethod")) = true from (SJ.nthB h3 6))⟩ }
  have Z : SFT.CErr K mg (fun i => ([He.ga K "InvalidNumber", He.ga K "InvalidText", He.ga K "InvalidCount", He.ga K "InvalidName", He.ga K "InvalidTruth", He.ga K "InvalidEntries", He.ga K "NotAFormula", He.ga K "TextError", He.ga K "UnknownName", He.ga K "Clash", He.ga K "DividedByZero", He.ga K "TooLarge"] : List Addr).getD i 0) (fun j => ([He.ga K "GivenError", He.ga K "NameProblem", He.ga K "AnswerError"] : List Addr).getD j 0) := SFT.cerrB_ok (show (SFT.cerrB K [He.ga K "InvalidNumber", He.ga K "InvalidText", He.ga K "InvalidCount", He.ga K "InvalidName", He.ga K "InvalidTruth", He.ga K "InvalidEntries", He.ga K "NotAFormula", He.ga K "TextError", He.ga K "UnknownName", He.ga K "Clash", He.ga K "DividedByZero", He.ga K "TooLarge"] [He.ga K "GivenError", He.ga K "NameProblem", He.ga K "AnswerError"]) = true from (SJ.nthB h9 12)) (fun i hi => mem12 (p := fun i => mg (SFT.cnm i) = some (.ref (([He.ga K "InvalidNumber", He.ga K "InvalidText", He.ga K "InvalidCount", He.ga K "InvalidName", He.ga K "InvalidTruth", He.ga K "InvalidEntries", He.ga K "NotAFormula", He.ga K "TextError", He.ga K "UnknownName", He.ga K "Clash", He.ga K "DividedByZero", He.ga K "TooLarge"] : List Addr).getD i 0))) (PySem.W.mg_of X G (SJ.decB (p := PySem.W.nsIn K mainGlobals "InvalidNumber" = some (some (.ref (He.ga K "InvalidNumber")))) (SJ.nthB h8 17))) (PySem.W.mg_of X G (SJ.decB (p := PySem.W.nsIn K mainGlobals "InvalidText" = some (some (.ref (He.ga K "InvalidText")))) (SJ.nthB h8 18))) (PySem.W.mg_of X G (SJ.decB (p := PySem.W.nsIn K mainGlobals "InvalidCount" = some (some (.ref (He.ga K "InvalidCount")))) (SJ.nthB h8 19))) (PySem.W.mg_of X G (SJ.decB (p := PySem.W.nsIn K mainGlobals "InvalidName" = some (some (.ref (He.ga K "InvalidName")))) (SJ.nthB h9 0))) (PySem.W.mg_of X G (SJ.decB (p := PySem.W.nsIn K mainGlobals "InvalidTruth" = some (some (.ref (He.ga K "InvalidTruth")))) (SJ.nthB h9 1))) (PySem.W.mg_of X G (SJ.decB (p := PySem.W.nsIn K mainGlobals "InvalidEntries" = some (some (.ref (He.ga K "InvalidEntries")))) (SJ.nthB h9 2))) (PySem.W.mg_of X G (SJ.decB (p := PySem.W.nsIn K mainGlobals "NotAFormula" = some (some (.ref (He.ga K "NotAFormula")))) (SJ.nthB h9 3))) (PySem.W.mg_of X G (SJ.decB (p := PySem.W.nsIn K mainGlobals "TextError" = some (some (.ref (He.ga K "TextError")))) (SJ.nthB h9 4))) (PySem.W.mg_of X G (SJ.decB (p := PySem.W.nsIn K mainGlobals "UnknownName" = some (some (.ref (He.ga K "UnknownName")))) (SJ.nthB h9 5))) (PySem.W.mg_of X G (SJ.decB (p := PySem.W.nsIn K mainGlobals "Clash" = some (some (.ref (He.ga K "Clash")))) (SJ.nthB h9 6))) (PySem.W.mg_of X G (SJ.decB (p := PySem.W.nsIn K mainGlobals "DividedByZero" = some (some (.ref (He.ga K "DividedByZero")))) (SJ.nthB h9 7))) (PySem.W.mg_of X G (SJ.decB (p := PySem.W.nsIn K mainGlobals "TooLarge" = some (some (.ref (He.ga K "TooLarge")))) (SJ.nthB h9 8))) i hi) (fun j hj => mem3 (p := fun j => mg (SFT.cbns.getD j "") = some (.ref (([He.ga K "GivenError", He.ga K "NameProblem", He.ga K "AnswerError"] : List Addr).getD j 0))) (PySem.W.mg_of X G (SJ.decB (p := PySem.W.nsIn K mainGlobals "GivenError" = some (some (.ref (He.ga K "GivenError")))) (SJ.nthB h9 9))) (PySem.W.mg_of X G (SJ.decB (p := PySem.W.nsIn K mainGlobals "NameProblem" = some (some (.ref (He.ga K "NameProblem")))) (SJ.nthB h9 10))) (PySem.W.mg_of X G (SJ.decB (p := PySem.W.nsIn K mainGlobals "AnswerError" = some (some (.ref (He.ga K "AnswerError")))) (SJ.nthB h9 11))) j hj) (PySem.W.mg_none_of X G (SJ.decB (p := PySem.W.nsIn K mainGlobals "isinstance" = some none) (SJ.nthB h8 11))) (PySem.W.mg_none_of X G (SJ.decB (p := PySem.W.nsIn K mainGlobals "repr" = some none) (SJ.nthB h8 10)))
  have ZD : DZ K mg (He.ga K "DividedByZero") := SQ.dzB_ok (show (SQ.dzB K (He.ga K "DividedByZero")) = true from (SJ.nthB h9 13)) (PySem.W.mg_of X G (SJ.decB (p := PySem.W.nsIn K mainGlobals "DividedByZero" = some (some (.ref (He.ga K "DividedByZero")))) (SJ.nthB h9 7)))
  have N : ND K := SQ.ndB_ok (show (SQ.ndB K) = true from (SJ.nthB h9 14))
  refine ⟨fdLaw, ([SJ.codeAt K (He.ga K "_law_entries_right"), SJ.codeAt K (He.ga K "_law_text_right"), SJ.codeAt K (He.ga K "_law_right")].map fun c => (c, SFY.tabOf K c)), spLaw K (tb4 K (SJ.codeAt K (He.ga K "_law_entries_right")) (SJ.codeAt K (He.ga K "_law_text_right")) (SJ.codeAt K (He.ga K "_law_right"))), SFY.tabsB_ok (show (SFY.tabsB K [SJ.tabAt K (He.ga K "_law_entries_right"), SJ.tabAt K (He.ga K "_law_text_right"), SJ.tabAt K (He.ga K "_law_right")] [SJ.codeAt K (He.ga K "_law_entries_right"), SJ.codeAt K (He.ga K "_law_text_right"), SJ.codeAt K (He.ga K "_law_right")]) = true from (SJ.nthB h9 15)), fun s u => law_binds FLaw s u, fun H a ns hl hH hS => law_start hl hH hS, fun base _ _ TB => ?_⟩
  exact ok_law T Z N OTxt OEnt (SJ.decB (p := PySem.W.exmOne K (.ref (He.ga K "InvalidText")) (.ref (He.ga K "InvalidText")) = some true) (SJ.nthB h10 4)) (SJ.code_of FEntR (show (SJ.refCode K (He.ga K "_law_entries_right")) = true from (SJ.nthB h9 16))) (SJ.code_of FTRight (show (SJ.refCode K (He.ga K "_law_text_right")) = true from (SJ.nthB h9 17))) (SJ.code_of FRight (show (SJ.refCode K (He.ga K "_law_right")) = true from (SJ.nthB h9 18))) (SJ.decB (p := SFY.tabOf K (SJ.codeAt K (He.ga K "_law_entries_right")) ≠ SFY.tabOf K (SJ.codeAt K (He.ga K "_law_text_right"))) (SJ.nthB h9 19)) (SJ.decB (p := SFY.tabOf K (SJ.codeAt K (He.ga K "_law_entries_right")) ≠ SFY.tabOf K (SJ.codeAt K (He.ga K "_law_right"))) (SJ.nthB h10 0)) (SJ.decB (p := SFY.tabOf K (SJ.codeAt K (He.ga K "_law_text_right")) ≠ SFY.tabOf K (SJ.codeAt K (He.ga K "_law_right"))) (SJ.nthB h10 1)) (TB (SJ.codeAt K (He.ga K "_law_entries_right"), SFY.tabOf K (SJ.codeAt K (He.ga K "_law_entries_right"))) (by simp)) (TB (SJ.codeAt K (He.ga K "_law_text_right"), SFY.tabOf K (SJ.codeAt K (He.ga K "_law_text_right"))) (by simp)) (TB (SJ.codeAt K (He.ga K "_law_right"), SFY.tabOf K (SJ.codeAt K (He.ga K "_law_right"))) (by simp))
end T08

open PySem PySem.W PySem.Calls PyProof.Rows in
set_option maxRecDepth 100000 in
set_option maxHeartbeats 0 in
theorem PySem.Challenge.cw_seriesforms_k08_series_refused_holds : PySem.Challenge.rw_seriesforms_k08_series_refused.Holds := by
  w_on; o_law
  refine HeadRun.head_imp (r := OpenLaw.row PySem.Challenge.rw_seriesforms_k08_series_refused) (q := view (OpenLaw.row PySem.Challenge.rw_seriesforms_k08_series_refused).prog [0, 58]) (H := T08.hkJ) (ob := T08.obJ) (M := 20000) (loose := T08.looseJ) (d := HeadRun.topDef (OpenLaw.row PySem.Challenge.rw_seriesforms_k08_series_refused).prog 58) (kwd := []) T08.ob_eqJ T08.runJ
    (by kernel_rfl) (by kernel_rfl) (by kernel_rfl) (by rfl) (by first | assumption | decide +kernel) (by decide +kernel) ⟨rfl, rfl, rfl, rfl, rfl, by decide +kernel⟩ ?hw ?hc
  case hw => w_witness2
  case hc =>
    refine SJ.walkJ (l := PySem.Challenge.rw_seriesforms_k08_series_refused) (n := 63) (k := 21) (x := "_law_cells") rfl (by decide) (by kernel_rfl) ⟨rfl, by decide, by decide⟩ ?F
    intro w mg fa h Y G hmg0
    obtain ⟨K, KX, c, ht⟩ := Y
    have hmg : mg ("law" : PySem.Str) = some (.ref fa) := by
      have e : (HeadRun.topDef (OpenLaw.row PySem.Challenge.rw_seriesforms_k08_series_refused).prog 58).name = ("law" : PySem.Str) := by kernel_rfl
      rw [← e]
      exact hmg0
    exact ⟨K, _, KX, fun P hP => by
      obtain ⟨f, hf, rfl⟩ := List.mem_map.mp (show P ∈ T08.lamJ.map (fun f => SJ.tabAt K (f K)) from hP)
      exact ht f hf, T08.all_in (l := PySem.Challenge.rw_seriesforms_k08_series_refused) (w := w) KX G hmg c⟩
