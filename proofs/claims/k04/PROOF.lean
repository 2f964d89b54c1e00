import PyProof.Rows.All
import Wide.All
import OpenK.AllK
import Wide.FinOn
import HandS.ForMost
import HandS.OwnEq
import HandS.SlotsOwn
import HandS.Property
import HandS.MakeKw
import HandS.MakeKwOnly
import HandS.IsInst
import HandS.Gcd
import HandS.Wide
import HandS.WideBits
import HandS.FStr
import KE.KFmtOwn
import PyProof.FactsAll.dict
import KE.KOpsOwn
import HandS.ClsMeth
import HandS.StrMore
import HandS.Text
import PyProof.StrLawsAffix
import HandS.CallLocal
import HandS.DeepEq
import PySem.Challenge.RW_seriesforms_k04_whole_ratio_rules
import HandS.NoneIn
import KE.RegKIsAll
set_option Elab.async false
set_option maxRecDepth 100000
set_option maxHeartbeats 8000000
set_option linter.all false
/-! A def's promise where it is known that no guard runs (a container may be shown). -/
namespace SF
open PySem PySem.Spec PyProof.Rows L2

structure FnG (P : Program) (w : World) (K : PySem.W.Frag) (mg : Str → Option Value) (base : Heap) (CX : CXT) (k : Nat) (f : Addr) (fd : FuncData) (ps : List Str) (sp : Sp) : Prop where
  len : ∀ vs H Q E, sp vs H Q E → vs.length = ps.length
  run : ∀ (A : Around) (outer : List Env) (s : Shared) (H : Hp) (args : Args) (us : List Value) (vs : List V) (Q : VK) (E : XK), A.guards = some [] → Room k A → Env0 P w K mg base A outer s H → BindsTo s fd args (ps.zip us) → Vals vs us → sp vs H Q E →
    codeAny (model P w) A (.call (.ref f) args) (CR CX outer P w H s Q E) s

section
variable {X : Cx} {CX : CXT} {k : Nat} {f : Addr} {fd : FuncData} {ps : List Str} {sp : Sp} {dvs : List V} {ds : List Value} {E : XK} {x : Str} {p pos : Pos} {e : Expr} {es : List Expr} {t : TA}
theorem run_fnG {pins : List (Addr × Obj)} {σ : L2.St} {H : Hp} {s : Shared} {Q : VK} {us : List Value} {vs : List V} (F : FnG X.prog X.w X.K X.mg X.base CX k f fd ps sp) (hgd : X.A.guards = some []) (hr : Room k X.A) (hb : Binds X.K fd ps ds) (hd : Vals dvs ds) (hx : Passes CX X E)
    (I : Inv X pins σ H s) (r : Vals vs us) (h : sp (vs ++ dvs) H Q E) : wpAny (model X.prog X.w) X.A (call (.ref f) us) (EP X pins σ Q) X.xe s := by
  have r2 : Vals (vs ++ dvs) (us ++ ds) := r.append hd
  have hl : (us ++ ds).length = ps.length := by rw [← r2.length]; exact F.len _ _ _ _ h
  refine wpAny_call (codeAny_mono (F.run X.A X.stack s H ⟨us, []⟩ (us ++ ds) (vs ++ dvs) Q E hgd hr I.env0 (hb s us I.kIn hl) r2 h) fun r s' hq => ?_)
  cases r with
  | error e => exact hx pins σ H s e s' I hq
  | ok fl =>
    cases fl with
    | ret u => exact I.after hq
    | next => exact False.elim hq
    | brk => exact False.elim hq
    | cont => exact False.elim hq
theorem pe_callG (F : FnG X.prog X.w X.K X.mg X.base CX k f fd ps sp) (hgd : X.A.guards = some []) (hr : Room k X.A) (hg : Gl X x) (hm : X.mg x = some (.ref f)) (hk : PySem.W.keepIn X.K (.ref f) = true) (hb : Binds X.K fd ps ds) (hd : Vals dvs ds) (hx : Passes CX X E)
    (ha : PA X (e :: es) t) (hdb : (x == ("__debug__" : Str)) = false := by decide) (he : starEach (e :: es) X.env = (false, eval e X.env) :: starEach es X.env := by rfl) (hpl : (backTo pos (starEach es X.env)).any (·.1) = false := by rfl) :
    PE X (.Call (.Name x p) (e :: es) [] pos) (tCall sp dvs E t) := by
  refine ⟨fun pins s σ H Q I h => ?_⟩
  refine wpAny_Call_Name_kw (ld_glob I hg hm ?_ hdb)
  refine PySem.W.callWith_K (h₀ := X.base) I.ok.mod.kin hk (thn (ha.run pos pins s σ H _ I h) fun us s1 ⟨vs, H1, I1, r, q⟩ => ⟨I1.kIn, ?_⟩) he hpl
  exact run_fnG F hgd hr hb hd hx I1 r q
end

theorem fn_ofG {CX : CXT} {P : Program} {w : World} {K : PySem.W.Frag} {mg : Str → Option Value} {base : Heap} {k : Nat} {f : Addr} {name qual : Str} {params : Arguments} {body : List Stmt} {scope : Scope} {dV kV doc pm cdv ct oc : Value} {an od : Option Addr}
    {osl : Array (Option Value)} {N ps : List Str} {sp : Sp} (lk : K.lookup f = some ⟨oc, od, .func (PySem.W.fnOf name qual params body scope dV kV doc pm an cdv ct), osl⟩) (hcd : PySem.W.codeIn K cdv qual = true) (S : FnScope N ps scope)
    (len : ∀ vs H Q E, sp vs H Q E → vs.length = ps.length)
    (hbody : ∀ (A : Around) (outer : List Env) (s : Shared) (H : Hp) (vs : List V) (Q : VK) (E : XK), A.guards = some [] → Room k (A.deeper (envOfC qual scope s.heap.objs.size f cdv)) → sp vs H Q E →
      ∃ t, PSs (cxOf CX P w K mg base N qual scope f cdv A outer s H E) body t ∧ t { nx := fun _ H' => Q .non H', rt := Q } (start N vs) H) :
    FnG P w K mg base CX (k + 1) f (PySem.W.fnOf name qual params body scope dV kV doc pm an cdv ct) ps sp := by
  refine ⟨len, fun A outer s H args us vs Q E hgd hr e0 hb r hsp => ?_⟩
  have hl := len _ _ _ _ hsp
  have KX : K.In s.heap := e0.mod.kin.keeps fun b o e => (e0.bs b o e).1
  have lim : s.heap.NoLimit := e0.mod.nolimit.keeps fun b o e => (e0.bs b o e).1
  have hkind : ∀ y ∈ ps.zip us, scope.names.lookup y.1 = some .local ∨ (scope.names.lookup y.1 = some .cell ∧ ((cellsFrom (s.heap.objs.size + 1) scope.names []).lookup y.1).isSome = true) := fun ⟨n, v⟩ hy => by
    rcases S.par n (List.of_mem_zip hy).1 with q | q
    · exact .inl q
    · exact .inr ⟨q, PySem.W.cellsFrom_some _ _ _ (.inl q)⟩
  refine codeAny_call_function hr.depth (KX _ _ lk) rfl S.co S.gen rfl (PySem.W.codeRec_of KX hcd) (hb _ _ _ _ ?_)
  refine wpAny_newFunctionEnv_cells S.kind hkind fun env he s1 x => ?_
  subst he
  refine ⟨lim.keeps x.toInCall.keep, codeAny_func ?_⟩
  obtain ⟨t, ht, hq⟩ := hbody A outer s H vs Q E hgd (hr.deeper _) hsp
  have I : Inv (cxOf CX P w K mg base N qual scope f cdv A outer s H E) [] (start N vs) H s1 := inv_start S hr.hd e0 hl r x
  refine wpAny_mono (ht.run [] s1 (start N vs) H _ I hq) (fun fl s' hs => ?_) fun e s' hs => hs
  have fin : ∀ {σ' : L2.St} {H' : Hp} {v : V} {u : Value}, Inv (cxOf CX P w K mg base N qual scope f cdv A outer s H E) [] σ' H' s' → RelV v u → Q v H' → CE outer P w H s Q u s' :=
    fun {σ' H' v u} J rv q => ⟨v, H', J.os, J.bare, J.base, J.hok, rv, q⟩
  cases fl with
  | ret u =>
    obtain ⟨v, σ', H', J, rv, q⟩ := hs
    exact fin J rv q
  | next =>
    obtain ⟨σ', H', J, q⟩ := hs
    exact fin (v := V.non) (u := Value.none) J rfl q
  | brk =>
    obtain ⟨_, _, _, q⟩ := hs
    exact False.elim q
  | cont =>
    obtain ⟨_, _, _, q⟩ := hs
    exact False.elim q

section
variable {P : Program} {w : World} {K : PySem.W.Frag} {mg : Str → Option Value} {base : Heap}
theorem okG {x qual : Str} {st : Stmt} {f : Addr} {fd : FuncData} {N ps : List Str} {k : Nat} {sp : Sp} (F : Fun K x qual st f fd) (S : FnScope N ps (defScope st)) (len : ∀ vs H Q E, sp vs H Q E → vs.length = ps.length)
    (hbody : ∀ (cdv : Value) (A : Around) (outer : List Env) (s : Shared) (H : Hp) (vs : List V) (Q : VK) (E : XK), A.guards = some [] → Room k (A.deeper (envOfC qual (defScope st) s.heap.objs.size f cdv)) → sp vs H Q E →
      ∃ t, PSs (cxOf CX0 P w K mg base N qual (defScope st) f cdv A outer s H E).nox (defBody st) t ∧ t { nx := fun _ H' => Q .non H', rt := Q } (start N vs) H) : FnG P w K mg base CX0 (k + 1) f fd ps sp := by
  obtain ⟨oc, od, kV, doc, pm, an, cdv, ct, osl, rfl, lk, hcd⟩ := F.ex
  refine fn_ofG lk hcd S len fun A outer s H vs Q E hgd hr hsp => ?_
  obtain ⟨t, h, q⟩ := hbody cdv A outer s H vs Q E hgd hr hsp
  exact ⟨t, h.nox, q⟩
end
example (A : Around) (e : Env) (h : A.guards = some []) : (A.deeper e).guards = some [] := h
example (A : Around) (h : A.guards = some []) : (A.in1).guards = some [] := h
example : callerA.guards = some [] := rfl
end SF

namespace SF
open PySem PySem.Spec PyProof.Rows L2
open AutoSeq1 (wpAny_loadPart')

/-! ### // by any divisor but 0 -/
def CDivZ (_ j : Int) : Prop := j ≠ 0 ∧ j.natAbs.log2 < 9000
section
variable {X : Cx}
theorem op_fdivZ : OpR X (binaryOp .FloorDiv) (rI CDivZ fun i j => .int (i.fdiv j)) := opI fun i j _ _ _ _ _ hc q =>
  floordiv_int hc.1 q (.inl (PyProof.noPylong_of_log2 hc.2))
end

section
variable {X : Cx} {CX : CXT} {n : Nat} {C g : Addr} {fd : FuncData} {ps : List Str} {sp : Sp} {E : XK}

/-- an instance's place in the state -/
theorem inst_of {pins : List (Addr × Obj)} {σ : L2.St} {H : Hp} {s : Shared} {a C dx : Addr} {fs : List (Str × V)} (I : Inv X pins σ H s) (e : H a = some (.ins C dx fs)) : ∃ od, PySem.W.InstAt s.heap a (PySem.W.instObj C dx) C (some od) := by
  obtain ⟨mA, O, _⟩ := ins_get I.hok e
  obtain ⟨od, J, _⟩ := O.look
  exact ⟨od, J⟩

/-- x op y, x an instance of the class at C whose own def for op stands at g, y of any kind -/
def rOwnL (K : PySem.W.Frag) (C : Addr) (sp : Sp) (E : XK) : R2 := fun x y H Q => ∃ a dx fs tb, x = .ref a ∧ H a = some (.ins C dx fs) ∧ TyX K H y tb ∧ PySem.W.notFirst K C tb = true ∧ sp [x, y] H Q E
theorem op_ownL {op : CmpOp} (hop : ∀ a b, compareOp op a b = richCompare op a b) (hs : PySem.W.findIn X.K (.ref C) (cmpInfo op).2.1 = some (some (.ref g))) (hf : PySem.W.isFn X.K (.ref g) = true)
    (F : FnOk X.prog X.w X.K X.mg X.base CX n g fd ps sp) (hb : Binds X.K fd ps []) (hr : Room n X.A) (hx : Passes CX X E) : OpR X (compareOp op) (rOwnL X.K C sp E) := by
  intro pins s σ H x y v u Q I rx ry h
  obtain ⟨a, dx, fs, tb, rfl, ha, ty, hn, q⟩ := h
  cases (show v = Value.ref a from rx)
  obtain ⟨od, J⟩ := inst_of I ha
  obtain ⟨P, kt, hP, _⟩ := kit_of I ry ty
  obtain ⟨m, hF⟩ := I.fr
  rw [hop]
  refine PySem.W.cmp_K (op := op) (tb := tb) hr.units0 hF I.ok.mod.kin J (kt.ty _ _ I.kIn hP) hn hs hf ?_
  refine wpAny_mono (run_fn (us := [.ref a, u]) (vs := [.ref a, y]) (dvs := []) (ds := []) F hr hb .nil hx I (.cons rfl (.cons ry .nil)) (by simpa using q)) (fun w s' z => ?_) fun _ _ x => x
  obtain ⟨z', H', I', rz, qz⟩ := z
  exact SlX.cmpback rz ⟨z', H', I', rz, qz⟩

/-- bool of an instance with its own __bool__, as a test -/
def rOwnB (C : Addr) (sp : Sp) (E : XK) : V → Hp → (Bool → Hp → Prop) → Prop := fun x H Q => ∃ a dx fs, x = .ref a ∧ H a = some (.ins C dx fs) ∧ sp [x] H (fun z H' => ∃ b, z = .bl b ∧ Q b H') E
theorem tru_own (hs : PySem.W.findIn X.K (.ref C) "__bool__" = some (some (.ref g))) (hf : PySem.W.isFn X.K (.ref g) = true)
    (F : FnOk X.prog X.w X.K X.mg X.base CX n g fd ps sp) (hb : Binds X.K fd ps []) (hr : Room n X.A) (hx : Passes CX X E) : TruR X (rOwnB C sp E) := by
  intro pins s σ H x v Q I rx h
  obtain ⟨a, dx, fs, rfl, ha, q⟩ := h
  cases (show v = Value.ref a from rx)
  obtain ⟨od, J⟩ := inst_of I ha
  obtain ⟨m, hF⟩ := I.fr
  refine PySem.W.truthy_K hF I.ok.mod.kin J hs hf ?_
  refine wpAny_mono (run_fn (us := [.ref a]) (vs := [.ref a]) (dvs := []) (ds := []) F hr hb .nil hx I (.cons rfl .nil) (by simpa using q)) (fun w s' z => ?_) fun _ _ x => x
  obtain ⟨z', H', I', rz, qz⟩ := z
  rcases qz with ⟨ez, qz⟩ | ⟨ez, qz⟩
  · subst ez
    cases (show w = Value.bool _ from rz)
    exact ⟨H', I', qz⟩
  · subst ez
    cases (show w = Value.bool _ from rz)
    exact ⟨H', I', qz⟩
end

/-! ### != by an own __eq__, and the reflected comparisons -/
section
variable {prog : Program} {w : World} {A : Around} {E : Value → Shared → Prop} {s : Shared} {K : PySem.W.Frag} {x C L f : Addr} {h₀ : Heap} {m : Str → Option Value} {ox : Obj} {od : Option Obj} {b tb : Value}
/-- a special that a class takes from a built-in one, called if bound -/
theorem ifBound_B {M : Model} {name : Str} {id : String} {args : List Value} {Q : Option Value → Shared → Prop} (X : K.In s.heap) (I : PySem.W.InstAt s.heap x ox C od) (hs : PySem.W.findIn K (.ref C) name = some (some (.builtin id)))
    (hb : ∀ self, bindSpecial (.builtin id) self = pure (.builtin id, [self])) (h : wpAny M A (call (.builtin id) (.ref x :: args)) (fun v => Q (some v)) E s) : wpAny M A (callSpecialIfBound? (.ref x) name args) Q E s := by
  simp only [callSpecialIfBound?, bindSpecialIfBound?]
  refine wpAny_holding (wpAny_bind (wpAny_bind (wpAny_bind (I.type.here ((PySem.W.looks_findIn X hs).here ?_)))))
  refine wpAny_bind (wpAny_askSetting (wpAny_ite ?_))
  have fin : wpAny M A (call (.builtin id) ([.ref x] ++ args) >>= fun v => pure (some v)) Q E s := wpAny_bind (wpAny_mono h (fun v s' h' => wpAny_pure h') fun _ _ h' => h')
  split
  · exact wpAny_bind ((PySem.W.Looks.of_pure (hb _)).here (wpAny_pure (by exact fin)))
  · exact wpAny_tryCatch (wpAny_bind ((PySem.W.Looks.of_pure (hb _)).here (wpAny_pure (by exact fin))))

/-- what an own == must give for != : a truth value -/
def NeBack (Q : Value → Shared → Prop) (v : Value) (s' : Shared) : Prop := ∃ k, v = .bool k ∧ Q (.bool (!k)) s'
theorem objNe_own {Q : Value → Shared → Prop} (hu : A.in1.units < cLine) (X : K.In s.heap) (I : PySem.W.InstAt s.heap x ox C od) (hm : PySem.W.mroIn K C (.type "object") = some true)
    (hs : PySem.W.findIn K (.ref C) "__eq__" = some (some (.ref f))) (hf : PySem.W.isFn K (.ref f) = true) (h : wpAny (model prog w) A.in1 (call (.ref f) [.ref x, b]) (NeBack Q) E s) :
    wpAny (model prog w) A (call (.builtin "object.__ne__") [.ref x, b]) Q E s := by
  refine wpAny_call (codeAny_call_builtin PySem.F.cmp_object.ne.plain PySem.F.cmpEntry_ne (PySem.W.check_slot (i := "object.__ne__") (owner := "object") (n := "__ne__") (by decide +kernel) (by decide +kernel) (I.type.andThen (PySem.W.looks_mroIn X hm)) (PySem.F.cmpArgs_ne _ _) ?_))
  unfold Builtin.«object.__ne__»
  refine wpAny_bind (m := slotArgs "__ne__" 1 _) (wpAny_pure ?_)
  refine wpAny_bind (m := cRoomFor _ _) (wpAny_cRoomFor hu ?_)
  refine wpAny_bind (m := callSpecialIfBound? (.ref x) (Str.ofString "__eq__") _) (PySem.W.ifBound_K X I hs hf (wpAny_mono h (fun r s' hq => ?_) fun _ _ y => y))
  obtain ⟨k, rfl, hq⟩ := hq
  exact wpAny_bind (wpAny_truthy_bool (wpAny_pure hq))
theorem ne_K {Q : Value → Shared → Prop} (hu : A.in1.units < cLine) (X : K.In s.heap) (I : PySem.W.InstAt s.heap x ox C od) (hb : PySem.W.Looks (model prog w) s.heap (typeOf b) tb) (hn : PySem.W.notFirst K C tb = true)
    (hne : PySem.W.findIn K (.ref C) "__ne__" = some (some (.builtin "object.__ne__"))) (hm : PySem.W.mroIn K C (.type "object") = some true)
    (hs : PySem.W.findIn K (.ref C) "__eq__" = some (some (.ref f))) (hf : PySem.W.isFn K (.ref f) = true)
    (h : wpAny (model prog w) A.in1 (call (.ref f) [.ref x, b]) (NeBack Q) E s) : wpAny (model prog w) A (richCompare .NotEq (.ref x) b) Q E s := by
  have one : wpAny (model prog w) A (tryCompare (.ref x) (cmpInfo .NotEq).2.1 b) (fun r s' => ∃ v, r = some v ∧ Q v s') E s := by
    unfold tryCompare
    refine wpAny_bind (ifBound_B X I hne PySem.F.cmp_object.ne.bind (objNe_own hu X I hm hs hf (wpAny_mono h (fun v s' hv => ?_) fun _ _ e => e)))
    obtain ⟨k, rfl, hq⟩ := hv
    exact ⟨k, rfl, wpAny_pure ⟨_, rfl, hq⟩⟩
  unfold richCompare
  simp only [oneThing_ref]
  refine wpAny_holding (wpAny_bind (wpAny_cRoomFor (Nat.lt_of_succ_lt hu) ?_))
  refine wpAny_bind (I.type.here (wpAny_bind (hb.here ?_)))
  split
  · rename_i q
    have e : PySem.W.subIn K tb (.ref C) = some false := by
      rcases Bool.or_eq_true_iff.mp hn with e | e
      · rw [beq_iff_eq.mp e] at q; simp at q
      · exact beq_iff_eq.mp e
    refine wpAny_bind ((PySem.W.looks_subIn X e).here ?_)
    simp only [Bool.false_eq_true, if_false]
    refine wpAny_bind (wpAny_mono one (fun r s' z => ?_) fun _ _ e => e)
    obtain ⟨v, rfl, hq⟩ := z
    exact wpAny_pure hq
  · refine wpAny_bind (wpAny_pure ?_)
    simp only [Bool.false_eq_true, if_false]
    refine wpAny_bind (wpAny_mono one (fun r s' z => ?_) fun _ _ e => e)
    obtain ⟨v, rfl, hq⟩ := z
    exact wpAny_pure hq
end
/-! ### the other side -/
section
variable {prog : Program} {w : World} {A : Around} {E : Value → Shared → Prop} {s : Shared} {K : PySem.W.Frag} {x C L f : Addr} {h₀ : Heap} {m : Str → Option Value} {ox : Obj} {od : Option Obj} {a tb : Value}
/-- a op x, where a (of the built-in type T) declines, and the instance x answers -/
theorem cmp_KR {op : CmpOp} {T : String} {Q : Value → Shared → Prop} (hu : A.units < cLine) (h1 : oneThing? op a (.ref x) = none) (ha : PySem.W.Looks (model prog w) s.heap (typeOf a) (.type T)) (X : K.In s.heap) (I : PySem.W.InstAt s.heap x ox C od)
    (hsub : PySem.W.subIn K (.ref C) (.type T) = some false)
    (hdec : ∀ (E : Value → Shared → Prop) (R : Option Value → Shared → Prop), R none s → wpAny (model prog w) A (tryCompare a (cmpInfo op).2.1 (.ref x)) R E s)
    (hr : wpAny (model prog w) A (tryCompare (.ref x) (cmpInfo op).2.2 a) (fun r s' => ∃ v, r = some v ∧ Q v s') E s) : wpAny (model prog w) A (richCompare op a (.ref x)) Q E s := by
  unfold richCompare
  simp only [h1]
  refine wpAny_holding (wpAny_bind (wpAny_cRoomFor hu ?_))
  refine wpAny_bind (ha.here (wpAny_bind (I.type.here ?_)))
  have ne : (Value.type T != Value.ref C) = true := by simp [bne]
  simp only [ne, if_true]
  refine wpAny_bind ((PySem.W.looks_subIn X hsub).here ?_)
  simp only [Bool.false_eq_true, if_false, Bool.not_false, if_true]
  refine wpAny_bind (hdec _ _ ?_)
  refine wpAny_bind (wpAny_mono hr (fun r s' z => ?_) fun _ _ e => e)
  obtain ⟨v, rfl, hq⟩ := z
  exact wpAny_pure hq
end
end SF

namespace SF
open PySem PySem.Spec PyProof.Rows L2
open AutoSeq1 (wpAny_loadPart')
open PySem.SeqAt

theorem int_eq_decl (b : Int) (u : Tok) (l C dx : Addr) :
    Meets (Builtin.«int.__eq__» ⟨[.int b u, .ref l], []⟩) (fun _ R s => s.heap.get? l = some (PySem.W.instObj C dx) ∧ R (.ok (.ret .notImplemented)) s) :=
  .of_wp fun prog w A R s h => by obtain ⟨hp, g, d, tk, os⟩ := s; obtain ⟨hl, h⟩ := h; wp_walk using wpAny_loadPart' hl, wpAny_load hl; exact ⟨_, rfl, h⟩
theorem int_ne_decl (b : Int) (u : Tok) (l C dx : Addr) :
    Meets (Builtin.«int.__ne__» ⟨[.int b u, .ref l], []⟩) (fun _ R s => s.heap.get? l = some (PySem.W.instObj C dx) ∧ R (.ok (.ret .notImplemented)) s) :=
  .of_wp fun prog w A R s h => by obtain ⟨hp, g, d, tk, os⟩ := s; obtain ⟨hl, h⟩ := h; wp_walk using wpAny_loadPart' hl, wpAny_load hl; exact ⟨_, rfl, h⟩
theorem bool_eq_decl (b : Bool) (l C dx : Addr) :
    Meets (Builtin.«int.__eq__» ⟨[.bool b, .ref l], []⟩) (fun _ R s => s.heap.get? l = some (PySem.W.instObj C dx) ∧ R (.ok (.ret .notImplemented)) s) :=
  .of_wp fun prog w A R s h => by obtain ⟨hp, g, d, tk, os⟩ := s; obtain ⟨hl, h⟩ := h; wp_walk using wpAny_loadPart' hl, wpAny_load hl; exact ⟨_, rfl, h⟩
theorem str_eq_decl (b : Str) (u : Tok) (l C dx : Addr) :
    Meets (Builtin.«str.__eq__» ⟨[.str b u, .ref l], []⟩) (fun _ R s => s.heap.get? l = some (PySem.W.instObj C dx) ∧ R (.ok (.ret .notImplemented)) s) :=
  .of_wp fun prog w A R s h => by obtain ⟨hp, g, d, tk, os⟩ := s; obtain ⟨hl, h⟩ := h; wp_walk using wpAny_loadPart' hl, wpAny_load hl; exact ⟨_, rfl, h⟩

/-- a list, a tuple, a dict: its __eq__ asks whether the other one is of its kind -/
theorem ref_isInst {M : Model} {A : Around} {E : Value → Shared → Prop} {s : Shared} {K : PySem.W.Frag} {x C : Addr} {ox : Obj} {od : Option Obj} {T : String} {Q : Bool → Shared → Prop}
    (X : K.In s.heap) (I : PySem.W.InstAt s.heap x ox C od) (hsub : PySem.W.subIn K (.ref C) (.type T) = some false) (q : Q false s) : wpAny M A (isInstance (.ref x) (.type T)) Q E s := by
  unfold isInstance
  exact wpAny_bind (I.type.here ((PySem.W.looks_subIn X hsub).here q))
section
variable {prog : Program} {w : World} {A : Around} {R : Result → Shared → Prop} {s : Shared} {K : PySem.W.Frag} {x C l : Addr} {ox : Obj} {od : Option Obj}
theorem list_eq_declK (X : K.In s.heap) (I : PySem.W.InstAt s.heap x ox C od) (hsub : PySem.W.subIn K (.ref C) (.type "list") = some false) (q : R (.ok (.ret .notImplemented)) s) :
    wpAny (model prog w) A.in1 (Builtin.«list.__eq__» ⟨[.ref l, .ref x], []⟩) (GQ.FinOf prog w A R) (fun e s' => R (.error e) s') s := by
  unfold Builtin.«list.__eq__»
  show wpAny _ _ (do
    let r ← isInstance (.ref x) (.type "list")
    _) _ _ s
  refine wpAny_bind (ref_isInst X I hsub ?_)
  exact wpAny_pure q
theorem tup_eq_declK (X : K.In s.heap) (I : PySem.W.InstAt s.heap x ox C od) (hsub : PySem.W.subIn K (.ref C) (.type "tuple") = some false) (q : R (.ok (.ret .notImplemented)) s) :
    wpAny (model prog w) A.in1 (Builtin.«tuple.__eq__» ⟨[.ref l, .ref x], []⟩) (GQ.FinOf prog w A R) (fun e s' => R (.error e) s') s := by
  unfold Builtin.«tuple.__eq__»
  show wpAny _ _ (do
    let r ← isInstance (.ref x) (.type "tuple")
    _) _ _ s
  refine wpAny_bind (ref_isInst X I hsub ?_)
  exact wpAny_pure q
theorem dict_eq_declK (X : K.In s.heap) (I : PySem.W.InstAt s.heap x ox C od) (hsub : PySem.W.subIn K (.ref C) (.type "dict") = some false) (q : R (.ok (.ret .notImplemented)) s) :
    wpAny (model prog w) A.in1 (Builtin.«dict.__eq__» ⟨[.ref l, .ref x], []⟩) (GQ.FinOf prog w A R) (fun e s' => R (.error e) s') s := by
  unfold Builtin.«dict.__eq__»
  show wpAny _ _ (do
    let r ← isInstance (.ref x) (.type "dict")
    _) _ _ s
  refine wpAny_bind (ref_isInst X I hsub ?_)
  exact wpAny_bind (wpAny_rule (wpAny_pure q))
end

section
variable {X : Cx} {CX : CXT} {n : Nat} {g : Addr} {fd : FuncData} {ps : List Str} {sp : Sp} {E : XK}
/-- a def run from within a builtin's body -/
theorem run_fnA {A : Around} {pins : List (Addr × Obj)} {σ : L2.St} {H : Hp} {s : Shared} {Q : VK} {us : List Value} {vs : List V} (F : FnOk X.prog X.w X.K X.mg X.base CX n g fd ps sp) (hr : Room n A) (hA : A.frames = X.A.frames) (hb : Binds X.K fd ps []) (hx : Passes CX X E)
    (I : Inv X pins σ H s) (r : Vals vs us) (h : sp vs H Q E) : wpAny (model X.prog X.w) A (call (.ref g) us) (EP X pins σ Q) X.xe s := by
  have e0 : Env0 X.prog X.w X.K X.mg X.base A X.stack s H := by
    have e := I.env0
    exact ⟨hA.trans e.frames, e.mod, e.bs, e.bsz, e.funs, e.frf, e.hok, e.bare⟩
  have hl : us.length = ps.length := r.length.symm.trans (F.len _ _ _ _ h)
  have hbb := hb s us I.kIn (by simpa using hl)
  rw [List.append_nil] at hbb
  refine wpAny_call (codeAny_mono (F.run A X.stack s H ⟨us, []⟩ us vs Q E hr e0 hbb r h) fun r s' hq => ?_)
  cases r with
  | error e => exact hx pins σ H s e s' I hq
  | ok fl =>
    cases fl with
    | ret u => exact I.after hq
    | next => exact False.elim hq
    | brk => exact False.elim hq
    | cont => exact False.elim hq
end

/-- the class at C stands below none of the built-in types met here -/
structure NoSub (K : PySem.W.Frag) (C : Addr) : Prop where
  all : ∀ T ∈ ["int", "bool", "str", "NoneType", "list", "tuple", "dict"], PySem.W.subIn K (.ref C) (.type T) = some false
/-- values of the built-in kinds whose == declines an own instance -/
inductive Dec (H : Hp) : V → String → Prop where
  | non : Dec H .non "NoneType"
  | bl (b : Bool) : Dec H (.bl b) "bool"
  | int (i : Int) : Dec H (.int i) "int"
  | str (x : Str) : Dec H (.str x) "str"
  | lst {a : Addr} {xs : List V} (e : H a = some (.lst xs)) : Dec H (.ref a) "list"
  | tup {a : Addr} {xs : List V} (e : H a = some (.tup xs)) : Dec H (.ref a) "tuple"
  | dK {a : Addr} {kvs : List (Key × V)} (e : H a = some (.dK kvs)) : Dec H (.ref a) "dict"
theorem Dec.mem {H : Hp} {x : V} {T : String} (d : Dec H x T) : T ∈ ["int", "bool", "str", "NoneType", "list", "tuple", "dict"] := by
  cases d <;> simp
theorem Dec.typ {K : PySem.W.Frag} {H : Hp} {x : V} {T : String} (d : Dec H x T) : TyX K H x (.type T) := by
  cases d with
  | non => exact .base .non
  | bl b => exact .base (.bl b)
  | int i => exact .base (.int i)
  | str y => exact .base (.str y)
  | lst e => exact .base (.lst e)
  | tup e => exact .base (.tup e)
  | dK e => exact .base (.dK e)
section
variable {X : Cx} {CX : CXT} {n : Nat} {C g : Addr} {fd : FuncData} {ps : List Str} {sp : Sp} {E : XK}
theorem dec_try {pins : List (Addr × Obj)} {σ : L2.St} {H : Hp} {s : Shared} {x : V} {v : Value} {T : String} {a dx : Addr} {od : Option Obj} (I : Inv X pins σ H s) (r : RelV x v) (d : Dec H x T)
    (J : PySem.W.InstAt s.heap a (PySem.W.instObj C dx) C od) (hsub : PySem.W.subIn X.K (.ref C) (.type T) = some false) {A : Around} {E : Value → Shared → Prop} {R : Option Value → Shared → Prop} (q : R none s) :
    wpAny (model X.prog X.w) A (tryCompare v "__eq__" (.ref a)) R E s := by
  cases d with
  | non =>
    cases (show v = Value.none from r)
    exact wpAny_tryCompare_declines (T := "NoneType") rfl F.slot_NoneType_eq (call_gives F.slot_NoneType_eq rfl F.entry_NoneType_eq (F.args_NoneType_eq_2 _ _) (NoneType___eq___none_ref_0 a) ⟨rfl, q⟩)
  | bl b =>
    cases (show v = Value.bool b from r)
    exact wpAny_tryCompare_declines (T := "bool") rfl F.slot_bool_eq (call_meets F.slot_bool_eq rfl F.entry_int_eq (F.args_int_eq_2 _ _) (bool_eq_decl b a C dx) ⟨J.at_, rfl, q⟩)
  | int i =>
    obtain ⟨t, e⟩ := (show ∃ t, v = Value.int i t from r)
    cases e
    exact wpAny_tryCompare_declines (typeIs_int s i t) F.slot_int_eq (call_meets F.slot_int_eq (typeIs_int s i t) F.entry_int_eq (F.args_int_eq_2 _ _) (int_eq_decl i t a C dx) ⟨J.at_, rfl, q⟩)
  | str y =>
    obtain ⟨t, e⟩ := (show ∃ t, v = Value.str y t from r)
    cases e
    exact wpAny_tryCompare_declines (typeIs_str s y t) F.slot_str_eq (call_meets F.slot_str_eq (typeIs_str s y t) F.entry_str_eq (F.args_str_eq_2 _ _) (str_eq_decl y t a C dx) ⟨J.at_, rfl, q⟩)
  | @lst b xs e =>
    cases (show v = Value.ref b from r)
    obtain ⟨_, its, k, _, h1⟩ := (show ObjOk X.prog X.w H s.heap b (.lst xs) from I.hok b _ e)
    exact wpAny_tryCompare_declines ⟨_, h1, rfl⟩ F.slot_list_eq (GQ.call_here F.slot_list_eq ⟨_, h1, rfl⟩ F.entry_list_eq (F.args_list_eq_2 _ _) (list_eq_declK I.kIn J hsub ⟨rfl, q⟩))
  | @tup b xs e =>
    cases (show v = Value.ref b from r)
    obtain ⟨_, its, _, o, h1, h2, _⟩ := (show ObjOk X.prog X.w H s.heap b (.tup xs) from I.hok b _ e)
    exact wpAny_tryCompare_declines ⟨_, h1, h2⟩ F.slot_tuple_eq (GQ.call_here F.slot_tuple_eq ⟨_, h1, h2⟩ F.entry_tuple_eq (F.args_tuple_eq_2 _ _) (tup_eq_declK I.kIn J hsub ⟨rfl, q⟩))
  | @dK b kvs e =>
    cases (show v = Value.ref b from r)
    obtain ⟨_, _, vs, _, o, es, ep, h1, h2, _⟩ := (show ObjOk X.prog X.w H s.heap b (.dK kvs) from I.hok b _ e)
    exact wpAny_tryCompare_declines ⟨_, h1, h2.1⟩ F.slot_dict_eq (GQ.call_here F.slot_dict_eq ⟨_, h1, h2.1⟩ F.entry_dict_eq (F.args_dict_eq_2 _ _) (dict_eq_declK I.kIn J hsub ⟨rfl, q⟩))
theorem dec_one {H : Hp} {x : V} {v : Value} {T : String} (r : RelV x v) (d : Dec H x T) (op : CmpOp) (u : Value) : oneThing? op v u = none := by
  cases d with
  | non => cases (show v = Value.none from r); rfl
  | bl b => cases (show v = Value.bool b from r); rfl
  | int i => obtain ⟨t, e⟩ := (show ∃ t, v = Value.int i t from r); cases e; rfl
  | str y => obtain ⟨t, e⟩ := (show ∃ t, v = Value.str y t from r); cases e; rfl
  | @lst b xs e => cases (show v = Value.ref b from r); rfl
  | @tup b xs e => cases (show v = Value.ref b from r); rfl
  | @dK b xs e => cases (show v = Value.ref b from r); rfl

/-- x == y, x of a built-in kind, y an instance of the class at C with its own == at g -/
def rOwnR (C : Addr) (sp : Sp) (E : XK) : R2 := fun x y H Q => ∃ T a dx fs, y = .ref a ∧ H a = some (.ins C dx fs) ∧ Dec H x T ∧ sp [y, x] H Q E
theorem op_ownR (hs : PySem.W.findIn X.K (.ref C) "__eq__" = some (some (.ref g))) (hf : PySem.W.isFn X.K (.ref g) = true) (hN : NoSub X.K C)
    (F : FnOk X.prog X.w X.K X.mg X.base CX n g fd ps sp) (hb : Binds X.K fd ps []) (hr : Room n X.A) (hx : Passes CX X E) : OpR X (compareOp .Eq) (rOwnR C sp E) := by
  intro pins s σ H x y v u Q I rx ry h
  obtain ⟨T, a, dx, fs, rfl, ha, d, q⟩ := h
  cases (show u = Value.ref a from ry)
  obtain ⟨od, J⟩ := inst_of I ha
  obtain ⟨P, kt, hP, _⟩ := kit_of I rx d.typ
  have hsub := hN.all T d.mem
  show wpAny (model X.prog X.w) X.A (richCompare .Eq v (.ref a)) (EP X pins σ Q) X.xe s
  refine cmp_KR (op := .Eq) (T := T) hr.units0 (dec_one rx d _ _) (kt.ty _ _ I.kIn hP) I.kIn J hsub (fun E R hR => dec_try I rx d J hsub hR) ?_
  unfold tryCompare
  refine wpAny_bind (PySem.W.ifBound_K I.kIn J hs hf ?_)
  refine wpAny_mono (run_fn (us := [.ref a, v]) (vs := [.ref a, x]) (dvs := []) (ds := []) F hr hb .nil hx I (.cons rfl (.cons rx .nil)) (by simpa using q)) (fun w s' z => ?_) fun _ _ x => x
  obtain ⟨z', H', I', rz, qz⟩ := z
  have cb : PySem.W.CmpBack (fun w s' => EP X pins σ Q w s') w s' := SlX.cmpback rz ⟨z', H', I', rz, qz⟩
  cases w <;> first | exact cb.elim | exact wpAny_pure ⟨_, rfl, cb⟩

/-- what the own == gives, for != -/
def neQ (Q : VK) : VK := fun z H' => ∃ k, z = .bl k ∧ Q (.bl (!k)) H'
/-- x != y by the own == of x, an instance -/
def rOwnNeL (K : PySem.W.Frag) (C : Addr) (sp : Sp) (E : XK) : R2 := fun x y H Q => ∃ a dx fs tb, x = .ref a ∧ H a = some (.ins C dx fs) ∧ TyX K H y tb ∧ PySem.W.notFirst K C tb = true ∧ sp [x, y] H (neQ Q) E
theorem op_ownNeL (hne : PySem.W.findIn X.K (.ref C) "__ne__" = some (some (.builtin "object.__ne__"))) (hm : PySem.W.mroIn X.K C (.type "object") = some true)
    (hs : PySem.W.findIn X.K (.ref C) "__eq__" = some (some (.ref g))) (hf : PySem.W.isFn X.K (.ref g) = true)
    (F : FnOk X.prog X.w X.K X.mg X.base CX n g fd ps sp) (hb : Binds X.K fd ps []) (hr : Room (n + 1) X.A) (hx : Passes CX X E) : OpR X (compareOp .NotEq) (rOwnNeL X.K C sp E) := by
  intro pins s σ H x y v u Q I rx ry h
  obtain ⟨a, dx, fs, tb, rfl, ha, ty, hn, q⟩ := h
  cases (show v = Value.ref a from rx)
  obtain ⟨od, J⟩ := inst_of I ha
  obtain ⟨P, kt, hP, _⟩ := kit_of I ry ty
  show wpAny (model X.prog X.w) X.A (richCompare .NotEq (.ref a) u) (EP X pins σ Q) X.xe s
  refine ne_K (tb := tb) hr.in1.units0 I.kIn J (kt.ty _ _ I.kIn hP) hn hne hm hs hf ?_
  refine wpAny_mono (run_fnA (us := [.ref a, u]) (vs := [.ref a, y]) F hr.in1 rfl hb hx I (.cons rfl (.cons ry .nil)) q) (fun w s' z => ?_) fun _ _ x => x
  obtain ⟨z', H', I', rz, qz⟩ := z
  obtain ⟨k, ez, qz⟩ := qz
  subst ez
  cases (show w = Value.bool _ from rz)
  exact ⟨_, rfl, .bl _, H', I', rfl, qz⟩

/-- i != y, i an int, y an instance of the class at C -/
def rOwnNeR (C : Addr) (sp : Sp) (E : XK) : R2 := fun x y H Q => ∃ i a dx fs, x = .int i ∧ y = .ref a ∧ H a = some (.ins C dx fs) ∧ sp [y, x] H (neQ Q) E
theorem op_ownNeR (hne : PySem.W.findIn X.K (.ref C) "__ne__" = some (some (.builtin "object.__ne__"))) (hm : PySem.W.mroIn X.K C (.type "object") = some true)
    (hs : PySem.W.findIn X.K (.ref C) "__eq__" = some (some (.ref g))) (hf : PySem.W.isFn X.K (.ref g) = true) (hN : NoSub X.K C)
    (F : FnOk X.prog X.w X.K X.mg X.base CX n g fd ps sp) (hb : Binds X.K fd ps []) (hr : Room (n + 1) X.A) (hx : Passes CX X E) : OpR X (compareOp .NotEq) (rOwnNeR C sp E) := by
  intro pins s σ H x y v u Q I rx ry h
  obtain ⟨i, a, dx, fs, rfl, rfl, ha, q⟩ := h
  cases (show u = Value.ref a from ry)
  obtain ⟨t, e⟩ := (show ∃ t, v = Value.int i t from rx)
  cases e
  obtain ⟨od, J⟩ := inst_of I ha
  show wpAny (model X.prog X.w) X.A (richCompare .NotEq (.int i t) (.ref a)) (EP X pins σ Q) X.xe s
  refine cmp_KR (op := .NotEq) (T := "int") hr.units0 rfl (PySem.W.Looks.of_pure rfl) I.kIn J (hN.all _ (by simp)) (fun E R hR => ?_) ?_
  · exact wpAny_tryCompare_declines (typeIs_int s i t) PySem.F.slot_int_ne (call_meets PySem.F.slot_int_ne (typeIs_int s i t) PySem.F.entry_int_ne (PySem.F.args_int_ne_2 _ _) (int_ne_decl i t a C _) ⟨J.at_, rfl, hR⟩)
  · unfold tryCompare
    refine wpAny_bind (ifBound_B I.kIn J hne PySem.F.cmp_object.ne.bind (objNe_own hr.in1.units0 I.kIn J hm hs hf ?_))
    refine wpAny_mono (run_fnA (us := [.ref a, .int i t]) (vs := [.ref a, .int i]) F hr.in1 rfl hb hx I (.cons rfl (.cons rx .nil)) q) (fun w s' z => ?_) fun _ _ x => x
    obtain ⟨z', H', I', rz, qz⟩ := z
    obtain ⟨k, ez, qz⟩ := qz
    subst ez
    cases (show w = Value.bool _ from rz)
    exact ⟨k, rfl, wpAny_pure ⟨_, rfl, .bl _, H', I', rfl, qz⟩⟩

/-- str(x), repr(x), bool(x) of an instance by its own defs -/
def rOwnStr (C : Addr) (sp : Sp) (E : XK) : List V → Hp → VK → Prop := fun xs H Q => ∃ a dx fs, xs = [V.ref a] ∧ H a = some (.ins C dx fs) ∧ sp [.ref a] H (fun z H' => ∃ y, z = .str y ∧ Q z H') E
theorem call_reprOwn (hs : PySem.W.findIn X.K (.ref C) "__repr__" = some (some (.ref g))) (hf : PySem.W.isFn X.K (.ref g) = true)
    (F : FnOk X.prog X.w X.K X.mg X.base CX n g fd ps sp) (hb : Binds X.K fd ps []) (hr : Room (n + 1) X.A) (hx : Passes CX X E) : CallR X (.builtin "repr") (rOwnStr C sp E) := by
  intro pins s σ H xs us Q I r h
  obtain ⟨a, dx, fs, rfl, ha, q⟩ := h
  obtain ⟨u, rfl, ru⟩ := r.one
  cases (show u = Value.ref a from ru)
  obtain ⟨od, J⟩ := inst_of I ha
  obtain ⟨m, hF⟩ := I.fr
  refine PySem.W.repr_K hr.in1.units0 hF I.ok.mod.kin J hs hf ?_
  refine wpAny_mono (run_fnA (us := [.ref a]) (vs := [.ref a]) F hr.in1 rfl hb hx I (.cons rfl .nil) q) (fun w s' z => ?_) fun _ _ x => x
  obtain ⟨z', H', I', rz, qz⟩ := z
  obtain ⟨y, ez, qz⟩ := qz
  subst ez
  obtain ⟨t, e⟩ := (show ∃ t, w = Value.str y t from rz)
  cases e
  exact ⟨.str y, H', I', ⟨t, rfl⟩, qz⟩
end
end SF

namespace SFx
open PySem PySem.Spec PyProof.Rows
section
variable {prog : Program} {w : World} {A : Around} {E : Value → Shared → Prop} {s : Shared} {K : PySem.W.Frag} {x C f : Addr} {ox : Obj} {od : Option Obj}
open Builtin Builtin.Str in
/-- str(x) by an own __str__ -/
theorem str_own {Q : Value → Shared → Prop} (hu : A.in1.in1.units < cLine) (X : K.In s.heap) (I : PySem.W.InstAt s.heap x ox C od) (hs : PySem.W.findIn K (.ref C) "__str__" = some (some (.ref f)))
    (hf : PySem.W.isFn K (.ref f) = true) (h : wpAny (model prog w) A.in1.in1 (call (.ref f) [.ref x]) (PySem.W.StrBack Q) E s) : wpAny (model prog w) A (call (.type "str") [.ref x]) Q E s := by
  refine callType_codes (T := "str") (Bi := Builtin.«object.__init__») (Q₁ := fun r s₁ => ∃ y u, r = .str y u ∧ Q r s₁) PySem.F.called_str (PySem.F.typeCall_str_1 _) PySem.F.entry_object_init ?_ ?_
  · refine codeAny_of_tree ?_
    show wpAny _ A.in1.in1 (do checkBuiltinCall "str.__new__" ⟨[.type "str", .ref x], []⟩; again (.builtin "str.__new__" ⟨[.type "str", .ref x], []⟩)) _ _ s
    refine wpAny_bind (wpAny_of_eq (PySem.F.newCall_str_1 _) (wpAny_pure ⟨plainId_quiet (by decide +kernel) _, codeAny_builtin PySem.F.entry_str_new ?_⟩))
    rw [Around.under_plainId (by decide +kernel) _]
    rw [str_new_tree]
    refine wpAny_bind (wpAny_pure ?_)
    refine wpAny_bind (wpAny_of_eq isSubtype_str_str ?_)
    have key : wpAny (model prog w) A.in1.in1 (PySem.Builtin.Str.strOf (.ref x)) (fun r s₁ => ∃ y u, r = .str y u ∧ Q r s₁) E s := by
      unfold PySem.Builtin.Str.strOf
      rw [show isExactStr (.ref x) = false from rfl]
      refine wpAny_bind (m := cRoomFor _ _) (wpAny_cRoomFor hu ?_)
      refine wpAny_bind (m := callSpecial? (.ref x) (Str.ofString "__str__")) (PySem.W.special_fn X I hs (beq_iff_eq.mp hf) (wpAny_mono h (fun r s' z => ?_) fun _ _ y => y))
      cases r <;> first | exact z.elim | exact wpAny_pure ⟨_, _, rfl, z⟩
    exact wpAny_bind (wpAny_mono key (fun r s₁ hr => wpAny_pure hr) fun _ _ y => y)
  · rintro obj s₁ ⟨y, u, rfl, hq⟩
    exact ⟨typeIs_str _ _ _, PySem.F.args_object_init_2 _ _, object_init_meets PySem.F.called_str.init.lookup PySem.F.called_str.made (by decide) prog w A.in1 _ s₁ ⟨typeIs_str _ _ _, rfl, hq⟩⟩

theorem meets_bool_own : MeetsIn prog w (Builtin.«bool.__new__» ⟨[.type "bool", .ref x], []⟩)
    (fun A R s => wpAny (model prog w) A.in1 (truthy (.ref x)) (fun b s' => R (.ok (.ret (.bool b))) s') (fun e s' => R (.error e) s') s) :=
  MeetsIn.of_wp fun A R s hs => by
    have f1 := PySem.F.conv_sub_bool
    have hs' : wpAny (model prog w) A.in1 (truthy (.ref x)) (fun b s' => wpAny (model prog w) A.in1 (ret (.bool b)) (fun fin s' => ∃ v, fin = .done (.ret v) ∧ R (.ok (.ret v)) s') (fun e s' => R (.error e) s') s') (fun e s' => R (.error e) s') s :=
      wpAny_mono hs (fun b s' q => wpAny_pure ⟨_, rfl, q⟩) fun _ _ e => e
    unfold Builtin.«bool.__new__»
    repeat (any_goals (first | assumption | exact wpAny_bind hs' | (with_reducible refine wpAny_bind hs' ) | wp_step))
theorem bool_own {Q : Value → Shared → Prop} (h : wpAny (model prog w) A.in1.in1 (truthy (.ref x)) (fun b s' => Q (.bool b) s') E s) : wpAny (model prog w) A (call (.type "bool") [.ref x]) Q E s :=
  callType_newIn PySem.F.called_bool PySem.F.newNe_bool (PySem.F.typeCall_bool_1 _) (PySem.F.newCall_bool_1 _) (fun obj => PySem.F.args_object_init_2 obj _) PySem.F.entry_bool_new meets_bool_own
    (wpAny_mono h (fun b s' q => ⟨rfl, q⟩) fun _ _ e => e)
end
end SFx
namespace SF
open PySem PySem.Spec PyProof.Rows L2
section
variable {X : Cx} {CX : CXT} {n : Nat} {C g : Addr} {fd : FuncData} {ps : List Str} {sp : Sp} {E : XK}
theorem call_strOwn (hs : PySem.W.findIn X.K (.ref C) "__str__" = some (some (.ref g))) (hf : PySem.W.isFn X.K (.ref g) = true)
    (F : FnOk X.prog X.w X.K X.mg X.base CX n g fd ps sp) (hb : Binds X.K fd ps []) (hr : Room (n + 2) X.A) (hx : Passes CX X E) : CallR X (.type "str") (rOwnStr C sp E) := by
  intro pins s σ H xs us Q I r h
  obtain ⟨a, dx, fs, rfl, ha, q⟩ := h
  obtain ⟨u, rfl, ru⟩ := r.one
  cases (show u = Value.ref a from ru)
  obtain ⟨od, J⟩ := inst_of I ha
  have hr2 : Room n X.A.in1.in1 := (show Room (n + 1) X.A.in1 from Room.in1 hr).in1
  refine SFx.str_own hr2.units0 I.kIn J hs hf ?_
  refine wpAny_mono (run_fnA (us := [.ref a]) (vs := [.ref a]) F hr2 rfl hb hx I (.cons rfl .nil) q) (fun w s' z => ?_) fun _ _ x => x
  obtain ⟨z', H', I', rz, qz⟩ := z
  obtain ⟨y, ez, qz⟩ := qz
  subst ez
  obtain ⟨t, e⟩ := (show ∃ t, w = Value.str y t from rz)
  cases e
  exact ⟨.str y, H', I', ⟨t, rfl⟩, qz⟩
def rOwnBool (C : Addr) (sp : Sp) (E : XK) : List V → Hp → VK → Prop := fun xs H Q => ∃ a dx fs, xs = [V.ref a] ∧ H a = some (.ins C dx fs) ∧ sp [.ref a] H (fun z H' => ∃ k, z = .bl k ∧ Q (.bl k) H') E
theorem call_boolOwn (hs : PySem.W.findIn X.K (.ref C) "__bool__" = some (some (.ref g))) (hf : PySem.W.isFn X.K (.ref g) = true)
    (F : FnOk X.prog X.w X.K X.mg X.base CX n g fd ps sp) (hb : Binds X.K fd ps []) (hr : Room (n + 2) X.A) (hx : Passes CX X E) : CallR X (.type "bool") (rOwnBool C sp E) := by
  intro pins s σ H xs us Q I r h
  obtain ⟨a, dx, fs, rfl, ha, q⟩ := h
  obtain ⟨u, rfl, ru⟩ := r.one
  cases (show u = Value.ref a from ru)
  obtain ⟨od, J⟩ := inst_of I ha
  obtain ⟨m, hF⟩ := I.fr
  have hr2 : Room n X.A.in1.in1 := (show Room (n + 1) X.A.in1 from Room.in1 hr).in1
  refine SFx.bool_own (PySem.W.truthy_K hF I.ok.mod.kin J hs hf ?_)
  refine wpAny_mono (run_fnA (us := [.ref a]) (vs := [.ref a]) F hr2 rfl hb hx I (.cons rfl .nil) q) (fun w s' z => ?_) fun _ _ x => x
  obtain ⟨z', H', I', rz, qz⟩ := z
  obtain ⟨k, ez, qz⟩ := qz
  subst ez
  cases (show w = Value.bool k from rz)
  exact ⟨.bl k, H', I', rfl, qz⟩
end

/-! ### repr of a list of flat things -/
def flatD : V → Option PyData
  | .non => some .none
  | .bl b => some (.bool b)
  | .int i => if i.natAbs.log2 < 1920 then some (.int i) else none
  | .str x => some (.str x)
  | _ => none
def flatDs : List V → Option (List PyData)
  | [] => some []
  | x :: xs => match flatD x, flatDs xs with
    | some d, some ds => some (d :: ds)
    | _, _ => none
theorem flat_reads {h : Heap} {x : V} {v : Value} {d : PyData} (r : RelV x v) (e : flatD x = some d) : Reads h v d [] ∧ d.showable = true ∧ d.depth = 0 ∧ d.hasDict = false := by
  cases x with
  | non => cases e; cases (show v = Value.none from r); exact ⟨.none, rfl, rfl, rfl⟩
  | bl b => cases e; cases (show v = Value.bool b from r); exact ⟨.bool b, rfl, rfl, rfl⟩
  | int i =>
    obtain ⟨t, rfl⟩ := (show ∃ t, v = Value.int i t from r)
    have e' : (if i.natAbs.log2 < 1920 then some (PyData.int i) else none) = some d := e
    by_cases hi : i.natAbs.log2 < 1920
    · rw [if_pos hi] at e'
      cases e'
      exact ⟨.int i t, by simp [PyData.showable, hi], rfl, rfl⟩
    · rw [if_neg hi] at e'
      cases e'
  | str y =>
    obtain ⟨t, rfl⟩ := (show ∃ t, v = Value.str y t from r)
    cases e
    exact ⟨.str y t, rfl, rfl, rfl⟩
  | byt _ => cases e
  | flt _ => cases e
  | ref _ => cases e
  | ty _ => cases e
theorem flats_reads {h : Heap} : ∀ {xs : List V} {vs : List Value} {ds : List PyData}, Vals xs vs → flatDs xs = some ds → ReadsAll h vs ds [] ∧ PyData.showableAll ds = true ∧ PyData.depthAll ds = 0 ∧ PyData.hasDictAll ds = false
  | _, _, _, .nil, e => by cases e; exact ⟨.nil, rfl, rfl, rfl⟩
  | _, _, _, .cons r t, e => by
    unfold flatDs at e
    split at e
    · rename_i d ds h1 h2
      cases e
      obtain ⟨a1, a2, a3, a4⟩ := flat_reads (h := h) r h1
      obtain ⟨b1, b2, b3, b4⟩ := flats_reads t h2
      exact ⟨.cons a1 b1, by simp [PyData.showableAll, a2, b2], by simp [PyData.depthAll, a3, b3], by simp [PyData.hasDictAll, a4, b4]⟩
    · cases e
section
variable {X : Cx}
def rReprL : List V → Hp → VK → Prop := fun xs H Q => ∃ a zs ds, xs = [V.ref a] ∧ H a = some (.lst zs) ∧ flatDs zs = some ds ∧ (PyData.list ds).shown.length ≤ sizeLine ∧ Q (.str (PyData.list ds).shown) H
theorem call_reprL {k : Nat} (hg : X.A.guards = some []) (hr : Room k X.A) : CallR X (.builtin "repr") rReprL := by
  intro pins s σ H xs us Q I r h
  obtain ⟨a, zs, ds, rfl, ha, hd, hz, q⟩ := h
  obtain ⟨u, rfl, ru⟩ := r.one
  cases (show u = Value.ref a from ru)
  obtain ⟨_, its, n, rv, h1⟩ := (show ObjOk X.prog X.w H s.heap a (.lst zs) from I.hok a _ ha)
  obtain ⟨b1, b2, b3, b4⟩ := flats_reads (h := s.heap) rv hd
  have R : Reads s.heap (.ref a) (.list ds) [a] := .list (as := []) h1 rfl rfl (by simpa using b1)
  refine repr_of_reads' R (by simpa [PyData.showable] using b2) (PyData.noDict_hsm (by simpa [PyData.hasDict] using b4)) hg (by have := hr.un; simp only [PyData.depth, b3]; omega) (fun _ _ e => e) (fun h' u tk hk => ?_) hz
  exact ⟨.str _, H, I.kept hk, ⟨u, rfl⟩, q⟩
end
end SF

/-! Operators of own instances: left, right (reflected), both; minus, abs(), +=. -/
namespace SF
open PySem PySem.Spec PyProof.Rows L2
open AutoSeq1 (wpAny_loadPart')
section
variable {prog : Program} {w : World} {A : Around} {E : Value → Shared → Prop} {s : Shared} {K : PySem.W.Frag} {x C f : Addr} {ox : Obj} {od : Option Obj}
/-- what stands in the text for a class whose op is its own def -/
structure OwnOp (K : PySem.W.Frag) (C : Addr) (op : Operator) (f : Addr) : Prop where
  sf : PySem.W.selfFirst K C = true
  hs : PySem.W.findIn K (.ref C) (PySem.dunder op.info.2) = some (some (.ref f))
  hf : PySem.W.isFn K (.ref f) = true
  hr : ∃ rc, PySem.W.findIn K (.ref C) (dunderR op.info.2) = some rc ∧ (rc = none ∨ ∃ g : Addr, rc = some (.ref g))
  h1 : ∃ fo, PySem.W.findIn K (.type "int") (PySem.dunder op.info.2) = some fo
  h2 : ∃ ro, PySem.W.findIn K (.type "int") (dunderR op.info.2) = some ro
  hsub : PySem.W.subIn K (.type "int") (.ref C) = some false
/-- .. and whose reflected op is, too -/
structure OwnOpR (K : PySem.W.Frag) (C : Addr) (op : Operator) (f g : Addr) : Prop where
  sf : PySem.W.selfFirst K C = true
  hs : PySem.W.findIn K (.ref C) (PySem.dunder op.info.2) = some (some (.ref f))
  hr : PySem.W.findIn K (.ref C) (dunderR op.info.2) = some (some (.ref g))
  hg : PySem.W.isFn K (.ref g) = true
  hsub : PySem.W.subIn K (.ref C) (.type "int") = some false
/-- how int's own def for op declines an instance -/
structure IntNo (op : Operator) (idl : String) : Prop where
  fills : fillsNumberSlot (.type "int") op.info.2 = pure true
  slot : Slot "int" (PySem.dunder op.info.2) idl
  no : ∀ (prog : Program) (w : World) (A : Around) (s : Shared) (i : Int) (t : Tok) (x C dx : Addr) (R : Value → Shared → Prop) (E : Value → Shared → Prop), s.heap.get? x = some (PySem.W.instObj C dx) → R .notImplemented s →
    wpAny (model prog w) A (call (.builtin idl) [.int i t, .ref x]) R E s
theorem binop_KR {op : Operator} {idl : String} {i : Int} {t : Tok} {g dx : Addr} {Q : Value → Shared → Prop} (N : IntNo op idl) (O : OwnOpR K C op f g) (X : K.In s.heap) (I : PySem.W.InstAt s.heap x (PySem.W.instObj C dx) C od)
    (h : wpAny (model prog w) A (call (.ref g) [.ref x, .int i t]) (PySem.W.CmpBack Q) E s) : wpAny (model prog w) A (binaryOp op (.int i t) (.ref x)) Q E s := by
  obtain ⟨cd, rest, hcd, hm⟩ := PySem.W.ksp_first O.sf
  have hN1 := N.fills
  have hN2 := N.slot
  have hs := O.hs
  have hr := O.hr
  rcases hi : op.info with ⟨sym, nm'⟩
  rw [hi] at hs hr hN1 hN2
  dsimp only at hs hr hN1 hN2
  have one := PySem.W.ksp_try X I hr O.hg h
  have hne : (Value.type "int" == Value.ref C) = false := Bool.eq_false_iff.mpr fun q => by cases beq_iff_eq.mp q
  simp only [binaryOp, hi]
  refine wpAny_holding (wpAny_bind ?_)
  unfold binaryOp1
  refine wpAny_bind (wpAny_typeOf (typeIs_int s i t) (wpAny_bind (I.type.here (wpAny_bind (wpAny_of_eq hN1 ?_)))))
  simp only [hne, Bool.false_eq_true, if_false]
  refine wpAny_bind ((PySem.W.fills_K X hcd hm hs).here ?_)
  simp only [Bool.and_self, if_true]
  refine wpAny_bind ((PySem.W.looks_subIn X O.hsub).here ?_)
  have hpy : numberSlotInPython (.type "int") nm' = pure false := rfl
  simp only [Bool.false_eq_true, if_false, pure_bind, Bool.not_false, Bool.and_self, if_true, hpy]
  refine wpAny_bind (wpAny_tryMethod_declines (typeIs_int s i t) hN2 (N.no prog w A s i t x C dx _ _ I.at_ ⟨rfl, ?_⟩))
  refine wpAny_bind (wpAny_mono one (fun r s' z => ?_) fun _ _ e => e)
  obtain ⟨v, rfl, hq⟩ := z
  exact wpAny_bind (wpAny_rule (wpAny_pure (wpAny_pure hq)))

theorem noI_inplace {op : Operator} {b : Value} {Q : Value → Shared → Prop} (X : K.In s.heap) (I : PySem.W.InstAt s.heap x ox C od) (hno : PySem.W.Looks (model prog w) s.heap (fillsInplaceSlot (.ref C) op.info.2 (op == .Add)) false)
    (h : wpAny (model prog w) A (binaryOp1 op.info.2 (.ref x) b) (fun r s' => ∃ v, r = some v ∧ Q v s') E s) : wpAny (model prog w) A (inplaceOp op (.ref x) b) Q E s := by
  unfold inplaceOp
  refine wpAny_holding ?_
  refine wpAny_bind (I.type.here ?_)
  refine wpAny_bind (hno.here ?_)
  simp only [Bool.false_eq_true, if_false]
  refine wpAny_bind (wpAny_mono h (fun r s' z => ?_) fun _ _ e => e)
  obtain ⟨v, rfl, hq⟩ := z
  exact wpAny_pure hq
end

section
open PyProof.Rows
theorem dec_add (b : Int) (u : Tok) (l C dx : Addr) : Meets (Builtin.«int.__add__» ⟨[.int b u, .ref l], []⟩) (fun _ R s => s.heap.get? l = some (PySem.W.instObj C dx) ∧ R (.ok (.ret .notImplemented)) s) :=
  .of_wp fun prog w A R s h => by obtain ⟨hp, g, d, tk, os⟩ := s; obtain ⟨hl, h⟩ := h; wp_walk using wpAny_loadPart' hl, wpAny_load hl; exact ⟨_, rfl, h⟩
theorem dec_sub (b : Int) (u : Tok) (l C dx : Addr) : Meets (Builtin.«int.__sub__» ⟨[.int b u, .ref l], []⟩) (fun _ R s => s.heap.get? l = some (PySem.W.instObj C dx) ∧ R (.ok (.ret .notImplemented)) s) :=
  .of_wp fun prog w A R s h => by obtain ⟨hp, g, d, tk, os⟩ := s; obtain ⟨hl, h⟩ := h; wp_walk using wpAny_loadPart' hl, wpAny_load hl; exact ⟨_, rfl, h⟩
theorem dec_mul (b : Int) (u : Tok) (l C dx : Addr) : Meets (Builtin.«int.__mul__» ⟨[.int b u, .ref l], []⟩) (fun _ R s => s.heap.get? l = some (PySem.W.instObj C dx) ∧ R (.ok (.ret .notImplemented)) s) :=
  .of_wp fun prog w A R s h => by obtain ⟨hp, g, d, tk, os⟩ := s; obtain ⟨hl, h⟩ := h; wp_walk using wpAny_loadPart' hl, wpAny_load hl; exact ⟨_, rfl, h⟩
theorem dec_fdiv (b : Int) (u : Tok) (l C dx : Addr) : Meets (Builtin.«int.__floordiv__» ⟨[.int b u, .ref l], []⟩) (fun _ R s => s.heap.get? l = some (PySem.W.instObj C dx) ∧ R (.ok (.ret .notImplemented)) s) :=
  .of_wp fun prog w A R s h => by obtain ⟨hp, g, d, tk, os⟩ := s; obtain ⟨hl, h⟩ := h; wp_walk using wpAny_loadPart' hl, wpAny_load hl; exact ⟨_, rfl, h⟩
theorem dec_mod (b : Int) (u : Tok) (l C dx : Addr) : Meets (Builtin.«int.__mod__» ⟨[.int b u, .ref l], []⟩) (fun _ R s => s.heap.get? l = some (PySem.W.instObj C dx) ∧ R (.ok (.ret .notImplemented)) s) :=
  .of_wp fun prog w A R s h => by obtain ⟨hp, g, d, tk, os⟩ := s; obtain ⟨hl, h⟩ := h; wp_walk using wpAny_loadPart' hl, wpAny_load hl; exact ⟨_, rfl, h⟩
theorem no_add : IntNo .Add "int.__add__" := ⟨F.fills_int_add, F.slot_int_add, fun prog w A s i t x C dx R E hx q => call_meets F.slot_int_add (typeIs_int s i t) F.entry_int_add (F.args_int_add_2 _ _) (dec_add i t x C dx) ⟨hx, q⟩⟩
theorem no_sub : IntNo .Sub "int.__sub__" := ⟨F.fills_int_sub, F.slot_int_sub, fun prog w A s i t x C dx R E hx q => call_meets F.slot_int_sub (typeIs_int s i t) F.entry_int_sub (F.args_int_sub_2 _ _) (dec_sub i t x C dx) ⟨hx, q⟩⟩
theorem no_mul : IntNo .Mult "int.__mul__" := ⟨F.fills_int_mul, F.slot_int_mul, fun prog w A s i t x C dx R E hx q => call_meets F.slot_int_mul (typeIs_int s i t) F.entry_int_mul (F.args_int_mul_2 _ _) (dec_mul i t x C dx) ⟨hx, q⟩⟩
theorem no_fdiv : IntNo .FloorDiv "int.__floordiv__" := ⟨F.fills_int_floordiv, F.slot_int_floordiv, fun prog w A s i t x C dx R E hx q => call_meets F.slot_int_floordiv (typeIs_int s i t) F.entry_int_floordiv (F.args_int_floordiv_2 _ _) (dec_fdiv i t x C dx) ⟨hx, q⟩⟩
theorem no_mod : IntNo .Mod "int.__mod__" := ⟨F.fills_int_mod, F.slot_int_mod, fun prog w A s i t x C dx R E hx q => call_meets F.slot_int_mod (typeIs_int s i t) F.entry_int_mod (F.args_int_mod_2 _ _) (dec_mod i t x C dx) ⟨hx, q⟩⟩
end

section
variable {X : Cx} {CX : CXT} {n : Nat} {C f g : Addr} {fd : FuncData} {ps : List Str} {sp : Sp} {E : XK}
def IsIns (C : Addr) (H : Hp) (y : V) : Prop := ∃ a dx fs, y = .ref a ∧ H a = some (.ins C dx fs)
/-- x op y by the own def of x's class: y of the same class, or an int -/
def rOB (C : Addr) (sp : Sp) (E : XK) : R2 := fun x y H Q => IsIns C H x ∧ (IsIns C H y ∨ ∃ i, y = .int i) ∧ sp [x, y] H Q E
theorem op_OB {op : Operator} (O : OwnOp X.K C op f) (F : FnOk X.prog X.w X.K X.mg X.base CX n f fd ps sp) (hb : Binds X.K fd ps []) (hr : Room n X.A) (hx : Passes CX X E) : OpR X (binaryOp op) (rOB C sp E) := by
  intro pins s σ H x y v u Q I rx ry h
  obtain ⟨⟨a, dx, fs, rfl, ha⟩, hy, q⟩ := h
  cases (show v = Value.ref a from rx)
  obtain ⟨od, J⟩ := inst_of I ha
  obtain ⟨m, hF⟩ := I.fr
  have run : wpAny (model X.prog X.w) X.A (call (.ref f) [.ref a, u]) (PySem.W.CmpBack (fun w s' => EP X pins σ Q w s')) X.xe s := by
    refine wpAny_mono (run_fn (us := [.ref a, u]) (vs := [.ref a, y]) (dvs := []) (ds := []) F hr hb .nil hx I (.cons rfl (.cons ry .nil)) (by simpa using q)) (fun w s' z => ?_) fun _ _ x => x
    obtain ⟨z', H', I', rz, qz⟩ := z
    exact SlX.cmpback rz ⟨z', H', I', rz, qz⟩
  rcases hy with ⟨b, dy, gs, rfl, hb'⟩ | ⟨i, rfl⟩
  · cases (show u = Value.ref b from ry)
    obtain ⟨od', J'⟩ := inst_of I hb'
    exact PySem.W.binop_K hF I.ok.mod.kin J J'.type O.sf O.hs O.hf run
  · obtain ⟨t, e⟩ := (show ∃ t, u = Value.int i t from ry)
    cases e
    obtain ⟨rc, hrc, hp⟩ := O.hr
    obtain ⟨fo, h1⟩ := O.h1
    obtain ⟨ro, h2⟩ := O.h2
    exact PySem.W.ksp_binT hF I.ok.mod.kin J rfl O.sf O.hs O.hf hrc hp h1 h2 O.hsub run
/-- i op y, i an int, by the reflected def of y's class -/
def rOBR (C : Addr) (sp : Sp) (E : XK) : R2 := fun x y H Q => (∃ i, x = .int i) ∧ IsIns C H y ∧ sp [y, x] H Q E
theorem op_OBR {op : Operator} {idl : String} (N : IntNo op idl) (O : OwnOpR X.K C op f g) (F : FnOk X.prog X.w X.K X.mg X.base CX n g fd ps sp) (hb : Binds X.K fd ps []) (hr : Room n X.A) (hx : Passes CX X E) : OpR X (binaryOp op) (rOBR C sp E) := by
  intro pins s σ H x y v u Q I rx ry h
  obtain ⟨⟨i, rfl⟩, ⟨a, dx, fs, rfl, ha⟩, q⟩ := h
  cases (show u = Value.ref a from ry)
  obtain ⟨t, e⟩ := (show ∃ t, v = Value.int i t from rx)
  cases e
  obtain ⟨od, J⟩ := inst_of I ha
  refine binop_KR N O I.kIn J ?_
  refine wpAny_mono (run_fn (us := [.ref a, .int i t]) (vs := [.ref a, .int i]) (dvs := []) (ds := []) F hr hb .nil hx I (.cons rfl (.cons ⟨t, rfl⟩ .nil)) (by simpa using q)) (fun w s' z => ?_) fun _ _ x => x
  obtain ⟨z', H', I', rz, qz⟩ := z
  exact SlX.cmpback rz ⟨z', H', I', rz, qz⟩
/-- -x by an own __neg__ -/
def rON (C : Addr) (sp : Sp) (E : XK) : V → Hp → VK → Prop := fun x H Q => IsIns C H x ∧ sp [x] H Q E
theorem un_ON (hs : PySem.W.findIn X.K (.ref C) "__neg__" = some (some (.ref f))) (hf : PySem.W.isFn X.K (.ref f) = true) (F : FnOk X.prog X.w X.K X.mg X.base CX n f fd ps sp) (hb : Binds X.K fd ps []) (hr : Room n X.A) (hx : Passes CX X E) :
    UnR X (unaryOp .USub) (rON C sp E) := by
  intro pins s σ H x v Q I rx h
  obtain ⟨⟨a, dx, fs, rfl, ha⟩, q⟩ := h
  cases (show v = Value.ref a from rx)
  obtain ⟨od, J⟩ := inst_of I ha
  obtain ⟨m, hF⟩ := I.fr
  refine PySem.W.ksp_neg hF I.ok.mod.kin J hs hf ?_
  exact run_fn (us := [.ref a]) (vs := [.ref a]) (dvs := []) (ds := []) F hr hb .nil hx I (.cons rfl .nil) (by simpa using q)
/-- abs(x) by an own __abs__ -/
def rOA (C : Addr) (sp : Sp) (E : XK) : List V → Hp → VK → Prop := fun xs H Q => ∃ x, xs = [x] ∧ IsIns C H x ∧ sp [x] H Q E
theorem call_absOwn (hs : PySem.W.findIn X.K (.ref C) "__abs__" = some (some (.ref f))) (hf : PySem.W.isFn X.K (.ref f) = true) (F : FnOk X.prog X.w X.K X.mg X.base CX n f fd ps sp) (hb : Binds X.K fd ps []) (hr : Room (n + 1) X.A) (hx : Passes CX X E) :
    CallR X (.builtin "abs") (rOA C sp E) := by
  intro pins s σ H xs us Q I r h
  obtain ⟨x, rfl, ⟨a, dx, fs, rfl, ha⟩, q⟩ := h
  obtain ⟨u, rfl, ru⟩ := r.one
  cases (show u = Value.ref a from ru)
  obtain ⟨od, J⟩ := inst_of I ha
  refine Calls.call_function_entry kind_abs plain_abs entry_abs (args_abs _) ?_
  unfold Builtin.«abs»
  refine wpAny_bind (m := oneArg "abs" _) (wpAny_pure ?_)
  refine wpAny_bind (m := callSpecial? (.ref a) (Str.ofString "__abs__")) (PySem.W.special_fn I.kIn J hs (beq_iff_eq.mp hf) ?_)
  refine wpAny_mono (run_fnA (us := [.ref a]) (vs := [.ref a]) F hr.in1 rfl hb hx I (.cons rfl .nil) q) (fun w s' z => ?_) fun _ _ x => x
  exact wpAny_pure ⟨_, rfl, z⟩
end
end SF

/-! The end of a law row whose def is only known to keep its promise where no guard runs. -/
namespace SF
open PySem PySem.Spec PyProof.Rows L2
/-- the script's object as the abstract heap bears it: frozen, unless it is one of the module's own -/
def scriptH (K : PySem.W.Frag) (a : Addr) (vs : List Value) (ns : List Int) : Hp := fun b =>
  if b = a ∧ K.lookup a = none then some (.frz { cls := .type "list", data := .seq vs.toArray } (.lst (ns.map V.int))) else none
section
variable {P : Program} {w : World} {K : PySem.W.Frag} {a : Addr} {vs : List Value} {ns : List Int} {s₁ : Shared}
theorem scriptH_some {b : Addr} {u : HO} (e : scriptH K a vs ns b = some u) : b = a ∧ K.lookup a = none ∧ u = .frz { cls := .type "list", data := .seq vs.toArray } (.lst (ns.map V.int)) := by
  by_cases h : b = a ∧ K.lookup a = none
  · have z : some _ = some u := (if_pos h).symm.trans e
    exact ⟨h.1, h.2, (Option.some.inj z).symm⟩
  · have z : none = some u := (if_neg h).symm.trans e
    cases z
theorem scriptH_seq (KX : K.In s₁.heap) (ha : s₁.heap.get? a = some { cls := .type "list", data := .seq vs.toArray }) (hi : IntsAre vs ns) (hl : ns.length ≤ sizeLine) : SqL K (scriptH K a vs ns) a (ns.map V.int) := by
  cases hk : K.lookup a with
  | none => exact .inl (.inr ⟨_, if_pos ⟨rfl, hk⟩⟩)
  | some o =>
    have z := (KX a o hk).symm.trans ha
    cases z
    have hz : vs.toArray.size ≤ sizeLine := by rw [List.size_toArray, hi.length]; exact hl
    exact .inr ⟨_, vs.toArray, _, hk, rfl, rfl, rfl, hz, by rw [List.toList_toArray]; exact vals_ints hi⟩
theorem scriptH_ok (ha : s₁.heap.get? a = some { cls := .type "list", data := .seq vs.toArray }) (hi : IntsAre vs ns) (hl : ns.length ≤ sizeLine) : HOk P w (scriptH K a vs ns) s₁.heap := fun b u e => by
  obtain ⟨rfl, _, rfl⟩ := scriptH_some e
  exact ⟨ha, by rw [List.length_map]; exact hl, vs, _, vals_ints hi, ha⟩
/-- whatever the written part, a namespace or a dict bears stays in the base -/
theorem scriptH_base {b : Addr} {o : Obj} (e : s₁.heap.get? b = some o) (hn : b = a → K.lookup a ≠ none) : (hidT s₁.heap (scriptH K a vs ns)).get? b = some o := by
  refine hidT_get e ?_
  cases q : scriptH K a vs ns b with
  | none => rfl
  | some u =>
    obtain ⟨z, hk, _⟩ := scriptH_some q
    exact absurd hk (hn z)
theorem scriptH_ns {b : Addr} {m : Str → Option Value} (ha : s₁.heap.get? a = some { cls := .type "list", data := .seq vs.toArray }) (n : s₁.heap.Ns b m) : (hidT s₁.heap (scriptH K a vs ns)).Ns b m := by
  obtain ⟨o, es, ep, e, d, r⟩ := n
  refine ⟨o, es, ep, scriptH_base e (fun z => ?_), d, r⟩
  rw [z, ha] at e
  cases e
  cases d
theorem law_callG {mg mb : Str → Option Value} {k : Nat} {fa : Addr} {fd : FuncData} {x : Str} {sp : Sp}
    (KX : K.In s₁.heap) (hns : s₁.heap.Ns mainGlobals mg) (hb : s₁.heap.Ns builtinsNs mb) (hbb : ∀ x : Str, x ≠ "__name__" → mb x = bootBuiltins x) (hlim : s₁.heap.NoLimit) (hg : s₁.gens = #[])
    (ha : s₁.heap.get? a = some { cls := .type "list", data := .seq vs.toArray }) (hi : IntsAre vs ns) (hl : ns.length ≤ sizeLine) (hr : Room k callerA)
    (F : ∀ base : Heap, K.In base → base.Ns mainGlobals mg → FnG P w K mg base CX0 k fa fd [x] sp) (hbind : ∀ (s : Shared) (u : Value), BindsTo s fd ⟨[u], []⟩ [(x, u)])
    (hsp : ∀ H : Hp, SqL K H a (ns.map V.int) → sp [.ref a] H (fun v _ => v = .bl true) fun _ _ _ => False) :
    codeAny (model P w) callerA (.call (.ref fa) ⟨[.ref a], []⟩) (fun r s' => r = .ok (.ret (.bool true)) ∧ PySem.OldK s₁.heap s'.heap ∧ s'.os = s₁.os ∧ AllBare s'.gens) s₁ := by
  have kb : K.In (hidT s₁.heap (scriptH K a vs ns)) := fun b o e => scriptH_base (KX b o e) fun z n => by
    rw [← z, e] at n
    cases n
  have nb := scriptH_ns (K := K) (ns := ns) ha hns
  have lb : (hidT s₁.heap (scriptH K a vs ns)).NoLimit := by
    obtain ⟨mc, n1, n2⟩ := hlim
    exact ⟨mc, scriptH_ns ha n1, n2⟩
  have okH : HOk P w (scriptH K a vs ns) s₁.heap := scriptH_ok ha hi hl
  have noF : ∀ b, b ∈ frs [] → False := fun b hb => nomatch hb
  have e0 : Env0 P w K mg (hidT s₁.heap (scriptH K a vs ns)) callerA [] s₁ (scriptH K a vs ns) :=
    { frames := rfl, mod := ⟨kb, nb, ⟨mb, scriptH_ns ha hb, hbb⟩, lb⟩, bs := fun b o e => of_hidT e, bsz := Nat.le_of_eq (hidT_size _ _), funs := trivial, frf := fun b z => (noF b z).elim, hok := okH, bare := .of_eq hg }
  have run := (F _ kb nb).run callerA [] s₁ _ ⟨[.ref a], []⟩ [.ref a] [.ref a] _ _ rfl hr e0 (hbind s₁ (.ref a)) (.cons rfl .nil) (hsp _ (scriptH_seq KX ha hi hl))
  refine codeAny_mono run fun r s' q => ?_
  rcases r with e | fl
  · exact False.elim q
  cases fl <;> first | exact False.elim q | skip
  obtain ⟨v, H', os, bare, un, ok', rv, qv⟩ := q
  have ev : v = .bl true := qv
  rw [ev] at rv
  cases rv
  refine ⟨rfl, .of_keep fun b o e => ?_, os, bare⟩
  cases z : scriptH K a vs ns b with
  | none => exact un.keep b o e z (noF b) (by simp)
  | some u =>
    obtain ⟨rfl, _, rfl⟩ := scriptH_some z
    have after := (ok' b _ (un.frzs b _ _ z)).1
    rw [e] at ha
    rw [ha]
    exact after
end
/-- the goal that the head leaves -/
theorem walkG {l : PySem.W.OpenLaw} {n k : Nat} {q : Program} {loose : List Str} {XP : (Str → Option Value) → Heap → Prop} {YP : World → Heap → Prop} {d : DefRec} {K : Params → PySem.W.Frag} {sp : PySem.W.Frag → Sp} {x : Str}
    (hn : l.most = some n) (hn2 : n ≤ sizeLine) (hdf : d.params.defaults = []) (hr : Room k callerA) (hY : ∀ (w : World) (h : Heap), YP w h → (K w.params).In h)
    (F : ∀ (w : World) (mg : Str → Option Value) (fa : Addr) (h : Heap), (K w.params).In h → h.Ns mainGlobals mg → mg d.name = some (.ref fa) →
      ∃ fd : FuncData, (∀ (s : Shared) (u : Value), BindsTo s fd ⟨[u], []⟩ [(x, u)]) ∧ ∀ base : Heap, (K w.params).In base → base.Ns mainGlobals mg → FnG l.prog w (K w.params) mg base CX0 k fa fd [x] (sp (K w.params)))
    (hsp : ∀ (K : PySem.W.Frag) (H : Hp) (a : Addr) (ns : List Int), ns.length ≤ n → SqL K H a (ns.map V.int) → sp K [.ref a] H (fun v _ => v = .bl true) fun _ _ _ => False) :
    PySem.W.WalkO q loose XP YP l.row.toRowW d [] (fun f vs => PySem.call f vs) := by
  refine Att.attach_call hn hdf fun w s₀ s₁ mg mb fa o pm cd doc a vs ns G Y ho hd hcd hmg hobj hints hlen hg => ?_
  obtain ⟨fd, hb, hF⟩ := F w mg fa _ (hY w _ Y) G.T.g hmg
  exact law_callG (hY w _ Y) G.T.g G.T.b G.T.builtins G.T.nolimit hg hobj hints (Nat.le_trans hlen hn2) hr hF hb fun H hS => hsp _ H a ns hlen hS
end SF

/-! Fractions in lowest terms, as Lean's own rational numbers. -/
namespace SQ
open Rat
def gI (u l : Int) : Int := ((Nat.gcd u.natAbs l.natAbs : Nat) : Int)
def sg (u l : Int) : Int := if l < 0 then -gI u l else gI u l
def nt (u l : Int) : Int := u.fdiv (sg u l)
def nb (u l : Int) : Int := l.fdiv (sg u l)
theorem gI_pos {u l : Int} (h : l ≠ 0) : 0 < gI u l := by
  unfold gI
  have : 0 < Nat.gcd u.natAbs l.natAbs := Nat.gcd_pos_of_pos_right _ (Int.natAbs_pos.mpr h)
  omega
theorem sg_natAbs {u l : Int} : (sg u l).natAbs = Nat.gcd u.natAbs l.natAbs := by
  unfold sg gI
  split <;> omega
theorem sg_ne {u l : Int} (h : l ≠ 0) : sg u l ≠ 0 := by
  have e := sg_natAbs (u := u) (l := l)
  have h2 : 0 < Nat.gcd u.natAbs l.natAbs := Nat.gcd_pos_of_pos_right _ (Int.natAbs_pos.mpr h)
  omega
theorem sg_dvd {u l : Int} : sg u l ∣ u ∧ sg u l ∣ l := by
  have e := sg_natAbs (u := u) (l := l)
  constructor
  · apply Int.natAbs_dvd_natAbs.mp
    rw [e]
    exact Nat.gcd_dvd_left _ _
  · apply Int.natAbs_dvd_natAbs.mp
    rw [e]
    exact Nat.gcd_dvd_right _ _
theorem n_eqs {u l : Int} (h : l ≠ 0) : u = sg u l * nt u l ∧ l = sg u l * nb u l := by
  have hs := sg_ne (u := u) h
  obtain ⟨a, ha⟩ := (sg_dvd (u := u) (l := l)).1
  obtain ⟨c, hc⟩ := (sg_dvd (u := u) (l := l)).2
  have e1 : nt u l = a := by
    show Int.fdiv u (sg u l) = a
    have : Int.fdiv (sg u l * a) (sg u l) = a := Int.mul_fdiv_cancel_left _ hs
    rw [← ha] at this
    exact this
  have e2 : nb u l = c := by
    show Int.fdiv l (sg u l) = c
    have : Int.fdiv (sg u l * c) (sg u l) = c := Int.mul_fdiv_cancel_left _ hs
    rw [← hc] at this
    exact this
  rw [e1, e2]
  exact ⟨ha, hc⟩
theorem nb_pos {u l : Int} (h : l ≠ 0) : 0 < nb u l := by
  obtain ⟨h1, h2⟩ := n_eqs (u := u) h
  have hb : nb u l ≠ 0 := fun z => h (by rw [h2, z, Int.mul_zero])
  have hp := gI_pos (u := u) h
  by_cases hl : l < 0
  · have es : sg u l = -gI u l := if_pos hl
    by_cases hn : 0 < nb u l
    · exact hn
    · have : 0 ≤ sg u l * nb u l := by
        rw [es]
        exact Int.mul_nonneg_of_nonpos_of_nonpos (by omega) (by omega)
      omega
  · have es : sg u l = gI u l := if_neg hl
    by_cases hn : 0 < nb u l
    · exact hn
    · have : sg u l * nb u l ≤ 0 := by
        rw [es]
        exact Int.mul_nonpos_of_nonneg_of_nonpos (by omega) (by omega)
      omega
theorem n_cop {u l : Int} (h : l ≠ 0) : Nat.gcd (nt u l).natAbs (nb u l).natAbs = 1 := by
  obtain ⟨h1, h2⟩ := n_eqs (u := u) h
  have e := sg_natAbs (u := u) (l := l)
  have hg : 0 < Nat.gcd u.natAbs l.natAbs := Nat.gcd_pos_of_pos_right _ (Int.natAbs_pos.mpr h)
  have e1 : u.natAbs = Nat.gcd u.natAbs l.natAbs * (nt u l).natAbs := by
    rw [← e, ← Int.natAbs_mul, ← h1]
  have e2 : l.natAbs = Nat.gcd u.natAbs l.natAbs * (nb u l).natAbs := by
    rw [← e, ← Int.natAbs_mul, ← h2]
  have e3 : Nat.gcd u.natAbs l.natAbs = Nat.gcd u.natAbs l.natAbs * Nat.gcd (nt u l).natAbs (nb u l).natAbs := by
    rw [← Nat.gcd_mul_left, ← e1, ← e2]
  exact (Nat.eq_of_mul_eq_mul_left hg (by rw [Nat.mul_one]; exact e3)).symm
/-- what the program makes of u over l is the fraction's top and bottom -/
theorem n_rat {u l : Int} (h : l ≠ 0) : nt u l = (u /. l).num ∧ nb u l = ((u /. l).den : Int) := by
  have hp := nb_pos (u := u) h
  have hc := n_cop (u := u) h
  obtain ⟨h1, h2⟩ := n_eqs (u := u) h
  have hd : (nb u l).natAbs ≠ 0 := by omega
  have eq : u /. l = (⟨nt u l, (nb u l).natAbs, hd, hc⟩ : Rat) := by
    rw [Rat.mk_eq_divInt, Rat.divInt_eq_divInt_iff h (by omega), Int.natAbs_of_nonneg (by omega)]
    have : u * nb u l = (sg u l * nt u l) * nb u l := by rw [← h1]
    rw [this]
    have h3 : nt u l * l = nt u l * (sg u l * nb u l) := by rw [← h2]
    rw [h3]
    simp [Int.mul_comm, Int.mul_left_comm]
  rw [eq]
  refine ⟨rfl, ?_⟩
  show nb u l = (((nb u l).natAbs : Nat) : Int)
  rw [Int.natAbs_of_nonneg (by omega)]
theorem nt_rat {u l : Int} (h : l ≠ 0) : nt u l = (u /. l).num := (n_rat h).1
theorem nb_rat {u l : Int} (h : l ≠ 0) : nb u l = ((u /. l).den : Int) := (n_rat h).2
theorem n_le {u l : Int} (h : l ≠ 0) : (u /. l).num.natAbs ≤ u.natAbs ∧ (u /. l).den ≤ l.natAbs := by
  obtain ⟨h1, h2⟩ := n_eqs (u := u) h
  have hs : 0 < (sg u l).natAbs := Int.natAbs_pos.mpr (sg_ne h)
  obtain ⟨r1, r2⟩ := n_rat (u := u) h
  constructor
  · have e := congrArg Int.natAbs h1
    rw [Int.natAbs_mul, r1] at e
    rw [e]
    exact Nat.le_mul_of_pos_left _ hs
  · have e := congrArg Int.natAbs h2
    rw [Int.natAbs_mul, r2] at e
    rw [e]
    show _ ≤ _ * (u /. l).den
    exact Nat.le_mul_of_pos_left _ hs

/-- top and bottom have at most n binary digits -/
def Sz (n : Nat) (q : Rat) : Prop := q.num.natAbs < 2 ^ n ∧ q.den < 2 ^ n
theorem two_le {a b : Nat} (h : a ≤ b) : 2 ^ a ≤ 2 ^ b := Nat.pow_le_pow_right (by decide) h
theorem Sz.mono {n m : Nat} {q : Rat} (s : Sz n q) (h : n ≤ m) : Sz m q := ⟨Nat.lt_of_lt_of_le s.1 (two_le h), Nat.lt_of_lt_of_le s.2 (two_le h)⟩
theorem Sz.of {n : Nat} {u l : Int} (h : l ≠ 0) (hu : u.natAbs < 2 ^ n) (hl : l.natAbs < 2 ^ n) : Sz n (u /. l) :=
  let ⟨a, b⟩ := n_le (u := u) h
  ⟨Nat.lt_of_le_of_lt a hu, Nat.lt_of_le_of_lt b hl⟩
theorem mul_lt {a b n m : Nat} (ha : a < 2 ^ n) (hb : b < 2 ^ m) : a * b < 2 ^ (n + m) := by
  rw [Nat.pow_add]
  exact Nat.mul_lt_mul'' ha hb
theorem Sz.pos {n : Nat} {q : Rat} (s : Sz n q) : 0 < n := by
  cases n with
  | zero => have h := s.2; have := Nat.pos_of_ne_zero q.den_nz; omega
  | succ k => omega
theorem denZ (q : Rat) : (q.den : Int) ≠ 0 := by have := q.den_nz; omega
theorem denP (q : Rat) : (0 : Int) < q.den := by have := q.den_nz; omega
/-- the sum as the program writes it -/
theorem add_is (q r : Rat) : (q.num * r.den + r.num * q.den) /. (q.den * r.den) = q + r := by
  rw [← Rat.divInt_add_divInt _ _ (denZ q) (denZ r), Rat.num_divInt_den, Rat.num_divInt_den]
theorem mul_is (q r : Rat) : (q.num * r.num) /. (q.den * r.den) = q * r := by
  rw [← Rat.divInt_mul_divInt, Rat.num_divInt_den, Rat.num_divInt_den]
theorem inv_is (q : Rat) : (q.den : Int) /. q.num = q⁻¹ := (Rat.inv_def q).symm
theorem neg_is (q : Rat) : (-q.num) /. (q.den : Int) = -q := by
  rw [← Rat.neg_divInt, Rat.num_divInt_den]
theorem abs_is (q : Rat) : ((if q.num < 0 then -q.num else q.num) /. (q.den : Int)) = q.abs := by
  unfold Rat.abs
  by_cases h : q.num < 0
  · have : ¬ (0 ≤ q) := fun z => by have := Rat.num_nonneg.mpr z; omega
    rw [if_pos h, if_neg this, neg_is]
  · have : 0 ≤ q := Rat.num_nonneg.mp (by omega)
    rw [if_neg h, if_pos this, Rat.num_divInt_den]
theorem int_is (i : Int) : i /. 1 = (i : Rat) := by
  have := Rat.num_divInt_den (i : Rat)
  simpa using this
theorem floor_is (q : Rat) : q.num.fdiv q.den = q.floor := by
  rw [Rat.floor_def, Int.fdiv_eq_ediv_of_nonneg _ (by have := denP q; omega)]
theorem pow_is (q : Rat) (n : Nat) : (q.num ^ n) /. ((q.den : Int) ^ n) = q ^ n := by
  have := Rat.num_divInt_den (q ^ n)
  rw [Rat.num_pow, Rat.den_pow] at this
  rw [← this]
  congr 1
theorem den_ne (q r : Rat) : (q.den : Int) * r.den ≠ 0 := Int.mul_ne_zero (denZ q) (denZ r)
theorem num_ne {q : Rat} (h : q ≠ 0) : q.num ≠ 0 := fun z => h (Rat.num_eq_zero.mp z)
theorem natAbs_den (q : Rat) : ((q.den : Int)).natAbs = q.den := rfl

theorem sum_bd {n m : Nat} {q r : Rat} (s : Sz n q) (t : Sz m r) : (q.num * r.den + r.num * q.den).natAbs < 2 ^ (n + m + 1) ∧ ((q.den : Int) * r.den).natAbs < 2 ^ (n + m + 1) := by
  have a := mul_lt s.1 t.2
  have b := mul_lt t.1 s.2
  have c := mul_lt s.2 t.2
  rw [Nat.add_comm m n] at b
  have e : 2 ^ (n + m + 1) = 2 ^ (n + m) + 2 ^ (n + m) := by rw [Nat.pow_succ]; omega
  constructor
  · have := Int.natAbs_add_le (q.num * r.den) (r.num * q.den)
    rw [Int.natAbs_mul, Int.natAbs_mul, natAbs_den, natAbs_den] at this
    omega
  · rw [Int.natAbs_mul, natAbs_den, natAbs_den]; omega
theorem Sz.add {n m : Nat} {q r : Rat} (s : Sz n q) (t : Sz m r) : Sz (n + m + 1) (q + r) := by
  rw [← add_is]
  exact Sz.of (den_ne q r) (sum_bd s t).1 (sum_bd s t).2
theorem prod_bd {n m : Nat} {q r : Rat} (s : Sz n q) (t : Sz m r) : (q.num * r.num).natAbs < 2 ^ (n + m) ∧ ((q.den : Int) * r.den).natAbs < 2 ^ (n + m) := by
  rw [Int.natAbs_mul, Int.natAbs_mul]
  exact ⟨mul_lt s.1 t.1, mul_lt s.2 t.2⟩
theorem Sz.mul {n m : Nat} {q r : Rat} (s : Sz n q) (t : Sz m r) : Sz (n + m) (q * r) := by
  rw [← mul_is]
  exact Sz.of (den_ne q r) (prod_bd s t).1 (prod_bd s t).2
theorem Sz.neg {n : Nat} {q : Rat} (s : Sz n q) : Sz n (-q) := ⟨by rw [Rat.neg_num, Int.natAbs_neg]; exact s.1, s.2⟩
theorem Sz.abs {n : Nat} {q : Rat} (s : Sz n q) : Sz n q.abs := by
  unfold Rat.abs
  split
  · exact s
  · exact s.neg
theorem Sz.inv {n : Nat} {q : Rat} (s : Sz n q) (h : q ≠ 0) : Sz n q⁻¹ := by
  rw [← inv_is]
  exact Sz.of (num_ne h) s.2 s.1
theorem Sz.int {n : Nat} {i : Int} (h : i.natAbs < 2 ^ n) (h0 : 0 < n) : Sz n (i : Rat) := ⟨h, by show 1 < 2 ^ n; exact Nat.one_lt_two_pow (by omega)⟩
theorem floor_le_num {q : Rat} : q.floor.natAbs ≤ q.num.natAbs := by
  rw [Rat.floor_def]
  have hp := denP q
  have h1 := Int.mul_ediv_add_emod q.num q.den
  have h2 := Int.emod_nonneg q.num (denZ q)
  have h3 := Int.emod_lt_of_pos q.num hp
  rcases Int.le_total 0 q.num with h | h
  · have a := Int.ediv_nonneg h (Int.le_of_lt hp)
    have b : q.num / q.den ≤ q.num := Int.ediv_le_self _ h
    omega
  · have a : q.num ≤ q.num / q.den := by
      rw [Int.le_ediv_iff_mul_le hp]
      have : q.num * (q.den : Int) ≤ q.num * 1 := Int.mul_le_mul_of_nonpos_left h (by omega)
      omega
    have b : q.num / q.den ≤ 0 := by
      have := Int.ediv_le_ediv hp h
      rwa [Int.zero_ediv] at this
    omega
theorem Sz.floor {n : Nat} {q : Rat} (s : Sz n q) : Sz n (q.floor : Rat) := Sz.int (Nat.lt_of_le_of_lt floor_le_num s.1) s.pos
theorem Sz.pow {n : Nat} {q : Rat} (s : Sz n q) (k : Nat) : Sz (n * k + 1) (q ^ k) := by
  constructor
  · rw [Rat.num_pow, Int.natAbs_pow]
    refine Nat.lt_of_le_of_lt (Nat.pow_le_pow_left (Nat.le_of_lt s.1) k) ?_
    rw [← Nat.pow_mul]
    exact Nat.pow_lt_pow_right (by decide) (by omega)
  · rw [Rat.den_pow]
    refine Nat.lt_of_le_of_lt (Nat.pow_le_pow_left (Nat.le_of_lt s.2) k) ?_
    rw [← Nat.pow_mul]
    exact Nat.pow_lt_pow_right (by decide) (by omega)
theorem Sz.lt {n : Nat} {i : Int} (s : Sz n (i : Rat)) : i.natAbs < 2 ^ n := s.1
/-- two fractions are equal if top and bottom are -/
theorem eq_bools (q r : Rat) : (decide (q.num = r.num) && decide ((q.den : Int) = r.den)) = decide (q = r) := by
  by_cases h : q = r
  · subst h; simp
  · have : ¬ (q.num = r.num ∧ (q.den : Int) = r.den) := fun ⟨a, b⟩ => h (Rat.ext a (by omega))
    rw [decide_eq_false h]
    by_cases a : q.num = r.num
    · have b : ¬ (q.den : Int) = r.den := fun b => this ⟨a, b⟩
      rw [decide_eq_false b, Bool.and_false]
    · rw [decide_eq_false a, Bool.false_and]
theorem eq_int (q : Rat) (i : Int) : (decide ((q.den : Int) = 1) && decide (q.num = i)) = decide (q = (i : Rat)) := by
  have := eq_bools q (i : Rat)
  rw [Rat.num_intCast, Rat.den_intCast] at this
  rw [← this, Bool.and_comm]
  rfl
theorem ne_zero (q : Rat) : (q.num != 0) = decide (q ≠ 0) := by
  by_cases h : q = 0
  · subst h; simp
  · have := num_ne h
    simp [h, this]
end SQ

/-! The class of fractions: what its defs promise; expressions of fractions as rational numbers. -/
namespace SQ
open PySem PySem.Spec PyProof.Rows L2 SF
def kinds : List String := ["int", "bool", "str", "NoneType", "list", "tuple", "dict"]
/-- what stands in the text for the class Ratio at C -/
structure RC (K : PySem.W.Frag) (mg : Str → Option Value) (C : Addr) : Prop where
  cl : Cls K C
  nT : NoAttr K C "_top"
  nB : NoAttr K C "_bottom"
  mgC : mg "Ratio" = some (.ref C)
  isi : mg "isinstance" = none
  int_ : mg "int" = none
  bool_ : mg "bool" = none
  str_ : mg "str" = none
  abs_ : mg "abs" = none
  range_ : mg "range" = none
  repr_ : mg "repr" = none
  gcd : mg "gcd" = some (.builtin "math.gcd")
  kB : ∀ T ∈ kinds, PySem.W.kitOne K (.type T) (.ref C) = some false
  kC : PySem.W.kitOne K (.ref C) (.ref C) = some true
  ca : PySem.W.findIn K (.ref C) "__class__" = some (some (.builtin "object.__class__"))
  cn : PySem.W.specialIn K (.builtin "object.__class__") "__get__" = some (some (.builtin "getset_descriptor.__get__"))
  ct : PySem.W.takesIn K (.builtin "object.__class__") = some true
  cm : PySem.W.mroIn K C (.type "object") = some true
/-- the fields of a fraction -/
def rf (t b : Int) : List (Str × V) := putF "_bottom" (.int b) (putF "_top" (.int t) [])
theorem n_bt : ¬ (("_bottom" : Str) = "_top") := by decide +kernel
theorem n_tb : ¬ (("_top" : Str) = "_bottom") := by decide +kernel
theorem rf_top (t b : Int) : (rf t b).lookup ("_top" : Str) = some (.int t) := by
  unfold rf
  rw [lookup_putF, if_neg n_tb, lookup_putF, if_pos rfl]
theorem rf_bot (t b : Int) : (rf t b).lookup ("_bottom" : Str) = some (.int b) := by
  unfold rf
  rw [lookup_putF, if_pos rfl]
theorem rf_no {m : Str} (t b : Int) (h1 : ¬ (m = "_top")) (h2 : ¬ (m = "_bottom")) : (rf t b).lookup m = none := by
  unfold rf
  rw [lookup_putF, if_neg h2, lookup_putF, if_neg h1]
  rfl
/-- the fraction t / b stands at a -/
def RatH (C : Addr) (H : Hp) (a : Addr) (t b : Int) : Prop := ∃ dx, H a = some (.ins C dx (rf t b))
/-- the fraction q of at most n binary digits stands at a -/
def RQ (C : Addr) (H : Hp) (a : Addr) (n : Nat) (q : Rat) : Prop := RatH C H a q.num q.den ∧ Sz n q
/-- v is a fraction (k) or an int, equal to q -/
def NV (C : Addr) (H : Hp) (k : Bool) (v : V) (n : Nat) (q : Rat) : Prop := match k with
  | true => ∃ a, v = .ref a ∧ RQ C H a n q
  | false => ∃ i : Int, v = .int i ∧ q = (i : Rat) ∧ i.natAbs < 2 ^ n ∧ 0 < n
def LIM : Nat := 8900
section
variable {C : Addr} {H H' : Hp} {a p : Addr} {n m : Nat} {q r : Rat} {k : Bool} {v : V} {t b : Int}
theorem RatH.same (r : RatH C H a t b) (s : Same H H') : RatH C H' a t b := let ⟨dx, e⟩ := r; ⟨dx, s _ _ e⟩
theorem RQ.same (x : RQ C H a n q) (s : Same H H') : RQ C H' a n q := ⟨x.1.same s, x.2⟩
theorem RQ.mono (x : RQ C H a n q) (h : n ≤ m) : RQ C H a m q := ⟨x.1, x.2.mono h⟩
theorem NV.same (x : NV C H k v n q) (s : Same H H') : NV C H' k v n q := by
  cases k with
  | true => obtain ⟨a, e, y⟩ := x; exact ⟨a, e, y.same s⟩
  | false => exact x
theorem NV.sz (x : NV C H k v n q) : Sz n q := by
  cases k with
  | true => obtain ⟨a, e, y⟩ := x; exact y.2
  | false => obtain ⟨i, _, rfl, h, h0⟩ := x; exact Sz.int h h0
theorem RQ.nv (x : RQ C H a n q) : NV C H true (.ref a) n q := ⟨a, rfl, x⟩
theorem nvI {i : Int} (h : i.natAbs < 2 ^ n) (h0 : 0 < n) : NV C H false (.int i) n (i : Rat) := ⟨i, rfl, rfl, h, h0⟩
theorem RQ.ins (x : RQ C H a n q) : IsIns C H (.ref a) := let ⟨⟨dx, e⟩, _⟩ := x; ⟨a, dx, _, rfl, e⟩
theorem NV.kind (x : NV C H k v n q) : IsIns C H v ∨ ∃ i, v = .int i := by
  cases k with
  | true => obtain ⟨a, rfl, y⟩ := x; exact .inl y.ins
  | false => obtain ⟨i, rfl, _⟩ := x; exact .inr ⟨i, rfl⟩
theorem same_new {o : HO} (s : Same H H') (h : H' p = none) : Same H (upd H' p o) := fun c u e => by
  rw [upd_ne (ne_of_none (s _ _ e) h)]
  exact s _ _ e
theorem keep {o u : HO} (e : H a = some o) (n : H p = none) : upd H p u a = some o := by rw [upd_ne (ne_of_none e n)]; exact e
theorem upd_got {o : HO} (h : upd H p o = H') : H' p = some o := by rw [← h]; exact upd_same
theorem upd_stay {o : HO} (h : upd H p o = H') (n : H p = none) : Same H H' := by rw [← h]; exact same_new (Same.refl _) n
end
/-! ### what the defs promise -/
def spInit (C : Addr) : Sp := fun vs H Q _ => ∃ (p dx : Addr) (t b : Int), vs = [.ref p, .int t, .int b] ∧ b ≠ 0 ∧ b.natAbs < 2 ^ LIM ∧ H p = some (.ins C dx []) ∧ Q .non (upd H p (.ins C dx (rf (nt t b) (nb t b))))
section
variable {C : Addr} {H H' : Hp} {t b : Int} {W : VK}
theorem mk_fin {x dx : Addr} {n : Nat} (hx : H x = none) (hd : H dx = none) (hn : dx ≠ x) (h0 : b ≠ 0) (ht : t.natAbs < 2 ^ n) (hb : b.natAbs < 2 ^ n) (hl : n ≤ LIM) (q : ∀ H2, Same H H2 → RQ C H2 x n (Rat.divInt t b) → W .non H2) :
    spInit C [.ref x, .int t, .int b] (upd (upd H dx (.own x)) x (.ins C dx [])) W E0 := by
  refine ⟨x, dx, t, b, rfl, h0, Nat.lt_of_lt_of_le hb (two_le hl), upd_same, ?_⟩
  rw [upd_upd]
  refine q _ ?_ ⟨⟨dx, ?_⟩, Sz.of h0 ht hb⟩
  · refine same_new (same_new (Same.refl H) hd) ?_
    rw [upd_ne (Ne.symm hn)]
    exact hx
  · rw [← nt_rat h0, ← nb_rat h0]
    exact upd_same
end
def isI : V → Bool
  | .int _ => true
  | _ => false
def spIsW (C : Addr) : Sp := fun vs H Q _ => ∃ v, vs = [v] ∧ ((∃ T, Dec H v T ∧ Q (.bl (isI v)) H) ∨ (IsIns C H v ∧ Q (.bl false) H))
def spIsN (C : Addr) : Sp := fun vs H Q _ => ∃ v, vs = [v] ∧ ((∃ T, Dec H v T ∧ Q (.bl (isI v)) H) ∨ (IsIns C H v ∧ Q (.bl true) H))
def spAs (C : Addr) : Sp := fun vs H Q _ => ∃ v k n q, vs = [v] ∧ NV C H k v n q ∧ n ≤ LIM ∧ ∀ a H', Same H H' → RQ C H' a n q → Q (.ref a) H'
/-- of two fractions -/
def sp2 (C : Addr) (side : Rat → Rat → Prop) (f : Rat → Rat → Rat) (g : Nat → Nat → Nat) : Sp := fun vs H Q _ => ∃ a b n m q r, vs = [.ref a, .ref b] ∧ RQ C H a n q ∧ RQ C H b m r ∧ side q r ∧ g n m ≤ LIM ∧ ∀ p H', Same H H' → RQ C H' p (g n m) (f q r) → Q (.ref p) H'
/-- of a fraction and a number -/
def spM (C : Addr) (side : Rat → Rat → Prop) (f : Rat → Rat → Rat) (g : Nat → Nat → Nat) : Sp := fun vs H Q _ => ∃ a k v n m q r, vs = [.ref a, v] ∧ RQ C H a n q ∧ NV C H k v m r ∧ side q r ∧ g n m ≤ LIM ∧ ∀ p H', Same H H' → RQ C H' p (g n m) (f q r) → Q (.ref p) H'
def sp1 (C : Addr) (side : Rat → Prop) (f : Rat → Rat) : Sp := fun vs H Q _ => ∃ a n q, vs = [.ref a] ∧ RQ C H a n q ∧ side q ∧ n ≤ LIM ∧ ∀ p H', Same H H' → RQ C H' p n (f q) → Q (.ref p) H'
def yes1 : Rat → Prop := fun _ => True
def yes2 : Rat → Rat → Prop := fun _ _ => True
def nz1 : Rat → Prop := fun q => q ≠ 0
def nz2 : Rat → Rat → Prop := fun _ r => r ≠ 0
def gA (n m : Nat) : Nat := n + m + 1
def gM (n m : Nat) : Nat := n + m
def gR (n m : Nat) : Nat := n + (m + (n + m)) + 1
def fFl (q r : Rat) : Rat := ((q / r).floor : Rat)
def fRem (q r : Rat) : Rat := q - r * ((q / r).floor : Rat)
def fSubR (q r : Rat) : Rat := r - q
def fFlR (q r : Rat) : Rat := fFl r q
def fRemR (q r : Rat) : Rat := fRem r q
def spPow (C : Addr) : Sp := fun vs H Q _ => ∃ a n q e, vs = [.ref a, .int e] ∧ RQ C H a n q ∧ -20 ≤ e ∧ e ≤ 20 ∧ (q ≠ 0 ∨ 0 ≤ e) ∧ n * e.natAbs + 1 ≤ LIM ∧ n ≤ LIM ∧ ∀ p H', Same H H' → RQ C H' p (n * e.natAbs + 1) (q ^ e) → Q (.ref p) H'
def spWPow : Sp := fun vs H Q _ => ∃ (b : Int) (t n : Nat), vs = [.int b, .int (t : Int)] ∧ t ≤ 20 ∧ b.natAbs < 2 ^ n ∧ n ≤ LIM ∧ 0 < n ∧ Q (.int (b ^ t)) H
def spBool (C : Addr) : Sp := fun vs H Q _ => ∃ a n q, vs = [.ref a] ∧ RQ C H a n q ∧ Q (.bl (decide (q ≠ 0))) H
/-- is the fraction q equal to a thing of a built-in kind? -/
def eqO (y : V) (q : Rat) : Bool := match y with
  | .int i => decide (q = (i : Rat))
  | _ => false
def spEq (C : Addr) : Sp := fun vs H Q _ => ∃ a n q y, vs = [.ref a, y] ∧ RQ C H a n q ∧ ((∃ k m r, NV C H k y m r ∧ Q (.bl (decide (q = r))) H) ∨ ∃ T, Dec H y T ∧ Q (.bl (eqO y q)) H)
/-- a number's text -/
abbrev tx (i : Int) : Str := Str.ofString (toString i)
def rstr (q : Rat) : Str := if q.den = 1 then tx q.num else ((Str.empty ++ tx q.num) ++ ("/" : Str)) ++ tx q.den
def rrepr (q : Rat) : Str := ((((Str.empty ++ ("Ratio(" : Str)) ++ tx q.num) ++ (", " : Str)) ++ tx q.den) ++ (")" : Str)
def spStr (C : Addr) : Sp := fun vs H Q _ => ∃ a n q, vs = [.ref a] ∧ RQ C H a n q ∧ n ≤ 1900 ∧ Q (.str (rstr q)) H
def spRepr (C : Addr) : Sp := fun vs H Q _ => ∃ a n q, vs = [.ref a] ∧ RQ C H a n q ∧ n ≤ 1900 ∧ Q (.str (rrepr q)) H
/-- the text of a fraction, and of nothing else -/
def spRead (C : Addr) : Sp := fun vs H Q _ => ∃ n q, vs = [.ref C, .str (rstr q)] ∧ Sz n q ∧ n ≤ 1900 ∧ ∀ p H', Same H H' → RQ C H' p n q → Q (.ref p) H'

theorem lg {i : Int} {n : Nat} (h : i.natAbs < 2 ^ n) (hn : n ≤ LIM) : i.natAbs.log2 < 9000 :=
  Nat.lt_of_lt_of_le (PySem.Flt.log2_lt_of (k := LIM) (by decide) (Nat.lt_of_lt_of_le h (two_le hn))) (by decide)
theorem wm {i j : Int} {n m : Nat} (hi : i.natAbs < 2 ^ n) (hj : j.natAbs < 2 ^ m) (h : n + m ≤ 30 * LIM) : CMulW i j :=
  wide_mul (a := n + 1) (b := m + 1) (Nat.lt_of_lt_of_le hi (two_le (by omega))) (Nat.lt_of_lt_of_le hj (two_le (by omega))) (by omega) (by omega) (by unfold LIM at h; omega)
theorem sg_ok {u l : Int} (h : l ≠ 0) (hb : l.natAbs < 2 ^ LIM) : CDivZ u (sg u l) := by
  have e := sg_natAbs (u := u) (l := l)
  have h1 := Nat.gcd_le_right u.natAbs (Int.natAbs_pos.mpr h)
  have h2 : 0 < Nat.gcd u.natAbs l.natAbs := Nat.gcd_pos_of_pos_right _ (Int.natAbs_pos.mpr h)
  exact ⟨by omega, lg (n := LIM) (by omega) (Nat.le_refl _)⟩

/-! ### expressions of fractions -/
def GS (G : L2.St → Hp → Prop) : Prop := ∀ σ H H', G σ H → Same H H' → G σ H'
/-- e is a fraction (k) or an int, equal to q, of n binary digits, if s -/
def TQ (C : Addr) (G : L2.St → Hp → Prop) (k : Bool) (n : Nat) (q : Rat) (s : Prop) : TE := fun σ H Q => G σ H ∧ s ∧ ∀ v H', Same H H' → NV C H' k v n q → Q v H'
/-- e is the truth value b -/
def TB (G : L2.St → Hp → Prop) (b : Bool) (s : Prop) : TE := fun σ H Q => G σ H ∧ s ∧ ∀ H', Same H H' → Q (.bl b) H'
def TBt (G : L2.St → Hp → Prop) (b : Bool) (s : Prop) : TT := fun σ H Q => G σ H ∧ s ∧ ∀ H', Same H H' → Q b H'
def TS (G : L2.St → Hp → Prop) (x : Str) (s : Prop) : TE := fun σ H Q => G σ H ∧ s ∧ ∀ H', Same H H' → Q (.str x) H'
def TI (G : L2.St → Hp → Prop) (i : Int) (s : Prop) : TE := fun σ H Q => G σ H ∧ s ∧ ∀ H', Same H H' → Q (.int i) H'
section
variable {X : Cx} {C : Addr} {G : L2.St → Hp → Prop} {a b e : Expr} {k k1 k2 : Bool} {n m : Nat} {q r : Rat} {s s1 s2 : Prop} {pos p1 p2 : Pos}
theorem pe_weak {t t' : TE} (h : PE X e t) (i : ∀ σ H Q, t' σ H Q → t σ H Q) : PE X e t' := ⟨fun pins st σ H Q I x => h.run pins st σ H Q I (i _ _ _ x)⟩
theorem pt_weak {t t' : TT} (h : PT X e t) (i : ∀ σ H Q, t' σ H Q → t σ H Q) : PT X e t' := ⟨fun pins st σ H Q I x => h.run pins st σ H Q I (i _ _ _ x)⟩
theorem pw_weak {t t' : TT} (h : PW X e t) (i : ∀ σ H Q, t' σ H Q → t σ H Q) : PW X e t' := ⟨fun wh pins st σ H Q I x => h.run wh pins st σ H Q I (i _ _ _ x)⟩
theorem pq_var {i : Nat} (h : PE X e (tVar i)) (g : ∀ σ H, G σ H → ∃ v, σ[i]? = some (some v) ∧ NV C H k v n q) : PE X e (TQ C G k n q True) :=
  pe_weak h fun σ H Q ⟨hg, _, z⟩ => let ⟨v, hv, nv⟩ := g σ H hg; ⟨v, hv, z v H (Same.refl _) nv⟩
theorem pq_int {i j pos} (h : i.natAbs < 2 ^ n) (h0 : 0 < n) : PE X (.Constant (.int i) j pos) (TQ C G false n (i : Rat) True) :=
  pe_weak pe_int fun σ H Q ⟨hg, _, z⟩ => z _ H (Same.refl _) (nvI h h0)
/-- an operator's rule in the words of rational numbers -/
def rQ (C : Addr) (k1 k2 : Bool) (side : Rat → Rat → Prop) (f : Rat → Rat → Rat) (g : Nat → Nat → Nat) : R2 := fun x y H Q => ∃ n m q r, NV C H k1 x n q ∧ NV C H k2 y m r ∧ side q r ∧ g n m ≤ LIM ∧ ∀ p H', Same H H' → RQ C H' p (g n m) (f q r) → Q (.ref p) H'
theorem pq_op {op : Operator} {side : Rat → Rat → Prop} {f : Rat → Rat → Rat} {g : Nat → Nat → Nat} (ho : OpR X (binaryOp op) (rQ C k1 k2 side f g)) (hG : GS G) (ha : PE X a (TQ C G k1 n q s1)) (hb : PE X b (TQ C G k2 m r s2)) :
    PE X (.BinOp a op b pos) (TQ C G true (g n m) (f q r) (s1 ∧ s2 ∧ side q r ∧ g n m ≤ LIM)) :=
  pe_weak (pe_op ho ha hb) fun σ H Q ⟨hg, ⟨h1, h2, h3, h4⟩, z⟩ =>
    ⟨hg, h1, fun v H1 S1 nv => ⟨hG _ _ _ hg S1, h2, fun u H2 S2 nu => ⟨n, m, q, r, nv.same S2, nu, h3, h4, fun p H3 S3 rq => z _ H3 ((S1.trans S2).trans S3) rq.nv⟩⟩⟩
def rQ1 (C : Addr) (side : Rat → Prop) (f : Rat → Rat) : V → Hp → VK → Prop := fun x H Q => ∃ n q, NV C H true x n q ∧ side q ∧ n ≤ LIM ∧ ∀ p H', Same H H' → RQ C H' p n (f q) → Q (.ref p) H'
theorem pq_un {op : UnaryOp} {side : Rat → Prop} {f : Rat → Rat} (ho : UnR X (unaryOp op) (rQ1 C side f)) (ha : PE X a (TQ C G true n q s1)) : PE X (.UnaryOp op a pos) (TQ C G true n (f q) (s1 ∧ side q ∧ n ≤ LIM)) :=
  pe_weak (pe_un ho ha) fun σ H Q ⟨hg, ⟨h1, h2, h3⟩, z⟩ => ⟨hg, h1, fun v H1 S1 nv => ⟨n, q, nv, h2, h3, fun p H2 S2 rq => z _ H2 (S1.trans S2) rq.nv⟩⟩
/-- f(a), a built-in of one fraction -/
def rQc (C : Addr) (side : Rat → Prop) (f : Rat → Rat) : List V → Hp → VK → Prop := fun xs H Q => ∃ x, xs = [x] ∧ rQ1 C side f x H Q

/-! #### comparisons -/
def rQe (C : Addr) (k2 : Bool) (f : Rat → Rat → Bool) : R2 := fun x y H Q => ∃ n m q r, NV C H true x n q ∧ NV C H k2 y m r ∧ Q (.bl (f q r)) H
theorem pq_cmp {op : CmpOp} {f : Rat → Rat → Bool} (ho : OpR X (compareOp op) (rQe C k2 f)) (hG : GS G) (hm : behindInMarks op b = false) (ha : PE X a (TQ C G true n q s1)) (hb : PE X b (TQ C G k2 m r s2)) :
    PE X (.Compare a [op] [b] pos) (TB G (f q r) (s1 ∧ s2)) :=
  pe_weak (pe_cmpR ho ha hb hm) fun σ H Q ⟨hg, ⟨h1, h2⟩, z⟩ =>
    ⟨hg, h1, fun v H1 S1 nv => ⟨hG _ _ _ hg S1, h2, fun u H2 S2 nu => ⟨n, m, q, r, nv.same S2, nu, z H2 (S1.trans S2)⟩⟩⟩
theorem pb_test {bb : Bool} (h : PE X e (TB G bb s)) (he : ∀ whole, isTrue e X.env whole = (do let v ← whole; standAt e.pos; holding [v] (truthy v)) := by intro _; rfl) : PT X e (TBt G bb s) :=
  pt_weak (pt_val h he) fun σ H Q ⟨hg, h1, z⟩ => ⟨hg, h1, fun H' S => ⟨bb, rfl, z H' S⟩⟩
theorem pb_or1 {bb : Bool} (ha : PT X a (TBt G bb s)) : PW X (.BoolOp .Or [a] pos) (TBt G bb s) := pw_or1 ha
theorem pb_or {rest : List Expr} {b1 b2 : Bool} (hG : GS G) (ha : PT X a (TBt G b1 s1)) (hb : PW X (.BoolOp .Or (b :: rest) pos) (TBt G b2 s2)) : PW X (.BoolOp .Or (a :: b :: rest) pos) (TBt G (b1 || b2) (s1 ∧ (b1 = false → s2))) :=
  pw_weak (pw_or ha hb) fun σ H Q ⟨hg, ⟨h1, h2⟩, z⟩ => ⟨hg, h1, fun H1 S1 => by
    cases b1 with
    | true => exact iteT (by simpa using z H1 S1)
    | false => exact iteF ⟨hG _ _ _ hg S1, h2 rfl, fun H2 S2 => by simpa using z H2 (S1.trans S2)⟩⟩
theorem pb_and1 {bb : Bool} (ha : PT X a (TBt G bb s)) : PW X (.BoolOp .And [a] pos) (TBt G bb s) := pw_and1 ha
theorem pb_and {rest : List Expr} {b1 b2 : Bool} (hG : GS G) (ha : PT X a (TBt G b1 s1)) (hb : PW X (.BoolOp .And (b :: rest) pos) (TBt G b2 s2)) : PW X (.BoolOp .And (a :: b :: rest) pos) (TBt G (b1 && b2) (s1 ∧ (b1 = true → s2))) :=
  pw_weak (pw_and ha hb) fun σ H Q ⟨hg, ⟨h1, h2⟩, z⟩ => ⟨hg, h1, fun H1 S1 => by
    cases b1 with
    | false => exact iteF (by simpa using z H1 S1)
    | true => exact iteT ⟨hG _ _ _ hg S1, h2 rfl, fun H2 S2 => by simpa using z H2 (S1.trans S2)⟩⟩
theorem pb_not {b1 : Bool} (ha : PT X a (TBt G b1 s1)) : PT X (.UnaryOp .Not a pos) (TBt G (!b1) s1) :=
  pt_weak (pt_not ha) fun σ H Q ⟨hg, h1, z⟩ => ⟨hg, h1, fun H1 S1 => z H1 S1⟩
/-- as values -/
theorem pv_and1 {bb : Bool} (ha : PE X a (TB G bb s)) : PE X (.BoolOp .And [a] pos) (TB G bb s) := pe_one ha
theorem pv_and {rest : List Expr} {b1 b2 : Bool} (hG : GS G) (ha : PE X a (TB G b1 s1)) (hb : PE X (.BoolOp .And (b :: rest) pos) (TB G b2 s2)) : PE X (.BoolOp .And (a :: b :: rest) pos) (TB G (b1 && b2) (s1 ∧ (b1 = true → s2))) :=
  pe_weak (pe_and ha hb) fun σ H Q ⟨hg, ⟨h1, h2⟩, z⟩ => ⟨hg, h1, fun H1 S1 => ⟨b1, rfl, by
    cases b1 with
    | false => exact iteF (by simpa using z H1 S1)
    | true => exact iteT ⟨hG _ _ _ hg S1, h2 rfl, fun H2 S2 => by simpa using z H2 (S1.trans S2)⟩⟩⟩
theorem pv_or1 {bb : Bool} (ha : PE X a (TB G bb s)) : PE X (.BoolOp .Or [a] pos) (TB G bb s) := pe_one ha
theorem pv_or {rest : List Expr} {b1 b2 : Bool} (hG : GS G) (ha : PE X a (TB G b1 s1)) (hb : PE X (.BoolOp .Or (b :: rest) pos) (TB G b2 s2)) : PE X (.BoolOp .Or (a :: b :: rest) pos) (TB G (b1 || b2) (s1 ∧ (b1 = false → s2))) :=
  pe_weak (pe_or ha hb) fun σ H Q ⟨hg, ⟨h1, h2⟩, z⟩ => ⟨hg, h1, fun H1 S1 => ⟨b1, rfl, by
    cases b1 with
    | true => exact iteT (by simpa using z H1 S1)
    | false => exact iteF ⟨hG _ _ _ hg S1, h2 rfl, fun H2 S2 => by simpa using z H2 (S1.trans S2)⟩⟩⟩
/-- scalars compared -/
theorem pb_eq {b1 b2 : Bool} (hG : GS G) (hm : behindInMarks .Eq b = false) (ha : PE X a (TB G b1 s1)) (hb : PE X b (TB G b2 s2)) : PE X (.Compare a [.Eq] [b] pos) (TB G (decide (b1 = b2)) (s1 ∧ s2)) :=
  pe_weak (pe_cmpR op_eq ha hb hm) fun σ H Q ⟨hg, ⟨h1, h2⟩, z⟩ => ⟨hg, h1, fun H1 S1 => ⟨hG _ _ _ hg S1, h2, fun H2 S2 => ⟨rfl, by
    rw [show decide (V.bl b1 = V.bl b2) = decide (b1 = b2) by cases b1 <;> cases b2 <;> rfl]; exact z H2 (S1.trans S2)⟩⟩⟩
theorem pb_ne {b1 b2 : Bool} (hG : GS G) (hm : behindInMarks .NotEq b = false) (ha : PE X a (TB G b1 s1)) (hb : PE X b (TB G b2 s2)) : PE X (.Compare a [.NotEq] [b] pos) (TB G (!decide (b1 = b2)) (s1 ∧ s2)) :=
  pe_weak (pe_cmpR op_ne ha hb hm) fun σ H Q ⟨hg, ⟨h1, h2⟩, z⟩ => ⟨hg, h1, fun H1 S1 => ⟨hG _ _ _ hg S1, h2, fun H2 S2 => ⟨rfl, by
    rw [show decide (V.bl b1 = V.bl b2) = decide (b1 = b2) by cases b1 <;> cases b2 <;> rfl]; exact z H2 (S1.trans S2)⟩⟩⟩
theorem pS_eq {x y : Str} (hG : GS G) (hm : behindInMarks .Eq b = false) (ha : PE X a (TS G x s1)) (hb : PE X b (TS G y s2)) : PE X (.Compare a [.Eq] [b] pos) (TB G (decide (x = y)) (s1 ∧ s2)) :=
  pe_weak (pe_cmpR op_eq ha hb hm) fun σ H Q ⟨hg, ⟨h1, h2⟩, z⟩ => ⟨hg, h1, fun H1 S1 => ⟨hG _ _ _ hg S1, h2, fun H2 S2 => ⟨rfl, by
    have e : decide (V.str x = V.str y) = decide (x = y) := by
      by_cases h : x = y
      · rw [h]; simp
      · rw [decide_eq_false h, decide_eq_false (fun z => h (V.str.inj z))]
    rw [e]; exact z H2 (S1.trans S2)⟩⟩⟩
theorem dint {i j : Int} : decide (V.int i = V.int j) = decide (i = j) := by
  by_cases h : i = j
  · rw [h]; simp
  · rw [decide_eq_false h, decide_eq_false (fun z => h (V.int.inj z))]
theorem pI_eq {i j : Int} (hG : GS G) (hm : behindInMarks .Eq b = false) (ha : PE X a (TI G i s1)) (hb : PE X b (TI G j s2)) : PE X (.Compare a [.Eq] [b] pos) (TB G (decide (i = j)) (s1 ∧ s2)) :=
  pe_weak (pe_cmpR op_eq ha hb hm) fun σ H Q ⟨hg, ⟨h1, h2⟩, z⟩ => ⟨hg, h1, fun H1 S1 => ⟨hG _ _ _ hg S1, h2, fun H2 S2 => ⟨rfl, by rw [dint]; exact z H2 (S1.trans S2)⟩⟩⟩
theorem pI_ne {i j : Int} (hG : GS G) (hm : behindInMarks .NotEq b = false) (ha : PE X a (TI G i s1)) (hb : PE X b (TI G j s2)) : PE X (.Compare a [.NotEq] [b] pos) (TB G (!decide (i = j)) (s1 ∧ s2)) :=
  pe_weak (pe_cmpR op_ne ha hb hm) fun σ H Q ⟨hg, ⟨h1, h2⟩, z⟩ => ⟨hg, h1, fun H1 S1 => ⟨hG _ _ _ hg S1, h2, fun H2 S2 => ⟨rfl, by rw [dint]; exact z H2 (S1.trans S2)⟩⟩⟩
theorem pI_le {i j : Int} (hG : GS G) (hm : behindInMarks .LtE b = false) (ha : PE X a (TI G i s1)) (hb : PE X b (TI G j s2)) : PE X (.Compare a [.LtE] [b] pos) (TB G (decide (i ≤ j)) (s1 ∧ s2)) :=
  pe_weak (pe_cmpR op_le ha hb hm) fun σ H Q ⟨hg, ⟨h1, h2⟩, z⟩ => ⟨hg, h1, fun H1 S1 => ⟨hG _ _ _ hg S1, h2, fun H2 S2 => ⟨_, _, rfl, rfl, z H2 (S1.trans S2)⟩⟩⟩
theorem pI_gt {i j : Int} (hG : GS G) (hm : behindInMarks .Gt b = false) (ha : PE X a (TI G i s1)) (hb : PE X b (TI G j s2)) : PE X (.Compare a [.Gt] [b] pos) (TB G (decide (i > j)) (s1 ∧ s2)) :=
  pe_weak (pe_cmpR op_gt ha hb hm) fun σ H Q ⟨hg, ⟨h1, h2⟩, z⟩ => ⟨hg, h1, fun H1 S1 => ⟨hG _ _ _ hg S1, h2, fun H2 S2 => ⟨_, _, rfl, rfl, z H2 (S1.trans S2)⟩⟩⟩
theorem pI_var {i : Nat} {z : Int} (h : PE X e (tVar i)) (g : ∀ σ H, G σ H → σ[i]? = some (some (.int z))) : PE X e (TI G z True) :=
  pe_weak h fun σ H Q ⟨hg, _, w⟩ => ⟨_, g σ H hg, w H (Same.refl _)⟩
theorem pI_int {i j pos} : PE X (.Constant (.int i) j pos) (TI G i True) := pe_weak pe_int fun σ H Q ⟨hg, _, z⟩ => z H (Same.refl _)
theorem pI_add {i j : Int} (hG : GS G) (ha : PE X a (TI G i s1)) (hb : PE X b (TI G j s2)) : PE X (.BinOp a .Add b pos) (TI G (i + j) (s1 ∧ s2)) :=
  pe_weak (pe_op op_add ha hb) fun σ H Q ⟨hg, ⟨h1, h2⟩, z⟩ => ⟨hg, h1, fun H1 S1 => ⟨hG _ _ _ hg S1, h2, fun H2 S2 => ⟨_, _, rfl, rfl, z H2 (S1.trans S2)⟩⟩⟩
end
end SQ

/-! From the class's defs to the rules of expressions. -/
namespace SQ
open PySem PySem.Spec PyProof.Rows L2 SF
/-- a special of the class -/
structure Has (K : PySem.W.Frag) (C : Addr) (name : Str) (f : Addr) : Prop where
  h : PySem.W.findIn K (.ref C) name = some (some (.ref f))
  i : PySem.W.isFn K (.ref f) = true
structure Ne0 (K : PySem.W.Frag) (C : Addr) : Prop where
  h : PySem.W.findIn K (.ref C) "__ne__" = some (some (.builtin "object.__ne__"))
structure NoInt (K : PySem.W.Frag) (C : Addr) : Prop where
  h : PySem.W.subIn K (.type "int") (.ref C) = some false
/-- a def with its promise -/
structure Df (P : Program) (w : World) (K : PySem.W.Frag) (mg : Str → Option Value) (base : Heap) (l : Nat) (ps : List Str) (sp : Sp) where
  f : Addr
  fd : FuncData
  G : FnOk P w K mg base CX0 l f fd ps sp
  b : Binds K fd ps []
def Df.up {P : Program} {w : World} {K : PySem.W.Frag} {mg : Str → Option Value} {base : Heap} {l l' : Nat} {ps : List Str} {sp : Sp} (D : Df P w K mg base l ps sp) (h : l ≤ l') : Df P w K mg base l' ps sp := ⟨D.f, D.fd, D.G.mono h, D.b⟩
section
variable {X : Cx} {C : Addr} {G : L2.St → Hp → Prop} {a b e : Expr} {k k1 k2 : Bool} {l n m : Nat} {q r : Rat} {s s1 s2 : Prop} {pos p1 p2 : Pos} {side : Rat → Rat → Prop} {f : Rat → Rat → Rat} {g : Nat → Nat → Nat} {op : Operator} {ps : List Str}
theorem nv_true {H : Hp} {v : V} (x : NV C H true v n q) : ∃ a, v = .ref a ∧ RQ C H a n q := x
theorem nv_false {H : Hp} {v : V} (x : NV C H false v n q) : ∃ i : Int, v = .int i ∧ q = (i : Rat) := let ⟨i, a, b, _⟩ := x; ⟨i, a, b⟩
theorem op_q (D : Df X.prog X.w X.K X.mg X.base l ps (spM C side f g)) (O : OwnOp X.K C op D.f) (hr : Room l X.A) : OpR X (binaryOp op) (rQ C true k2 side f g) := by
  intro pins st σ H x y v u Q I rx ry h
  obtain ⟨n, m, q, r, nx, ny, hs, hl, z⟩ := h
  refine op_OB (E := E0) O D.G D.b hr pass0 pins st σ H x y v u Q I rx ry ⟨?_, ?_, ?_⟩
  · obtain ⟨a, rfl, y⟩ := nx; exact y.ins
  · exact ny.kind
  · obtain ⟨a, rfl, y'⟩ := nx
    exact ⟨a, k2, y, n, m, q, r, rfl, y', ny, hs, hl, z⟩
theorem op_qR {idl : String} {side' : Rat → Rat → Prop} {f' : Rat → Rat → Rat} {g' : Nat → Nat → Nat} {fa : Addr} (N : IntNo op idl) (D : Df X.prog X.w X.K X.mg X.base l ps (spM C side' f' g')) (O : OwnOpR X.K C op fa D.f) (hr : Room l X.A)
    (es : ∀ q r, side q r → side' r q) (ef : ∀ q r, f' r q = f q r) (eg : ∀ n m, g' m n = g n m) : OpR X (binaryOp op) (rQ C false true side f g) := by
  intro pins st σ H x y v u Q I rx ry h
  obtain ⟨n, m, q, r, nx, ny, hs, hl, z⟩ := h
  obtain ⟨i, e1, e2⟩ := nv_false nx
  obtain ⟨a, e3, y'⟩ := nv_true ny
  refine op_OBR (E := E0) N O D.G D.b hr pass0 pins st σ H x y v u Q I rx ry ⟨⟨i, e1⟩, ?_, ?_⟩
  · rw [e3]; exact y'.ins
  · rw [e3]
    refine ⟨a, false, x, m, n, r, q, rfl, y', nx, es q r hs, by rw [eg]; exact hl, fun p H' S rq => z p H' S ?_⟩
    rw [eg, ef] at rq
    exact rq
theorem un_q {sd : Rat → Prop} {f1 : Rat → Rat} (D : Df X.prog X.w X.K X.mg X.base l ps (sp1 C sd f1)) (hs : Has X.K C "__neg__" D.f) (hr : Room l X.A) : UnR X (unaryOp .USub) (rQ1 C sd f1) := by
  intro pins st σ H x v Q I rx h
  obtain ⟨n, q, nx, hs', hl, z⟩ := h
  obtain ⟨a, rfl, y'⟩ := nv_true nx
  exact un_ON (E := E0) hs.h hs.i D.G D.b hr pass0 pins st σ H _ v Q I rx ⟨y'.ins, a, n, q, rfl, y', hs', hl, z⟩
theorem pq_abs {x : Str} {sd : Rat → Prop} {f1 : Rat → Rat} (D : Df X.prog X.w X.K X.mg X.base l ps (sp1 C sd f1)) (hs : Has X.K C "__abs__" D.f) (hr : Room (l + 1) X.A)
    (hg : Gl X x) (hm : X.mg x = none) (hv : bootBuiltins x = some (.builtin "abs")) (ha : PE X a (TQ C G true n q s)) (hn : x ≠ "__name__" := by decide) (hdb : (x == ("__debug__" : Str)) = false := by decide)
    (he : starEach (a :: []) X.env = (false, eval a X.env) :: starEach [] X.env := by rfl) (hpl : (backTo pos (starEach [] X.env)).any (·.1) = false := by rfl) : PE X (.Call (.Name x p1) [a] [] pos) (TQ C G true n (f1 q) (s ∧ sd q ∧ n ≤ LIM)) :=
  pe_weak (pe_callB (call_absOwn (E := E0) hs.h hs.i D.G D.b hr pass0) hg hm hv (pa_cons ha pa_nil he) hn hdb he hpl) fun σ H Q ⟨hg, ⟨h1, h2, h3⟩, z⟩ =>
    ⟨hg, h1, fun v H1 S1 nv => by
      obtain ⟨a, rfl, y'⟩ := nv_true nv
      exact ⟨_, rfl, y'.ins, a, n, q, rfl, y', h2, h3, fun p H2 S2 rq => z _ H2 (S1.trans S2) rq.nv⟩⟩
/-! #### comparisons -/
section
variable {fld : Str}
theorem RC.typ {K : PySem.W.Frag} {mg : Str → Option Value} {H : Hp} {a : Addr} {t b : Int} (T : RC K mg C) (r : RatH C H a t b) : TyX K H (.ref a) (.ref C) := let ⟨dx, e⟩ := r; .base (.ins e T.cl T.ca T.cn T.ct T.cm)
theorem nfC {K : PySem.W.Frag} : PySem.W.notFirst K C (.ref C) = true := by simp [PySem.W.notFirst]
theorem nfI {K : PySem.W.Frag} (h : PySem.W.subIn K (.type "int") (.ref C) = some false) : PySem.W.notFirst K C (.type "int") = true := by
  unfold PySem.W.notFirst
  rw [h]
  simp
theorem nv_ty {K : PySem.W.Frag} {mg : Str → Option Value} {H : Hp} {v : V} (T : RC K mg C) (hi : PySem.W.subIn K (.type "int") (.ref C) = some false) (x : NV C H k v n q) : ∃ tb, TyX K H v tb ∧ PySem.W.notFirst K C tb = true := by
  cases k with
  | true => obtain ⟨a, rfl, y⟩ := x; exact ⟨_, T.typ y.1, nfC⟩
  | false => obtain ⟨i, rfl, _⟩ := x; exact ⟨_, .base (.int i), nfI hi⟩
theorem op_eqq (T : RC X.K X.mg C) (hi : NoInt X.K C) (D : Df X.prog X.w X.K X.mg X.base l ps (spEq C)) (hs : Has X.K C "__eq__" D.f) (hr : Room l X.A) :
    OpR X (compareOp .Eq) (rQe C k2 fun q r => decide (q = r)) := by
  intro pins st σ H x y v u Q I rx ry h
  obtain ⟨n, m, q, r, nx, ny, z⟩ := h
  obtain ⟨a, rfl, y'⟩ := nv_true nx
  obtain ⟨tb, hty, hnf⟩ := nv_ty T hi.h ny
  obtain ⟨⟨dx, ea⟩, _⟩ := id y'
  exact op_ownL (op := .Eq) (E := E0) (fun _ _ => rfl) hs.h hs.i D.G D.b hr pass0 pins st σ H _ y v u Q I rx ry ⟨a, dx, _, tb, rfl, ea, hty, hnf, a, n, q, y, rfl, y', .inl ⟨k2, m, r, ny, z⟩⟩
theorem op_neq (T : RC X.K X.mg C) (hi : NoInt X.K C) (D : Df X.prog X.w X.K X.mg X.base l ps (spEq C)) (hne : Ne0 X.K C) (hs : Has X.K C "__eq__" D.f) (hr : Room (l + 1) X.A) : OpR X (compareOp .NotEq) (rQe C k2 fun q r => !decide (q = r)) := by
  intro pins st σ H x y v u Q I rx ry h
  obtain ⟨n, m, q, r, nx, ny, z⟩ := h
  obtain ⟨a, rfl, y'⟩ := nv_true nx
  obtain ⟨tb, hty, hnf⟩ := nv_ty T hi.h ny
  obtain ⟨⟨dx, ea⟩, _⟩ := id y'
  exact op_ownNeL (E := E0) hne.h T.cm hs.h hs.i D.G D.b hr pass0 pins st σ H _ y v u Q I rx ry ⟨a, dx, _, tb, rfl, ea, hty, hnf, a, n, q, y, rfl, y', .inl ⟨k2, m, r, ny, _, rfl, z⟩⟩
end
/-! #### e.top, e.bottom, str(e), repr(e), bool(e) -/
theorem pI_top {p : Addr} {ps : List Str} (T : Cls X.K C) (D : Df X.prog X.w X.K X.mg X.base l ps (getSp C "_top")) (hp : PropOf X.K C "top" p D.f) (hr : Room (l + 1) X.A) (ha : PE X a (TQ C G true n q s))
    (hab : attributeBase a "top" X.env (eval a X.env) = eval a X.env := by rfl) : PE X (.Attribute a "top" pos) (TI G q.num s) :=
  pe_weak (pe_prop (E := E0) ha T hp D.G hr D.b .nil pass0 hab) fun σ H Q ⟨hg, h1, z⟩ => ⟨hg, h1, fun v H1 S1 nv => by
    obtain ⟨a, rfl, ⟨dx, e⟩, _⟩ := nv_true nv
    exact ⟨a, dx, _, rfl, e, a, dx, _, _, rfl, e, rf_top _ _, z H1 S1⟩⟩
theorem pI_bot {p : Addr} {ps : List Str} (T : Cls X.K C) (D : Df X.prog X.w X.K X.mg X.base l ps (getSp C "_bottom")) (hp : PropOf X.K C "bottom" p D.f) (hr : Room (l + 1) X.A) (ha : PE X a (TQ C G true n q s))
    (hab : attributeBase a "bottom" X.env (eval a X.env) = eval a X.env := by rfl) : PE X (.Attribute a "bottom" pos) (TI G (q.den : Int) s) :=
  pe_weak (pe_prop (E := E0) ha T hp D.G hr D.b .nil pass0 hab) fun σ H Q ⟨hg, h1, z⟩ => ⟨hg, h1, fun v H1 S1 nv => by
    obtain ⟨a, rfl, ⟨dx, e⟩, _⟩ := nv_true nv
    exact ⟨a, dx, _, rfl, e, a, dx, _, _, rfl, e, rf_bot _ _, z H1 S1⟩⟩
theorem pS_str {x : Str} (D : Df X.prog X.w X.K X.mg X.base l ps (spStr C)) (hs : Has X.K C "__str__" D.f) (hr : Room (l + 2) X.A)
    (hg : Gl X x) (hm : X.mg x = none) (hv : bootBuiltins x = some (.type "str")) (ha : PE X a (TQ C G true n q s)) (hn : x ≠ "__name__" := by decide) (hdb : (x == ("__debug__" : Str)) = false := by decide)
    (he : starEach (a :: []) X.env = (false, eval a X.env) :: starEach [] X.env := by rfl) (hpl : (backTo pos (starEach [] X.env)).any (·.1) = false := by rfl) : PE X (.Call (.Name x p1) [a] [] pos) (TS G (rstr q) (s ∧ n ≤ 1900)) :=
  pe_weak (pe_callTy (call_strOwn (E := E0) hs.h hs.i D.G D.b hr pass0) hg hm hv (pa_cons ha pa_nil he) hn hdb he hpl) fun σ H Q ⟨hg, ⟨h1, h2⟩, z⟩ =>
    ⟨hg, h1, fun v H1 S1 nv => by
      obtain ⟨a, rfl, y'⟩ := nv_true nv
      obtain ⟨⟨dx, e⟩, _⟩ := id y'
      exact ⟨a, dx, _, rfl, e, a, n, q, rfl, y', h2, _, rfl, z H1 S1⟩⟩
theorem pS_repr {x : Str} (D : Df X.prog X.w X.K X.mg X.base l ps (spRepr C)) (hs : Has X.K C "__repr__" D.f) (hr : Room (l + 1) X.A)
    (hg : Gl X x) (hm : X.mg x = none) (hv : bootBuiltins x = some (.builtin "repr")) (ha : PE X a (TQ C G true n q s)) (hn : x ≠ "__name__" := by decide) (hdb : (x == ("__debug__" : Str)) = false := by decide)
    (he : starEach (a :: []) X.env = (false, eval a X.env) :: starEach [] X.env := by rfl) (hpl : (backTo pos (starEach [] X.env)).any (·.1) = false := by rfl) : PE X (.Call (.Name x p1) [a] [] pos) (TS G (rrepr q) (s ∧ n ≤ 1900)) :=
  pe_weak (pe_callB (call_reprOwn (E := E0) hs.h hs.i D.G D.b hr pass0) hg hm hv (pa_cons ha pa_nil he) hn hdb he hpl) fun σ H Q ⟨hg, ⟨h1, h2⟩, z⟩ =>
    ⟨hg, h1, fun v H1 S1 nv => by
      obtain ⟨a, rfl, y'⟩ := nv_true nv
      obtain ⟨⟨dx, e⟩, _⟩ := id y'
      exact ⟨a, dx, _, rfl, e, a, n, q, rfl, y', h2, _, rfl, z H1 S1⟩⟩
theorem pb_bool {x : Str} (D : Df X.prog X.w X.K X.mg X.base l ps (spBool C)) (hs : Has X.K C "__bool__" D.f) (hr : Room (l + 2) X.A)
    (hg : Gl X x) (hm : X.mg x = none) (hv : bootBuiltins x = some (.type "bool")) (ha : PE X a (TQ C G true n q s)) (hn : x ≠ "__name__" := by decide) (hdb : (x == ("__debug__" : Str)) = false := by decide)
    (he : starEach (a :: []) X.env = (false, eval a X.env) :: starEach [] X.env := by rfl) (hpl : (backTo pos (starEach [] X.env)).any (·.1) = false := by rfl) : PE X (.Call (.Name x p1) [a] [] pos) (TB G (decide (q ≠ 0)) s) :=
  pe_weak (pe_callTy (call_boolOwn (E := E0) hs.h hs.i D.G D.b hr pass0) hg hm hv (pa_cons ha pa_nil he) hn hdb he hpl) fun σ H Q ⟨hg, h1, z⟩ =>
    ⟨hg, h1, fun v H1 S1 nv => by
      obtain ⟨a, rfl, y'⟩ := nv_true nv
      obtain ⟨⟨dx, e⟩, _⟩ := id y'
      exact ⟨a, dx, _, rfl, e, a, n, q, rfl, y', _, rfl, z H1 S1⟩⟩
/-! #### methods -/
theorem pq_over {pl : Sem Bool} {o : Expr} {apos : Pos} (c : Cls X.K C) (D : Df X.prog X.w X.K X.mg X.base l ps (spM C side f g)) (hm : Meth X.K C "over" D.f) (hr : Room l X.A) (hG : GS G) (ho : PE X o (TQ C G true n q s1)) (ha : PE X a (TQ C G k2 m r s2))
    (hst : starEach (a :: []) X.env = (false, eval a X.env) :: starEach [] X.env := by rfl) (hpl : (backTo pos (starEach [] X.env)).any (·.1) = false := by rfl)
    (ht : eval (.Call (.Attribute o "over" apos) [a] [] pos) X.env = (do
      let ov ← eval o X.env
      standAt apos.atName
      let (f, first) ← holding [ov] (getMethod ov "over" pl)
      callWith pos f first (backTo pos (starEach (a :: []) X.env)) (backToKw pos (keywordEach [] X.env))) := by rfl) : PE X (.Call (.Attribute o "over" apos) [a] [] pos) (TQ C G true (g n m) (f q r) (s1 ∧ s2 ∧ side q r ∧ g n m ≤ LIM)) :=
  pe_weak (pe_meth (pl := pl) (E := E0) ho c hm D.G hr D.b .nil pass0 (pa_cons ha pa_nil hst) hst hpl ht) fun σ H Q ⟨hg, ⟨h1, h2, h3, h4⟩, z⟩ =>
    ⟨hg, h1, fun v H1 S1 nv => by
      obtain ⟨a, rfl, y'⟩ := nv_true nv
      obtain ⟨⟨dx, e⟩, _⟩ := id y'
      exact ⟨a, dx, _, rfl, e, rf_no _ _ (by decide +kernel) (by decide +kernel), hG _ _ _ hg S1, h2, fun u H2 S2 nu => ⟨a, k2, u, n, m, q, r, rfl, y'.same S2, nu, h3, h4, fun p H3 S3 rq => z _ H3 ((S1.trans S2).trans S3) rq.nv⟩⟩⟩
theorem pq_power {pl : Sem Bool} {o : Expr} {apos : Pos} {i : Int} (c : Cls X.K C) (D : Df X.prog X.w X.K X.mg X.base l ps (spPow C)) (hm : Meth X.K C "power" D.f) (hr : Room l X.A) (hG : GS G) (ho : PE X o (TQ C G true n q s1)) (ha : PE X a (TI G i s2))
    (hst : starEach (a :: []) X.env = (false, eval a X.env) :: starEach [] X.env := by rfl) (hpl : (backTo pos (starEach [] X.env)).any (·.1) = false := by rfl)
    (ht : eval (.Call (.Attribute o "power" apos) [a] [] pos) X.env = (do
      let ov ← eval o X.env
      standAt apos.atName
      let (f, first) ← holding [ov] (getMethod ov "power" pl)
      callWith pos f first (backTo pos (starEach (a :: []) X.env)) (backToKw pos (keywordEach [] X.env))) := by rfl) : PE X (.Call (.Attribute o "power" apos) [a] [] pos) (TQ C G true (n * i.natAbs + 1) (q ^ i) (s1 ∧ s2 ∧ -20 ≤ i ∧ i ≤ 20 ∧ (q ≠ 0 ∨ 0 ≤ i) ∧ n * i.natAbs + 1 ≤ LIM ∧ n ≤ LIM)) :=
  pe_weak (pe_meth (pl := pl) (E := E0) ho c hm D.G hr D.b .nil pass0 (pa_cons ha pa_nil hst) hst hpl ht) fun σ H Q ⟨hg, ⟨h1, h2, h3⟩, z⟩ =>
    ⟨hg, h1, fun v H1 S1 nv => by
      obtain ⟨a, rfl, y'⟩ := nv_true nv
      obtain ⟨⟨dx, e⟩, _⟩ := id y'
      obtain ⟨h31, h32, h33, h34, h35⟩ := h3
      exact ⟨a, dx, _, rfl, e, rf_no _ _ (by decide +kernel) (by decide +kernel), hG _ _ _ hg S1, h2, fun H2 S2 => ⟨a, n, q, i, rfl, y'.same S2, h31, h32, h33, h34, h35, fun p H3 S3 rq => z _ H3 ((S1.trans S2).trans S3) rq.nv⟩⟩⟩
/-- a ** i -/
theorem pq_pow {i : Int} (D : Df X.prog X.w X.K X.mg X.base l ps (spPow C)) (O : OwnOp X.K C .Pow D.f) (hr : Room l X.A) (hG : GS G) (ha : PE X a (TQ C G true n q s1)) (hb : PE X b (TI G i s2)) :
    PE X (.BinOp a .Pow b pos) (TQ C G true (n * i.natAbs + 1) (q ^ i) (s1 ∧ s2 ∧ -20 ≤ i ∧ i ≤ 20 ∧ (q ≠ 0 ∨ 0 ≤ i) ∧ n * i.natAbs + 1 ≤ LIM ∧ n ≤ LIM)) :=
  pe_weak (pe_op (op_OB (E := E0) O D.G D.b hr pass0) ha hb) fun σ H Q ⟨hg, ⟨h1, h2, h3⟩, z⟩ =>
    ⟨hg, h1, fun v H1 S1 nv => by
      obtain ⟨a, rfl, y'⟩ := nv_true nv
      obtain ⟨h31, h32, h33, h34, h35⟩ := h3
      exact ⟨hG _ _ _ hg S1, h2, fun H2 S2 => ⟨(y'.same S2).ins, .inr ⟨i, rfl⟩, a, n, q, i, rfl, y'.same S2, h31, h32, h33, h34, h35, fun p H3 S3 rq => z _ H3 ((S1.trans S2).trans S3) rq.nv⟩⟩⟩
/-- Ratio(e, f) -/
theorem pq_make {x : Str} {i j : Int} {p : Addr} {fd : FuncData} (M : Mk X.K C p) (F : FnOk X.prog X.w X.K X.mg X.base CX0 l p fd ["self", "top", "bottom"] (spInit C)) (hb : Binds X.K fd ["self", "top", "bottom"] []) (hr : Room (l + 1) X.A) (hg : Gl X x) (hm : X.mg x = some (.ref C)) (hG : GS G)
    (ha : PE X a (TI G i s1)) (hb' : PE X b (TI G j s2)) (hi : i.natAbs < 2 ^ n) (hj : j.natAbs < 2 ^ n) (hdb : (x == ("__debug__" : Str)) = false := by decide)
    (he : starEach (a :: [b]) X.env = (false, eval a X.env) :: starEach [b] X.env := by rfl) (he2 : starEach (b :: []) X.env = (false, eval b X.env) :: starEach [] X.env := by rfl) (hpl : (backTo pos (starEach [b] X.env)).any (·.1) = false := by rfl) :
    PE X (.Call (.Name x p1) [a, b] [] pos) (TQ C G true n (Rat.divInt i j) (s1 ∧ s2 ∧ j ≠ 0 ∧ n ≤ LIM)) :=
  pe_weak (pe_make (E := E0) M F hr hg hm hb .nil pass0 (pa_cons ha (pa_cons hb' pa_nil he2) he) hdb he hpl) fun σ H Q ⟨hg, ⟨h1, h2, h3, h4⟩, z⟩ =>
    ⟨hg, h1, fun H1 S1 => ⟨hG _ _ _ hg S1, h2, fun H2 S2 x dx hx hd hn => mk_fin hx hd hn h3 hi hj h4 fun H3 S3 rq => ⟨rfl, z _ H3 ((S1.trans S2).trans S3) rq.nv⟩⟩⟩
end
end SQ

/-! Slots that hold fractions and ints. -/
namespace SQ
open PySem PySem.Spec PyProof.Rows L2 SF
inductive Sl where
  | fr (n : Nat) (r : Rat)
  | nv (k : Bool) (n : Nat) (r : Rat)
  | i (z : Int)
  | any
def Sl.ok (C : Addr) (H : Hp) : Sl → Option V → Prop
  | .fr n r, o => ∃ a, o = some (.ref a) ∧ RQ C H a n r
  | .nv k n r, o => ∃ v, o = some v ∧ NV C H k v n r
  | .i z, o => o = some (.int z)
  | .any, _ => True
def Env (C : Addr) : List Sl → L2.St → Hp → Prop
  | [], _, _ => True
  | s :: L, o :: σ, H => s.ok C H o ∧ Env C L σ H
  | _ :: _, [], _ => False
theorem Sl.same {C : Addr} {H H' : Hp} {s : Sl} {o : Option V} (h : s.ok C H o) (S : Same H H') : s.ok C H' o := by
  cases s with
  | fr n q => obtain ⟨a, e, r⟩ := h; exact ⟨a, e, r.same S⟩
  | nv k n q => obtain ⟨v, e, r⟩ := h; exact ⟨v, e, r.same S⟩
  | i z => exact h
  | any => trivial
theorem Env.gs {C : Addr} : ∀ {L : List Sl}, GS (Env C L)
  | [], _, _, _, _, _ => trivial
  | _ :: L, _ :: σ, H, H', h, S => ⟨Sl.same h.1 S, Env.gs σ H H' h.2 S⟩
  | _ :: _, [], _, _, h, _ => h
theorem Env.at {C : Addr} : ∀ {L : List Sl} {σ : L2.St} {H : Hp} {j : Nat} {s : Sl}, Env C L σ H → L[j]? = some s → ∃ o, σ[j]? = some o ∧ s.ok C H o
  | _ :: _, o :: _, _, 0, s, h, e => by cases e; exact ⟨o, rfl, h.1⟩
  | _ :: L, _ :: σ, H, j + 1, s, h, e => by
    obtain ⟨o, e1, e2⟩ := Env.at (L := L) (σ := σ) (H := H) (j := j) h.2 e
    exact ⟨o, e1, e2⟩
  | [], _, _, _, _, _, e => by cases e
  | _ :: _, [], _, _, _, h, _ => h.elim
section
variable {X : Cx} {C : Addr} {G : L2.St → Hp → Prop} {a b e : Expr} {k k1 k2 : Bool} {n m : Nat} {q r : Rat} {s s1 s2 : Prop} {pos p1 p2 : Pos} {i j : Int}
/-- slot j holds a fraction -/
theorem vq (L : List Sl) (j : Nat) (h : PE X e (tVar j)) (hL : L[j]? = some (.fr n q)) : PE X e (TQ C (Env C L) true n q True) :=
  pq_var h fun σ H g => by
    obtain ⟨o, e1, a, rfl, r⟩ := g.at hL
    exact ⟨_, e1, r.nv⟩
theorem vnv (L : List Sl) (j : Nat) (h : PE X e (tVar j)) (hL : L[j]? = some (.nv k n q)) : PE X e (TQ C (Env C L) k n q True) :=
  pq_var h fun σ H g => by
    obtain ⟨o, e1, v, rfl, r⟩ := g.at hL
    exact ⟨_, e1, r⟩
theorem vi (L : List Sl) (j : Nat) {z : Int} (h : PE X e (tVar j)) (hL : L[j]? = some (.i z)) : PE X e (TI (Env C L) z True) :=
  pI_var h fun σ H g => by
    obtain ⟨o, e1, e2⟩ := g.at hL
    rw [e1, show o = some (.int z) from e2]
theorem pI_mul (hG : GS G) (ha : PE X a (TI G i s1)) (hb : PE X b (TI G j s2)) : PE X (.BinOp a .Mult b pos) (TI G (i * j) (s1 ∧ s2 ∧ CMulW i j)) :=
  pe_weak (pe_op op_mulW ha hb) fun σ H Q ⟨hg, ⟨h1, h2, h3⟩, z⟩ => ⟨hg, h1, fun H1 S1 => ⟨hG _ _ _ hg S1, h2, fun H2 S2 => ⟨_, _, rfl, rfl, h3, z H2 (S1.trans S2)⟩⟩⟩
theorem pI_sub (hG : GS G) (ha : PE X a (TI G i s1)) (hb : PE X b (TI G j s2)) : PE X (.BinOp a .Sub b pos) (TI G (i - j) (s1 ∧ s2)) :=
  pe_weak (pe_op op_sub ha hb) fun σ H Q ⟨hg, ⟨h1, h2⟩, z⟩ => ⟨hg, h1, fun H1 S1 => ⟨hG _ _ _ hg S1, h2, fun H2 S2 => ⟨_, _, rfl, rfl, z H2 (S1.trans S2)⟩⟩⟩
theorem pI_fdiv (hG : GS G) (ha : PE X a (TI G i s1)) (hb : PE X b (TI G j s2)) : PE X (.BinOp a .FloorDiv b pos) (TI G (i.fdiv j) (s1 ∧ s2 ∧ CDivZ i j)) :=
  pe_weak (pe_op op_fdivZ ha hb) fun σ H Q ⟨hg, ⟨h1, h2, h3⟩, z⟩ => ⟨hg, h1, fun H1 S1 => ⟨hG _ _ _ hg S1, h2, fun H2 S2 => ⟨_, _, rfl, rfl, h3, z H2 (S1.trans S2)⟩⟩⟩
theorem pI_neg (ha : PE X a (TI G i s1)) : PE X (.UnaryOp .USub a pos) (TI G (-i) s1) :=
  pe_weak (pe_un un_neg ha) fun σ H Q ⟨hg, h1, z⟩ => ⟨hg, h1, fun H1 S1 => ⟨_, rfl, z H1 S1⟩⟩
/-- e._top, e._bottom, read within the class -/
theorem pI_ftop (T : Cls X.K C) (hN : NoAttr X.K C "_top") (ha : PE X a (TQ C G true n q s)) (hab : attributeBase a "_top" X.env (eval a X.env) = eval a X.env := by rfl) : PE X (.Attribute a "_top" pos) (TI G q.num s) :=
  pe_weak (pe_fld ha hab) fun σ H Q ⟨hg, h1, z⟩ => ⟨hg, h1, fun v H1 S1 nv => by
    obtain ⟨a, rfl, ⟨dx, e⟩, _⟩ := nv_true nv
    exact ⟨a, C, dx, _, _, rfl, e, T, hN, rf_top _ _, z H1 S1⟩⟩
theorem pI_fbot (T : Cls X.K C) (hN : NoAttr X.K C "_bottom") (ha : PE X a (TQ C G true n q s)) (hab : attributeBase a "_bottom" X.env (eval a X.env) = eval a X.env := by rfl) : PE X (.Attribute a "_bottom" pos) (TI G (q.den : Int) s) :=
  pe_weak (pe_fld ha hab) fun σ H Q ⟨hg, h1, z⟩ => ⟨hg, h1, fun v H1 S1 nv => by
    obtain ⟨a, rfl, ⟨dx, e⟩, _⟩ := nv_true nv
    exact ⟨a, C, dx, _, _, rfl, e, T, hN, rf_bot _ _, z H1 S1⟩⟩
theorem pI_abs {x : Str} (hg : Gl X x) (hm : X.mg x = none) (hv : bootBuiltins x = some (.builtin "abs")) (ha : PE X a (TI G i s)) (hn : x ≠ "__name__" := by decide) (hdb : (x == ("__debug__" : Str)) = false := by decide)
    (he : starEach (a :: []) X.env = (false, eval a X.env) :: starEach [] X.env := by rfl) (hpl : (backTo pos (starEach [] X.env)).any (·.1) = false := by rfl) : PE X (.Call (.Name x p1) [a] [] pos) (TI G (if i < 0 then -i else i) s) :=
  pe_weak (pe_callB call_abs hg hm hv (pa_cons ha pa_nil he) hn hdb he hpl) fun σ H Q ⟨hg, h1, z⟩ => ⟨hg, h1, fun H1 S1 => ⟨i, rfl, z H1 S1⟩⟩
/-- a call of an own def: of two fractions -/
theorem pq_call2 {l : Nat} {x : Str} {D : Addr} {fd : FuncData} {ps : List Str} {side : Rat → Rat → Prop} {f : Rat → Rat → Rat} {g : Nat → Nat → Nat} (F : FnOk X.prog X.w X.K X.mg X.base CX0 l D fd ps (sp2 C side f g)) (hr : Room l X.A) (hg : Gl X x) (hm : X.mg x = some (.ref D)) (hk : PySem.W.keepIn X.K (.ref D) = true) (hb : Binds X.K fd ps []) (hG : GS G)
    (ha : PE X a (TQ C G true n q s1)) (hb' : PE X b (TQ C G true m r s2)) (hdb : (x == ("__debug__" : Str)) = false := by decide)
    (he : starEach (a :: [b]) X.env = (false, eval a X.env) :: starEach [b] X.env := by rfl) (he2 : starEach (b :: []) X.env = (false, eval b X.env) :: starEach [] X.env := by rfl) (hpl : (backTo pos (starEach [b] X.env)).any (·.1) = false := by rfl) :
    PE X (.Call (.Name x p1) [a, b] [] pos) (TQ C G true (g n m) (f q r) (s1 ∧ s2 ∧ side q r ∧ g n m ≤ LIM)) :=
  pe_weak (pe_call (E := E0) F hr hg hm hk hb .nil pass0 (pa_cons ha (pa_cons hb' pa_nil he2) he) hdb he hpl) fun σ H Q ⟨hg, ⟨h1, h2, h3, h4⟩, z⟩ =>
    ⟨hg, h1, fun v H1 S1 nv => ⟨hG _ _ _ hg S1, h2, fun u H2 S2 nu => by
      obtain ⟨a, rfl, y⟩ := nv_true nv
      obtain ⟨b, rfl, y'⟩ := nv_true nu
      exact ⟨a, b, n, m, q, r, rfl, y.same S2, y', h3, h4, fun p H3 S3 rq => z _ H3 ((S1.trans S2).trans S3) rq.nv⟩⟩⟩
/-- .. of one -/
theorem pq_call1 {l : Nat} {x : Str} {D : Addr} {fd : FuncData} {ps : List Str} {sd : Rat → Prop} {f : Rat → Rat} (F : FnOk X.prog X.w X.K X.mg X.base CX0 l D fd ps (sp1 C sd f)) (hr : Room l X.A) (hg : Gl X x) (hm : X.mg x = some (.ref D)) (hk : PySem.W.keepIn X.K (.ref D) = true) (hb : Binds X.K fd ps [])
    (ha : PE X a (TQ C G true n q s1)) (hdb : (x == ("__debug__" : Str)) = false := by decide)
    (he : starEach (a :: []) X.env = (false, eval a X.env) :: starEach [] X.env := by rfl) (hpl : (backTo pos (starEach [] X.env)).any (·.1) = false := by rfl) :
    PE X (.Call (.Name x p1) [a] [] pos) (TQ C G true n (f q) (s1 ∧ sd q ∧ n ≤ LIM)) :=
  pe_weak (pe_call (E := E0) F hr hg hm hk hb .nil pass0 (pa_cons ha pa_nil he) hdb he hpl) fun σ H Q ⟨hg, ⟨h1, h2, h3⟩, z⟩ =>
    ⟨hg, h1, fun v H1 S1 nv => by
      obtain ⟨a, rfl, y⟩ := nv_true nv
      exact ⟨a, n, q, rfl, y, h2, h3, fun p H3 S3 rq => z _ H3 (S1.trans S3) rq.nv⟩⟩
/-- _as_ratio(e) -/
theorem pq_callA {l : Nat} {x : Str} {D : Addr} {fd : FuncData} {ps : List Str} (F : FnOk X.prog X.w X.K X.mg X.base CX0 l D fd ps (spAs C)) (hr : Room l X.A) (hg : Gl X x) (hm : X.mg x = some (.ref D)) (hk : PySem.W.keepIn X.K (.ref D) = true) (hb : Binds X.K fd ps [])
    (ha : PE X a (TQ C G k n q s1)) (hdb : (x == ("__debug__" : Str)) = false := by decide)
    (he : starEach (a :: []) X.env = (false, eval a X.env) :: starEach [] X.env := by rfl) (hpl : (backTo pos (starEach [] X.env)).any (·.1) = false := by rfl) :
    PE X (.Call (.Name x p1) [a] [] pos) (TQ C G true n q (s1 ∧ n ≤ LIM)) :=
  pe_weak (pe_call (E := E0) F hr hg hm hk hb .nil pass0 (pa_cons ha pa_nil he) hdb he hpl) fun σ H Q ⟨hg, ⟨h1, h2⟩, z⟩ =>
    ⟨hg, h1, fun v H1 S1 nv => ⟨v, k, n, q, rfl, nv, h2, fun p H3 S3 rq => z _ H3 (S1.trans S3) rq.nv⟩⟩
/-- is_number(e), e a number -/
theorem pb_num {l : Nat} {x : Str} {D : Addr} {fd : FuncData} {ps : List Str} (F : FnOk X.prog X.w X.K X.mg X.base CX0 l D fd ps (spIsN C)) (hr : Room l X.A) (hg : Gl X x) (hm : X.mg x = some (.ref D)) (hk : PySem.W.keepIn X.K (.ref D) = true) (hb : Binds X.K fd ps [])
    (ha : PE X a (TQ C G k n q s1)) (hdb : (x == ("__debug__" : Str)) = false := by decide)
    (he : starEach (a :: []) X.env = (false, eval a X.env) :: starEach [] X.env := by rfl) (hpl : (backTo pos (starEach [] X.env)).any (·.1) = false := by rfl) :
    PE X (.Call (.Name x p1) [a] [] pos) (TB G true s1) :=
  pe_weak (pe_call (E := E0) F hr hg hm hk hb .nil pass0 (pa_cons ha pa_nil he) hdb he hpl) fun σ H Q ⟨hg, h1, z⟩ =>
    ⟨hg, h1, fun v H1 S1 nv => ⟨v, rfl, by
      cases k with
      | true => obtain ⟨a, rfl, y⟩ := nv_true nv; exact .inr ⟨y.ins, z H1 S1⟩
      | false => obtain ⟨i, rfl, _⟩ := nv; exact .inl ⟨_, .int i, z H1 S1⟩⟩⟩
/-- return e -/
theorem qs_ret {C : Addr} {n : Nat} {q : Rat} {σ : L2.St} {H : Hp} {D : Ends} (hg : G σ H) (hs : s) (z : ∀ p H', Same H H' → RQ C H' p n q → D.rt (.ref p) H') : tRet (TQ C G true n q s) D σ H :=
  ⟨hg, hs, fun v H' S nv => by obtain ⟨a, rfl, y⟩ := nv_true nv; exact z a H' S y⟩
end
end SQ
namespace SQ
open PySem PySem.Spec PyProof.Rows L2 SF
section
variable {X : Cx} {C : Addr} {G : L2.St → Hp → Prop} {a b e : Expr} {k k1 k2 : Bool} {n m : Nat} {q r : Rat} {s s1 s2 : Prop} {pos p1 p2 : Pos} {i j : Int}
/-- Ratio(e): the bottom is 1 -/
theorem pq_make1 {l : Nat} {x : Str} {p : Addr} {fd : FuncData} {ds : List Value} (M : Mk X.K C p) (F : FnOk X.prog X.w X.K X.mg X.base CX0 l p fd ["self", "top", "bottom"] (spInit C)) (hb : Binds X.K fd ["self", "top", "bottom"] ds) (hd : Vals [V.int 1] ds) (hr : Room (l + 1) X.A) (hg : Gl X x) (hm : X.mg x = some (.ref C))
    (ha : PE X a (TI G i s1)) (hi : i.natAbs < 2 ^ n) (h0 : 0 < n) (hdb : (x == ("__debug__" : Str)) = false := by decide)
    (he : starEach (a :: []) X.env = (false, eval a X.env) :: starEach [] X.env := by rfl) (hpl : (backTo pos (starEach [] X.env)).any (·.1) = false := by rfl) :
    PE X (.Call (.Name x p1) [a] [] pos) (TQ C G true n (i : Rat) (s1 ∧ n ≤ LIM)) :=
  pe_weak (pe_make (E := E0) M F hr hg hm hb hd pass0 (pa_cons ha pa_nil he) hdb he hpl) fun σ H Q ⟨hg, ⟨h1, h4⟩, z⟩ =>
    ⟨hg, h1, fun H1 S1 x dx hx hd hn => mk_fin hx hd hn (by decide) hi (Nat.one_lt_two_pow (by omega)) h4 fun H3 S3 rq => ⟨rfl, z _ H3 (S1.trans S3) (by rw [int_is] at rq; exact rq.nv)⟩⟩
end
theorem inv_pow (q : Rat) : ∀ n : Nat, (q⁻¹) ^ n = (q ^ n)⁻¹
  | 0 => by rw [Rat.pow_zero, Rat.pow_zero]; exact (Rat.inv_eq_of_mul_eq_one (by simp)).symm
  | n + 1 => by rw [Rat.pow_succ, Rat.pow_succ, inv_pow q n, Rat.inv_mul_rev, Rat.mul_comm]
theorem zpow_pos_is (q : Rat) {e : Int} (h : 0 ≤ e) : q ^ e.natAbs = q ^ e := by
  obtain ⟨n, rfl⟩ := Int.eq_ofNat_of_zero_le h
  exact (Rat.zpow_natCast q n).symm
theorem zpow_neg_is (q : Rat) {e : Int} (h : e < 0) : (q⁻¹) ^ e.natAbs = q ^ e := by
  obtain ⟨n, hn⟩ := Int.eq_ofNat_of_zero_le (show 0 ≤ -e by omega)
  have e1 : e = -(n : Int) := by omega
  rw [e1, Rat.zpow_neg, Int.natAbs_neg, inv_pow]
  rfl
end SQ

/-! The texts of numbers and fractions. -/
namespace SQ
open PySem PySem.Spec PyProof.Rows L2 SF TL
theorem tx_nat (n : Nat) : tl (tx (n : Int)) = numL n := tl_num n
theorem tx_neg (n : Nat) : tl (tx (-((n + 1 : Nat) : Int))) = 45 :: numL (n + 1) := by
  have e : (-((n + 1 : Nat) : Int)) = Int.negSucc n := rfl
  have e2 : toString (Int.negSucc n) = "-" ++ toString (n + 1) := rfl
  rw [e]
  show tl (Str.ofString (toString (Int.negSucc n))) = _
  rw [e2, tl_ofString]
  have e3 : ("-" ++ toString (n + 1)).toList = '-' :: (toString (n + 1)).toList := by simp
  rw [e3, List.map_cons]
  have e4 := tl_num (n + 1)
  rw [tl_ofString] at e4
  have e5 : (toString ((n + 1 : Nat) : Int)) = toString (n + 1) := rfl
  rw [e5] at e4
  rw [e4]
  rfl
theorem numL_head {n : Nat} (h : 0 < n) : ∃ c l, numL n = c :: l ∧ c ≠ 48 ∧ 48 ≤ c ∧ c ≤ 57 := by
  induction n using Nat.strongRecOn with
  | _ n ih =>
    by_cases h1 : n < 10
    · exact ⟨_, _, numL_lt h1, by omega, by omega, by omega⟩
    · obtain ⟨c, l, e, h2, h3⟩ := ih (n / 10) (by omega) (by omega)
      rw [numL_step (by omega), e]
      exact ⟨c, _, rfl, h2, h3⟩
theorem tx_cases (i : Int) : (∃ n : Nat, i = n ∧ tl (tx i) = numL n) ∨ (∃ n : Nat, 0 < n ∧ i = -(n : Int) ∧ tl (tx i) = 45 :: numL n) := by
  by_cases h : i < 0
  · obtain ⟨n, hn⟩ := Int.eq_ofNat_of_zero_le (show 0 ≤ -i - 1 by omega)
    refine .inr ⟨n + 1, by omega, by omega, ?_⟩
    have : i = -((n + 1 : Nat) : Int) := by omega
    rw [this]
    exact tx_neg n
  · obtain ⟨n, rfl⟩ := Int.eq_ofNat_of_zero_le (show 0 ≤ i by omega)
    exact .inl ⟨n, rfl, tx_nat n⟩
theorem tx_free {i : Int} {s : Nat} (h : s < 45 ∨ 57 < s ∨ s = 46 ∨ s = 47) : s ∉ tl (tx i) := by
  rcases tx_cases i with ⟨n, _, e⟩ | ⟨n, _, _, e⟩
  · rw [e]; exact numL_free (by omega)
  · rw [e]
    intro z
    rcases List.mem_cons.mp z with z | z
    · omega
    · exact numL_free (by omega) z
theorem tx_inj {i j : Int} (h : tx i = tx j) : i = j := by
  have h : tl (tx i) = tl (tx j) := by rw [h]
  have no : ∀ {n m : Nat}, numL n = 45 :: numL m → False := fun {n m} e => by
    have : (45 : Nat) ∈ numL n := by rw [e]; exact List.mem_cons_self
    exact numL_free (by omega) this
  rcases tx_cases i with ⟨n, rfl, e⟩ | ⟨n, _, rfl, e⟩ <;> rcases tx_cases j with ⟨m, rfl, f⟩ | ⟨m, _, rfl, f⟩ <;> rw [e, f] at h
  · rw [numL_inj h]
  · exact (no h).elim
  · exact (no h.symm).elim
  · injection h with _ h
    rw [numL_inj h]
theorem int_tx {i : Int} (h : (tx i).length ≤ 4300) : intText? (tx i) = some i := by
  rcases tx_cases i with ⟨n, rfl, e⟩ | ⟨n, _, rfl, e⟩
  · have l : (numL n).length ≤ 4300 := by rw [← e, ← len_tl]; exact h
    exact int_num l
  · have := intText_neg (x := tx (-(n : Int))) e (numL_digits n) (numL_ne n) h
    rw [this, numL_val]
/-- two pieces around a sign that stands in neither first piece -/
theorem split_inj {c : Nat} : ∀ {u u' v v' : List Nat}, c ∉ u → c ∉ u' → u ++ c :: v = u' ++ c :: v' → u = u' ∧ v = v'
  | [], [], _, _, _, _, h => ⟨rfl, by simpa using h⟩
  | [], x :: u', v, v', _, h2, h => by
    simp only [List.nil_append, List.cons_append, List.cons.injEq] at h
    exact absurd (by rw [h.1]; exact List.mem_cons_self) h2
  | x :: u, [], v, v', h1, _, h => by
    simp only [List.nil_append, List.cons_append, List.cons.injEq] at h
    exact absurd (by rw [h.1]; exact List.mem_cons_self) h1
  | x :: u, y :: u', v, v', h1, h2, h => by
    simp only [List.cons_append, List.cons.injEq] at h
    obtain ⟨a, b⟩ := split_inj (c := c) (u := u) (u' := u') (fun z => h1 (List.mem_cons_of_mem _ z)) (fun z => h2 (List.mem_cons_of_mem _ z)) h.2
    exact ⟨by rw [h.1, a], b⟩
theorem tl_empty : tl Str.empty = [] := rfl
theorem rrepr_tl (q : Rat) : tl (rrepr q) = tl ("Ratio(" : Str) ++ (tl (tx q.num) ++ 44 :: (32 :: (tl (tx q.den) ++ [41]))) := by
  unfold rrepr
  simp only [tl_append, tl_empty]
  have e1 : tl (", " : Str) = [44, 32] := rfl
  have e2 : tl (")" : Str) = [41] := rfl
  rw [e1, e2]
  simp [List.append_assoc]
theorem rrepr_inj {q r : Rat} : decide (rrepr q = rrepr r) = decide (q = r) := by
  by_cases h : q = r
  · rw [h]; simp
  · rw [decide_eq_false h]
    refine decide_eq_false fun z => h ?_
    have e : tl (rrepr q) = tl (rrepr r) := by rw [z]
    rw [rrepr_tl, rrepr_tl] at e
    have e := List.append_cancel_left e
    obtain ⟨a, b⟩ := split_inj (tx_free (by omega)) (tx_free (by omega)) e
    simp only [List.cons.injEq, true_and] at b
    obtain ⟨b, _⟩ := split_inj (tx_free (by omega)) (tx_free (by omega)) b
    have e1 := tx_inj (ext_tl a)
    have e2 := tx_inj (ext_tl b)
    exact Rat.ext e1 (by omega)
theorem rstr_tl (q : Rat) : tl (rstr q) = if q.den = 1 then tl (tx q.num) else tl (tx q.num) ++ 47 :: tl (tx q.den) := by
  unfold rstr
  split
  · rfl
  · simp only [tl_append, tl_empty]
    have e1 : tl ("/" : Str) = [47] := rfl
    rw [e1]
    simp [List.append_assoc]
theorem rstr_inj {q r : Rat} : decide (rstr q = rstr r) = decide (q = r) := by
  by_cases h : q = r
  · rw [h]; simp
  · rw [decide_eq_false h]
    refine decide_eq_false fun z => h ?_
    have e : tl (rstr q) = tl (rstr r) := by rw [z]
    rw [rstr_tl, rstr_tl] at e
    have no : ∀ {i j k : Int}, tl (tx i) = tl (tx j) ++ 47 :: tl (tx k) → False := fun {i j k} e => by
      have : (47 : Nat) ∈ tl (tx i) := by rw [e]; simp
      exact tx_free (by omega) this
    split at e <;> split at e
    · exact Rat.ext (tx_inj (ext_tl e)) (by omega)
    · exact (no e).elim
    · exact (no e.symm).elim
    · obtain ⟨a, b⟩ := split_inj (tx_free (by omega)) (tx_free (by omega)) e
      have e1 := tx_inj (ext_tl a)
      have e2 := tx_inj (ext_tl b)
      exact Rat.ext e1 (by omega)

/-! ### what the program takes for a text of a fraction -/
def posT (x : Str) : Bool := Txt.isascii x && (Txt.isdigit x && !decide ((tl x).head? = some 48))
def iv (x : Str) : Int := (intText? x).getD 0
def isTx (x : Str) : Bool :=
  (decide ((Txt.partition x "/").1 = ("0" : Str)) || posT (Txt.removeprefix (Txt.partition x "/").1 "-")) &&
  (decide ((Txt.partition x "/").2.1 = ("" : Str)) || (posT (Txt.partition x "/").2.2 && (!decide ((Txt.partition x "/").2.2 = ("1" : Str)) && decide (gI (iv (Txt.partition x "/").1) (iv (Txt.partition x "/").2.2) = 1))))
theorem dig_uni : ∀ c : Nat, 48 ≤ c → c ≤ 57 → Unicode.isDigit c = true := by
  intro c h1 h2
  have : ∀ d : Fin 10, Unicode.isDigit (48 + d.val) = true := by decide +kernel
  have e := this ⟨c - 48, by omega⟩
  have e2 : 48 + (c - 48) = c := by omega
  simpa [e2] using e
theorem posT_num {n : Nat} (h : 0 < n) {x : Str} (hx : tl x = numL n) : posT x = true := by
  obtain ⟨c, l, e, h1, _⟩ := numL_head h
  have hd := numL_digits n
  unfold posT Txt.isascii Txt.isdigit
  have all : ∀ {p : Nat → Bool}, (∀ c, 48 ≤ c → c ≤ 57 → p c = true) → x.cps.all p = true := fun {p} hp => by
    rw [← Array.all_toList]
    show (tl x).all p = true
    rw [hx, List.all_eq_true]
    intro c hc
    have := hd c hc
    exact hp c (by omega) (by omega)
  rw [all (fun c _ _ => by simp; omega), all (fun c a b => dig_uni c a b), len_tl, hx, e]
  simp [h1]
theorem subAt0 (x : Str) : Builtin.Str.subAt x "-" 0 = decide ((tl x).head? = some 45) := by
  have e : Builtin.Str.subAt x "-" 0 = (x.cps.extract 0 1 == #[45]) := rfl
  rw [e, Bool.eq_iff_iff]
  constructor
  · intro h
    have h1 := congrArg Array.toList (eq_of_beq h)
    rw [Array.toList_extract] at h1
    have h2 : (tl x).take 1 = [45] := by simpa [List.extract] using h1
    cases hx : tl x with
    | nil => rw [hx] at h2; cases h2
    | cons c l => rw [hx] at h2; simp at h2; simp [h2]
  · intro h
    have h := of_decide_eq_true h
    have h1 : x.cps.extract 0 1 = #[45] := by
      apply Array.toList_inj.mp
      rw [Array.toList_extract]
      show List.extract (tl x) 0 1 = [45]
      cases hx : tl x with
      | nil => rw [hx] at h; cases h
      | cons c l => rw [hx] at h; simp at h; simp [List.extract, h]
    rw [h1]
    rfl
theorem rp_neg {x : Str} {l : List Nat} (h : tl x = 45 :: l) : tl (Txt.removeprefix x "-") = l := by
  have hl : x.length = l.length + 1 := by rw [len_tl, h]; rfl
  have s1 : ("-" : Str).length = 1 := rfl
  rw [StrLaws.removeprefix_eq, subAt0, h, s1, hl]
  rw [if_pos (by simp)]
  show ((x.cps.toList.drop 1).take (l.length + 1 - 1)) = l
  rw [show x.cps.toList = 45 :: l from h]
  simp
theorem rp_same {x : Str} (h : (tl x).head? ≠ some 45) : Txt.removeprefix x "-" = x := by
  rw [StrLaws.removeprefix_eq, subAt0, decide_eq_false h, Bool.and_false, if_neg (by simp)]
theorem rp_tx {i : Int} (h : i ≠ 0) : posT (Txt.removeprefix (tx i) "-") = true := by
  rcases tx_cases i with ⟨n, rfl, e⟩ | ⟨n, hn, rfl, e⟩
  · obtain ⟨c, l, e2, _, h1, h2⟩ := numL_head (n := n) (by omega)
    rw [rp_same (by rw [e, e2]; simp; omega)]
    exact posT_num (by omega) e
  · exact posT_num hn (rp_neg e)
theorem tx_zero : tx 0 = ("0" : Str) := rfl
theorem tx_one : tx 1 = ("1" : Str) := rfl
theorem part1 (i : Int) : Txt.partition (tx i) "/" = (tx i, Str.empty, Str.empty) := partition_none (y := "/") (s := 47) (S := []) rfl (tx_free (by omega))
theorem part2 (i j : Int) : Txt.partition (((Str.empty ++ tx i) ++ ("/" : Str)) ++ tx j) "/" = (tx i, ("/" : Str), tx j) := by
  have e : Str.empty ++ tx i = tx i := ext_tl (by rw [tl_append]; rfl)
  rw [e]
  exact partition_app (y := "/") (s := 47) (S := []) rfl (tx_free (by omega))
theorem cop_gI (q : Rat) : gI q.num q.den = 1 := by
  unfold gI
  have := q.reduced
  unfold Nat.Coprime at this
  rw [show ((q.den : Int)).natAbs = q.den from rfl, this]
  rfl
theorem a_ok (i : Int) : (decide (tx i = ("0" : Str)) || posT (Txt.removeprefix (tx i) "-")) = true := by
  by_cases h : i = 0
  · subst h; rw [tx_zero]; simp
  · rw [rp_tx h, Bool.or_true]
theorem isTx_rstr (q : Rat) (h1 : (tx q.num).length ≤ 4300) (h2 : (tx q.den).length ≤ 4300) : isTx (rstr q) = true := by
  unfold rstr
  by_cases h : q.den = 1
  · rw [if_pos h]
    unfold isTx
    rw [part1]
    dsimp only
    rw [a_ok]
    have e : decide (Str.empty = ("" : Str)) = true := rfl
    rw [e]
    rfl
  · rw [if_neg h]
    unfold isTx
    rw [part2]
    dsimp only
    have hd : 0 < q.den := Nat.pos_of_ne_zero q.den_nz
    have e1 : posT (tx (q.den : Int)) = true := posT_num hd (tx_nat q.den)
    have e2 : decide (tx (q.den : Int) = ("1" : Str)) = false := decide_eq_false fun z => h (by have := tx_inj (i := q.den) (j := 1) (z.trans tx_one.symm); omega)
    have e3 : iv (tx q.num) = q.num := by unfold iv; rw [int_tx h1]; rfl
    have e4 : iv (tx (q.den : Int)) = q.den := by unfold iv; rw [int_tx h2]; rfl
    rw [a_ok, e1, e2, e3, e4, cop_gI]
    simp

theorem dig_ascii : ∀ c : Nat, c < 128 → Unicode.isDigit c = true → 48 ≤ c ∧ c ≤ 57 := by
  intro c h1 h2
  have : ∀ d : Fin 128, Unicode.isDigit d.val = true → 48 ≤ d.val ∧ d.val ≤ 57 := by decide +kernel
  exact this ⟨c, h1⟩ h2
theorem posT_digits {x : Str} (h : posT x = true) : NumText.AllDigits (tl x) ∧ tl x ≠ [] := by
  unfold posT at h
  obtain ⟨h1, h⟩ := Bool.and_eq_true_iff.mp h
  obtain ⟨h2, _⟩ := Bool.and_eq_true_iff.mp h
  unfold Txt.isascii at h1
  unfold Txt.isdigit at h2
  obtain ⟨h3, h2⟩ := Bool.and_eq_true_iff.mp h2
  rw [← Array.all_toList] at h1 h2
  refine ⟨fun c hc => ?_, fun e => ?_⟩
  · have a := List.all_eq_true.mp h1 c hc
    have b := List.all_eq_true.mp h2 c hc
    have := dig_ascii c (by simpa using a) b
    exact this
  · have := of_decide_eq_true h3
    rw [len_tl, e] at this
    exact absurd this (by simp)
theorem int_digits {x : Str} (h : NumText.AllDigits (tl x)) (h1 : tl x ≠ []) (h2 : x.length ≤ 4300) : intText? x = some ((NumText.digitsVal (tl x) : Nat) : Int) := intText_digits h h1 h2
theorem iv_pos {x : Str} (h : posT x = true) (hl : x.length ≤ 4300) : intText? x = some (iv x) := by
  obtain ⟨a, b⟩ := posT_digits h
  unfold iv
  rw [int_digits a b hl]
  rfl
theorem iv_top {x : Str} (h : (decide (x = ("0" : Str)) || posT (Txt.removeprefix x "-")) = true) (hl : x.length ≤ 4300) : intText? x = some (iv x) := by
  rcases Bool.or_eq_true_iff.mp h with h | h
  · rw [of_decide_eq_true h]
    have : intText? ("0" : Str) = some 0 := by have := int_tx (i := 0) (by rw [tx_zero]; decide); rwa [tx_zero] at this
    unfold iv
    rw [this]
    rfl
  · obtain ⟨a, b⟩ := posT_digits h
    by_cases hx : (tl x).head? = some 45
    · cases e : tl x with
      | nil => rw [e] at hx; cases hx
      | cons c l =>
        rw [e] at hx
        simp at hx
        subst hx
        rw [rp_neg e] at a b
        unfold iv
        rw [intText_neg e a b hl]
        rfl
    · rw [rp_same hx] at a b
      unfold iv
      rw [int_digits a b hl]
      rfl
theorem split_at (c : Nat) : ∀ l : List Nat, c ∉ l ∨ ∃ a b, l = a ++ c :: b ∧ c ∉ a
  | [] => .inl (by simp)
  | x :: l => by
    by_cases h : x = c
    · subst h; exact .inr ⟨[], l, rfl, by simp⟩
    · rcases split_at c l with h1 | ⟨a, b, e, h1⟩
      · exact .inl (by simp [h1]; exact fun z => h z.symm)
      · exact .inr ⟨x :: a, b, by rw [e]; rfl, by simp [h1]; exact fun z => h z.symm⟩
theorem part_len (x : Str) : (Txt.partition x "/").1.length ≤ x.length ∧ (Txt.partition x "/").2.2.length ≤ x.length := by
  rcases split_at 47 (tl x) with h | ⟨a, b, e, h⟩
  · rw [partition_none (y := "/") (s := 47) (S := []) rfl h]
    exact ⟨Nat.le_refl _, Nat.zero_le _⟩
  · have e2 : x = ((⟨a.toArray⟩ : Str) ++ ("/" : Str)) ++ (⟨b.toArray⟩ : Str) := ext_tl (by
      rw [tl_append, tl_append]
      refine e.trans ?_
      have : tl ("/" : Str) = [47] := rfl
      rw [this]
      show _ = a ++ [47] ++ b
      simp)
    rw [e2, partition_app (y := "/") (s := 47) (S := []) rfl h]
    simp only [Str.length_append]
    omega
/-- a value of so many digits -/
theorem val_lt : ∀ (l : List Nat) (a : Nat), NumText.AllDigits l → l.foldl (fun acc c => acc * 10 + (c - 48)) a < (a + 1) * 10 ^ l.length
  | [], a, _ => by simp
  | c :: l, a, h => by
    have hc := h.head
    rw [List.foldl_cons, List.length_cons]
    refine Nat.lt_of_lt_of_le (val_lt l _ h.tail) ?_
    rw [Nat.pow_succ, ← Nat.mul_assoc, Nat.mul_right_comm]
    exact Nat.mul_le_mul_right _ (by omega)
theorem digits_lt {l : List Nat} (h : NumText.AllDigits l) : NumText.digitsVal l < 10 ^ l.length := by
  have := val_lt l 0 h
  rw [Nat.zero_add, Nat.one_mul] at this
  exact this
def RDN : Nat := 2200
theorem ten_lt {k : Nat} (h : k ≤ 640) : 10 ^ k < 2 ^ RDN := by
  refine Nat.lt_of_le_of_lt (Nat.pow_le_pow_right (by decide) h) ?_
  decide +kernel
theorem iv_lt {x : Str} (h : (decide (x = ("0" : Str)) || posT (Txt.removeprefix x "-")) = true) (hl : x.length ≤ 640) : (iv x).natAbs < 2 ^ RDN := by
  have hi := iv_top h (Nat.le_trans hl (by decide))
  rcases Bool.or_eq_true_iff.mp h with h | h
  · have : iv x = 0 := by
      rw [of_decide_eq_true h]
      have : intText? ("0" : Str) = some 0 := by have := int_tx (i := 0) (by rw [tx_zero]; decide); rwa [tx_zero] at this
      unfold iv
      rw [this]
      rfl
    rw [this]
    exact Nat.two_pow_pos _
  · obtain ⟨a, b⟩ := posT_digits h
    by_cases hx : (tl x).head? = some 45
    · cases e : tl x with
      | nil => rw [e] at hx; cases hx
      | cons c l =>
        rw [e] at hx
        simp at hx
        subst hx
        rw [rp_neg e] at a b
        have hv := intText_neg e a b (Nat.le_trans hl (by decide))
        rw [hi] at hv
        rw [Option.some.inj hv, Int.natAbs_neg]
        have len : l.length ≤ 640 := by rw [len_tl, e] at hl; simp at hl; omega
        exact Nat.lt_of_lt_of_le (digits_lt a) (Nat.le_of_lt (ten_lt len))
    · rw [rp_same hx] at a b
      have hv := int_digits a b (Nat.le_trans hl (by decide))
      rw [hi] at hv
      rw [Option.some.inj hv]
      rw [len_tl] at hl
      exact Nat.lt_of_lt_of_le (digits_lt a) (Nat.le_of_lt (ten_lt hl))
theorem ivp_lt {x : Str} (h : posT x = true) (hl : x.length ≤ 640) : (iv x).natAbs < 2 ^ RDN := by
  have hi := iv_pos h (Nat.le_trans hl (by decide))
  obtain ⟨a, b⟩ := posT_digits h
  have hv := int_digits a b (Nat.le_trans hl (by decide))
  rw [hi] at hv
  rw [Option.some.inj hv]
  rw [len_tl] at hl
  exact Nat.lt_of_lt_of_le (digits_lt a) (Nat.le_of_lt (ten_lt hl))
theorem ivp_ne {x : Str} (h : posT x = true) (hl : x.length ≤ 640) : iv x ≠ 0 := by
  have hi := iv_pos h (Nat.le_trans hl (by decide))
  obtain ⟨a, b⟩ := posT_digits h
  have hv := int_digits a b (Nat.le_trans hl (by decide))
  rw [hi] at hv
  rw [Option.some.inj hv]
  unfold posT at h
  obtain ⟨_, h⟩ := Bool.and_eq_true_iff.mp h
  obtain ⟨_, h⟩ := Bool.and_eq_true_iff.mp h
  cases e : tl x with
  | nil => exact absurd e b
  | cons c l =>
    rw [e] at h a
    have hc := a c List.mem_cons_self
    have hn : c ≠ 48 := fun z => by subst z; simp at h
    have := NumText.digitsVal_pos (c := c) (cs := l) (by omega)
    omega
/-- the fraction that a text tells -/
def rdq (x : Str) : Rat := if (Txt.partition x "/").2.1 = ("" : Str) then (iv (Txt.partition x "/").1 : Rat) else Rat.divInt (iv (Txt.partition x "/").1) (iv (Txt.partition x "/").2.2)
theorem rdq_rstr (q : Rat) (h1 : (tx q.num).length ≤ 4300) (h2 : (tx q.den).length ≤ 4300) : rdq (rstr q) = q := by
  have e3 : iv (tx q.num) = q.num := by unfold iv; rw [int_tx h1]; rfl
  have e4 : iv (tx (q.den : Int)) = q.den := by unfold iv; rw [int_tx h2]; rfl
  unfold rstr
  by_cases h : q.den = 1
  · rw [if_pos h]
    unfold rdq
    rw [part1]
    dsimp only
    rw [if_pos (show Str.empty = ("" : Str) from rfl), e3]
    exact Rat.ext rfl (by show 1 = q.den; omega)
  · rw [if_neg h]
    unfold rdq
    rw [part2]
    dsimp only
    rw [if_neg (by decide), e3, e4, Rat.num_divInt_den]
def spIsP : Sp := fun vs H Q _ => ∃ x : Str, vs = [.str x] ∧ x.length ≤ 640 ∧ Q (.bl (posT x)) H
def spIsT : Sp := fun vs H Q _ => ∃ x : Str, vs = [.str x] ∧ x.length ≤ 640 ∧ ∀ H', Same H H' → Q (.bl (isTx x)) H'
def spRd (C : Addr) : Sp := fun vs H Q _ => ∃ x : Str, vs = [.ref C, .str x] ∧ x.length ≤ 640 ∧ isTx x = true ∧ ∀ p H', Same H H' → RQ C H' p RDN (rdq x) → Q (.ref p) H'
/-- c(..), c a local name that holds the class -/
def tMakeL (i : Nat) (C : Addr) (sp : Sp) (dvs : List V) (E : XK) (t : TA) : TE := fun σ H Q => σ[i]? = some (some (.ref C)) ∧ tMake C sp dvs E t σ H Q
section
variable {X : Cx} {CX : CXT} {k i : Nat} {C f : Addr} {fd : FuncData} {ps : List Str} {sp : Sp} {dvs : List V} {ds : List Value} {E : XK} {x : Str} {p pos : Pos} {e : Expr} {es : List Expr} {t : TA}
theorem pe_makeL (M : Mk X.K C f) (F : FnOk X.prog X.w X.K X.mg X.base CX k f fd ps sp) (hr : Room (k + 1) X.A) (hN : X.N[i]? = some x) (hv : Vis X.env.scope x) (hb : Binds X.K fd ps ds) (hd : Vals dvs ds) (hx : Passes CX X E) (ha : PA X (e :: es) t)
    (hdb : (x == ("__debug__" : Str)) = false := by decide) (hcd : (x == ("__classdict__" : Str)) = false := by decide)
    (he : starEach (e :: es) X.env = (false, eval e X.env) :: starEach es X.env := by rfl) (hpl : (backTo pos (starEach es X.env)).any (·.1) = false := by rfl) : PE X (.Call (.Name x p) (e :: es) [] pos) (tMakeL i C sp dvs E t) := by
  refine ⟨fun pins s σ H Q I h => ?_⟩
  obtain ⟨hs, ht⟩ := h
  refine wpAny_Call_Name_kw (thn ((pe_var (pos := p) hN hv hdb hcd).run pins s σ H (fun v H1 => v = .ref C ∧ H1 = H) I ⟨.ref C, hs, rfl, rfl⟩) fun u s1 ⟨v, H1, I1, r1, q1⟩ => ?_)
  obtain ⟨rfl, rfl⟩ := q1
  cases r1
  refine PySem.W.callWith_K (h₀ := X.base) I.ok.mod.kin M.kp (thn (ha.run pos pins s1 σ _ _ I1 ht) fun us s2 ⟨vs, H2, I2, r, q⟩ => ⟨I2.kIn, ?_⟩) he hpl
  exact run_make M F hr hb hd hx I2 r q
end
end SQ

/-! Comparisons as tests. Rational numbers: what the laws ask. -/
namespace SQ
open PySem PySem.Spec PyProof.Rows L2 SF
section
variable {X : Cx} {C : Addr} {G : L2.St → Hp → Prop} {a b e : Expr} {k k1 k2 : Bool} {n m : Nat} {q r : Rat} {s s1 s2 : Prop} {pos p1 p2 : Pos}
theorem pq_cmpT {op : CmpOp} {f : Rat → Rat → Bool} (ho : OpR X (compareOp op) (rQe C k2 f)) (hG : GS G) (hm : behindInMarks op b = false) (ha : PE X a (TQ C G true n q s1)) (hb : PE X b (TQ C G k2 m r s2)) :
    PT X (.Compare a [op] [b] pos) (TBt G (f q r) (s1 ∧ s2)) :=
  pt_weak (pt_cmpR ho ha hb hm) fun σ H Q ⟨hg, ⟨h1, h2⟩, z⟩ =>
    ⟨hg, h1, fun v H1 S1 nv => ⟨hG _ _ _ hg S1, h2, fun u H2 S2 nu => ⟨n, m, q, r, nv.same S2, nu, ⟨_, rfl, z H2 (S1.trans S2)⟩⟩⟩⟩
theorem pb_eqT {b1 b2 : Bool} (hG : GS G) (hm : behindInMarks .Eq b = false) (ha : PE X a (TB G b1 s1)) (hb : PE X b (TB G b2 s2)) : PT X (.Compare a [.Eq] [b] pos) (TBt G (decide (b1 = b2)) (s1 ∧ s2)) :=
  pt_weak (pt_cmpR op_eq ha hb hm) fun σ H Q ⟨hg, ⟨h1, h2⟩, z⟩ => ⟨hg, h1, fun H1 S1 => ⟨hG _ _ _ hg S1, h2, fun H2 S2 => ⟨rfl, by
    rw [show decide (V.bl b1 = V.bl b2) = decide (b1 = b2) by cases b1 <;> cases b2 <;> rfl]; exact ⟨_, rfl, z H2 (S1.trans S2)⟩⟩⟩⟩
theorem pb_neT {b1 b2 : Bool} (hG : GS G) (hm : behindInMarks .NotEq b = false) (ha : PE X a (TB G b1 s1)) (hb : PE X b (TB G b2 s2)) : PT X (.Compare a [.NotEq] [b] pos) (TBt G (!decide (b1 = b2)) (s1 ∧ s2)) :=
  pt_weak (pt_cmpR op_ne ha hb hm) fun σ H Q ⟨hg, ⟨h1, h2⟩, z⟩ => ⟨hg, h1, fun H1 S1 => ⟨hG _ _ _ hg S1, h2, fun H2 S2 => ⟨rfl, by
    rw [show decide (V.bl b1 = V.bl b2) = decide (b1 = b2) by cases b1 <;> cases b2 <;> rfl]; exact ⟨_, rfl, z H2 (S1.trans S2)⟩⟩⟩⟩
theorem pS_eqT {x y : Str} (hG : GS G) (hm : behindInMarks .Eq b = false) (ha : PE X a (TS G x s1)) (hb : PE X b (TS G y s2)) : PT X (.Compare a [.Eq] [b] pos) (TBt G (decide (x = y)) (s1 ∧ s2)) :=
  pt_weak (pt_cmpR op_eq ha hb hm) fun σ H Q ⟨hg, ⟨h1, h2⟩, z⟩ => ⟨hg, h1, fun H1 S1 => ⟨hG _ _ _ hg S1, h2, fun H2 S2 => ⟨rfl, by
    have e : decide (V.str x = V.str y) = decide (x = y) := by
      by_cases h : x = y
      · rw [h]; simp
      · rw [decide_eq_false h, decide_eq_false (fun z => h (V.str.inj z))]
    rw [e]; exact ⟨_, rfl, z H2 (S1.trans S2)⟩⟩⟩⟩
theorem pI_eqT {i j : Int} (hG : GS G) (hm : behindInMarks .Eq b = false) (ha : PE X a (TI G i s1)) (hb : PE X b (TI G j s2)) : PT X (.Compare a [.Eq] [b] pos) (TBt G (decide (i = j)) (s1 ∧ s2)) :=
  pt_weak (pt_cmpR op_eq ha hb hm) fun σ H Q ⟨hg, ⟨h1, h2⟩, z⟩ => ⟨hg, h1, fun H1 S1 => ⟨hG _ _ _ hg S1, h2, fun H2 S2 => ⟨rfl, by rw [dint]; exact ⟨_, rfl, z H2 (S1.trans S2)⟩⟩⟩⟩
theorem pI_neT {i j : Int} (hG : GS G) (hm : behindInMarks .NotEq b = false) (ha : PE X a (TI G i s1)) (hb : PE X b (TI G j s2)) : PT X (.Compare a [.NotEq] [b] pos) (TBt G (!decide (i = j)) (s1 ∧ s2)) :=
  pt_weak (pt_cmpR op_ne ha hb hm) fun σ H Q ⟨hg, ⟨h1, h2⟩, z⟩ => ⟨hg, h1, fun H1 S1 => ⟨hG _ _ _ hg S1, h2, fun H2 S2 => ⟨rfl, by rw [dint]; exact ⟨_, rfl, z H2 (S1.trans S2)⟩⟩⟩⟩
theorem pI_leT {i j : Int} (hG : GS G) (hm : behindInMarks .LtE b = false) (ha : PE X a (TI G i s1)) (hb : PE X b (TI G j s2)) : PT X (.Compare a [.LtE] [b] pos) (TBt G (decide (i ≤ j)) (s1 ∧ s2)) :=
  pt_weak (pt_cmpR op_le ha hb hm) fun σ H Q ⟨hg, ⟨h1, h2⟩, z⟩ => ⟨hg, h1, fun H1 S1 => ⟨hG _ _ _ hg S1, h2, fun H2 S2 => ⟨_, _, rfl, rfl, ⟨_, rfl, z H2 (S1.trans S2)⟩⟩⟩⟩
theorem pI_gtT {i j : Int} (hG : GS G) (hm : behindInMarks .Gt b = false) (ha : PE X a (TI G i s1)) (hb : PE X b (TI G j s2)) : PT X (.Compare a [.Gt] [b] pos) (TBt G (decide (i > j)) (s1 ∧ s2)) :=
  pt_weak (pt_cmpR op_gt ha hb hm) fun σ H Q ⟨hg, ⟨h1, h2⟩, z⟩ => ⟨hg, h1, fun H1 S1 => ⟨hG _ _ _ hg S1, h2, fun H2 S2 => ⟨_, _, rfl, rfl, ⟨_, rfl, z H2 (S1.trans S2)⟩⟩⟩⟩
end
end SQ
namespace SQ
theorem rat_pow_add (q : Rat) (m : Nat) : ∀ n : Nat, q ^ (m + n) = q ^ m * q ^ n
  | 0 => by rw [Nat.add_zero, Rat.pow_zero, Rat.mul_one]
  | n + 1 => by rw [← Nat.add_assoc, Rat.pow_succ, rat_pow_add q m n, Rat.pow_succ, Rat.mul_assoc]
theorem rat_zpow_add {q : Rat} {i j : Int} (h : q ≠ 0 ∨ (0 ≤ i ∧ 0 ≤ j)) : q ^ i * q ^ j = q ^ (i + j) := by
  rcases h with h | ⟨hi, hj⟩
  · exact (Rat.zpow_add h i j).symm
  · obtain ⟨m, rfl⟩ := Int.eq_ofNat_of_zero_le hi
    obtain ⟨n, rfl⟩ := Int.eq_ofNat_of_zero_le hj
    have e : ((m : Int) + (n : Int)) = ((m + n : Nat) : Int) := by omega
    rw [e, Rat.zpow_natCast, Rat.zpow_natCast, Rat.zpow_natCast, rat_pow_add]
theorem zpow1 (q : Rat) : q ^ (1 : Int) = q := Rat.zpow_one q
theorem zpow0 (q : Rat) : q ^ (0 : Int) = 1 := Rat.zpow_zero q
theorem zpow2 (q : Rat) : q ^ (2 : Int) = q * q := by
  show q ^ ((2 : Nat) : Int) = _
  rw [Rat.zpow_natCast, Rat.pow_succ, Rat.pow_one]
theorem zpow3 (q : Rat) : q ^ (3 : Int) = q * q * q := by
  show q ^ ((3 : Nat) : Int) = _
  rw [Rat.zpow_natCast, Rat.pow_succ, Rat.pow_succ, Rat.pow_one]
theorem abs_mul (a b : Rat) : (a * b).abs = a.abs * b.abs := by
  by_cases ha : 0 ≤ a <;> by_cases hb : 0 ≤ b
  · rw [Rat.abs_of_nonneg ha, Rat.abs_of_nonneg hb, Rat.abs_of_nonneg (Rat.mul_nonneg ha hb)]
  · have hb' : 0 ≤ -b := by grind
    rw [Rat.abs_of_nonneg ha, ← Rat.abs_neg (x := b), Rat.abs_of_nonneg hb', ← Rat.abs_neg, ← Rat.mul_neg, Rat.abs_of_nonneg (Rat.mul_nonneg ha hb')]
  · have ha' : 0 ≤ -a := by grind
    rw [Rat.abs_of_nonneg hb, ← Rat.abs_neg (x := a), Rat.abs_of_nonneg ha', ← Rat.abs_neg, ← Rat.neg_mul, Rat.abs_of_nonneg (Rat.mul_nonneg ha' hb)]
  · have ha' : 0 ≤ -a := by grind
    have hb' : 0 ≤ -b := by grind
    rw [← Rat.abs_neg (x := a), ← Rat.abs_neg (x := b), Rat.abs_of_nonneg ha', Rat.abs_of_nonneg hb']
    have e : a * b = -a * -b := by grind
    rw [e, Rat.abs_of_nonneg (Rat.mul_nonneg ha' hb')]
/-- the quotient and the remainder -/
theorem div_rem {a b : Rat} (h : b ≠ 0) : (0 < b → 0 ≤ a - b * ((a / b).floor : Rat) ∧ a - b * ((a / b).floor : Rat) < b) ∧ (b < 0 → a - b * ((a / b).floor : Rat) ≤ 0 ∧ b < a - b * ((a / b).floor : Rat)) := by
  have f1 := Rat.floor_le (a / b)
  have f2 := Rat.lt_floor_add_one (a / b)
  rw [Rat.intCast_add] at f2
  generalize ((a / b).floor : Rat) = f at f1 f2
  have e : a / b * b = a := Rat.div_mul_cancel h
  generalize a / b = d at f1 f2 e
  constructor
  · intro hb
    have m1 := Rat.mul_le_mul_of_nonneg_right f1 (Rat.le_of_lt hb)
    have m2 := Rat.mul_lt_mul_of_pos_right f2 hb
    rw [e] at m1 m2
    have c1 : ((1 : Int) : Rat) = 1 := rfl
    rw [c1] at m2
    constructor <;> grind
  · intro hb
    have hb' : 0 < -b := by grind
    have m1 := Rat.mul_le_mul_of_nonneg_right f1 (Rat.le_of_lt hb')
    have m2 := Rat.mul_lt_mul_of_pos_right f2 hb'
    have c1 : ((1 : Int) : Rat) = 1 := rfl
    rw [c1] at m2
    constructor <;> grind
theorem pos_num {q : Rat} : 0 < q.num ↔ 0 < q := by
  have h := Rat.lt_iff 0 q
  simp at h
  exact h.symm
end SQ

/-! Pairs of ints compared; a class method that reads a text. -/
namespace SQ
open PySem PySem.Spec PyProof.Rows L2 SF
section
variable {X : Cx} {C : Addr} {G : L2.St → Hp → Prop} {a b c d e : Expr} {n m : Nat} {q r : Rat} {s s1 s2 s3 s4 : Prop} {pos p1 p2 : Pos} {k1 k2 : Nat} {i j i' j' : Int}
/-- (a, b) == (c, d) -/
theorem pT_eq (hu : X.A.units + 64 < cLine) (hG : GS G) (hm : behindInMarks .Eq (.Tuple [c, d] k2 p2) = false) (ha : PE X a (TI G i s1)) (hb : PE X b (TI G j s2)) (hc : PE X c (TI G i' s3)) (hd : PE X d (TI G j' s4))
    (h1 : starEach (a :: [b]) X.env = (false, eval a X.env) :: starEach [b] X.env := by rfl) (h2 : starEach (b :: []) X.env = (false, eval b X.env) :: starEach [] X.env := by rfl)
    (h3 : starEach (c :: [d]) X.env = (false, eval c X.env) :: starEach [d] X.env := by rfl) (h4 : starEach (d :: []) X.env = (false, eval d X.env) :: starEach [] X.env := by rfl) :
    PE X (.Compare (.Tuple [a, b] k1 p1) [.Eq] [.Tuple [c, d] k2 p2] pos) (TB G (decide (i = i') && decide (j = j')) (s1 ∧ s2 ∧ s3 ∧ s4)) :=
  pe_weak (pe_cmpR (op_eqD hu) (pe_tup (pa_cons ha (pa_cons hb pa_nil h2) h1)) (pe_tup (pa_cons hc (pa_cons hd pa_nil h4) h3)) hm) fun σ H Q ⟨hg, ⟨x1, x2, x3, x4⟩, z⟩ =>
    ⟨hg, x1, fun H1 S1 => ⟨hG _ _ _ hg S1, x2, fun H2 S2 => ⟨(by show 2 ≤ sizeLine; decide), fun p np => by
      have S3 : Same H2 (upd H2 p (.tup [.int i, .int j])) := same_new (Same.refl _) np
      refine ⟨hG _ _ _ (hG _ _ _ (hG _ _ _ hg S1) S2) S3, x3, fun H3 S4 => ⟨hG _ _ _ (hG _ _ _ (hG _ _ _ (hG _ _ _ hg S1) S2) S3) S4, x4, fun H4 S5 => ⟨(by show 2 ≤ sizeLine; decide), fun p' np' => ?_⟩⟩⟩
      have S6 : Same H4 (upd H4 p' (.tup [.int i', .int j'])) := same_new (Same.refl _) np'
      have e1 : upd H4 p' (.tup [.int i', .int j']) p = some (.tup [.int i, .int j]) := S6 _ _ (S5 _ _ (S4 _ _ upd_same))
      refine ⟨.tuple [.int i, .int j], .tuple [.int i', .int j'], .tup (SqT.of e1) (.cons (.int i) (.cons (.int j) .nil)), .tup (SqT.of upd_same) (.cons (.int i') (.cons (.int j') .nil)), rfl, rfl, ?_⟩
      have e2 : PyData.eqv (.tuple [.int i, .int j]) (.tuple [.int i', .int j']) = (decide (i = i') && decide (j = j')) := by
        show (i == i' && (j == j' && true)) = _
        rw [Bool.and_true]
        rfl
      rw [e2]
      exact z _ ((((((S1.trans S2).trans S3).trans S4).trans S5)).trans S6)⟩⟩⟩
/-- C.read(e) -/
theorem pq_read {l : Nat} {pl : Sem Bool} {o : Expr} {apos : Pos} {p g : Addr} {fd : FuncData} {ps : List Str} {mc : Value} {x : Str} (ho : PE X o (tC (.ref C))) (r : ClX.CRead X.K C mc) (cm : ClX.CMet X.K C mc "read" p g) (F : FnOk X.prog X.w X.K X.mg X.base CX0 l g fd ps (spRd C)) (hb : Binds X.K fd ps []) (hr : Room l X.A)
    (ha : PE X a (TS G x s))
    (hst : starEach (a :: []) X.env = (false, eval a X.env) :: starEach [] X.env := by rfl) (hpl : (backTo pos (starEach [] X.env)).any (·.1) = false := by rfl)
    (ht : eval (.Call (.Attribute o "read" apos) (a :: []) [] pos) X.env = (do
      let ov ← eval o X.env
      standAt apos.atName
      let (f, first) ← holding [ov] (getMethod ov "read" pl)
      callWith pos f first (backTo pos (starEach (a :: []) X.env)) (backToKw pos (keywordEach [] X.env))) := by rfl) :
    PE X (.Call (.Attribute o "read" apos) [a] [] pos) (TQ C G true RDN (rdq x) (s ∧ isTx x = true ∧ x.length ≤ 640)) :=
  pe_weak (ClX.pe_cmeth (E := E0) ho r cm (F.raw hb .nil) hr pass0 (pa_cons ha pa_nil hst) hst hpl ht) fun σ H Q ⟨hg, ⟨h1, h2, h3⟩, z⟩ =>
    ⟨rfl, hg, h1, fun H1 S1 => ⟨x, rfl, h3, h2, fun p H2 S2 rq => z _ H2 (S1.trans S2) rq.nv⟩⟩
theorem pss_weak {X : Cx} {st : List Stmt} {t t' : L2.TS} (h : PSs X st t) (i : ∀ D σ H, t' D σ H → t D σ H) : PSs X st t' := ⟨fun pins s σ H D I x => h.run pins s σ H D I (i _ _ _ x)⟩
/-- a block whose reading has a number that is known only at its start -/
theorem pss_ex {α : Type} {X : Cx} {st : List Stmt} {t : α → L2.TS} (h : ∀ i, PSs X st (t i)) : PSs X st (fun D σ H => ∃ i, t i D σ H) := ⟨fun pins s σ H D I ⟨i, x⟩ => (h i).run pins s σ H D I x⟩
end
theorem rstr_len {q : Rat} {n : Nat} (h1 : (tx q.num).length ≤ n) (h2 : (tx q.den).length ≤ n) : (rstr q).length ≤ 2 * n + 1 := by
  unfold rstr
  split
  · omega
  · simp only [Str.length_append]
    have e1 : Str.empty.length = 0 := rfl
    have e2 : ("/" : Str).length = 1 := rfl
    omega
theorem tx_short {i : Int} (h : i.natAbs < 2 ^ 800) : (tx i).length ≤ 250 := by
  have hb : i.natAbs < 10 ^ 249 := Nat.lt_of_lt_of_le h (by decide +kernel)
  rcases tx_cases i with ⟨n, rfl, e⟩ | ⟨n, _, rfl, e⟩
  · rw [TL.len_tl, e]
    exact Nat.le_trans (TL.numL_len (k := 249) (by decide) (by simpa using hb)) (by decide)
  · rw [TL.len_tl, e, List.length_cons]
    have := TL.numL_len (n := n) (k := 249) (by decide) (by simpa using hb)
    omega
end SQ

namespace T04
open PySem PySem.Spec PyProof.Rows L2 SF SQ
def top (i : Nat) : Stmt := PySem.Challenge.pw_seriesforms_k04_whole_ratio_rules.main.body.getD i (.Pass ⟨0, 0, 0, 0⟩)
abbrev sIni : Stmt := inClass (top 12) 0
abbrev sRd : Stmt := inClass (top 12) 1
abbrev sIsW : Stmt := top 10
theorem scIsW : FnScope ["value"] ["value"] (defScope sIsW) := ⟨rfl, rfl, rfl, by decide +kernel, rfl, by decide +kernel, by decide +kernel⟩
abbrev sIsN : Stmt := top 11
theorem scIsN : FnScope ["value"] ["value"] (defScope sIsN) := ⟨rfl, rfl, rfl, by decide +kernel, rfl, by decide +kernel, by decide +kernel⟩
abbrev sAs : Stmt := top 13
theorem scAs : FnScope ["number"] ["number"] (defScope sAs) := ⟨rfl, rfl, rfl, by decide +kernel, rfl, by decide +kernel, by decide +kernel⟩
abbrev sSum : Stmt := top 14
theorem scSum : FnScope ["left", "right"] ["left", "right"] (defScope sSum) := ⟨rfl, rfl, rfl, by decide +kernel, rfl, by decide +kernel, by decide +kernel⟩
abbrev sProd : Stmt := top 15
theorem scProd : FnScope ["left", "right"] ["left", "right"] (defScope sProd) := ⟨rfl, rfl, rfl, by decide +kernel, rfl, by decide +kernel, by decide +kernel⟩
abbrev sInv : Stmt := top 16
theorem scInv : FnScope ["ratio"] ["ratio"] (defScope sInv) := ⟨rfl, rfl, rfl, by decide +kernel, rfl, by decide +kernel, by decide +kernel⟩
abbrev sFlo : Stmt := top 17
theorem scFlo : FnScope ["left", "right", "quotient"] ["left", "right"] (defScope sFlo) := ⟨rfl, rfl, rfl, by decide +kernel, rfl, by decide +kernel, by decide +kernel⟩
abbrev sRem : Stmt := top 18
theorem scRem : FnScope ["left", "right"] ["left", "right"] (defScope sRem) := ⟨rfl, rfl, rfl, by decide +kernel, rfl, by decide +kernel, by decide +kernel⟩
abbrev sWPo : Stmt := top 19
theorem scWPo : FnScope ["base", "times", "result", "_"] ["base", "times"] (defScope sWPo) := ⟨rfl, rfl, rfl, by decide +kernel, rfl, by decide +kernel, by decide +kernel⟩
abbrev sIsT : Stmt := top 20
theorem scIsT : FnScope ["text", "top", "stroke", "bottom"] ["text"] (defScope sIsT) := ⟨rfl, rfl, rfl, by decide +kernel, rfl, by decide +kernel, by decide +kernel⟩
abbrev sIsP : Stmt := top 21
theorem scIsP : FnScope ["text"] ["text"] (defScope sIsP) := ⟨rfl, rfl, rfl, by decide +kernel, rfl, by decide +kernel, by decide +kernel⟩
abbrev sTop : Stmt := inClass (top 12) 2
theorem scTop : FnScope ["self"] ["self"] (defScope sTop) := ⟨rfl, rfl, rfl, by decide +kernel, rfl, by decide +kernel, by decide +kernel⟩
abbrev sBot : Stmt := inClass (top 12) 3
theorem scBot : FnScope ["self"] ["self"] (defScope sBot) := ⟨rfl, rfl, rfl, by decide +kernel, rfl, by decide +kernel, by decide +kernel⟩
abbrev sAdd : Stmt := inClass (top 12) 4
theorem scAdd : FnScope ["self", "other"] ["self", "other"] (defScope sAdd) := ⟨rfl, rfl, rfl, by decide +kernel, rfl, by decide +kernel, by decide +kernel⟩
abbrev sRadd : Stmt := inClass (top 12) 5
theorem scRadd : FnScope ["self", "other"] ["self", "other"] (defScope sRadd) := ⟨rfl, rfl, rfl, by decide +kernel, rfl, by decide +kernel, by decide +kernel⟩
abbrev sSub : Stmt := inClass (top 12) 6
theorem scSub : FnScope ["self", "other"] ["self", "other"] (defScope sSub) := ⟨rfl, rfl, rfl, by decide +kernel, rfl, by decide +kernel, by decide +kernel⟩
abbrev sRsub : Stmt := inClass (top 12) 7
theorem scRsub : FnScope ["self", "other"] ["self", "other"] (defScope sRsub) := ⟨rfl, rfl, rfl, by decide +kernel, rfl, by decide +kernel, by decide +kernel⟩
abbrev sMul : Stmt := inClass (top 12) 8
theorem scMul : FnScope ["self", "other"] ["self", "other"] (defScope sMul) := ⟨rfl, rfl, rfl, by decide +kernel, rfl, by decide +kernel, by decide +kernel⟩
abbrev sRmul : Stmt := inClass (top 12) 9
theorem scRmul : FnScope ["self", "other"] ["self", "other"] (defScope sRmul) := ⟨rfl, rfl, rfl, by decide +kernel, rfl, by decide +kernel, by decide +kernel⟩
abbrev sFDi : Stmt := inClass (top 12) 10
theorem scFDi : FnScope ["self", "other"] ["self", "other"] (defScope sFDi) := ⟨rfl, rfl, rfl, by decide +kernel, rfl, by decide +kernel, by decide +kernel⟩
abbrev sMod : Stmt := inClass (top 12) 12
theorem scMod : FnScope ["self", "other"] ["self", "other"] (defScope sMod) := ⟨rfl, rfl, rfl, by decide +kernel, rfl, by decide +kernel, by decide +kernel⟩
abbrev sPow : Stmt := inClass (top 12) 14
theorem scPow : FnScope ["self", "other"] ["self", "other"] (defScope sPow) := ⟨rfl, rfl, rfl, by decide +kernel, rfl, by decide +kernel, by decide +kernel⟩
abbrev sNeg : Stmt := inClass (top 12) 15
theorem scNeg : FnScope ["self"] ["self"] (defScope sNeg) := ⟨rfl, rfl, rfl, by decide +kernel, rfl, by decide +kernel, by decide +kernel⟩
abbrev sAbs : Stmt := inClass (top 12) 16
theorem scAbs : FnScope ["self"] ["self"] (defScope sAbs) := ⟨rfl, rfl, rfl, by decide +kernel, rfl, by decide +kernel, by decide +kernel⟩
abbrev sBool : Stmt := inClass (top 12) 17
theorem scBool : FnScope ["self"] ["self"] (defScope sBool) := ⟨rfl, rfl, rfl, by decide +kernel, rfl, by decide +kernel, by decide +kernel⟩
abbrev sEq : Stmt := inClass (top 12) 18
theorem scEq : FnScope ["self", "other"] ["self", "other"] (defScope sEq) := ⟨rfl, rfl, rfl, by decide +kernel, rfl, by decide +kernel, by decide +kernel⟩
abbrev sStr : Stmt := inClass (top 12) 19
theorem scStr : FnScope ["self"] ["self"] (defScope sStr) := ⟨rfl, rfl, rfl, by decide +kernel, rfl, by decide +kernel, by decide +kernel⟩
abbrev sRepr : Stmt := inClass (top 12) 20
theorem scRepr : FnScope ["self"] ["self"] (defScope sRepr) := ⟨rfl, rfl, rfl, by decide +kernel, rfl, by decide +kernel, by decide +kernel⟩
abbrev sOver : Stmt := inClass (top 12) 21
theorem scOver : FnScope ["self", "other"] ["self", "other"] (defScope sOver) := ⟨rfl, rfl, rfl, by decide +kernel, rfl, by decide +kernel, by decide +kernel⟩
abbrev sPower : Stmt := inClass (top 12) 22
theorem scPower : FnScope ["self", "exponent", "base", "times"] ["self", "exponent"] (defScope sPower) := ⟨rfl, rfl, rfl, by decide +kernel, rfl, by decide +kernel, by decide +kernel⟩
abbrev sCell : Stmt := top 23
theorem scCell : FnScope ["_law_cells", "_law_k", "_law_mixed", "_law_cell_here"] ["_law_cells", "_law_k"] (defScope sCell) := ⟨rfl, rfl, rfl, by decide +kernel, rfl, by decide +kernel, by decide +kernel⟩
abbrev sSrc : Stmt := top 24
theorem scSrc : FnScope ["_law_cell_here", "_law_great"] ["_law_cell_here"] (defScope sSrc) := ⟨rfl, rfl, rfl, by decide +kernel, rfl, by decide +kernel, by decide +kernel⟩
abbrev sDraw : Stmt := top 25
theorem scDraw : FnScope ["_law_source_here", "_law_many", "_law_first", "_law_turned", "_law_digit"] ["_law_source_here", "_law_many"] (defScope sDraw) := ⟨rfl, rfl, rfl, by decide +kernel, rfl, by decide +kernel, by decide +kernel⟩
abbrev sCom : Stmt := top 26
theorem scCom : FnScope ["_law_one", "_law_two", "_law_high", "_law_low"] ["_law_one", "_law_two"] (defScope sCom) := ⟨rfl, rfl, rfl, by decide +kernel, rfl, by decide +kernel, by decide +kernel⟩
abbrev sLow : Stmt := top 27
theorem scLow : FnScope ["_law_upper", "_law_lower", "_law_by"] ["_law_upper", "_law_lower"] (defScope sLow) := ⟨rfl, rfl, rfl, by decide +kernel, rfl, by decide +kernel, by decide +kernel⟩
abbrev sWho : Stmt := top 28
theorem scWho : FnScope ["_law_source_here", "_law_way", "_law_sign", "_law_parts"] ["_law_source_here"] (defScope sWho) := ⟨rfl, rfl, rfl, by decide +kernel, rfl, by decide +kernel, by decide +kernel⟩
abbrev sPair : Stmt := top 29
theorem scPair : FnScope ["_law_source_here", "_law_way", "_law_lower"] ["_law_source_here"] (defScope sPair) := ⟨rfl, rfl, rfl, by decide +kernel, rfl, by decide +kernel, by decide +kernel⟩
abbrev sNum : Stmt := top 30
theorem scNum : FnScope ["_law_pair_here"] ["_law_pair_here"] (defScope sNum) := ⟨rfl, rfl, rfl, by decide +kernel, rfl, by decide +kernel, by decide +kernel⟩
abbrev sTri : Stmt := top 31
theorem scTri : FnScope ["_law_source_here", "_law_one", "_law_two", "_law_three", "_law_way"] ["_law_source_here"] (defScope sTri) := ⟨rfl, rfl, rfl, by decide +kernel, rfl, by decide +kernel, by decide +kernel⟩
abbrev sRing : Stmt := top 32
theorem scRing : FnScope ["_law_a", "_law_b", "_law_c"] ["_law_a", "_law_b", "_law_c"] (defScope sRing) := ⟨rfl, rfl, rfl, by decide +kernel, rfl, by decide +kernel, by decide +kernel⟩
abbrev sDown : Stmt := top 33
theorem scDown : FnScope ["_law_a", "_law_b", "_law_down", "_law_rest", "_law_size_left"] ["_law_a", "_law_b"] (defScope sDown) := ⟨rfl, rfl, rfl, by decide +kernel, rfl, by decide +kernel, by decide +kernel⟩
abbrev sPows : Stmt := top 34
theorem scPows : FnScope ["_law_source_here", "_law_a", "_law_one", "_law_two"] ["_law_source_here", "_law_a"] (defScope sPows) := ⟨rfl, rfl, rfl, by decide +kernel, rfl, by decide +kernel, by decide +kernel⟩
abbrev sAlike : Stmt := top 35
theorem scAlike : FnScope ["_law_a", "_law_b"] ["_law_a", "_law_b"] (defScope sAlike) := ⟨rfl, rfl, rfl, by decide +kernel, rfl, by decide +kernel, by decide +kernel⟩
abbrev sRight : Stmt := top 36
theorem scRight : FnScope ["_law_source_here", "_law_a", "_law_b", "_law_c", "_law_one", "_law_two", "_law_three"] ["_law_source_here"] (defScope sRight) := ⟨rfl, rfl, rfl, by decide +kernel, rfl, by decide +kernel, by decide +kernel⟩
abbrev sLaw : Stmt := top 37
theorem scLaw : FnScope ["_law_cells", "_law_k", "_law_source_here"] ["_law_cells"] (defScope sLaw) := ⟨rfl, rfl, rfl, by decide +kernel, rfl, by decide +kernel, by decide +kernel⟩
theorem scIni : FnScope ["self", "top", "bottom", "common"] ["self", "top", "bottom"] (defScope sIni) := ⟨rfl, rfl, rfl, by decide +kernel, rfl, by decide +kernel, by decide +kernel⟩
theorem scRd : FnScope ["cls", "text", "top", "stroke", "bottom"] ["cls", "text"] (defScope sRd) := ⟨rfl, rfl, rfl, by decide +kernel, rfl, by decide +kernel, by decide +kernel⟩
/-- the text's facts -/
structure Tx (K : PySem.W.Frag) (mg : Str → Option Value) (C : Addr) where
  rc : RC K mg C
  kI : PySem.W.kitOne K (.ref C) (.type "int") = some false
  len : mg "len" = none
  dvm : mg "divmod" = none
  max_ : mg "max" = none
  min_ : mg "min" = none
  all_ : mg "all" = none
  tkP : Tok
  mp : mg "MOST_POWER" = some (.int 20 tkP)
  aIni : Addr
  dIni : FuncData
  dv : List Value
  vv : Vals [V.int 1] dv
  FIni : FunD K "__init__" "Ratio.__init__" (defArgs sIni) (defBody sIni) (defScope sIni) [V.int 1] [] aIni dIni
  M : Mk K C aIni
  b2 : Binds K dIni ["self", "top", "bottom"] []
  b1 : Binds K dIni ["self", "top", "bottom"] dv
  hNe : Ne0 K C
  sf : PySem.W.selfFirst K C = true
  sIC : NoInt K C
  sCI : PySem.W.subIn K (.ref C) (.type "int") = some false
  hRp : PySem.W.findIn K (.ref C) "__rpow__" = some none
  r_floordiv : ∃ rc, PySem.W.findIn K (.ref C) "__rfloordiv__" = some rc ∧ (rc = none ∨ ∃ g : Addr, rc = some (.ref g))
  r_mod : ∃ rc, PySem.W.findIn K (.ref C) "__rmod__" = some rc ∧ (rc = none ∨ ∃ g : Addr, rc = some (.ref g))
  t_add : ∃ fo, PySem.W.findIn K (.type "int") "__add__" = some fo
  t_radd : ∃ fo, PySem.W.findIn K (.type "int") "__radd__" = some fo
  t_sub : ∃ fo, PySem.W.findIn K (.type "int") "__sub__" = some fo
  t_rsub : ∃ fo, PySem.W.findIn K (.type "int") "__rsub__" = some fo
  t_mul : ∃ fo, PySem.W.findIn K (.type "int") "__mul__" = some fo
  t_rmul : ∃ fo, PySem.W.findIn K (.type "int") "__rmul__" = some fo
  t_floordiv : ∃ fo, PySem.W.findIn K (.type "int") "__floordiv__" = some fo
  t_rfloordiv : ∃ fo, PySem.W.findIn K (.type "int") "__rfloordiv__" = some fo
  t_mod : ∃ fo, PySem.W.findIn K (.type "int") "__mod__" = some fo
  t_rmod : ∃ fo, PySem.W.findIn K (.type "int") "__rmod__" = some fo
  t_pow : ∃ fo, PySem.W.findIn K (.type "int") "__pow__" = some fo
  t_rpow : ∃ fo, PySem.W.findIn K (.type "int") "__rpow__" = some fo
  aIsW : Addr
  dIsW : FuncData
  FIsW : Fun K "is_whole" "is_whole" sIsW aIsW dIsW
  bIsW : Binds K dIsW ["value"] []
  gIsW : mg "is_whole" = some (.ref aIsW)
  aIsN : Addr
  dIsN : FuncData
  FIsN : Fun K "is_number" "is_number" sIsN aIsN dIsN
  bIsN : Binds K dIsN ["value"] []
  gIsN : mg "is_number" = some (.ref aIsN)
  aAs : Addr
  dAs : FuncData
  FAs : Fun K "as_ratio" "as_ratio" sAs aAs dAs
  bAs : Binds K dAs ["number"] []
  gAs : mg "as_ratio" = some (.ref aAs)
  aSum : Addr
  dSum : FuncData
  FSum : Fun K "_ratio_sum" "_ratio_sum" sSum aSum dSum
  bSum : Binds K dSum ["left", "right"] []
  gSum : mg "_ratio_sum" = some (.ref aSum)
  aProd : Addr
  dProd : FuncData
  FProd : Fun K "_product" "_product" sProd aProd dProd
  bProd : Binds K dProd ["left", "right"] []
  gProd : mg "_product" = some (.ref aProd)
  aInv : Addr
  dInv : FuncData
  FInv : Fun K "_inverse" "_inverse" sInv aInv dInv
  bInv : Binds K dInv ["ratio"] []
  gInv : mg "_inverse" = some (.ref aInv)
  aFlo : Addr
  dFlo : FuncData
  FFlo : Fun K "_floor" "_floor" sFlo aFlo dFlo
  bFlo : Binds K dFlo ["left", "right"] []
  gFlo : mg "_floor" = some (.ref aFlo)
  aRem : Addr
  dRem : FuncData
  FRem : Fun K "_remainder" "_remainder" sRem aRem dRem
  bRem : Binds K dRem ["left", "right"] []
  gRem : mg "_remainder" = some (.ref aRem)
  aWPo : Addr
  dWPo : FuncData
  FWPo : Fun K "_whole_power" "_whole_power" sWPo aWPo dWPo
  bWPo : Binds K dWPo ["base", "times"] []
  gWPo : mg "_whole_power" = some (.ref aWPo)
  aIsT : Addr
  dIsT : FuncData
  FIsT : Fun K "_is_text" "_is_text" sIsT aIsT dIsT
  bIsT : Binds K dIsT ["text"] []
  gIsT : mg "_is_text" = some (.ref aIsT)
  aIsP : Addr
  dIsP : FuncData
  FIsP : Fun K "_is_positive_text" "_is_positive_text" sIsP aIsP dIsP
  bIsP : Binds K dIsP ["text"] []
  gIsP : mg "_is_positive_text" = some (.ref aIsP)
  aTop : Addr
  dTop : FuncData
  FTop : Fun K "top" "Ratio.top" sTop aTop dTop
  bTop : Binds K dTop ["self"] []
  pTop : Addr
  PTop : PropOf K C "top" pTop aTop
  aBot : Addr
  dBot : FuncData
  FBot : Fun K "bottom" "Ratio.bottom" sBot aBot dBot
  bBot : Binds K dBot ["self"] []
  pBot : Addr
  PBot : PropOf K C "bottom" pBot aBot
  aAdd : Addr
  dAdd : FuncData
  FAdd : Fun K "__add__" "Ratio.__add__" sAdd aAdd dAdd
  bAdd : Binds K dAdd ["self", "other"] []
  hAdd : Has K C "__add__" aAdd
  aRadd : Addr
  dRadd : FuncData
  FRadd : Fun K "__radd__" "Ratio.__radd__" sRadd aRadd dRadd
  bRadd : Binds K dRadd ["self", "other"] []
  hRadd : Has K C "__radd__" aRadd
  aSub : Addr
  dSub : FuncData
  FSub : Fun K "__sub__" "Ratio.__sub__" sSub aSub dSub
  bSub : Binds K dSub ["self", "other"] []
  hSub : Has K C "__sub__" aSub
  aRsub : Addr
  dRsub : FuncData
  FRsub : Fun K "__rsub__" "Ratio.__rsub__" sRsub aRsub dRsub
  bRsub : Binds K dRsub ["self", "other"] []
  hRsub : Has K C "__rsub__" aRsub
  aMul : Addr
  dMul : FuncData
  FMul : Fun K "__mul__" "Ratio.__mul__" sMul aMul dMul
  bMul : Binds K dMul ["self", "other"] []
  hMul : Has K C "__mul__" aMul
  aRmul : Addr
  dRmul : FuncData
  FRmul : Fun K "__rmul__" "Ratio.__rmul__" sRmul aRmul dRmul
  bRmul : Binds K dRmul ["self", "other"] []
  hRmul : Has K C "__rmul__" aRmul
  aFDi : Addr
  dFDi : FuncData
  FFDi : Fun K "__floordiv__" "Ratio.__floordiv__" sFDi aFDi dFDi
  bFDi : Binds K dFDi ["self", "other"] []
  hFDi : Has K C "__floordiv__" aFDi
  aMod : Addr
  dMod : FuncData
  FMod : Fun K "__mod__" "Ratio.__mod__" sMod aMod dMod
  bMod : Binds K dMod ["self", "other"] []
  hMod : Has K C "__mod__" aMod
  aPow : Addr
  dPow : FuncData
  FPow : Fun K "__pow__" "Ratio.__pow__" sPow aPow dPow
  bPow : Binds K dPow ["self", "other"] []
  hPow : Has K C "__pow__" aPow
  aNeg : Addr
  dNeg : FuncData
  FNeg : Fun K "__neg__" "Ratio.__neg__" sNeg aNeg dNeg
  bNeg : Binds K dNeg ["self"] []
  hNeg : Has K C "__neg__" aNeg
  aAbs : Addr
  dAbs : FuncData
  FAbs : Fun K "__abs__" "Ratio.__abs__" sAbs aAbs dAbs
  bAbs : Binds K dAbs ["self"] []
  hAbs : Has K C "__abs__" aAbs
  aBool : Addr
  dBool : FuncData
  FBool : Fun K "__bool__" "Ratio.__bool__" sBool aBool dBool
  bBool : Binds K dBool ["self"] []
  hBool : Has K C "__bool__" aBool
  aEq : Addr
  dEq : FuncData
  FEq : Fun K "__eq__" "Ratio.__eq__" sEq aEq dEq
  bEq : Binds K dEq ["self", "other"] []
  hEq : Has K C "__eq__" aEq
  aStr : Addr
  dStr : FuncData
  FStr : Fun K "__str__" "Ratio.__str__" sStr aStr dStr
  bStr : Binds K dStr ["self"] []
  hStr : Has K C "__str__" aStr
  aRepr : Addr
  dRepr : FuncData
  FRepr : Fun K "__repr__" "Ratio.__repr__" sRepr aRepr dRepr
  bRepr : Binds K dRepr ["self"] []
  hRepr : Has K C "__repr__" aRepr
  aOver : Addr
  dOver : FuncData
  FOver : Fun K "over" "Ratio.over" sOver aOver dOver
  bOver : Binds K dOver ["self", "other"] []
  hOver : Has K C "over" aOver
  aPower : Addr
  dPower : FuncData
  FPower : Fun K "power" "Ratio.power" sPower aPower dPower
  bPower : Binds K dPower ["self", "exponent"] []
  hPower : Has K C "power" aPower
  aCell : Addr
  dCell : FuncData
  FCell : Fun K "_law_cell" "_law_cell" sCell aCell dCell
  bCell : Binds K dCell ["_law_cells", "_law_k"] []
  gCell : mg "_law_cell" = some (.ref aCell)
  aSrc : Addr
  dSrc : FuncData
  FSrc : Fun K "_law_source" "_law_source" sSrc aSrc dSrc
  bSrc : Binds K dSrc ["_law_cell_here"] []
  gSrc : mg "_law_source" = some (.ref aSrc)
  aDraw : Addr
  dDraw : FuncData
  FDraw : Fun K "_law_draw" "_law_draw" sDraw aDraw dDraw
  bDraw : Binds K dDraw ["_law_source_here", "_law_many"] []
  gDraw : mg "_law_draw" = some (.ref aDraw)
  aCom : Addr
  dCom : FuncData
  FCom : Fun K "_law_common" "_law_common" sCom aCom dCom
  bCom : Binds K dCom ["_law_one", "_law_two"] []
  gCom : mg "_law_common" = some (.ref aCom)
  aLow : Addr
  dLow : FuncData
  FLow : Fun K "_law_lowest" "_law_lowest" sLow aLow dLow
  bLow : Binds K dLow ["_law_upper", "_law_lower"] []
  gLow : mg "_law_lowest" = some (.ref aLow)
  aWho : Addr
  dWho : FuncData
  FWho : Fun K "_law_whole" "_law_whole" sWho aWho dWho
  bWho : Binds K dWho ["_law_source_here"] []
  gWho : mg "_law_whole" = some (.ref aWho)
  aPair : Addr
  dPair : FuncData
  FPair : Fun K "_law_pair" "_law_pair" sPair aPair dPair
  bPair : Binds K dPair ["_law_source_here"] []
  gPair : mg "_law_pair" = some (.ref aPair)
  aNum : Addr
  dNum : FuncData
  FNum : Fun K "_law_number" "_law_number" sNum aNum dNum
  bNum : Binds K dNum ["_law_pair_here"] []
  gNum : mg "_law_number" = some (.ref aNum)
  aTri : Addr
  dTri : FuncData
  FTri : Fun K "_law_triple" "_law_triple" sTri aTri dTri
  bTri : Binds K dTri ["_law_source_here"] []
  gTri : mg "_law_triple" = some (.ref aTri)
  aRing : Addr
  dRing : FuncData
  FRing : Fun K "_law_ring_right" "_law_ring_right" sRing aRing dRing
  bRing : Binds K dRing ["_law_a", "_law_b", "_law_c"] []
  gRing : mg "_law_ring_right" = some (.ref aRing)
  aDown : Addr
  dDown : FuncData
  FDown : Fun K "_law_down_right" "_law_down_right" sDown aDown dDown
  bDown : Binds K dDown ["_law_a", "_law_b"] []
  gDown : mg "_law_down_right" = some (.ref aDown)
  aPows : Addr
  dPows : FuncData
  FPows : Fun K "_law_powers_right" "_law_powers_right" sPows aPows dPows
  bPows : Binds K dPows ["_law_source_here", "_law_a"] []
  gPows : mg "_law_powers_right" = some (.ref aPows)
  aAlike : Addr
  dAlike : FuncData
  FAlike : Fun K "_law_alike_right" "_law_alike_right" sAlike aAlike dAlike
  bAlike : Binds K dAlike ["_law_a", "_law_b"] []
  gAlike : mg "_law_alike_right" = some (.ref aAlike)
  aRight : Addr
  dRight : FuncData
  FRight : Fun K "_law_right" "_law_right" sRight aRight dRight
  bRight : Binds K dRight ["_law_source_here"] []
  gRight : mg "_law_right" = some (.ref aRight)
  aLaw : Addr
  dLaw : FuncData
  FLaw : Fun K "law" "law" sLaw aLaw dLaw
  bLaw : Binds K dLaw ["_law_cells"] []
  gLaw : mg "law" = some (.ref aLaw)
  aRd : Addr
  dRd : FuncData
  FRd : Fun K "read" "Ratio.read" sRd aRd dRd
  bRd : Binds K dRd ["cls", "text"] []
  pRd : Addr
  mc : Value
  rRd : ClX.CRead K C mc
  cRd : ClX.CMet K C mc "read" pRd aRd
end T04

/-! The class of fractions, def by def. -/
namespace T04
open PySem PySem.Spec PyProof.Rows L2 SF SQ
section
variable {P : Program} {w : World} {K : PySem.W.Frag} {mg : Str → Option Value} {base : Heap} {C : Addr}
theorem ok_isW (T : Tx K mg C) : FnOk P w K mg base CX0 1 T.aIsW T.dIsW ["value"] (spIsW C) := by
  refine T.FIsW.ok scIsW (fun vs H Q E h => ?_) (fun cdv A outer s H vs Q E hr h => ?_)
  · obtain ⟨v, rfl, _⟩ := h
    rfl
  · obtain ⟨v, rfl, h⟩ := h
    refine ⟨_, (pss_one (ps_ret (pe_and (pe_callB call_isi (by rfl) T.rc.isi (by decide +kernel) (pa_cons (pv 0) (pa_cons (pe_bltn (v := .ty "int") (u := .type "int") (by rfl) T.rc.int_ (by decide +kernel) rfl) pa_nil))) (pe_one (pe_not (pe_callB call_isi (by rfl) T.rc.isi (by decide +kernel) (pa_cons (pv 0) (pa_cons (pe_bltn (v := .ty "bool") (u := .type "bool") (by rfl) T.rc.bool_ (by decide +kernel) rfl) pa_nil)))))))), ?_⟩
    rcases h with ⟨t, d, q⟩ | ⟨⟨a, dx, fs, rfl, ha⟩, q⟩
    · have d' := d
      cases d with
      | non => exact ⟨_, rfl, _, _, _, _, false, rfl, .ty _, d'.typ, kit_ty (by decide +kernel), false, rfl, iteF q⟩
      | bl b => exact ⟨_, rfl, _, _, _, _, true, rfl, .ty _, d'.typ, kit_ty (by decide +kernel), true, rfl, iteT ⟨_, rfl, _, _, _, _, true, rfl, .ty _, d'.typ, kit_ty (by decide +kernel), true, rfl, q⟩⟩
      | int i => exact ⟨_, rfl, _, _, _, _, true, rfl, .ty _, d'.typ, kit_ty (by decide +kernel), true, rfl, iteT ⟨_, rfl, _, _, _, _, false, rfl, .ty _, d'.typ, kit_ty (by decide +kernel), false, rfl, q⟩⟩
      | str x => exact ⟨_, rfl, _, _, _, _, false, rfl, .ty _, d'.typ, kit_ty (by decide +kernel), false, rfl, iteF q⟩
      | lst e => exact ⟨_, rfl, _, _, _, _, false, rfl, .ty _, d'.typ, kit_ty (by decide +kernel), false, rfl, iteF q⟩
      | tup e => exact ⟨_, rfl, _, _, _, _, false, rfl, .ty _, d'.typ, kit_ty (by decide +kernel), false, rfl, iteF q⟩
      | dK e => exact ⟨_, rfl, _, _, _, _, false, rfl, .ty _, d'.typ, kit_ty (by decide +kernel), false, rfl, iteF q⟩
    · exact ⟨_, rfl, _, _, _, _, false, rfl, .ty _, .base (.ins ha T.rc.cl T.rc.ca T.rc.cn T.rc.ct T.rc.cm), T.kI, false, rfl, iteF q⟩
theorem ok_isN (T : Tx K mg C) : FnOk P w K mg base CX0 2 T.aIsN T.dIsN ["value"] (spIsN C) := by
  have GW : FnOk P w K mg base CX0 1 T.aIsW T.dIsW ["value"] (spIsW C) := ok_isW T
  refine T.FIsN.ok scIsN (fun vs H Q E h => ?_) (fun cdv A outer s H vs Q E hr h => ?_)
  · obtain ⟨v, rfl, _⟩ := h
    rfl
  · obtain ⟨v, rfl, h⟩ := h
    refine ⟨_, (pss_one (ps_ret (pe_or (pe_callB call_isi (by rfl) T.rc.isi (by decide +kernel) (pa_cons (pv 0) (pa_cons (pe_glob (v := .ref C) (by rfl) T.rc.mgC rfl) pa_nil))) (pe_one (pe_call GW hr (by rfl) T.gIsW T.FIsW.kp T.bIsW .nil pass0 (pa_cons (pv 0) pa_nil)))))), ?_⟩
    rcases h with ⟨t, d, q⟩ | ⟨⟨a, dx, fs, rfl, ha⟩, q⟩
    · exact ⟨_, rfl, v, .ref C, .type t, .ref C, false, rfl, .own C, d.typ, T.rc.kB _ d.mem, false, rfl, iteF ⟨_, rfl, v, rfl, .inl ⟨t, d, q⟩⟩⟩
    · exact ⟨_, rfl, .ref a, .ref C, .ref C, .ref C, true, rfl, .own C, .base (.ins ha T.rc.cl T.rc.ca T.rc.cn T.rc.ct T.rc.cm), T.rc.kC, true, rfl, iteT q⟩
theorem ok_init (T : Tx K mg C) : FnOk P w K mg base CX0 2 T.aIni T.dIni ["self", "top", "bottom"] (spInit C) := by
  have GW : FnOk P w K mg base CX0 1 T.aIsW T.dIsW ["value"] (spIsW C) := ok_isW T
  refine T.FIni.ok scIni (fun vs H Q E h => ?_) (fun cdv A outer s H vs Q E hr h => ?_)
  · obtain ⟨p, dx, t, b, rfl, _⟩ := h
    rfl
  · obtain ⟨p, dx, t, b, rfl, h0, hb, hp, q⟩ := h
    refine ⟨_, PSs.nox ((pss_cons (ps_if (pt_not (pt_val (pe_call GW hr (by rfl) T.gIsW T.FIsW.kp T.bIsW .nil pass0 (pa_cons (pv 1) pa_nil)))) (pss_one ps_never) pss_nil)
      (pss_cons (ps_if (pt_not (pt_val (pe_call GW hr (by rfl) T.gIsW T.FIsW.kp T.bIsW .nil pass0 (pa_cons (pv 2) pa_nil)))) (pss_one ps_never) pss_nil)
      (pss_cons (ps_if (pt_cmpR op_eq (pv 2) pe_int (nomark _)) (pss_one ps_never) pss_nil)
      (pss_cons (ps_set (i := 3) scIni.nd rfl (.inl rfl) (pe_callBfun cr_gcd (by rfl) T.rc.gcd (pa_cons (pv 1) (pa_cons (pv 2) pa_nil))))
      (pss_cons (ps_if (pt_cmpR op_lt (pv 2) pe_int (nomark _)) (pss_one (ps_set (i := 3) scIni.nd rfl (.inl rfl) (pe_un un_neg (pv 3)))) pss_nil)
      (pss_cons (ps_fld (pv 0) (pe_op op_fdivZ (pv 1) (pv 3)) rfl)
      (pss_one (ps_fld (pv 0) (pe_op op_fdivZ (pv 2) (pv 3)) rfl))))))))), ?_⟩
    refine ⟨_, rfl, _, rfl, .inl ⟨_, .int t, _, rfl, iteF ?_⟩⟩
    refine ⟨_, rfl, _, rfl, .inl ⟨_, .int b, _, rfl, iteF ?_⟩⟩
    refine ⟨_, rfl, rfl, _, rfl, ?_⟩
    refine ite2 (fun hc => ?_) (fun _ => ?_)
    · exact (h0 (V.int.inj (of_decide_eq_true hc))).elim
    refine ⟨_, rfl, _, rfl, t, b, rfl, ?_⟩
    have hz := sg_ok (u := t) h0 hb
    refine ⟨_, rfl, _, _, rfl, rfl, _, rfl, ?_⟩
    refine ite2 (fun hc => ?_) (fun hc => ?_)
    · have hl : b < 0 := of_decide_eq_true hc
      have e : sg t b = -gI t b := if_pos hl
      refine ⟨_, rfl, _, rfl, ?_⟩
      rw [e] at hz
      refine ⟨_, rfl, _, rfl, t, _, rfl, rfl, hz, _, rfl, p, C, dx, [], rfl, hp, T.rc.cl, T.rc.nT, (by show 0 < 1000; decide), ?_⟩
      refine ⟨_, rfl, _, rfl, b, _, rfl, rfl, hz, _, rfl, p, C, dx, _, rfl, upd_same, T.rc.cl, T.rc.nB, (by show 1 < 1000; decide), ?_⟩
      show Q .non (upd (upd H p _) p _)
      rw [upd_upd]
      unfold nt nb at q
      rw [e] at q
      exact q
    · have hl : ¬ b < 0 := fun z => hc (decide_eq_true z)
      have e : sg t b = gI t b := if_neg hl
      rw [e] at hz
      refine ⟨_, rfl, _, rfl, t, _, rfl, rfl, hz, _, rfl, p, C, dx, [], rfl, hp, T.rc.cl, T.rc.nT, (by show 0 < 1000; decide), ?_⟩
      refine ⟨_, rfl, _, rfl, b, _, rfl, rfl, hz, _, rfl, p, C, dx, _, rfl, upd_same, T.rc.cl, T.rc.nB, (by show 1 < 1000; decide), ?_⟩
      show Q .non (upd (upd H p _) p _)
      rw [upd_upd]
      unfold nt nb at q
      rw [e] at q
      exact q
theorem ok_top0 {f : Addr} {fd : FuncData} (F : Fun K "top" "Ratio.top" sTop f fd) (T : RC K mg C) : FnOk P w K mg base CX0 1 f fd ["self"] (getSp C "_top") := by
  obtain ⟨oc, od, kV, doc, pm, an, cdv, ct, osl, rfl, lk, hcd⟩ := F.ex
  exact fn_getter lk hcd scTop rfl rfl T.cl T.nT
theorem ok_top (T : Tx K mg C) : FnOk P w K mg base CX0 1 T.aTop T.dTop ["self"] (getSp C "_top") := ok_top0 T.FTop T.rc
theorem ok_bot0 {f : Addr} {fd : FuncData} (F : Fun K "bottom" "Ratio.bottom" sBot f fd) (T : RC K mg C) : FnOk P w K mg base CX0 1 f fd ["self"] (getSp C "_bottom") := by
  obtain ⟨oc, od, kV, doc, pm, an, cdv, ct, osl, rfl, lk, hcd⟩ := F.ex
  exact fn_getter lk hcd scBot rfl rfl T.cl T.nB
theorem ok_bot (T : Tx K mg C) : FnOk P w K mg base CX0 1 T.aBot T.dBot ["self"] (getSp C "_bottom") := ok_bot0 T.FBot T.rc
def DTop (T : Tx K mg C) : Df P w K mg base 1 ["self"] (getSp C "_top") := ⟨_, _, ok_top T, T.bTop⟩
def DBot (T : Tx K mg C) : Df P w K mg base 1 ["self"] (getSp C "_bottom") := ⟨_, _, ok_bot T, T.bBot⟩
theorem ok_as (T : Tx K mg C) : FnOk P w K mg base CX0 4 T.aAs T.dAs ["number"] (spAs C) := by
  have GI : FnOk P w K mg base CX0 2 T.aIni T.dIni ["self", "top", "bottom"] (spInit C) := ok_init T
  refine T.FAs.ok scAs (fun vs H Q E h => ?_) (fun cdv A outer s H vs Q E hr h => ?_)
  · obtain ⟨v, k, n, q, rfl, _⟩ := h
    rfl
  · obtain ⟨v, k, n, q, rfl, nv, hl, z⟩ := h
    refine ⟨_, (pss_cons (ps_if (pt_val (pe_callB call_isi (by rfl) T.rc.isi (by decide +kernel) (pa_cons (pv 0) (pa_cons (pe_glob (v := .ref C) (by rfl) T.rc.mgC rfl) pa_nil)))) (pss_one (ps_ret (pv 0))) pss_nil)
      (pss_one (ps_ret (pe_make T.M GI hr (by rfl) T.rc.mgC T.b1 T.vv pass0 (pa_cons (pv 0) pa_nil))))), ?_⟩
    cases k with
    | true =>
      obtain ⟨a, rfl, r⟩ := nv_true nv
      obtain ⟨⟨dx, ha⟩, _⟩ := id r
      exact ⟨_, rfl, .ref a, .ref C, .ref C, .ref C, true, rfl, .own C, .base (.ins ha T.rc.cl T.rc.ca T.rc.cn T.rc.ct T.rc.cm), T.rc.kC, true, rfl, iteT ⟨_, rfl, z a H (Same.refl _) r⟩⟩
    | false =>
      obtain ⟨i, rfl, rfl, hi, h0⟩ := nv
      refine ⟨_, rfl, .int i, .ref C, .type "int", .ref C, false, rfl, .own C, .base (.int i), T.rc.kB _ (by decide), false, rfl, iteF ?_⟩
      refine ⟨_, rfl, fun x dx hx hd hn => mk_fin hx hd hn (by decide) hi (Nat.one_lt_two_pow (by omega)) hl fun H3 S3 rq => ⟨rfl, z _ H3 S3 ?_⟩⟩
      rw [int_is] at rq
      exact rq
end
end T04

namespace T04
open PySem PySem.Spec PyProof.Rows L2 SF SQ
section
variable {P : Program} {w : World} {K : PySem.W.Frag} {mg : Str → Option Value} {base : Heap} {C : Addr}
theorem ok_sum (T : Tx K mg C) : FnOk P w K mg base CX0 4 T.aSum T.dSum ["left", "right"] (sp2 C yes2 (fun q r => q + r) gA) := by
  have GI : FnOk P w K mg base CX0 2 T.aIni T.dIni ["self", "top", "bottom"] (spInit C) := ok_init T
  refine T.FSum.ok scSum (fun vs H Q E h => ?_) (fun cdv A outer s H vs Q E hr h => ?_)
  · obtain ⟨a, b, n, m, q, r, rfl, _⟩ := h
    rfl
  · obtain ⟨a, b, n, m, x, y, rfl, ra, rb, _, hl, z⟩ := h
    have hr2 := hr.mono (show 2 ≤ 3 by decide)
    have bd := sum_bd ra.2 rb.2
    have hl' : n + m + 1 ≤ LIM := hl
    let L : List Sl := [.fr n x, .fr m y]
    have c1 : CMulW x.num y.den := wm ra.2.1 (show (y.den : Int).natAbs < 2 ^ m from rb.2.2) (by omega)
    have c2 : CMulW y.num x.den := wm rb.2.1 (show (x.den : Int).natAbs < 2 ^ n from ra.2.2) (by omega)
    have c3 : CMulW x.den y.den := wm (show (x.den : Int).natAbs < 2 ^ n from ra.2.2) (show (y.den : Int).natAbs < 2 ^ m from rb.2.2) (by omega)
    refine ⟨_, (pss_one (ps_ret (pq_make (G := SQ.Env C L) (n := gA n m) T.M GI T.b2 hr (by rfl) T.rc.mgC Env.gs
      (pI_add Env.gs (pI_mul Env.gs (pI_top T.rc.cl (DTop T) T.PTop hr2 (vq L 0 (pv 0) rfl)) (pI_bot T.rc.cl (DBot T) T.PBot hr2 (vq L 1 (pv 1) rfl))) (pI_mul Env.gs (pI_top T.rc.cl (DTop T) T.PTop hr2 (vq L 1 (pv 1) rfl)) (pI_bot T.rc.cl (DBot T) T.PBot hr2 (vq L 0 (pv 0) rfl))))
      (pI_mul Env.gs (pI_bot T.rc.cl (DBot T) T.PBot hr2 (vq L 0 (pv 0) rfl)) (pI_bot T.rc.cl (DBot T) T.PBot hr2 (vq L 1 (pv 1) rfl))) bd.1 bd.2))), ?_⟩
    refine qs_ret ⟨⟨a, rfl, ra⟩, ⟨b, rfl, rb⟩, trivial⟩ ⟨⟨⟨trivial, trivial, c1⟩, trivial, trivial, c2⟩, ⟨trivial, trivial, c3⟩, den_ne x y, hl⟩ fun p H' S rq => z p H' S ?_
    rw [add_is] at rq
    exact rq
theorem ok_prod (T : Tx K mg C) : FnOk P w K mg base CX0 4 T.aProd T.dProd ["left", "right"] (sp2 C yes2 (fun q r => q * r) gM) := by
  have GI : FnOk P w K mg base CX0 2 T.aIni T.dIni ["self", "top", "bottom"] (spInit C) := ok_init T
  refine T.FProd.ok scProd (fun vs H Q E h => ?_) (fun cdv A outer s H vs Q E hr h => ?_)
  · obtain ⟨a, b, n, m, q, r, rfl, _⟩ := h
    rfl
  · obtain ⟨a, b, n, m, x, y, rfl, ra, rb, _, hl, z⟩ := h
    have hr2 := hr.mono (show 2 ≤ 3 by decide)
    have bd := prod_bd ra.2 rb.2
    have hl' : n + m ≤ LIM := hl
    let L : List Sl := [.fr n x, .fr m y]
    have c1 : CMulW x.num y.num := wm ra.2.1 rb.2.1 (by omega)
    have c3 : CMulW x.den y.den := wm (show (x.den : Int).natAbs < 2 ^ n from ra.2.2) (show (y.den : Int).natAbs < 2 ^ m from rb.2.2) (by omega)
    refine ⟨_, (pss_one (ps_ret (pq_make (G := SQ.Env C L) (n := gM n m) T.M GI T.b2 hr (by rfl) T.rc.mgC Env.gs
      (pI_mul Env.gs (pI_top T.rc.cl (DTop T) T.PTop hr2 (vq L 0 (pv 0) rfl)) (pI_top T.rc.cl (DTop T) T.PTop hr2 (vq L 1 (pv 1) rfl)))
      (pI_mul Env.gs (pI_bot T.rc.cl (DBot T) T.PBot hr2 (vq L 0 (pv 0) rfl)) (pI_bot T.rc.cl (DBot T) T.PBot hr2 (vq L 1 (pv 1) rfl))) bd.1 bd.2))), ?_⟩
    refine qs_ret ⟨⟨a, rfl, ra⟩, ⟨b, rfl, rb⟩, trivial⟩ ⟨⟨trivial, trivial, c1⟩, ⟨trivial, trivial, c3⟩, den_ne x y, hl⟩ fun p H' S rq => z p H' S ?_
    rw [mul_is] at rq
    exact rq
theorem ok_inv (T : Tx K mg C) : FnOk P w K mg base CX0 4 T.aInv T.dInv ["ratio"] (sp1 C nz1 (fun q => q⁻¹)) := by
  have GI : FnOk P w K mg base CX0 2 T.aIni T.dIni ["self", "top", "bottom"] (spInit C) := ok_init T
  refine T.FInv.ok scInv (fun vs H Q E h => ?_) (fun cdv A outer s H vs Q E hr h => ?_)
  · obtain ⟨a, n, q, rfl, _⟩ := h
    rfl
  · obtain ⟨a, n, x, rfl, ra, h0, hl, z⟩ := h
    have hr2 := hr.mono (show 2 ≤ 3 by decide)
    let L : List Sl := [.fr n x]
    refine ⟨_, (pss_one (ps_ret (pq_make (G := SQ.Env C L) (n := n) T.M GI T.b2 hr (by rfl) T.rc.mgC Env.gs
      (pI_bot T.rc.cl (DBot T) T.PBot hr2 (vq L 0 (pv 0) rfl)) (pI_top T.rc.cl (DTop T) T.PTop hr2 (vq L 0 (pv 0) rfl)) (show (x.den : Int).natAbs < 2 ^ n from ra.2.2) ra.2.1))), ?_⟩
    refine qs_ret ⟨⟨a, rfl, ra⟩, trivial⟩ ⟨trivial, trivial, num_ne h0, hl⟩ fun p H' S rq => z p H' S ?_
    rw [inv_is] at rq
    exact rq
theorem ok_flo (T : Tx K mg C) : FnOk P w K mg base CX0 5 T.aFlo T.dFlo ["left", "right"] (sp2 C nz2 fFl gM) := by
  have GI : FnOk P w K mg base CX0 2 T.aIni T.dIni ["self", "top", "bottom"] (spInit C) := ok_init T
  have GP : FnOk P w K mg base CX0 4 T.aProd T.dProd ["left", "right"] (sp2 C yes2 (fun q r => q * r) gM) := ok_prod T
  have GV : FnOk P w K mg base CX0 4 T.aInv T.dInv ["ratio"] (sp1 C nz1 (fun q => q⁻¹)) := ok_inv T
  refine T.FFlo.ok scFlo (fun vs H Q E h => ?_) (fun cdv A outer s H vs Q E hr h => ?_)
  · obtain ⟨a, b, n, m, q, r, rfl, _⟩ := h
    rfl
  · obtain ⟨a, b, n, m, x, y, rfl, ra, rb, h0, hl, z⟩ := h
    have hr2 := hr.mono (show 2 ≤ 4 by decide)
    have hr3 := hr.mono (show 3 ≤ 4 by decide)
    have hl' : n + m ≤ LIM := hl
    have hn := ra.2.pos
    let L : List Sl := [.fr n x, .fr m y]
    let L1 : List Sl := [.fr n x, .fr m y, .fr (gM n m) (x * y⁻¹)]
    have hs : Sz (n + m) (x * y⁻¹) := ra.2.mul (rb.2.inv h0)
    refine ⟨_, (pss_cons (ps_set (i := 2) scFlo.nd rfl (.inl rfl) (pq_call2 (G := SQ.Env C L) GP hr (by rfl) T.gProd T.FProd.kp T.bProd Env.gs (vq L 0 (pv 0) rfl) (pq_call1 GV hr (by rfl) T.gInv T.FInv.kp T.bInv (vq L 1 (pv 1) rfl))))
      (pss_one (ps_ret (pq_make1 (G := SQ.Env C L1) (n := gM n m) T.M GI T.b1 T.vv hr3 (by rfl) T.rc.mgC (pI_fdiv Env.gs (pI_top T.rc.cl (DTop T) T.PTop hr2 (vq L1 2 (pv 2) rfl)) (pI_bot T.rc.cl (DBot T) T.PBot hr2 (vq L1 2 (pv 2) rfl))) (by rw [floor_is]; exact hs.floor.1) (by unfold gM; omega))))), ?_⟩
    refine ⟨⟨⟨a, rfl, ra⟩, ⟨b, rfl, rb⟩, trivial⟩, ⟨trivial, ⟨trivial, h0, by omega⟩, trivial, hl⟩, fun v H1 S1 nv => ?_⟩
    obtain ⟨c, rfl, rc⟩ := nv_true nv
    refine qs_ret ⟨⟨a, rfl, ra.same S1⟩, ⟨b, rfl, rb.same S1⟩, ⟨c, rfl, rc⟩, trivial⟩ ⟨⟨trivial, trivial, denZ _, lg (show (((x * y⁻¹).den : Int)).natAbs < 2 ^ (n + m) from hs.2) hl⟩, hl⟩ fun p H' S rq => z p H' (S1.trans S) ?_
    rw [floor_is] at rq
    exact rq
theorem ok_neg (T : Tx K mg C) : FnOk P w K mg base CX0 4 T.aNeg T.dNeg ["self"] (sp1 C yes1 (fun q => -q)) := by
  have GI : FnOk P w K mg base CX0 2 T.aIni T.dIni ["self", "top", "bottom"] (spInit C) := ok_init T
  refine T.FNeg.ok scNeg (fun vs H Q E h => ?_) (fun cdv A outer s H vs Q E hr h => ?_)
  · obtain ⟨a, n, q, rfl, _⟩ := h
    rfl
  · obtain ⟨a, n, x, rfl, ra, _, hl, z⟩ := h
    let L : List Sl := [.fr n x]
    refine ⟨_, (pss_one (ps_ret (pq_make (G := SQ.Env C L) (n := n) T.M GI T.b2 hr (by rfl) T.rc.mgC Env.gs
      (pI_neg (pI_ftop T.rc.cl T.rc.nT (vq L 0 (pv 0) rfl))) (pI_fbot T.rc.cl T.rc.nB (vq L 0 (pv 0) rfl)) (by rw [Int.natAbs_neg]; exact ra.2.1) (show (x.den : Int).natAbs < 2 ^ n from ra.2.2)))), ?_⟩
    refine qs_ret ⟨⟨a, rfl, ra⟩, trivial⟩ ⟨trivial, trivial, denZ x, hl⟩ fun p H' S rq => z p H' S ?_
    rw [neg_is] at rq
    exact rq
theorem abs_lt {i : Int} {n : Nat} (h : i.natAbs < 2 ^ n) : (if i < 0 then -i else i).natAbs < 2 ^ n := by
  split
  · rw [Int.natAbs_neg]; exact h
  · exact h
theorem ok_abs (T : Tx K mg C) : FnOk P w K mg base CX0 4 T.aAbs T.dAbs ["self"] (sp1 C yes1 Rat.abs) := by
  have GI : FnOk P w K mg base CX0 2 T.aIni T.dIni ["self", "top", "bottom"] (spInit C) := ok_init T
  refine T.FAbs.ok scAbs (fun vs H Q E h => ?_) (fun cdv A outer s H vs Q E hr h => ?_)
  · obtain ⟨a, n, q, rfl, _⟩ := h
    rfl
  · obtain ⟨a, n, x, rfl, ra, _, hl, z⟩ := h
    let L : List Sl := [.fr n x]
    refine ⟨_, (pss_one (ps_ret (pq_make (G := SQ.Env C L) (n := n) T.M GI T.b2 hr (by rfl) T.rc.mgC Env.gs
      (pI_abs (by rfl) T.rc.abs_ (by decide +kernel) (pI_ftop T.rc.cl T.rc.nT (vq L 0 (pv 0) rfl))) (pI_fbot T.rc.cl T.rc.nB (vq L 0 (pv 0) rfl)) (abs_lt ra.2.1) (show (x.den : Int).natAbs < 2 ^ n from ra.2.2)))), ?_⟩
    refine qs_ret ⟨⟨a, rfl, ra⟩, trivial⟩ ⟨trivial, trivial, denZ x, hl⟩ fun p H' S rq => z p H' S ?_
    rw [SQ.abs_is] at rq
    exact rq
def DNeg (T : Tx K mg C) : Df P w K mg base 4 ["self"] (sp1 C yes1 (fun q => -q)) := ⟨_, _, ok_neg T, T.bNeg⟩
theorem ok_rem (T : Tx K mg C) : FnOk P w K mg base CX0 6 T.aRem T.dRem ["left", "right"] (sp2 C nz2 fRem gR) := by
  have GS' : FnOk P w K mg base CX0 4 T.aSum T.dSum ["left", "right"] (sp2 C yes2 (fun q r => q + r) gA) := ok_sum T
  have GP : FnOk P w K mg base CX0 4 T.aProd T.dProd ["left", "right"] (sp2 C yes2 (fun q r => q * r) gM) := ok_prod T
  have GF : FnOk P w K mg base CX0 5 T.aFlo T.dFlo ["left", "right"] (sp2 C nz2 fFl gM) := ok_flo T
  refine T.FRem.ok scRem (fun vs H Q E h => ?_) (fun cdv A outer s H vs Q E hr h => ?_)
  · obtain ⟨a, b, n, m, q, r, rfl, _⟩ := h
    rfl
  · obtain ⟨a, b, n, m, x, y, rfl, ra, rb, h0, hl, z⟩ := h
    have hr4 := hr.mono (show 4 ≤ 5 by decide)
    have hl' : n + (m + (n + m)) + 1 ≤ LIM := hl
    let L : List Sl := [.fr n x, .fr m y]
    refine ⟨_, (pss_one (ps_ret (pq_call2 (G := SQ.Env C L) GS' hr4 (by rfl) T.gSum T.FSum.kp T.bSum Env.gs (vq L 0 (pv 0) rfl)
      (pq_un (un_q (DNeg T) T.hNeg hr4) (pq_call2 GP hr4 (by rfl) T.gProd T.FProd.kp T.bProd Env.gs (vq L 1 (pv 1) rfl) (pq_call2 GF hr (by rfl) T.gFlo T.FFlo.kp T.bFlo Env.gs (vq L 0 (pv 0) rfl) (vq L 1 (pv 1) rfl))))))), ?_⟩
    refine qs_ret ⟨⟨a, rfl, ra⟩, ⟨b, rfl, rb⟩, trivial⟩ ⟨trivial, ⟨⟨trivial, ⟨trivial, trivial, h0, by unfold gM; omega⟩, trivial, by unfold gM; omega⟩, trivial, by unfold gM; omega⟩, trivial, by unfold gA gM; omega⟩ fun p H' S rq => z p H' S ?_
    show RQ C H' p _ (x - y * fFl x y)
    rw [Rat.sub_eq_add_neg]
    exact rq
end
end T04

namespace T04
open PySem PySem.Spec PyProof.Rows L2 SF SQ
section
variable {P : Program} {w : World} {K : PySem.W.Frag} {mg : Str → Option Value} {base : Heap} {C : Addr}

theorem ok_Add (T : Tx K mg C) : FnOk P w K mg base CX0 5 T.aAdd T.dAdd ["self", "other"] (spM C yes2 (fun q r => q + r) gA) := by
  have GN : FnOk P w K mg base CX0 2 T.aIsN T.dIsN ["value"] (spIsN C) := ok_isN T
  have GA : FnOk P w K mg base CX0 4 T.aAs T.dAs ["number"] (spAs C) := ok_as T
  have GO := ok_sum (P := P) (w := w) (base := base) T
  refine T.FAdd.ok scAdd (fun vs H Q E h => ?_) (fun cdv A outer s H vs Q E hr h => ?_)
  · obtain ⟨a, k, v, n, m, q, r, rfl, _⟩ := h
    rfl
  · obtain ⟨a, k, v, n, m, x, y, rfl, ra, nv, hsd, hl, z⟩ := h
    have hr2 := hr.mono (show 2 ≤ 4 by decide)
    have hr4 := hr.mono (show 4 ≤ 4 by decide)
    have hrO := hr.mono (show 4 ≤ 4 by decide)
    have hl' := hl
    simp only [gA, gM, gR] at hl'
    let L : List Sl := [.fr n x, .nv k m y]
    refine ⟨_, (pss_cons (ps_if (pb_not (pb_test (pb_num (G := SQ.Env C L) GN hr2 (by rfl) T.gIsN T.FIsN.kp T.bIsN (vnv L 1 (pv 1) rfl)))) (pss_one ps_never) pss_nil)
      (pss_one (ps_ret (pq_call2 (G := SQ.Env C L) GO hrO (by rfl) T.gSum T.FSum.kp T.bSum Env.gs (vq L 0 (pv 0) rfl) (pq_callA GA hr4 (by rfl) T.gAs T.FAs.kp T.bAs (vnv L 1 (pv 1) rfl)))))), ?_⟩
    refine ⟨⟨⟨a, rfl, ra⟩, ⟨v, rfl, nv⟩, trivial⟩, trivial, fun H1 S1 => iteF ?_⟩
    refine qs_ret ⟨⟨a, rfl, ra.same S1⟩, ⟨v, rfl, nv.same S1⟩, trivial⟩ ⟨trivial, ⟨trivial, by omega⟩, hsd, by simp only [gA, gM, gR]; omega⟩ fun p H' S rq => z p H' (S1.trans S) ?_
    exact rq
theorem ok_Radd (T : Tx K mg C) : FnOk P w K mg base CX0 5 T.aRadd T.dRadd ["self", "other"] (spM C yes2 (fun q r => r + q) (fun n m => gA m n)) := by
  have GN : FnOk P w K mg base CX0 2 T.aIsN T.dIsN ["value"] (spIsN C) := ok_isN T
  have GA : FnOk P w K mg base CX0 4 T.aAs T.dAs ["number"] (spAs C) := ok_as T
  have GO := ok_sum (P := P) (w := w) (base := base) T
  refine T.FRadd.ok scRadd (fun vs H Q E h => ?_) (fun cdv A outer s H vs Q E hr h => ?_)
  · obtain ⟨a, k, v, n, m, q, r, rfl, _⟩ := h
    rfl
  · obtain ⟨a, k, v, n, m, x, y, rfl, ra, nv, hsd, hl, z⟩ := h
    have hr2 := hr.mono (show 2 ≤ 4 by decide)
    have hr4 := hr.mono (show 4 ≤ 4 by decide)
    have hrO := hr.mono (show 4 ≤ 4 by decide)
    have hl' := hl
    simp only [gA, gM, gR] at hl'
    let L : List Sl := [.fr n x, .nv k m y]
    refine ⟨_, (pss_cons (ps_if (pb_not (pb_test (pb_num (G := SQ.Env C L) GN hr2 (by rfl) T.gIsN T.FIsN.kp T.bIsN (vnv L 1 (pv 1) rfl)))) (pss_one ps_never) pss_nil)
      (pss_one (ps_ret (pq_call2 (G := SQ.Env C L) GO hrO (by rfl) T.gSum T.FSum.kp T.bSum Env.gs (pq_callA GA hr4 (by rfl) T.gAs T.FAs.kp T.bAs (vnv L 1 (pv 1) rfl)) (vq L 0 (pv 0) rfl))))), ?_⟩
    refine ⟨⟨⟨a, rfl, ra⟩, ⟨v, rfl, nv⟩, trivial⟩, trivial, fun H1 S1 => iteF ?_⟩
    refine qs_ret ⟨⟨a, rfl, ra.same S1⟩, ⟨v, rfl, nv.same S1⟩, trivial⟩ ⟨⟨trivial, by omega⟩, trivial, hsd, by simp only [gA, gM, gR]; omega⟩ fun p H' S rq => z p H' (S1.trans S) ?_
    exact rq
theorem ok_Sub (T : Tx K mg C) : FnOk P w K mg base CX0 5 T.aSub T.dSub ["self", "other"] (spM C yes2 (fun q r => q - r) gA) := by
  have GN : FnOk P w K mg base CX0 2 T.aIsN T.dIsN ["value"] (spIsN C) := ok_isN T
  have GA : FnOk P w K mg base CX0 4 T.aAs T.dAs ["number"] (spAs C) := ok_as T
  have GO := ok_sum (P := P) (w := w) (base := base) T
  refine T.FSub.ok scSub (fun vs H Q E h => ?_) (fun cdv A outer s H vs Q E hr h => ?_)
  · obtain ⟨a, k, v, n, m, q, r, rfl, _⟩ := h
    rfl
  · obtain ⟨a, k, v, n, m, x, y, rfl, ra, nv, hsd, hl, z⟩ := h
    have hr2 := hr.mono (show 2 ≤ 4 by decide)
    have hr4 := hr.mono (show 4 ≤ 4 by decide)
    have hrO := hr.mono (show 4 ≤ 4 by decide)
    have hl' := hl
    simp only [gA, gM, gR] at hl'
    let L : List Sl := [.fr n x, .nv k m y]
    refine ⟨_, (pss_cons (ps_if (pb_not (pb_test (pb_num (G := SQ.Env C L) GN hr2 (by rfl) T.gIsN T.FIsN.kp T.bIsN (vnv L 1 (pv 1) rfl)))) (pss_one ps_never) pss_nil)
      (pss_one (ps_ret (pq_call2 (G := SQ.Env C L) GO hrO (by rfl) T.gSum T.FSum.kp T.bSum Env.gs (vq L 0 (pv 0) rfl) (pq_un (un_q (DNeg T) T.hNeg hr4) (pq_callA GA hr4 (by rfl) T.gAs T.FAs.kp T.bAs (vnv L 1 (pv 1) rfl))))))), ?_⟩
    refine ⟨⟨⟨a, rfl, ra⟩, ⟨v, rfl, nv⟩, trivial⟩, trivial, fun H1 S1 => iteF ?_⟩
    refine qs_ret ⟨⟨a, rfl, ra.same S1⟩, ⟨v, rfl, nv.same S1⟩, trivial⟩ ⟨trivial, ⟨⟨trivial, by omega⟩, trivial, by omega⟩, hsd, by simp only [gA, gM, gR]; omega⟩ fun p H' S rq => z p H' (S1.trans S) ?_
    show RQ C H' p _ (x - y)
    rw [Rat.sub_eq_add_neg]
    exact rq
theorem ok_Rsub (T : Tx K mg C) : FnOk P w K mg base CX0 5 T.aRsub T.dRsub ["self", "other"] (spM C yes2 (fun q r => r - q) (fun n m => gA m n)) := by
  have GN : FnOk P w K mg base CX0 2 T.aIsN T.dIsN ["value"] (spIsN C) := ok_isN T
  have GA : FnOk P w K mg base CX0 4 T.aAs T.dAs ["number"] (spAs C) := ok_as T
  have GO := ok_sum (P := P) (w := w) (base := base) T
  refine T.FRsub.ok scRsub (fun vs H Q E h => ?_) (fun cdv A outer s H vs Q E hr h => ?_)
  · obtain ⟨a, k, v, n, m, q, r, rfl, _⟩ := h
    rfl
  · obtain ⟨a, k, v, n, m, x, y, rfl, ra, nv, hsd, hl, z⟩ := h
    have hr2 := hr.mono (show 2 ≤ 4 by decide)
    have hr4 := hr.mono (show 4 ≤ 4 by decide)
    have hrO := hr.mono (show 4 ≤ 4 by decide)
    have hl' := hl
    simp only [gA, gM, gR] at hl'
    let L : List Sl := [.fr n x, .nv k m y]
    refine ⟨_, (pss_cons (ps_if (pb_not (pb_test (pb_num (G := SQ.Env C L) GN hr2 (by rfl) T.gIsN T.FIsN.kp T.bIsN (vnv L 1 (pv 1) rfl)))) (pss_one ps_never) pss_nil)
      (pss_one (ps_ret (pq_call2 (G := SQ.Env C L) GO hrO (by rfl) T.gSum T.FSum.kp T.bSum Env.gs (pq_callA GA hr4 (by rfl) T.gAs T.FAs.kp T.bAs (vnv L 1 (pv 1) rfl)) (pq_un (un_q (DNeg T) T.hNeg hr4) (vq L 0 (pv 0) rfl)))))), ?_⟩
    refine ⟨⟨⟨a, rfl, ra⟩, ⟨v, rfl, nv⟩, trivial⟩, trivial, fun H1 S1 => iteF ?_⟩
    refine qs_ret ⟨⟨a, rfl, ra.same S1⟩, ⟨v, rfl, nv.same S1⟩, trivial⟩ ⟨⟨trivial, by omega⟩, ⟨trivial, trivial, by omega⟩, hsd, by simp only [gA, gM, gR]; omega⟩ fun p H' S rq => z p H' (S1.trans S) ?_
    show RQ C H' p _ (y - x)
    rw [Rat.sub_eq_add_neg]
    exact rq
theorem ok_Mul (T : Tx K mg C) : FnOk P w K mg base CX0 5 T.aMul T.dMul ["self", "other"] (spM C yes2 (fun q r => q * r) gM) := by
  have GN : FnOk P w K mg base CX0 2 T.aIsN T.dIsN ["value"] (spIsN C) := ok_isN T
  have GA : FnOk P w K mg base CX0 4 T.aAs T.dAs ["number"] (spAs C) := ok_as T
  have GO := ok_prod (P := P) (w := w) (base := base) T
  refine T.FMul.ok scMul (fun vs H Q E h => ?_) (fun cdv A outer s H vs Q E hr h => ?_)
  · obtain ⟨a, k, v, n, m, q, r, rfl, _⟩ := h
    rfl
  · obtain ⟨a, k, v, n, m, x, y, rfl, ra, nv, hsd, hl, z⟩ := h
    have hr2 := hr.mono (show 2 ≤ 4 by decide)
    have hr4 := hr.mono (show 4 ≤ 4 by decide)
    have hrO := hr.mono (show 4 ≤ 4 by decide)
    have hl' := hl
    simp only [gA, gM, gR] at hl'
    let L : List Sl := [.fr n x, .nv k m y]
    refine ⟨_, (pss_cons (ps_if (pb_not (pb_test (pb_num (G := SQ.Env C L) GN hr2 (by rfl) T.gIsN T.FIsN.kp T.bIsN (vnv L 1 (pv 1) rfl)))) (pss_one ps_never) pss_nil)
      (pss_one (ps_ret (pq_call2 (G := SQ.Env C L) GO hrO (by rfl) T.gProd T.FProd.kp T.bProd Env.gs (vq L 0 (pv 0) rfl) (pq_callA GA hr4 (by rfl) T.gAs T.FAs.kp T.bAs (vnv L 1 (pv 1) rfl)))))), ?_⟩
    refine ⟨⟨⟨a, rfl, ra⟩, ⟨v, rfl, nv⟩, trivial⟩, trivial, fun H1 S1 => iteF ?_⟩
    refine qs_ret ⟨⟨a, rfl, ra.same S1⟩, ⟨v, rfl, nv.same S1⟩, trivial⟩ ⟨trivial, ⟨trivial, by omega⟩, hsd, by simp only [gA, gM, gR]; omega⟩ fun p H' S rq => z p H' (S1.trans S) ?_
    exact rq
theorem ok_Rmul (T : Tx K mg C) : FnOk P w K mg base CX0 5 T.aRmul T.dRmul ["self", "other"] (spM C yes2 (fun q r => r * q) (fun n m => gM m n)) := by
  have GN : FnOk P w K mg base CX0 2 T.aIsN T.dIsN ["value"] (spIsN C) := ok_isN T
  have GA : FnOk P w K mg base CX0 4 T.aAs T.dAs ["number"] (spAs C) := ok_as T
  have GO := ok_prod (P := P) (w := w) (base := base) T
  refine T.FRmul.ok scRmul (fun vs H Q E h => ?_) (fun cdv A outer s H vs Q E hr h => ?_)
  · obtain ⟨a, k, v, n, m, q, r, rfl, _⟩ := h
    rfl
  · obtain ⟨a, k, v, n, m, x, y, rfl, ra, nv, hsd, hl, z⟩ := h
    have hr2 := hr.mono (show 2 ≤ 4 by decide)
    have hr4 := hr.mono (show 4 ≤ 4 by decide)
    have hrO := hr.mono (show 4 ≤ 4 by decide)
    have hl' := hl
    simp only [gA, gM, gR] at hl'
    let L : List Sl := [.fr n x, .nv k m y]
    refine ⟨_, (pss_cons (ps_if (pb_not (pb_test (pb_num (G := SQ.Env C L) GN hr2 (by rfl) T.gIsN T.FIsN.kp T.bIsN (vnv L 1 (pv 1) rfl)))) (pss_one ps_never) pss_nil)
      (pss_one (ps_ret (pq_call2 (G := SQ.Env C L) GO hrO (by rfl) T.gProd T.FProd.kp T.bProd Env.gs (pq_callA GA hr4 (by rfl) T.gAs T.FAs.kp T.bAs (vnv L 1 (pv 1) rfl)) (vq L 0 (pv 0) rfl))))), ?_⟩
    refine ⟨⟨⟨a, rfl, ra⟩, ⟨v, rfl, nv⟩, trivial⟩, trivial, fun H1 S1 => iteF ?_⟩
    refine qs_ret ⟨⟨a, rfl, ra.same S1⟩, ⟨v, rfl, nv.same S1⟩, trivial⟩ ⟨⟨trivial, by omega⟩, trivial, hsd, by simp only [gA, gM, gR]; omega⟩ fun p H' S rq => z p H' (S1.trans S) ?_
    exact rq
theorem ok_FDi (T : Tx K mg C) : FnOk P w K mg base CX0 6 T.aFDi T.dFDi ["self", "other"] (spM C nz2 fFl gM) := by
  have GN : FnOk P w K mg base CX0 2 T.aIsN T.dIsN ["value"] (spIsN C) := ok_isN T
  have GA : FnOk P w K mg base CX0 4 T.aAs T.dAs ["number"] (spAs C) := ok_as T
  have GO := ok_flo (P := P) (w := w) (base := base) T
  refine T.FFDi.ok scFDi (fun vs H Q E h => ?_) (fun cdv A outer s H vs Q E hr h => ?_)
  · obtain ⟨a, k, v, n, m, q, r, rfl, _⟩ := h
    rfl
  · obtain ⟨a, k, v, n, m, x, y, rfl, ra, nv, hsd, hl, z⟩ := h
    have hr2 := hr.mono (show 2 ≤ 5 by decide)
    have hr4 := hr.mono (show 4 ≤ 5 by decide)
    have hrO := hr.mono (show 5 ≤ 5 by decide)
    have hl' := hl
    simp only [gA, gM, gR] at hl'
    let L : List Sl := [.fr n x, .nv k m y]
    refine ⟨_, (pss_cons (ps_if (pb_not (pb_test (pb_num (G := SQ.Env C L) GN hr2 (by rfl) T.gIsN T.FIsN.kp T.bIsN (vnv L 1 (pv 1) rfl)))) (pss_one ps_never) pss_nil)
      (pss_one (ps_ret (pq_call2 (G := SQ.Env C L) GO hrO (by rfl) T.gFlo T.FFlo.kp T.bFlo Env.gs (vq L 0 (pv 0) rfl) (pq_callA GA hr4 (by rfl) T.gAs T.FAs.kp T.bAs (vnv L 1 (pv 1) rfl)))))), ?_⟩
    refine ⟨⟨⟨a, rfl, ra⟩, ⟨v, rfl, nv⟩, trivial⟩, trivial, fun H1 S1 => iteF ?_⟩
    refine qs_ret ⟨⟨a, rfl, ra.same S1⟩, ⟨v, rfl, nv.same S1⟩, trivial⟩ ⟨trivial, ⟨trivial, by omega⟩, hsd, by simp only [gA, gM, gR]; omega⟩ fun p H' S rq => z p H' (S1.trans S) ?_
    exact rq
theorem ok_Mod (T : Tx K mg C) : FnOk P w K mg base CX0 7 T.aMod T.dMod ["self", "other"] (spM C nz2 fRem gR) := by
  have GN : FnOk P w K mg base CX0 2 T.aIsN T.dIsN ["value"] (spIsN C) := ok_isN T
  have GA : FnOk P w K mg base CX0 4 T.aAs T.dAs ["number"] (spAs C) := ok_as T
  have GO := ok_rem (P := P) (w := w) (base := base) T
  refine T.FMod.ok scMod (fun vs H Q E h => ?_) (fun cdv A outer s H vs Q E hr h => ?_)
  · obtain ⟨a, k, v, n, m, q, r, rfl, _⟩ := h
    rfl
  · obtain ⟨a, k, v, n, m, x, y, rfl, ra, nv, hsd, hl, z⟩ := h
    have hr2 := hr.mono (show 2 ≤ 6 by decide)
    have hr4 := hr.mono (show 4 ≤ 6 by decide)
    have hrO := hr.mono (show 6 ≤ 6 by decide)
    have hl' := hl
    simp only [gA, gM, gR] at hl'
    let L : List Sl := [.fr n x, .nv k m y]
    refine ⟨_, (pss_cons (ps_if (pb_not (pb_test (pb_num (G := SQ.Env C L) GN hr2 (by rfl) T.gIsN T.FIsN.kp T.bIsN (vnv L 1 (pv 1) rfl)))) (pss_one ps_never) pss_nil)
      (pss_one (ps_ret (pq_call2 (G := SQ.Env C L) GO hrO (by rfl) T.gRem T.FRem.kp T.bRem Env.gs (vq L 0 (pv 0) rfl) (pq_callA GA hr4 (by rfl) T.gAs T.FAs.kp T.bAs (vnv L 1 (pv 1) rfl)))))), ?_⟩
    refine ⟨⟨⟨a, rfl, ra⟩, ⟨v, rfl, nv⟩, trivial⟩, trivial, fun H1 S1 => iteF ?_⟩
    refine qs_ret ⟨⟨a, rfl, ra.same S1⟩, ⟨v, rfl, nv.same S1⟩, trivial⟩ ⟨trivial, ⟨trivial, by omega⟩, hsd, by simp only [gA, gM, gR]; omega⟩ fun p H' S rq => z p H' (S1.trans S) ?_
    exact rq
theorem ok_Over (T : Tx K mg C) : FnOk P w K mg base CX0 5 T.aOver T.dOver ["self", "other"] (spM C nz2 (fun q r => q / r) gM) := by
  have GN : FnOk P w K mg base CX0 2 T.aIsN T.dIsN ["value"] (spIsN C) := ok_isN T
  have GA : FnOk P w K mg base CX0 4 T.aAs T.dAs ["number"] (spAs C) := ok_as T
  have GP : FnOk P w K mg base CX0 4 T.aProd T.dProd ["left", "right"] (sp2 C yes2 (fun q r => q * r) gM) := ok_prod T
  have GV : FnOk P w K mg base CX0 4 T.aInv T.dInv ["ratio"] (sp1 C nz1 (fun q => q⁻¹)) := ok_inv T
  refine T.FOver.ok scOver (fun vs H Q E h => ?_) (fun cdv A outer s H vs Q E hr h => ?_)
  · obtain ⟨a, k, v, n, m, q, r, rfl, _⟩ := h
    rfl
  · obtain ⟨a, k, v, n, m, x, y, rfl, ra, nv, hsd, hl, z⟩ := h
    have hr2 := hr.mono (show 2 ≤ 4 by decide)
    have hl' := hl
    simp only [gA, gM, gR] at hl'
    let L : List Sl := [.fr n x, .nv k m y]
    refine ⟨_, (pss_cons (ps_if (pb_not (pb_test (pb_num (G := SQ.Env C L) GN hr2 (by rfl) T.gIsN T.FIsN.kp T.bIsN (vnv L 1 (pv 1) rfl)))) (pss_one ps_never) pss_nil)
      (pss_one (ps_ret (pq_call2 (G := SQ.Env C L) GP hr (by rfl) T.gProd T.FProd.kp T.bProd Env.gs (vq L 0 (pv 0) rfl) (pq_call1 GV hr (by rfl) T.gInv T.FInv.kp T.bInv (pq_callA GA hr (by rfl) T.gAs T.FAs.kp T.bAs (vnv L 1 (pv 1) rfl))))))), ?_⟩
    refine ⟨⟨⟨a, rfl, ra⟩, ⟨v, rfl, nv⟩, trivial⟩, trivial, fun H1 S1 => iteF ?_⟩
    exact qs_ret ⟨⟨a, rfl, ra.same S1⟩, ⟨v, rfl, nv.same S1⟩, trivial⟩ ⟨trivial, ⟨⟨trivial, by omega⟩, hsd, by omega⟩, trivial, hl⟩ fun p H' S rq => z p H' (S1.trans S) rq
theorem ok_Bool (T : Tx K mg C) : FnOk P w K mg base CX0 1 T.aBool T.dBool ["self"] (spBool C) := by
  refine T.FBool.ok scBool (fun vs H Q E h => ?_) (fun cdv A outer s H vs Q E hr h => ?_)
  · obtain ⟨a, n, q, rfl, _⟩ := h
    rfl
  · obtain ⟨a, n, x, rfl, ⟨⟨dx, hp⟩, _⟩, q⟩ := h
    refine ⟨_, (pss_one (ps_ret (pe_callTy call_bool1 (by rfl) T.rc.bool_ (by decide +kernel) (pa_cons (pe_fld (pv 0) rfl) pa_nil)))), ?_⟩
    refine ⟨_, rfl, a, C, dx, _, _, rfl, hp, T.rc.cl, T.rc.nT, rf_top _ _, .inl ⟨_, rfl, ?_⟩⟩
    rw [SQ.ne_zero]
    exact q
theorem ok_Eq (T : Tx K mg C) : FnOk P w K mg base CX0 3 T.aEq T.dEq ["self", "other"] (spEq C) := by
  have GW : FnOk P w K mg base CX0 2 T.aIsW T.dIsW ["value"] (spIsW C) := (ok_isW T).mono (by decide)
  have GT : FnOk P w K mg base CX0 1 T.aTop T.dTop ["self"] (getSp C "_top") := ok_top T
  have GB : FnOk P w K mg base CX0 1 T.aBot T.dBot ["self"] (getSp C "_bottom") := ok_bot T
  refine T.FEq.ok scEq (fun vs H Q E h => ?_) (fun cdv A outer s H vs Q E hr h => ?_)
  · obtain ⟨a, n, q, y, rfl, _⟩ := h
    rfl
  · obtain ⟨a, n, x, y, rfl, ⟨⟨dx, hp⟩, _⟩, q⟩ := h
    refine ⟨_, (pss_cons (ps_if (pt_val (pe_callB call_isi (by rfl) T.rc.isi (by decide +kernel) (pa_cons (pv 1) (pa_cons (pe_glob (v := .ref C) (by rfl) T.rc.mgC rfl) pa_nil)))) (pss_one (ps_ret (pe_and (pe_cmpR op_eq (pe_fld (pv 0) rfl) (pe_prop (pv 1) T.rc.cl T.PTop GT hr T.bTop .nil pass0 rfl) (nomark _)) (pe_one (pe_cmpR op_eq (pe_fld (pv 0) rfl) (pe_prop (pv 1) T.rc.cl T.PBot GB hr T.bBot .nil pass0 rfl) (nomark _)))))) pss_nil)
      (pss_one (ps_ret (pe_and (pe_call GW hr (by rfl) T.gIsW T.FIsW.kp T.bIsW .nil pass0 (pa_cons (pv 1) pa_nil)) (pe_and (pe_cmpR op_eq (pe_fld (pv 0) rfl) pe_int (nomark _)) (pe_one (pe_cmpR op_eq (pe_fld (pv 0) rfl) (pv 1) (nomark _)))))))), ?_⟩
    have q2 : (∃ a' m r, y = .ref a' ∧ RQ C H a' m r ∧ Q (.bl (decide (x = r))) H) ∨ ∃ T, Dec H y T ∧ Q (.bl (eqO y x)) H := by
      rcases q with ⟨k, m, r, nv, q⟩ | q
      · cases k with
        | true => obtain ⟨a', e, r'⟩ := nv; exact .inl ⟨a', m, r, e, r', q⟩
        | false =>
          obtain ⟨i, e, e2, _⟩ := nv
          subst e
          subst e2
          exact .inr ⟨_, .int i, q⟩
      · exact .inr q
    rcases q2 with ⟨a', m, r, rfl, ⟨⟨dx', hp'⟩, _⟩, q⟩ | ⟨ty, d, q⟩
    · refine ⟨_, rfl, .ref a', .ref C, .ref C, .ref C, true, rfl, .own C, .base (.ins hp' T.rc.cl T.rc.ca T.rc.cn T.rc.ct T.rc.cm), T.rc.kC, true, rfl, iteT ?_⟩
      refine ⟨_, rfl, a, C, dx, _, _, rfl, hp, T.rc.cl, T.rc.nT, rf_top _ _, _, rfl, a', dx', _, rfl, hp', a', dx', _, _, rfl, hp', rf_top _ _, rfl, _, rfl, ?_⟩
      rw [dint]
      rw [← eq_bools] at q
      refine ite2 (fun hc => ?_) (fun hc => ?_)
      · rw [hc, Bool.true_and] at q
        refine ⟨_, rfl, a, C, dx, _, _, rfl, hp, T.rc.cl, T.rc.nB, rf_bot _ _, _, rfl, a', dx', _, rfl, hp', a', dx', _, _, rfl, hp', rf_bot _ _, rfl, ?_⟩
        rw [dint]
        exact q
      · have e := Bool.eq_false_iff.mpr hc
        rw [e, Bool.false_and] at q
        exact q
    · refine ⟨_, rfl, y, .ref C, .type ty, .ref C, false, rfl, .own C, d.typ, T.rc.kB _ d.mem, false, rfl, iteF ?_⟩
      refine ⟨_, rfl, y, rfl, .inl ⟨ty, d, isI y, rfl, ?_⟩⟩
      cases d with
      | int i =>
        refine iteT ⟨_, rfl, a, C, dx, _, _, rfl, hp, T.rc.cl, T.rc.nB, rf_bot _ _, rfl, _, rfl, ?_⟩
        rw [dint]
        have e0 : eqO (.int i) x = decide (x = (i : Rat)) := rfl
        rw [e0, ← SQ.eq_int] at q
        refine ite2 (fun hc => ?_) (fun hc => ?_)
        · rw [hc, Bool.true_and] at q
          refine ⟨_, rfl, a, C, dx, _, _, rfl, hp, T.rc.cl, T.rc.nT, rf_top _ _, _, rfl, rfl, ?_⟩
          rw [dint]
          exact q
        · have e := Bool.eq_false_iff.mpr hc
          rw [e, Bool.false_and] at q
          exact q
      | non => exact iteF q
      | bl x => exact iteF q
      | str x => exact iteF q
      | lst e => exact iteF q
      | tup e => exact iteF q
      | dK e => exact iteF q
theorem line5 : 5000 ≤ sizeLine := by decide
theorem tlog {i : Int} {n : Nat} (h : i.natAbs < 2 ^ n) (hn : n ≤ 1900) : i.natAbs.log2 < 1920 := Nat.lt_of_lt_of_le (PySem.Flt.log2_lt_of (k := 1900) (by decide) (Nat.lt_of_lt_of_le h (two_le hn))) (by decide)
theorem tx_len {i : Int} {n : Nat} (h : i.natAbs < 2 ^ n) (hn : n ≤ 1900) : (tx i).length ≤ 1921 := PyProof.Rows.int_text_len_1921 (tlog h hn)
theorem ok_Str (T : Tx K mg C) : FnOk P w K mg base CX0 1 T.aStr T.dStr ["self"] (spStr C) := by
  refine T.FStr.ok scStr (fun vs H Q E h => ?_) (fun cdv A outer s H vs Q E hr h => ?_)
  · obtain ⟨a, n, q, rfl, _⟩ := h
    rfl
  · obtain ⟨a, n, x, rfl, ⟨⟨dx, hp⟩, sz⟩, hn, q⟩ := h
    have l5 := line5
    have lt : x.num.natAbs.log2 < 1920 := tlog sz.1 hn
    have lb : ((x.den : Int)).natAbs.log2 < 1920 := tlog (show (x.den : Int).natAbs < 2 ^ n from sz.2) hn
    have x1 : (Str.ofString (toString x.num)).length ≤ 1921 := tx_len sz.1 hn
    have x2 : (Str.ofString (toString (x.den : Int))).length ≤ 1921 := tx_len (show (x.den : Int).natAbs < 2 ^ n from sz.2) hn
    refine ⟨_, (pss_cons (ps_if (pt_cmpR op_eq (pe_fld (pv 0) rfl) pe_int (nomark _)) (pss_one (ps_ret (pe_callTy call_str_int (by rfl) T.rc.str_ (by decide +kernel) (pa_cons (pe_fld (pv 0) rfl) pa_nil)))) pss_nil)
      (pss_one (ps_ret (pe_joined (.cons (pe_fmt (pe_fld (pv 0) rfl)) (.cons pe_str (.cons (pe_fmt (pe_fld (pv 0) rfl)) .nil))))))), ?_⟩
    refine ⟨_, rfl, a, C, dx, _, _, rfl, hp, T.rc.cl, T.rc.nB, rf_bot _ _, rfl, _, rfl, ?_⟩
    refine ite2 (fun hc => ?_) (fun hc => ?_)
    · have e : (x.den : Int) = 1 := V.int.inj (of_decide_eq_true hc)
      refine ⟨_, rfl, a, C, dx, _, _, rfl, hp, T.rc.cl, T.rc.nT, rf_top _ _, _, rfl, lt, ?_⟩
      have e2 : rstr x = tx x.num := if_pos (by omega)
      rw [e2] at q
      exact q
    · have e : ¬ (x.den : Int) = 1 := fun z => hc (decide_eq_true (congrArg V.int z))
      have e2 : rstr x = ((Str.empty ++ tx x.num) ++ ("/" : Str)) ++ tx x.den := if_neg (by omega)
      rw [e2] at q
      have s1 : ("/" : Str).length = 1 := rfl
      refine ⟨_, rfl, a, C, dx, _, _, rfl, hp, T.rc.cl, T.rc.nT, rf_top _ _, .inr ⟨_, rfl, lt, _, rfl, ?_, _, rfl, ?_, _, rfl, a, C, dx, _, _, rfl, hp, T.rc.cl, T.rc.nB, rf_bot _ _, .inr ⟨_, rfl, lb, _, rfl, ?_, q⟩⟩⟩
      · rw [Str.length_append]
        have : Str.empty.length = 0 := rfl
        omega
      · rw [Str.length_append, Str.length_append, s1]
        have : Str.empty.length = 0 := rfl
        omega
      · rw [Str.length_append, Str.length_append, Str.length_append, s1]
        have : Str.empty.length = 0 := rfl
        omega
theorem ok_Repr (T : Tx K mg C) : FnOk P w K mg base CX0 1 T.aRepr T.dRepr ["self"] (spRepr C) := by
  refine T.FRepr.ok scRepr (fun vs H Q E h => ?_) (fun cdv A outer s H vs Q E hr h => ?_)
  · obtain ⟨a, n, q, rfl, _⟩ := h
    rfl
  · obtain ⟨a, n, x, rfl, ⟨⟨dx, hp⟩, sz⟩, hn, q⟩ := h
    have l5 := line5
    have lt : x.num.natAbs.log2 < 1920 := tlog sz.1 hn
    have lb : ((x.den : Int)).natAbs.log2 < 1920 := tlog (show (x.den : Int).natAbs < 2 ^ n from sz.2) hn
    have x1 : (Str.ofString (toString x.num)).length ≤ 1921 := tx_len sz.1 hn
    have x2 : (Str.ofString (toString (x.den : Int))).length ≤ 1921 := tx_len (show (x.den : Int).natAbs < 2 ^ n from sz.2) hn
    have s0 : Str.empty.length = 0 := rfl
    have s1 : ("Ratio(" : Str).length = 6 := rfl
    have s2 : (", " : Str).length = 2 := rfl
    have s3 : (")" : Str).length = 1 := rfl
    refine ⟨_, (pss_one (ps_ret (pe_joined (.cons pe_str (.cons (pe_fmt (pe_fld (pv 0) rfl)) (.cons pe_str (.cons (pe_fmt (pe_fld (pv 0) rfl)) (.cons pe_str .nil)))))))), ?_⟩
    refine ⟨_, rfl, ?_, _, rfl, a, C, dx, _, _, rfl, hp, T.rc.cl, T.rc.nT, rf_top _ _, .inr ⟨_, rfl, lt, _, rfl, ?_, _, rfl, ?_, _, rfl, a, C, dx, _, _, rfl, hp, T.rc.cl, T.rc.nB, rf_bot _ _, .inr ⟨_, rfl, lb, _, rfl, ?_, _, rfl, ?_, q⟩⟩⟩
    · simp only [Str.length_append]; omega
    · simp only [Str.length_append]; omega
    · simp only [Str.length_append]; omega
    · simp only [Str.length_append]; omega
    · simp only [Str.length_append]; omega
theorem ok_WPo (T : Tx K mg C) : FnOk P w K mg base CX0 1 T.aWPo T.dWPo ["base", "times"] spWPow := by
  refine T.FWPo.ok scWPo (fun vs H Q E h => ?_) (fun cdv A outer s H vs Q E hr h => ?_)
  · obtain ⟨b, t, n, rfl, _⟩ := h
    rfl
  · obtain ⟨b, t, n, rfl, ht, hb, hn, h0, q⟩ := h
    refine ⟨_, (pss_cons (ps_set (i := 2) scWPo.nd rfl (.inl rfl) pe_int)
      (pss_cons (ps_for PassesOwn.never rfl (pi_range1 rfl T.rc.range_ (pa_cons (pv 1) pa_nil)) (pg_name (i := 3) scWPo.nd rfl (.inl rfl)) (pss_one (ps_set (i := 2) scWPo.nd rfl (.inl rfl) (pe_op op_mulW (pv 2) (pv 0)))))
      (pss_one (ps_ret (pv 2))))), ?_⟩
    refine ⟨_, rfl, (t : Int), rfl, (by omega), (by omega), for_range (n := t) (fun i σ H' => H' = H ∧ ∃ v, σ = [some (.int b), some (.int (t : Int)), some (.int (b ^ i)), v]) ⟨rfl, none, by rw [Int.pow_zero]; rfl⟩ ?_ ?_⟩
    · rintro i σ H' hi ⟨rfl, v, rfl⟩
      have hp : (b ^ i).natAbs < 2 ^ (n * i + 1) := by
        rw [Int.natAbs_pow]
        refine Nat.lt_of_le_of_lt (Nat.pow_le_pow_left (Nat.le_of_lt hb) i) ?_
        rw [← Nat.pow_mul]
        exact Nat.pow_lt_pow_right (by decide) (by omega)
      have hi' : n * i ≤ n * 19 := Nat.mul_le_mul_left _ (by omega)
      refine ⟨_, rfl, _, rfl, b ^ i, b, rfl, rfl, wm hp hb (by unfold LIM at *; omega), ?_⟩
      refine ⟨rfl, some (V.int (0 + (i : Int))), ?_⟩
      show [_, _, some (V.int (b ^ i * b)), _] = _
      rw [← Int.pow_succ]
    · rintro σ H' ⟨rfl, v, rfl⟩
      exact ⟨_, rfl, q⟩
end
end T04

namespace T04
open PySem PySem.Spec PyProof.Rows L2 SF SQ
section
variable {P : Program} {w : World} {K : PySem.W.Frag} {mg : Str → Option Value} {base : Heap} {C : Addr}
theorem pI_wpo {X : Cx} {G : L2.St → Hp → Prop} {a b : Expr} {i z : Int} {t n l : Nat} {s1 s2 : Prop} {p1 pos : Pos} {x : Str} {D : Addr} {fd : FuncData} {ps : List Str} (F : FnOk X.prog X.w X.K X.mg X.base CX0 l D fd ps spWPow) (hr : Room l X.A) (hg : Gl X x) (hm : X.mg x = some (.ref D)) (hk : PySem.W.keepIn X.K (.ref D) = true) (hb : Binds X.K fd ps []) (hG : GS G)
    (hz : z = (t : Int)) (ht : t ≤ 20) (hi : i.natAbs < 2 ^ n) (hn : n ≤ LIM) (h0 : 0 < n) (ha : PE X a (TI G i s1)) (hb' : PE X b (TI G z s2)) (hdb : (x == ("__debug__" : Str)) = false := by decide)
    (he : starEach (a :: [b]) X.env = (false, eval a X.env) :: starEach [b] X.env := by rfl) (he2 : starEach (b :: []) X.env = (false, eval b X.env) :: starEach [] X.env := by rfl) (hpl : (backTo pos (starEach [b] X.env)).any (·.1) = false := by rfl) :
    PE X (.Call (.Name x p1) [a, b] [] pos) (TI G (i ^ t) (s1 ∧ s2)) :=
  pe_weak (pe_call (E := E0) F hr hg hm hk hb .nil pass0 (pa_cons ha (pa_cons hb' pa_nil he2) he) hdb he hpl) fun σ H Q ⟨hg, ⟨h1, h2⟩, z'⟩ =>
    ⟨hg, h1, fun H1 S1 => ⟨hG _ _ _ hg S1, h2, fun H2 S2 => ⟨i, t, n, by rw [hz]; rfl, ht, hi, hn, h0, z' H2 (S1.trans S2)⟩⟩⟩
theorem T02abs (i : Int) : (if i < 0 then -i else i) = ((i.natAbs : Nat) : Int) := by split <;> omega
theorem ok_Power (T : Tx K mg C) : FnOk P w K mg base CX0 5 T.aPower T.dPower ["self", "exponent"] (spPow C) := by
  have GI : FnOk P w K mg base CX0 2 T.aIni T.dIni ["self", "top", "bottom"] (spInit C) := ok_init T
  have GW : FnOk P w K mg base CX0 4 T.aIsW T.dIsW ["value"] (spIsW C) := (ok_isW T).mono (by decide)
  have GV : FnOk P w K mg base CX0 4 T.aInv T.dInv ["ratio"] (sp1 C nz1 (fun q => q⁻¹)) := ok_inv T
  have GP : FnOk P w K mg base CX0 1 T.aWPo T.dWPo ["base", "times"] spWPow := ok_WPo T
  refine T.FPower.ok scPower (fun vs H Q E h => ?_) (fun cdv A outer s H vs Q E hr h => ?_)
  · obtain ⟨a, n, q, e, rfl, _⟩ := h
    rfl
  · obtain ⟨a, n, x, e, rfl, ra, e0, e1, hx, hl, hn, z⟩ := h
    have hr1 := hr.mono (show 1 ≤ 4 by decide)
    have hr2 := hr.mono (show 2 ≤ 4 by decide)
    have hr3 := hr.mono (show 3 ≤ 4 by decide)
    let y : Rat := if e < 0 then x⁻¹ else x
    have hy : (e < 0 → y = x⁻¹) ∧ (¬ e < 0 → y = x) := ⟨fun h => if_pos h, fun h => if_neg h⟩
    have sy : Sz n y := by
      by_cases h : e < 0
      · rw [hy.1 h]; exact ra.2.inv (hx.resolve_right (by omega))
      · rw [hy.2 h]; exact ra.2
    have hpow : y ^ e.natAbs = x ^ e := by
      by_cases h : e < 0
      · rw [hy.1 h]; exact zpow_neg_is x h
      · rw [hy.2 h]; exact zpow_pos_is x (by omega)
    clear_value y
    have ht : e.natAbs ≤ 20 := by omega
    have sp := sy.pow e.natAbs
    let L0 : List Sl := [.fr n x, .i e, .any, .any]
    let L1 : List Sl := [.fr n x, .i e, .fr n y, .any]
    let L2 : List Sl := [.fr n x, .i e, .fr n y, .i (if e < 0 then -e else e)]
    refine ⟨_, PSs.nox (pss_cons (ps_if (PW.pt (pw_or (pt_not (pt_val (pe_call GW hr (by rfl) T.gIsW T.FIsW.kp T.bIsW .nil pass0 (pa_cons (pv 1) pa_nil)))) (pw_or (pt_cmpR op_lt (pv 1) (pe_un un_neg (pe_glob (v := .int 20) (by rfl) T.mp ⟨_, rfl⟩)) (nomark _)) (pw_or1 (pt_cmpR op_gt (pv 1) (pe_glob (v := .int 20) (by rfl) T.mp ⟨_, rfl⟩) (nomark _)))))) (pss_one ps_never) pss_nil)
      (pss_cons (ps_set (i := 2) scPower.nd rfl (.inl rfl) (pv 0))
      (pss_cons (ps_if (pt_cmpR op_lt (pv 1) pe_int (nomark _)) (pss_one (ps_set (i := 2) scPower.nd rfl (.inl rfl) (pq_call1 (G := SQ.Env C L0) GV hr (by rfl) T.gInv T.FInv.kp T.bInv (vq L0 0 (pv 0) rfl)))) pss_nil)
      (pss_cons (ps_set (i := 3) scPower.nd rfl (.inl rfl) (pI_abs (G := SQ.Env C L1) (by rfl) T.rc.abs_ (by decide +kernel) (vi L1 1 (pv 1) rfl)))
      (pss_one (ps_ret (pq_make (G := SQ.Env C L2) (n := n * e.natAbs + 1) T.M GI T.b2 hr3 (by rfl) T.rc.mgC Env.gs
        (pI_wpo GP hr1 (by rfl) T.gWPo T.FWPo.kp T.bWPo Env.gs (T02abs e) ht sy.1 hn sy.pos (pI_top T.rc.cl (DTop T) T.PTop hr2 (vq L2 2 (pv 2) rfl)) (vi L2 3 (pv 3) rfl))
        (pI_wpo GP hr1 (by rfl) T.gWPo T.FWPo.kp T.bWPo Env.gs (T02abs e) ht (show (y.den : Int).natAbs < 2 ^ n from sy.2) hn sy.pos (pI_bot T.rc.cl (DBot T) T.PBot hr2 (vq L2 2 (pv 2) rfl)) (vi L2 3 (pv 3) rfl)) (by rw [← Rat.num_pow]; exact sp.1) (by have e := sp.2; rw [Rat.den_pow] at e; rw [Int.natAbs_pow]; exact e)))))))), ?_⟩
    refine ⟨_, rfl, _, rfl, .inl ⟨_, .int e, _, rfl, ?_⟩⟩
    refine iteF ⟨_, rfl, _, rfl, _, _, rfl, rfl, _, rfl, ?_⟩
    rw [decide_eq_false (show ¬ e < -20 by omega)]
    refine iteF ⟨_, rfl, _, _, rfl, rfl, _, rfl, ?_⟩
    rw [decide_eq_false (show ¬ e > 20 by omega)]
    refine iteF ⟨_, rfl, ?_⟩
    refine ⟨_, rfl, _, _, rfl, rfl, _, rfl, ?_⟩
    refine ite2 (fun hc => ?_) (fun hc => ?_)
    · have h : e < 0 := of_decide_eq_true hc
      refine ⟨⟨⟨a, rfl, ra⟩, rfl, trivial, trivial, trivial⟩, ⟨trivial, hx.resolve_right (by omega), hn⟩, fun v H1 S1 nv => ?_⟩
      obtain ⟨b, rfl, rb⟩ := nv_true nv
      rw [← hy.1 h] at rb
      exact ⟨⟨⟨a, rfl, ra.same S1⟩, rfl, ⟨b, rfl, rb⟩, trivial, trivial⟩, trivial, fun H2 S2 => qs_ret ⟨⟨a, rfl, (ra.same S1).same S2⟩, rfl, ⟨b, rfl, rb.same S2⟩, rfl, trivial⟩ ⟨⟨trivial, trivial⟩, ⟨trivial, trivial⟩, Int.pow_ne_zero (denZ y), hl⟩ fun p H3 S3 rq => z p H3 ((S1.trans S2).trans S3) (by rw [pow_is, hpow] at rq; exact rq)⟩
    · have h : ¬ e < 0 := fun z => hc (decide_eq_true z)
      have rb : RQ C H a n y := by rw [hy.2 h]; exact ra
      exact ⟨⟨⟨a, rfl, ra⟩, rfl, ⟨a, rfl, rb⟩, trivial, trivial⟩, trivial, fun H2 S2 => qs_ret ⟨⟨a, rfl, ra.same S2⟩, rfl, ⟨a, rfl, rb.same S2⟩, rfl, trivial⟩ ⟨⟨trivial, trivial⟩, ⟨trivial, trivial⟩, Int.pow_ne_zero (denZ y), hl⟩ fun p H3 S3 rq => z p H3 (S2.trans S3) (by rw [pow_is, hpow] at rq; exact rq)⟩
def DPower (T : Tx K mg C) : Df P w K mg base 5 ["self", "exponent"] (spPow C) := ⟨_, _, ok_Power T, T.bPower⟩
theorem mPower (T : Tx K mg C) : Meth K C "power" T.aPower := ⟨T.hPower.h, T.hPower.i, T.FPower.kp⟩
theorem ok_Pow (T : Tx K mg C) : FnOk P w K mg base CX0 6 T.aPow T.dPow ["self", "other"] (spPow C) := by
  refine T.FPow.ok scPow (fun vs H Q E h => ?_) (fun cdv A outer s H vs Q E hr h => ?_)
  · obtain ⟨a, n, q, e, rfl, _⟩ := h
    rfl
  · obtain ⟨a, n, x, e, rfl, ra, e0, e1, hx, hl, hn, z⟩ := h
    let L : List Sl := [.fr n x, .i e]
    refine ⟨_, (pss_one (ps_ret (pq_power (G := SQ.Env C L) T.rc.cl (DPower T) (mPower T) hr Env.gs (vq L 0 (pv 0) rfl) (vi L 1 (pv 1) rfl)))), ?_⟩
    exact qs_ret ⟨⟨a, rfl, ra⟩, rfl, trivial⟩ ⟨trivial, trivial, e0, e1, hx, hl, hn⟩ fun p H3 S3 rq => z p H3 S3 rq
end
end T04

namespace T04
open PySem PySem.Spec PyProof.Rows L2 SF SQ
section
variable {P : Program} {w : World} {K : PySem.W.Frag} {mg : Str → Option Value} {base : Heap} {C : Addr}
theorem line640 : 640 ≤ sizeLine := by decide
theorem ok_IsP (T : Tx K mg C) : FnOk P w K mg base CX0 1 T.aIsP T.dIsP ["text"] spIsP := by
  refine T.FIsP.ok scIsP (fun vs H Q E h => ?_) (fun cdv A outer s H vs Q E hr h => ?_)
  · obtain ⟨x, rfl, _⟩ := h
    rfl
  · obtain ⟨x, rfl, hl, q⟩ := h
    refine ⟨_, (pss_one (ps_ret (pe_and (pe_m0 F.slot_str_isascii F.type_str_isascii mt_isascii (pv 0)) (pe_and (pe_m0 F.slot_str_isdigit F.type_str_isdigit mt_isdigit (pv 0)) (pe_one (pe_cmpR op_ne (pe_ix ix_str (pv 0) pe_int (fun _ _ => rfl)) pe_str (nomark _))))))), ?_⟩
    have e0 : posT x = (Txt.isascii x && (Txt.isdigit x && !decide ((TL.tl x).head? = some 48))) := rfl
    rw [e0] at q
    refine ⟨_, rfl, ⟨_, rfl⟩, x, rfl, rfl, trivial, _, rfl, ?_⟩
    refine ite2 (fun h1 => ?_) (fun h1 => ?_)
    · rw [h1, Bool.true_and] at q
      refine ⟨_, rfl, ⟨_, rfl⟩, x, rfl, rfl, trivial, _, rfl, ?_⟩
      refine ite2 (fun h2 => ?_) (fun h2 => ?_)
      · rw [h2, Bool.true_and] at q
        obtain ⟨c, l, e⟩ : ∃ c l, TL.tl x = c :: l := by
          cases e : TL.tl x with
          | nil =>
            unfold Txt.isdigit at h2
            have := of_decide_eq_true (Bool.and_eq_true_iff.mp h2).1
            rw [TL.len_tl, e] at this
            exact absurd this (by simp)
          | cons c l => exact ⟨c, l, rfl⟩
        refine ⟨_, rfl, x, 0, c, rfl, rfl, Nat.le_trans hl line640, (by rw [show x.cps.toList = c :: l from e]; show atI (c :: l) ((0 : Nat) : Int) = some c; exact atI_nat rfl), rfl, ?_⟩
        have e2 : decide (V.str ⟨#[c]⟩ = V.str "0") = decide ((TL.tl x).head? = some 48) := by
          rw [e]
          by_cases hc : c = 48
          · subst hc; rfl
          · rw [decide_eq_false (fun z => hc (by have z1 := congrArg (fun s : Str => TL.tl s) (V.str.inj z); have z2 : [c] = [48] := z1; injection z2)), decide_eq_false (fun z => hc (by injection z))]
        rw [e2]
        exact q
      · rw [Bool.eq_false_iff.mpr h2, Bool.false_and] at q
        exact q
    · rw [Bool.eq_false_iff.mpr h1, Bool.false_and] at q
      exact q
theorem str_emp {x : Str} : decide (V.str x = V.str "") = decide (x = ("" : Str)) := by
  by_cases h : x = ""
  · rw [h]; simp
  · rw [decide_eq_false h, decide_eq_false (fun z => h (V.str.inj z))]
theorem str_dec {x y : Str} : decide (V.str x = V.str y) = decide (x = y) := by
  by_cases h : x = y
  · rw [h]; simp
  · rw [decide_eq_false h, decide_eq_false (fun z => h (V.str.inj z))]
theorem rp_len (x : Str) : (Txt.removeprefix x "-").length ≤ x.length := by
  by_cases h : (TL.tl x).head? = some 45
  · cases e : TL.tl x with
    | nil => rw [e] at h; cases h
    | cons c l =>
      rw [e] at h
      simp at h
      subst h
      rw [TL.len_tl, TL.len_tl, rp_neg e, e]
      simp
  · rw [rp_same h]; exact Nat.le_refl _
theorem top_test {σ : L2.St} {H : Hp} {Q : Bool → Hp → Prop} {a : Str} (ha : σ[1]? = some (some (V.str a))) (la : a.length ≤ 640) (z : Q (!(decide (a = ("0" : Str)) || posT (Txt.removeprefix a "-"))) H) :
    tAnd (tTest (tOp rNe (tVar 1) (tC (V.str "0")))) (tNot (tB (tCall spIsP [] E0 (tCons (tM1 (fun x xs H Q => ∃ a b, x = .str a ∧ xs = [.str b] ∧ a.length ≤ sizeLine ∧ Q (.str (Txt.removeprefix a b)) H) (tVar 1) (tC (V.str "-"))) tNil)))) σ H Q := by
  have l6 := line640
  have lr := rp_len a
  refine ⟨_, ha, rfl, _, rfl, ?_⟩
  rw [str_dec]
  by_cases h : a = ("0" : Str)
  · rw [decide_eq_true h] at z ⊢
    exact iteF z
  · rw [decide_eq_false h, Bool.false_or] at z
    rw [decide_eq_false h]
    exact iteT ⟨_, ha, ⟨_, rfl⟩, a, "-", rfl, rfl, Nat.le_trans la l6, _, rfl, by omega, _, rfl, z⟩
theorem ok_IsT (T : Tx K mg C) : FnOk P w K mg base CX0 2 T.aIsT T.dIsT ["text"] spIsT := by
  have GP : FnOk P w K mg base CX0 1 T.aIsP T.dIsP ["text"] spIsP := ok_IsP T
  refine T.FIsT.ok scIsT (fun vs H Q E h => ?_) (fun cdv A outer s H vs Q E hr h => ?_)
  · obtain ⟨x, rfl, _⟩ := h
    rfl
  · obtain ⟨x, rfl, hl, q⟩ := h
    have l6 := line640
    refine ⟨_, (pss_cons (ps_if (pt_not (pt_val (pe_callB call_isi (by rfl) T.rc.isi (by decide +kernel) (pa_cons (pv 0) (pa_cons (pe_bltn (v := .ty "str") (u := .type "str") (by rfl) T.rc.str_ (by decide +kernel) rfl) pa_nil))))) (pss_one (ps_ret pe_bl)) pss_nil)
      (pss_cons (ps_asg (pe_partition (pv 0) pe_str) (pg_tup rfl (pgs_cons (pg_name (i := 1) scIsT.nd rfl (.inl rfl)) (pgs_cons (pg_name (i := 2) scIsT.nd rfl (.inl rfl)) (pgs_cons (pg_name (i := 3) scIsT.nd rfl (.inl rfl)) pgs_nil)))))
      (pss_cons (ps_if (pt_weak (t' := fun σ H Q => ∃ a : Str, σ[1]? = some (some (V.str a)) ∧ a.length ≤ 640 ∧ Q (!(decide (a = ("0" : Str)) || posT (Txt.removeprefix a "-"))) H) (PW.pt (pw_and (pt_cmpR op_ne (pv 1) pe_str (nomark _)) (pw_and1 (pt_not (pt_val (pe_call GP hr (by rfl) T.gIsP T.FIsP.kp T.bIsP .nil pass0 (pa_cons (pe_m1 F.slot_str_removeprefix F.type_str_removeprefix mt_removeprefix (pv 1) pe_str) pa_nil))))))) (fun σ H Q ⟨a, ha, la, z⟩ => top_test ha la z)) (pss_one (ps_ret pe_bl)) pss_nil)
      (pss_cons (ps_if (pt_cmpR op_eq (pv 2) pe_str (nomark _)) (pss_one (ps_ret pe_bl)) pss_nil)
      (pss_one (ps_ret (pe_and (pe_call GP hr (by rfl) T.gIsP T.FIsP.kp T.bIsP .nil pass0 (pa_cons (pv 3) pa_nil)) (pe_and (pe_cmpR op_ne (pv 3) pe_str (nomark _)) (pe_one (pe_cmpR op_eq (pe_callBfun cr_gcd (by rfl) T.rc.gcd (pa_cons (pe_callTy call_int_str (by rfl) T.rc.int_ (by decide +kernel) (pa_cons (pv 1) pa_nil)) (pa_cons (pe_callTy call_int_str (by rfl) T.rc.int_ (by decide +kernel) (pa_cons (pv 3) pa_nil)) pa_nil))) pe_int (nomark _))))))))))), ?_⟩
    refine ⟨_, rfl, _, _, _, _, true, rfl, .ty _, (Dec.str x).typ, kit_ty (by decide +kernel), true, rfl, iteF ?_⟩
    refine ⟨_, rfl, ⟨_, rfl⟩, x, "/", rfl, rfl, rfl, Nat.le_trans hl l6, fun t nt => ?_⟩
    generalize hE : upd H t _ = H1
    have ht := upd_got hE
    have st := upd_stay hE nt
    have q := q H1 st
    have pl := part_len x
    unfold isTx at q
    generalize Txt.partition x "/" = pp at ht q pl
    obtain ⟨a, b, c⟩ := pp
    dsimp only at ht q pl
    refine ⟨t, _, rfl, SqT.of ht, rfl, _, _, rfl, _, _, rfl, _, _, rfl, rfl, ?_⟩
    have la : a.length ≤ 640 := Nat.le_trans pl.1 hl
    have lc : c.length ≤ 640 := Nat.le_trans pl.2 hl
    refine ⟨a, rfl, la, ?_⟩
    refine ite2 (fun h1 => ?_) (fun h1 => ?_)
    · have e : (decide (a = ("0" : Str)) || posT (Txt.removeprefix a "-")) = false := by simpa using h1
      rw [e, Bool.false_and] at q
      exact q
    have htop : (decide (a = ("0" : Str)) || posT (Txt.removeprefix a "-")) = true := by cases e : (decide (a = ("0" : Str)) || posT (Txt.removeprefix a "-")) with | true => rfl | false => rw [e] at h1; exact absurd rfl h1
    rw [htop, Bool.true_and] at q
    refine ⟨_, rfl, rfl, _, rfl, ?_⟩
    rw [str_dec]
    refine ite2 (fun h2 => ?_) (fun h2 => ?_)
    · rw [h2, Bool.true_or] at q
      exact q
    rw [Bool.eq_false_iff.mpr h2, Bool.false_or] at q
    refine ⟨_, rfl, c, rfl, lc, _, rfl, ?_⟩
    refine ite2 (fun h3 => ?_) (fun h3 => ?_)
    · rw [h3, Bool.true_and] at q
      refine ⟨_, rfl, rfl, _, rfl, ?_⟩
      rw [str_dec]
      refine ite2 (fun h4 => ?_) (fun h4 => ?_)
      · rw [h4, Bool.true_and] at q
        refine ⟨_, rfl, a, iv a, rfl, iv_top htop (by omega), la, _, rfl, c, iv c, rfl, iv_pos h3 (by omega), lc, _, _, rfl, rfl, ?_⟩
        rw [dint]
        exact q
      · rw [Bool.eq_false_iff.mpr h4, Bool.false_and] at q
        exact q
    · rw [Bool.eq_false_iff.mpr h3, Bool.false_and] at q
      exact q
theorem ok_Rd (T : Tx K mg C) : FnOk P w K mg base CX0 4 T.aRd T.dRd ["cls", "text"] (spRd C) := by
  have GI : FnOk P w K mg base CX0 2 T.aIni T.dIni ["self", "top", "bottom"] (spInit C) := ok_init T
  have GT : FnOk P w K mg base CX0 2 T.aIsT T.dIsT ["text"] spIsT := ok_IsT T
  refine T.FRd.ok scRd (fun vs H Q E h => ?_) (fun cdv A outer s H vs Q E hr h => ?_)
  · obtain ⟨x, rfl, _⟩ := h
    rfl
  · obtain ⟨x, rfl, hl, hx, q⟩ := h
    have l6 := line640
    have hr2 := hr.mono (show 2 ≤ 3 by decide)
    refine ⟨_, PSs.nox (pss_cons (ps_if (pt_not (pt_val (pe_call GT hr2 (by rfl) T.gIsT T.FIsT.kp T.bIsT .nil pass0 (pa_cons (pv 1) pa_nil)))) (pss_one ps_never) pss_nil)
      (pss_cons (ps_asg (pe_partition (pv 1) pe_str) (pg_tup rfl (pgs_cons (pg_name (i := 2) scRd.nd rfl (.inl rfl)) (pgs_cons (pg_name (i := 3) scRd.nd rfl (.inl rfl)) (pgs_cons (pg_name (i := 4) scRd.nd rfl (.inl rfl)) pgs_nil)))))
      (pss_cons (ps_if (pt_cmpR op_eq (pv 3) pe_str (nomark _)) (pss_one (ps_ret (pe_makeL (i := 0) T.M GI hr rfl (.inl rfl) T.b1 T.vv pass0 (pa_cons (pe_callTy call_int_str (by rfl) T.rc.int_ (by decide +kernel) (pa_cons (pv 2) pa_nil)) pa_nil)))) pss_nil)
      (pss_one (ps_ret (pe_makeL (i := 0) T.M GI hr rfl (.inl rfl) T.b2 .nil pass0 (pa_cons (pe_callTy call_int_str (by rfl) T.rc.int_ (by decide +kernel) (pa_cons (pv 2) pa_nil)) (pa_cons (pe_callTy call_int_str (by rfl) T.rc.int_ (by decide +kernel) (pa_cons (pv 4) pa_nil)) pa_nil)))))))), ?_⟩
    refine ⟨_, rfl, x, rfl, hl, fun H0 s0 => ⟨_, rfl, ?_⟩⟩
    rw [hx]
    refine iteF ?_
    refine ⟨_, rfl, ⟨_, rfl⟩, x, "/", rfl, rfl, rfl, Nat.le_trans hl l6, fun t nt => ?_⟩
    generalize hE : upd H0 t _ = H1
    have ht := upd_got hE
    have st := upd_stay hE nt
    have s1 := s0.trans st
    have pl := part_len x
    unfold isTx at hx
    unfold rdq at q
    generalize Txt.partition x "/" = pp at ht q pl hx
    obtain ⟨a, b, c⟩ := pp
    dsimp only at ht q pl hx
    have la : a.length ≤ 640 := Nat.le_trans pl.1 hl
    have lc : c.length ≤ 640 := Nat.le_trans pl.2 hl
    obtain ⟨htop, hx⟩ := Bool.and_eq_true_iff.mp hx
    have ai := iv_lt htop la
    refine ⟨t, _, rfl, SqT.of ht, rfl, _, _, rfl, _, _, rfl, _, _, rfl, rfl, ?_⟩
    refine ⟨_, rfl, rfl, _, rfl, ?_⟩
    rw [str_dec]
    refine ite2 (fun h2 => ?_) (fun h2 => ?_)
    · have h2 : b = ("" : Str) := of_decide_eq_true h2
      rw [if_pos h2] at q
      refine ⟨rfl, _, rfl, a, iv a, rfl, iv_top htop (by omega), la, ?_⟩
      refine fun x dx hx hd hn => mk_fin hx hd hn (by decide) ai (Nat.one_lt_two_pow (by decide)) (by decide) fun H3 S3 rq => ⟨rfl, q _ H3 (s1.trans S3) ?_⟩
      rw [int_is] at rq
      exact rq
    · have h2 : ¬ b = ("" : Str) := fun z => h2 (decide_eq_true z)
      rw [if_neg h2] at q
      rw [decide_eq_false h2, Bool.false_or] at hx
      obtain ⟨hc, _⟩ := Bool.and_eq_true_iff.mp hx
      refine ⟨rfl, _, rfl, a, iv a, rfl, iv_top htop (by omega), la, _, rfl, c, iv c, rfl, iv_pos hc (by omega), lc, ?_⟩
      exact fun x dx hx hd hn => mk_fin hx hd hn (ivp_ne hc lc) ai (ivp_lt hc lc) (by decide) fun H3 S3 rq => ⟨rfl, q _ H3 (s1.trans S3) rq⟩
end
end T04

namespace T04
open PySem PySem.Spec PyProof.Rows L2 SF SQ
section
variable {P : Program} {w : World} {K : PySem.W.Frag} {mg : Str → Option Value} {base : Heap} {C : Addr}
def DAdd (T : Tx K mg C) : Df P w K mg base 5 ["self", "other"] (spM C yes2 (fun q r => q + r) gA) := ⟨_, _, ok_Add T, T.bAdd⟩
def DRadd (T : Tx K mg C) : Df P w K mg base 5 ["self", "other"] (spM C yes2 (fun q r => r + q) (fun n m => gA m n)) := ⟨_, _, ok_Radd T, T.bRadd⟩
def DSub (T : Tx K mg C) : Df P w K mg base 5 ["self", "other"] (spM C yes2 (fun q r => q - r) gA) := ⟨_, _, ok_Sub T, T.bSub⟩
def DRsub (T : Tx K mg C) : Df P w K mg base 5 ["self", "other"] (spM C yes2 (fun q r => r - q) (fun n m => gA m n)) := ⟨_, _, ok_Rsub T, T.bRsub⟩
def DMul (T : Tx K mg C) : Df P w K mg base 5 ["self", "other"] (spM C yes2 (fun q r => q * r) gM) := ⟨_, _, ok_Mul T, T.bMul⟩
def DRmul (T : Tx K mg C) : Df P w K mg base 5 ["self", "other"] (spM C yes2 (fun q r => r * q) (fun n m => gM m n)) := ⟨_, _, ok_Rmul T, T.bRmul⟩
def DFDi (T : Tx K mg C) : Df P w K mg base 6 ["self", "other"] (spM C nz2 fFl gM) := ⟨_, _, ok_FDi T, T.bFDi⟩
def DMod (T : Tx K mg C) : Df P w K mg base 7 ["self", "other"] (spM C nz2 fRem gR) := ⟨_, _, ok_Mod T, T.bMod⟩
def DOver (T : Tx K mg C) : Df P w K mg base 5 ["self", "other"] (spM C nz2 (fun q r => q / r) gM) := ⟨_, _, ok_Over T, T.bOver⟩
def DAbs (T : Tx K mg C) : Df P w K mg base 4 ["self"] (sp1 C yes1 Rat.abs) := ⟨_, _, ok_abs T, T.bAbs⟩
def DBool (T : Tx K mg C) : Df P w K mg base 1 ["self"] (spBool C) := ⟨_, _, ok_Bool T, T.bBool⟩
def DEq (T : Tx K mg C) : Df P w K mg base 3 ["self", "other"] (spEq C) := ⟨_, _, ok_Eq T, T.bEq⟩
def DStr (T : Tx K mg C) : Df P w K mg base 1 ["self"] (spStr C) := ⟨_, _, ok_Str T, T.bStr⟩
def DRepr (T : Tx K mg C) : Df P w K mg base 1 ["self"] (spRepr C) := ⟨_, _, ok_Repr T, T.bRepr⟩
def DPow (T : Tx K mg C) : Df P w K mg base 6 ["self", "other"] (spPow C) := ⟨_, _, ok_Pow T, T.bPow⟩
theorem mOver (T : Tx K mg C) : Meth K C "over" T.aOver := ⟨T.hOver.h, T.hOver.i, T.FOver.kp⟩
theorem eAdd : PySem.dunder (Operator.info .Add).2 = ("__add__" : Str) := by decide +kernel
theorem fAdd : dunderR (Operator.info .Add).2 = ("__radd__" : Str) := by decide +kernel
theorem oAdd (T : Tx K mg C) : OwnOp K C .Add T.aAdd := ⟨T.sf, by rw [eAdd]; exact T.hAdd.h, T.hAdd.i, ⟨_, by rw [fAdd]; exact T.hRadd.h, .inr ⟨_, rfl⟩⟩, by rw [eAdd]; exact T.t_add, by rw [fAdd]; exact T.t_radd, T.sIC.h⟩
theorem oRadd (T : Tx K mg C) : OwnOpR K C .Add T.aAdd T.aRadd := ⟨T.sf, by rw [eAdd]; exact T.hAdd.h, by rw [fAdd]; exact T.hRadd.h, T.hRadd.i, T.sCI⟩
theorem eSub : PySem.dunder (Operator.info .Sub).2 = ("__sub__" : Str) := by decide +kernel
theorem fSub : dunderR (Operator.info .Sub).2 = ("__rsub__" : Str) := by decide +kernel
theorem oSub (T : Tx K mg C) : OwnOp K C .Sub T.aSub := ⟨T.sf, by rw [eSub]; exact T.hSub.h, T.hSub.i, ⟨_, by rw [fSub]; exact T.hRsub.h, .inr ⟨_, rfl⟩⟩, by rw [eSub]; exact T.t_sub, by rw [fSub]; exact T.t_rsub, T.sIC.h⟩
theorem oRsub (T : Tx K mg C) : OwnOpR K C .Sub T.aSub T.aRsub := ⟨T.sf, by rw [eSub]; exact T.hSub.h, by rw [fSub]; exact T.hRsub.h, T.hRsub.i, T.sCI⟩
theorem eMul : PySem.dunder (Operator.info .Mult).2 = ("__mul__" : Str) := by decide +kernel
theorem fMul : dunderR (Operator.info .Mult).2 = ("__rmul__" : Str) := by decide +kernel
theorem oMul (T : Tx K mg C) : OwnOp K C .Mult T.aMul := ⟨T.sf, by rw [eMul]; exact T.hMul.h, T.hMul.i, ⟨_, by rw [fMul]; exact T.hRmul.h, .inr ⟨_, rfl⟩⟩, by rw [eMul]; exact T.t_mul, by rw [fMul]; exact T.t_rmul, T.sIC.h⟩
theorem oRmul (T : Tx K mg C) : OwnOpR K C .Mult T.aMul T.aRmul := ⟨T.sf, by rw [eMul]; exact T.hMul.h, by rw [fMul]; exact T.hRmul.h, T.hRmul.i, T.sCI⟩
theorem eFDi : PySem.dunder (Operator.info .FloorDiv).2 = ("__floordiv__" : Str) := by decide +kernel
theorem fFDi : dunderR (Operator.info .FloorDiv).2 = ("__rfloordiv__" : Str) := by decide +kernel
theorem oFDi (T : Tx K mg C) : OwnOp K C .FloorDiv T.aFDi := ⟨T.sf, by rw [eFDi]; exact T.hFDi.h, T.hFDi.i, by rw [fFDi]; exact T.r_floordiv, by rw [eFDi]; exact T.t_floordiv, by rw [fFDi]; exact T.t_rfloordiv, T.sIC.h⟩
theorem eMod : PySem.dunder (Operator.info .Mod).2 = ("__mod__" : Str) := by decide +kernel
theorem fMod : dunderR (Operator.info .Mod).2 = ("__rmod__" : Str) := by decide +kernel
theorem oMod (T : Tx K mg C) : OwnOp K C .Mod T.aMod := ⟨T.sf, by rw [eMod]; exact T.hMod.h, T.hMod.i, by rw [fMod]; exact T.r_mod, by rw [eMod]; exact T.t_mod, by rw [fMod]; exact T.t_rmod, T.sIC.h⟩
theorem ePow : PySem.dunder (Operator.info .Pow).2 = ("__pow__" : Str) := by decide +kernel
theorem fPow : dunderR (Operator.info .Pow).2 = ("__rpow__" : Str) := by decide +kernel
theorem oPow (T : Tx K mg C) : OwnOp K C .Pow T.aPow := ⟨T.sf, by rw [ePow]; exact T.hPow.h, T.hPow.i, ⟨_, by rw [fPow]; exact T.hRp, .inl rfl⟩, by rw [ePow]; exact T.t_pow, by rw [fPow]; exact T.t_rpow, T.sIC.h⟩
end
theorem iteF_of {b : Bool} {p q : Prop} (h : b = false) (x : q) : (if b = true then p else q) := by rw [h]; exact iteF x
theorem ndF {q r : Rat} (h : q = r) : (!decide (q = r)) = false := by simp [h]
end T04

namespace T04
open PySem PySem.Spec PyProof.Rows L2 SF SQ
/-- the built-in names that the law's helpers call -/
structure Blt (mg : Str → Option Value) : Prop where
  len : mg "len" = none
  int : mg "int" = none
  abs : mg "abs" = none
  dvm : mg "divmod" = none
def Tx.blt {K : PySem.W.Frag} {mg : Str → Option Value} {C : Addr} (T : Tx K mg C) : Blt mg := ⟨T.len, T.rc.int_, T.rc.abs_, T.dvm⟩
section
variable {P : Program} {w : World} {K : PySem.W.Frag} {mg : Str → Option Value} {base : Heap}
def spCell (K : PySem.W.Frag) : Sp := fun vs H Q _ => ∃ (a : Addr) (ns : List Int) (k : Int), vs = [.ref a, .int k] ∧ SqL K H a (ns.map V.int) ∧ ns.length ≤ 63 ∧ 0 ≤ k ∧ k ≤ 63 ∧ ∀ z H', Same H H' → Q (.int z) H'
theorem ok_cell {f : Addr} {fd : FuncData} (F : Fun K "_law_cell" "_law_cell" sCell f fd) (T : Blt mg) : FnOk P w K mg base CX0 1 f fd ["_law_cells", "_law_k"] (spCell K) := by
  refine F.ok scCell (fun vs H Q E h => ?_) (fun cdv A outer s H vs Q E hr h => ?_)
  · obtain ⟨a, ns, k, rfl, _⟩ := h
    rfl
  · obtain ⟨a, ns, k, rfl, hS, hl, h0, h1, q⟩ := h
    refine ⟨_, pss_cons (ps_if (pt_cmpR op_lt (pv 1) (pe_callB call_len_seq (by rfl) T.len PySem.boot_len (pa_cons (pv 0) pa_nil)) (nomark _)) (pss_one (ps_ret (pe_callTy call_int1 (by rfl) T.int (by decide +kernel) (pa_cons (pe_ix ix_list (pv 0) (pv 1) (fun _ _ => rfl)) pa_nil)))) pss_nil)
      (pss_cons (ps_set (i := 2) scCell.nd rfl (.inl rfl) (pe_op op_add (pe_op op_add pe_int (pe_op op_mul (pe_op op_mul pe_int (pv 1)) (pv 1))) (pe_op op_mul pe_int (pv 1))))
      (pss_cons (ps_for PassesOwn.never rfl (pi_list (pe_slice sl_list (pv 0) po_none (po_some pe_int))) (pg_name (i := 3) scCell.nd rfl (.inl rfl))
        (pss_one (ps_set (i := 2) scCell.nd rfl (.inl rfl) (pe_op op_mod (pe_callTy call_int1 (by rfl) T.int (by decide +kernel) (pa_cons (pe_op op_add (pe_op op_mul (pv 2) pe_int) (pe_op op_mul (pe_callTy call_int1 (by rfl) T.int (by decide +kernel) (pa_cons (pv 3) pa_nil)) (pe_op op_add (pv 1) pe_int))) pa_nil)) pe_int))))
      (pss_one (ps_ret (pv 2))))), ?_⟩
    refine ⟨_, rfl, _, rfl, a, _, rfl, .inl hS, _, _, rfl, rfl, _, rfl, ?_⟩
    have hlen : ((ns.map V.int).length : Int) = (ns.length : Int) := by rw [List.length_map]
    refine ite2 (fun hc => ?_) (fun hc => ?_)
    · have hk : k < (ns.length : Int) := by rw [← hlen]; exact of_decide_eq_true hc
      have hj : k.toNat < ns.length := by omega
      refine ⟨_, rfl, _, rfl, a, _, k, .int ns[k.toNat], rfl, rfl, hS, at_of (j := k.toNat) (by omega) (by rw [List.getElem?_map, List.getElem?_eq_getElem hj]; rfl), .inl ⟨_, rfl, ?_⟩⟩
      exact q _ _ (Same.refl _)
    · refine ⟨_, rfl, 7, k, rfl, rfl, .inl ⟨by decide, by decide⟩, _, rfl, _, _, rfl, rfl, .inr ⟨by omega, by omega⟩, _, _, rfl, rfl, _, rfl, 3, k, rfl, rfl, .inl ⟨by decide, by decide⟩, _, _, rfl, rfl, ?_⟩
      refine ⟨_, rfl, _, rfl, a, _, rfl, hS, fun p hp => ?_⟩
      have hp' : H p = none := hp
      refine ⟨p, rfl, ⟨_, SqL.of upd_same⟩, for_list (K := K) (a := p) (xs := cutV (ns.map V.int) none (some 4)) (fun i σ H' => H' = upd H p (.lst (cutV (ns.map V.int) none (some 4))) ∧ ∃ m v, σ = [some (.ref a), some (.int k), some (.int m), v]) ⟨rfl, _, none, rfl⟩ (fun i σ H' _ ⟨e, _⟩ => by rw [e]; exact SqL.of upd_same) ?_ ?_⟩
      · rintro i y σ H' hi ⟨rfl, m, v, rfl⟩
        obtain ⟨z, rfl⟩ : ∃ z, y = V.int z := by
          have hm : y ∈ cutV (ns.map V.int) none (some 4) := List.mem_of_getElem? hi
          unfold cutV at hm
          obtain ⟨z, _, e⟩ := List.mem_map.mp (List.mem_of_mem_drop (List.mem_of_mem_take hm))
          exact ⟨z, e.symm⟩
        refine ⟨_, rfl, m, 69621, rfl, rfl, .inr ⟨by decide, by decide⟩, _, rfl, .inl ⟨z, rfl, _, rfl, _, _, rfl, rfl, z, k + 3, rfl, rfl, .inr ⟨by omega, by omega⟩, _, _, rfl, rfl, .inl ⟨_, rfl, _, _, rfl, rfl, (by show (0 : Int) < 2147483629; decide), ?_⟩⟩⟩
        exact ⟨rfl, _, _, rfl⟩
      · rintro σ H' ⟨rfl, m, v, rfl⟩
        refine ⟨_, rfl, q _ _ fun b o e => ?_⟩
        rw [upd_ne (ne_of_none e hp')]
        exact e
/-- a list of three ints: the law's source of draws -/
def SrcAt (H : Hp) (a : Addr) : Prop := ∃ x y z : Int, H a = some (.lst [.int x, .int y, .int z])
/-- all that was tracked but the thing at a is as it was -/
def But (a : Addr) (H H' : Hp) : Prop := ∀ b o, b ≠ a → H b = some o → H' b = some o
theorem But.refl (a : Addr) (H : Hp) : But a H H := fun _ _ _ e => e
theorem But.trans {a : Addr} {H H1 H2 : Hp} (x : But a H H1) (y : But a H1 H2) : But a H H2 := fun b o n e => y b o n (x b o n e)
theorem But.upd {a : Addr} {H : Hp} {o : HO} : But a H (upd H a o) := fun b u n e => by rw [upd_ne n]; exact e
theorem But.new {a p : Addr} {H H1 : Hp} {o : HO} (x : But a H H1) (h : H1 p = none) : But a H (L2.upd H1 p o) := fun b u n e => by rw [upd_ne (ne_of_none (x b u n e) h)]; exact x b u n e
theorem SrcAt.ne {H : Hp} {a p : Addr} (s : SrcAt H a) (h : H p = none) : a ≠ p := by
  obtain ⟨x, y, z, e⟩ := s
  exact ne_of_none e h

def spSource : Sp := fun vs H Q _ => ∃ c : Int, vs = [.int c] ∧ ∀ p H', H p = none → Same H H' → SrcAt H' p → Q (.ref p) H'
theorem ok_source {f : Addr} {fd : FuncData} (F : Fun K "_law_source" "_law_source" sSrc f fd) (T : Blt mg) : FnOk P w K mg base CX0 1 f fd ["_law_cell_here"] spSource := by
  refine F.ok scSrc (fun vs H Q E h => ?_) (fun cdv A outer s H vs Q E hr h => ?_)
  · obtain ⟨c, rfl, _⟩ := h
    rfl
  · obtain ⟨c, rfl, q⟩ := h
    refine ⟨_, pss_cons (ps_set (i := 1) scSrc.nd rfl (.inl rfl) (pe_ifExp (pt_cmpR op_ge (pe_callB call_abs (by rfl) T.abs (by decide +kernel) (pa_cons (pv 0) pa_nil)) (pe_op op_pow pe_int pe_int) (nomark _)) (pe_callB call_abs (by rfl) T.abs (by decide +kernel) (pa_cons (pv 0) pa_nil)) pe_int))
      (pss_one (ps_ret (pe_lst (pa_cons (pe_op op_mod (pe_callTy call_int1 (by rfl) T.int (by decide +kernel) (pa_cons (pe_op op_add (pe_op op_mul (pv 0) pe_int) pe_int) pa_nil)) pe_int) (pa_cons (pv 1) (pa_cons pe_int pa_nil)))))), ?_⟩
    have tail : ∀ g : Int, tRet (tLst (tCons (tOp (rI (fun _ j => 0 < j) fun i j => V.int (i % j)) (tCB (fun xs H Q => (∃ i, xs = [V.int i] ∧ Q (V.int i) H) ∨ ∃ k, xs = [V.bl k] ∧ Q (V.int (if k = true then 1 else 0)) H) (tCons (tOp (rI0 fun i j => V.int (i + j)) (tOp (rI CMul fun i j => V.int (i * j)) (tVar 0) (tC (V.int 48271))) (tC (V.int 977))) tNil)) (tC (V.int 2147483629))) (tCons (tVar 1) (tCons (tC (V.int 0)) tNil))))
        { nx := fun _ H' => Q .non H', rt := Q } [some (.int c), some (.int g)] H := fun g => by
      refine ⟨_, rfl, c, 48271, rfl, rfl, .inr ⟨by decide, by decide⟩, _, _, rfl, rfl, .inl ⟨_, rfl, _, _, rfl, rfl, (by show (0 : Int) < 2147483629; decide), _, rfl, (by show 3 ≤ sizeLine; decide), fun p hp => ?_⟩⟩
      have hp' : H p = none := hp
      exact q p _ hp' (fun b o e => by rw [upd_ne (ne_of_none e hp')]; exact e) ⟨_, _, _, upd_same⟩
    refine ⟨_, rfl, c, rfl, 10, 18, rfl, rfl, ⟨by decide, by decide, by decide⟩, _, _, rfl, rfl, _, rfl, ?_⟩
    refine ite2 (fun _ => ?_) (fun _ => ?_)
    · exact ⟨_, rfl, c, rfl, tail _⟩
    · exact tail 0

def spDraw : Sp := fun vs H Q _ => ∃ (a : Addr) (m : Int), vs = [.ref a, .int m] ∧ 0 < m ∧ m ≤ 100000000000000000000 ∧ SrcAt H a ∧ ∀ d H', 0 ≤ d → d < m → SrcAt H' a → But a H H' → Q (.int d) H'
theorem log_of {m : Int} (h0 : 0 < m) (h : m ≤ 100000000000000000000) : m.natAbs.log2 < 9000 := by
  have e : m.natAbs < 2 ^ 70 := by omega
  exact Nat.lt_of_lt_of_le (PySem.Flt.log2_lt_of (by decide) e) (by decide)
theorem ok_draw {f : Addr} {fd : FuncData} (F : Fun K "_law_draw" "_law_draw" sDraw f fd) (T : Blt mg) : FnOk P w K mg base CX0 1 f fd ["_law_source_here", "_law_many"] spDraw := by
  refine F.ok scDraw (fun vs H Q E h => ?_) (fun cdv A outer s H vs Q E hr h => ?_)
  · obtain ⟨a, m, rfl, _⟩ := h
    rfl
  · obtain ⟨a, m, rfl, h0, h1, ⟨x, y, z, hs⟩, q⟩ := h
    have hL := log_of h0 h1
    have pt : m.natAbs.log2 < 9000 := hL
    refine ⟨_, pss_cons (ps_asg (pe_op op_add (pe_ix ix_list (pv 0) pe_int (fun _ _ => rfl)) pe_int) (pg_sub (pv 0) pe_int set_list))
      (pss_cons (ps_set (i := 2) scDraw.nd rfl (.inl rfl) (pe_callTy call_int1 (by rfl) T.int (by decide +kernel) (pa_cons (pe_ix ix_list (pv 0) pe_int (fun _ _ => rfl)) pa_nil)))
      (pss_cons (ps_set (i := 3) scDraw.nd rfl (.inl rfl) (pe_callTy call_int1 (by rfl) T.int (by decide +kernel) (pa_cons (pe_op op_add (pe_op op_add (pe_op op_mul (pv 2) (pe_op op_add (pe_op op_mod (pe_callTy call_int1 (by rfl) T.int (by decide +kernel) (pa_cons (pv 2) pa_nil)) pe_int) pe_int)) (pe_op op_mul pe_int (pe_ix ix_list (pv 0) pe_int (fun _ _ => rfl)))) pe_int) pa_nil)))
      (pss_cons (ps_asg (pe_op op_mod (pe_callTy call_int1 (by rfl) T.int (by decide +kernel) (pa_cons (pv 3) pa_nil)) pe_int) (pg_sub (pv 0) pe_int set_list))
      (pss_cons (ps_if (pt_cmpR op_gt (pe_ix ix_list (pv 0) pe_int (fun _ _ => rfl)) pe_int (nomark _))
        (pss_cons (ps_asg (pe_callB call_divmodW (by rfl) T.dvm (by decide +kernel) (pa_cons (pe_ix ix_list (pv 0) pe_int (fun _ _ => rfl)) (pa_cons (pv 1) pa_nil))) (pg_tup rfl (pgs_cons (pg_sub (pv 0) pe_int set_list) (pgs_cons (pg_name (i := 4) scDraw.nd rfl (.inl rfl)) pgs_nil))))
          (pss_one (ps_ret (pv 4)))) pss_nil)
      (pss_one (ps_ret (pe_op op_mod (pe_callTy call_int1 (by rfl) T.int (by decide +kernel) (pa_cons (pe_op op_fdiv (pe_ix ix_list (pv 0) pe_int (fun _ _ => rfl)) pe_int) pa_nil)) (pv 1)))))))), ?_⟩
    refine ⟨_, rfl, a, _, 2, .int z, rfl, rfl, SqL.of hs, (by rfl), z, 1, rfl, rfl, _, rfl, a, _, 2, 2, rfl, rfl, hs, (by rfl), ?_⟩
    refine ⟨_, rfl, a, [.int x, .int y, .int (z + 1)], 0, .int x, rfl, rfl, SqL.of upd_same, (by rfl), .inl ⟨x, rfl, ?_⟩⟩
    have b1 : 0 ≤ x % 30011 := Int.emod_nonneg _ (by decide)
    have b2 : x % 30011 < 30011 := Int.emod_lt_of_pos _ (by decide)
    refine ⟨_, rfl, _, rfl, .inl ⟨x, rfl, x, 30011, rfl, rfl, (by show (0 : Int) < 30011; decide), _, _, rfl, rfl, x, _, rfl, rfl, .inr ⟨by omega, by omega⟩, _, rfl, a, [.int x, .int y, .int (z + 1)], 2, .int (z + 1), rfl, rfl, SqL.of upd_same, (by rfl), 65539, _, rfl, rfl, .inl ⟨by decide, by decide⟩, _, _, rfl, rfl, _, _, rfl, rfl, .inl ⟨_, rfl, ?_⟩⟩⟩
    refine ⟨_, rfl, .inl ⟨_, rfl, _, _, rfl, rfl, (by show (0 : Int) < 2147483629; decide), _, rfl, a, [.int x, .int y, .int (z + 1)], 0, 0, rfl, rfl, upd_same, (by rfl), ?_⟩⟩
    refine ⟨_, rfl, a, [.int _, .int y, .int (z + 1)], 1, .int y, rfl, rfl, SqL.of upd_same, (by rfl), _, _, rfl, rfl, _, rfl, ?_⟩
    refine ite2 (fun _ => ?_) (fun _ => ?_)
    · refine ⟨_, rfl, a, [.int _, .int y, .int (z + 1)], 1, .int y, rfl, rfl, SqL.of upd_same, (by rfl), _, rfl, y, m, rfl, ⟨h0, PyProof.noPylong_of_log2 hL⟩, fun p hp => ?_⟩
      have nap : a ≠ p := ne_of_none upd_same hp
      refine ⟨p, _, rfl, SqT.of upd_same, rfl, _, _, rfl, _, rfl, a, [.int _, .int y, .int (z + 1)], 1, 1, rfl, rfl, (by rw [upd_ne nap]; exact upd_same), (by rfl), _, _, rfl, rfl, ?_⟩
      refine ⟨_, rfl, q _ _ (Int.emod_nonneg _ (by omega)) (Int.emod_lt_of_pos _ h0) ⟨_, _, _, upd_same⟩ ?_⟩
      exact (((But.upd (a := a)).trans But.upd).new hp).trans But.upd
    · refine ⟨_, rfl, a, [.int _, .int y, .int (z + 1)], 0, .int _, rfl, rfl, SqL.of upd_same, (by rfl), _, _, rfl, rfl, ⟨by decide, by decide⟩, .inl ⟨_, rfl, _, rfl, _, _, rfl, rfl, h0, ?_⟩⟩
      exact q _ _ (Int.emod_nonneg _ (by omega)) (Int.emod_lt_of_pos _ h0) ⟨_, _, _, upd_same⟩ ((But.upd (a := a)).trans But.upd)
end
section
variable {P : Program} {w : World} {K : PySem.W.Frag} {mg : Str → Option Value} {base : Heap}
def spCommon : Sp := fun vs H Q _ => ∃ x y : Int, vs = [.int x, .int y] ∧ Q (.int (gI x y)) H
def muCommon : L2.St → Hp → Nat := fun σ _ => match σ with
  | [_, _, _, some (.int l)] => l.toNat
  | _ => 0
theorem abs_nat (i : Int) : (if i < 0 then -i else i) = ((i.natAbs : Nat) : Int) := by split <;> omega
theorem ok_common {f : Addr} {fd : FuncData} (F : Fun K "_law_common" "_law_common" sCom f fd) (T : Blt mg) : FnOk P w K mg base CX0 1 f fd ["_law_one", "_law_two"] spCommon := by
  refine F.ok scCom (fun vs H Q E h => ?_) (fun cdv A outer s H vs Q E hr h => ?_)
  · obtain ⟨x, y, rfl, _⟩ := h
    rfl
  · obtain ⟨x, y, rfl, q⟩ := h
    refine ⟨_, pss_cons (ps_par (i := 2) (j := 3) (by rfl) scCom.nd rfl rfl (by decide) rfl rfl (pa_cons (pe_callB call_abs (by rfl) T.abs (by decide +kernel) (pa_cons (pv 0) pa_nil)) (pa_cons (pe_callB call_abs (by rfl) T.abs (by decide +kernel) (pa_cons (pv 1) pa_nil)) pa_nil)) (by rfl))
      (pss_cons (ps_while PassesOwn.never (pt_cmpR op_gt (pv 3) pe_int (nomark _))
        (pss_one (ps_par (i := 2) (j := 3) (by rfl) scCom.nd rfl rfl (by decide) rfl rfl (pa_cons (pv 3) (pa_cons (pe_op op_mod (pe_callTy call_int1 (by rfl) T.int (by decide +kernel) (pa_cons (pv 2) pa_nil)) (pv 3)) pa_nil)) (by rfl))))
      (pss_one (ps_ret (pv 2)))), ?_⟩
    refine ⟨_, rfl, x, rfl, _, rfl, y, rfl, _, _, rfl, ?_⟩
    refine while_by (fun σ H' => H' = H ∧ ∃ a b : Nat, σ = [some (.int x), some (.int y), some (.int (a : Int)), some (.int (b : Int))] ∧ Nat.gcd a b = Nat.gcd x.natAbs y.natAbs) muCommon ⟨rfl, x.natAbs, y.natAbs, by rw [abs_nat, abs_nat]; rfl, rfl⟩ ?_ (fun σ H Q Q' hq ⟨v, e, i, j, e1, e2, k, e3, q⟩ => ⟨v, e, i, j, e1, e2, k, e3, hq _ _ q⟩)
    rintro σ H' ⟨rfl, a, b, rfl, e⟩
    refine ⟨_, rfl, _, _, rfl, rfl, _, rfl, ?_⟩
    refine ite2 (fun hc => ?_) (fun hc => ?_)
    · have hb : (0 : Int) < (b : Int) := of_decide_eq_true hc
      refine ⟨_, rfl, _, rfl, .inl ⟨_, rfl, _, rfl, _, _, rfl, rfl, hb, _, _, rfl, ?_⟩⟩
      refine ⟨⟨rfl, b, a % b, by show [_, _, some (V.int (b : Int)), some (V.int ((a : Int) % (b : Int)))] = _; rw [Int.natCast_emod], ?_⟩, ?_⟩
      · rw [← e, Nat.gcd_comm a b, Nat.gcd_rec b a, Nat.gcd_comm]
      · show ((a : Int) % (b : Int)).toNat < (b : Int).toNat
        have h1 : (a : Int) % (b : Int) < (b : Int) := Int.emod_lt_of_pos _ hb
        have h2 : 0 ≤ (a : Int) % (b : Int) := Int.emod_nonneg _ (by omega)
        omega
    · have hb : ¬ (0 : Int) < (b : Int) := fun z => hc (decide_eq_true z)
      have hb0 : b = 0 := by omega
      subst hb0
      refine ⟨_, rfl, ?_⟩
      have e2 : a = Nat.gcd x.natAbs y.natAbs := by rw [← e, Nat.gcd_zero_right]
      rw [e2]
      exact q

def spLowest : Sp := fun vs H Q _ => ∃ u l : Int, vs = [.int u, .int l] ∧ l ≠ 0 ∧ l.natAbs < 2 ^ LIM ∧ ∀ p, H p = none → Q (.ref p) (upd H p (.tup [.int (nt u l), .int (nb u l)]))
theorem ok_lowest {f fC : Addr} {fd fdC : FuncData} (F : Fun K "_law_lowest" "_law_lowest" sLow f fd) (FC : Fun K "_law_common" "_law_common" sCom fC fdC) (bC : Binds K fdC ["_law_one", "_law_two"] []) (gC : mg "_law_common" = some (.ref fC)) (T : Blt mg) :
    FnOk P w K mg base CX0 2 f fd ["_law_upper", "_law_lower"] spLowest := by
  have GC : FnOk P w K mg base CX0 1 fC fdC ["_law_one", "_law_two"] spCommon := ok_common FC T
  refine F.ok scLow (fun vs H Q E h => ?_) (fun cdv A outer s H vs Q E hr h => ?_)
  · obtain ⟨u, l, rfl, _⟩ := h
    rfl
  · obtain ⟨u, l, rfl, h0, hb, q⟩ := h
    refine ⟨_, pss_cons (ps_set (i := 2) scLow.nd rfl (.inl rfl) (pe_ifExp (pt_cmpR op_gt (pv 1) pe_int (nomark _)) (pe_call GC hr (by rfl) gC FC.kp bC .nil pass0 (pa_cons (pv 0) (pa_cons (pv 1) pa_nil))) (pe_un un_neg (pe_call GC hr (by rfl) gC FC.kp bC .nil pass0 (pa_cons (pv 0) (pa_cons (pv 1) pa_nil))))))
      (pss_one (ps_ret (pe_tup (pa_cons (pe_op op_fdivZ (pv 0) (pv 2)) (pa_cons (pe_op op_fdivZ (pv 1) (pv 2)) pa_nil))))), ?_⟩
    have tail : tRet (tTup (tCons (tOp (rI CDivZ fun i j => V.int (i.fdiv j)) (tVar 0) (tVar 2)) (tCons (tOp (rI CDivZ fun i j => V.int (i.fdiv j)) (tVar 1) (tVar 2)) tNil))) { nx := fun _ H' => Q .non H', rt := Q } [some (.int u), some (.int l), some (.int (sg u l))] H := by
      have hz := sg_ok (u := u) h0 hb
      exact ⟨_, rfl, _, rfl, u, _, rfl, rfl, hz, _, rfl, _, rfl, l, _, rfl, rfl, hz, (by show 2 ≤ sizeLine; decide), fun p hp => q p hp⟩
    refine ⟨_, rfl, _, _, rfl, rfl, _, rfl, ?_⟩
    refine ite2 (fun hc => ?_) (fun hc => ?_)
    · have hl : 0 < l := of_decide_eq_true hc
      refine ⟨_, rfl, _, rfl, u, l, rfl, ?_⟩
      have e : sg u l = gI u l := if_neg (by omega)
      rw [e] at tail
      exact tail
    · have hl : ¬ 0 < l := fun z => hc (decide_eq_true z)
      refine ⟨_, rfl, _, rfl, u, l, rfl, _, rfl, ?_⟩
      have e : sg u l = -gI u l := if_pos (by omega)
      rw [e] at tail
      exact tail

/-! ### a whole number of up to forty digits -/
def Big : Int := 10000000000000000000000000000000000000000
def spWhole : Sp := fun vs H Q _ => ∃ a : Addr, vs = [.ref a] ∧ SrcAt H a ∧ ∀ n H', -Big < n → n < Big → SrcAt H' a → But a H H' → Q (.int n) H'
theorem ok_whole {f fD : Addr} {fd fdD : FuncData} (F : Fun K "_law_whole" "_law_whole" sWho f fd) (FD : Fun K "_law_draw" "_law_draw" sDraw fD fdD) (bD : Binds K fdD ["_law_source_here", "_law_many"] []) (gD : mg "_law_draw" = some (.ref fD)) (T : Blt mg) :
    FnOk P w K mg base CX0 2 f fd ["_law_source_here"] spWhole := by
  have GD : FnOk P w K mg base CX0 1 fD fdD ["_law_source_here", "_law_many"] spDraw := ok_draw FD T
  refine F.ok scWho (fun vs H Q E h => ?_) (fun cdv A outer s H vs Q E hr h => ?_)
  · obtain ⟨a, rfl, _⟩ := h
    rfl
  · obtain ⟨a, rfl, hs, q⟩ := h
    refine ⟨_, (pss_cons (ps_set (i := 1) scWho.nd rfl (.inl rfl) (pe_call GD hr (by rfl) gD FD.kp bD .nil pass0 (pa_cons (pv 0) (pa_cons pe_int pa_nil))))
      (pss_cons (ps_if (pt_cmpR op_lt (pv 1) pe_int (nomark _)) (pss_one (ps_ret (pe_op op_sub (pe_call GD hr (by rfl) gD FD.kp bD .nil pass0 (pa_cons (pv 0) (pa_cons pe_int pa_nil))) pe_int))) pss_nil)
      (pss_cons (ps_if (pt_cmpR op_lt (pv 1) pe_int (nomark _)) (pss_one (ps_ret (pe_op op_sub (pe_call GD hr (by rfl) gD FD.kp bD .nil pass0 (pa_cons (pv 0) (pa_cons pe_int pa_nil))) pe_int))) pss_nil)
      (pss_cons (ps_set (i := 2) scWho.nd rfl (.inl rfl) (pe_op op_sub pe_int (pe_op op_mul pe_int (pe_call GD hr (by rfl) gD FD.kp bD .nil pass0 (pa_cons (pv 0) (pa_cons pe_int pa_nil))))))
      (pss_cons (ps_if (pt_cmpR op_eq (pv 1) pe_int (nomark _)) (pss_one (ps_ret (pe_op op_mul (pv 2) (pe_op op_add (pe_ix ix_list (pe_lst (pa_cons (pe_op op_pow pe_int pe_int) (pa_cons (pe_op op_pow pe_int pe_int) (pa_cons (pe_op op_pow pe_int pe_int) (pa_cons (pe_op op_pow pe_int pe_int) pa_nil))))) (pe_call GD hr (by rfl) gD FD.kp bD .nil pass0 (pa_cons (pv 0) (pa_cons pe_int pa_nil))) (fun _ _ => rfl)) (pe_call GD hr (by rfl) gD FD.kp bD .nil pass0 (pa_cons (pv 0) (pa_cons pe_int pa_nil))))))) pss_nil)
      (pss_cons (ps_if (pt_cmpR op_eq (pv 1) pe_int (nomark _)) (pss_one (ps_ret (pe_op op_mul (pv 2) (pe_op op_sub (pe_op op_sub (pe_op op_pow pe_int pe_int) pe_int) (pe_call GD hr (by rfl) gD FD.kp bD .nil pass0 (pa_cons (pv 0) (pa_cons pe_int pa_nil))))))) pss_nil)
      (pss_cons (ps_set (i := 3) scWho.nd rfl (.inl rfl) (pe_lst (pa_cons (pe_call GD hr (by rfl) gD FD.kp bD .nil pass0 (pa_cons (pv 0) (pa_cons (pe_op op_pow pe_int pe_int) pa_nil))) (pa_cons (pe_call GD hr (by rfl) gD FD.kp bD .nil pass0 (pa_cons (pv 0) (pa_cons (pe_op op_pow pe_int pe_int) pa_nil))) (pa_cons (pe_call GD hr (by rfl) gD FD.kp bD .nil pass0 (pa_cons (pv 0) (pa_cons (pe_op op_pow pe_int pe_int) pa_nil))) pa_nil)))))
      (pss_one (ps_ret (pe_op op_mul (pv 2) (pe_op op_add (pe_op op_add (pe_op op_mul (pe_ix ix_list (pv 3) pe_int (fun _ _ => rfl)) (pe_op op_pow pe_int pe_int)) (pe_op op_mul (pe_ix ix_list (pv 3) pe_int (fun _ _ => rfl)) (pe_op op_pow pe_int pe_int))) (pe_ix ix_list (pv 3) pe_int (fun _ _ => rfl))))))))))))), ?_⟩
    have D9 : (9 : Int) ≤ 100000000000000000000 := by decide
    refine ⟨_, rfl, a, 9, rfl, (by decide), (by decide), hs, fun d H1 d0 d1 s1 k1 => ?_⟩
    refine ⟨_, rfl, _, _, rfl, rfl, _, rfl, ?_⟩
    refine ite2 (fun _ => ?_) (fun _ => ?_)
    · refine ⟨_, rfl, a, 25, rfl, (by decide), (by decide), s1, fun e H2 e0 e1 s2 k2 => ⟨_, _, rfl, rfl, q _ _ (by unfold Big; omega) (by unfold Big; omega) s2 (k1.trans k2)⟩⟩
    refine ⟨_, rfl, _, _, rfl, rfl, _, rfl, ?_⟩
    refine ite2 (fun _ => ?_) (fun _ => ?_)
    · refine ⟨_, rfl, a, 2001, rfl, (by decide), (by decide), s1, fun e H2 e0 e1 s2 k2 => ⟨_, _, rfl, rfl, q _ _ (by unfold Big; omega) (by unfold Big; omega) s2 (k1.trans k2)⟩⟩
    refine ⟨_, rfl, a, 2, rfl, (by decide), (by decide), s1, fun e H2 e0 e1 s2 k2 => ⟨2, e, rfl, rfl, .inl ⟨by decide, by decide⟩, 1, _, rfl, rfl, ?_⟩⟩
    have he : e = 0 ∨ e = 1 := by omega
    refine ⟨_, rfl, rfl, _, rfl, ?_⟩
    refine ite2 (fun _ => ?_) (fun _ => ?_)
    · refine ⟨_, rfl, 10, 6, rfl, rfl, ⟨by decide, by decide, by decide⟩, 10, 12, rfl, rfl, ⟨by decide, by decide, by decide⟩, 10, 20, rfl, rfl, ⟨by decide, by decide, by decide⟩, 10, 39, rfl, rfl, ⟨by decide, by decide, by decide⟩, (by show 4 ≤ sizeLine; decide), fun l hl => ?_⟩
      have s3 : SrcAt (upd H2 l (.lst [.int (10 ^ 6), .int (10 ^ 12), .int (10 ^ 20), .int (10 ^ 39)])) a := by
        obtain ⟨x, y, z, es⟩ := s2
        exact ⟨x, y, z, by rw [upd_ne (ne_of_none es hl)]; exact es⟩
      have nla : l ≠ a := (s2.ne hl).symm
      refine ⟨_, rfl, a, 4, rfl, (by decide), (by decide), s3, fun d2 H3 f0 f1 s4 k4 => ?_⟩
      have hl3 := k4 l _ nla upd_same
      obtain ⟨v, hv, v0, v1⟩ : ∃ v : Int, atI [V.int (10 ^ 6), V.int (10 ^ 12), V.int (10 ^ 20), V.int (10 ^ 39)] d2 = some (.int v) ∧ 0 ≤ v ∧ v ≤ 10 ^ 39 := by
        have : d2 = 0 ∨ d2 = 1 ∨ d2 = 2 ∨ d2 = 3 := by omega
        rcases this with rfl | rfl | rfl | rfl
        · exact ⟨_, rfl, by decide, by decide⟩
        · exact ⟨_, rfl, by decide, by decide⟩
        · exact ⟨_, rfl, by decide, by decide⟩
        · exact ⟨_, rfl, by decide, by decide⟩
      refine ⟨l, _, d2, _, rfl, rfl, SqL.of hl3, hv, _, rfl, a, 1000, rfl, (by decide), (by decide), s4, fun d3 H4 g0 g1 s5 k5 => ⟨_, _, rfl, rfl, _, _, rfl, rfl, .inl ⟨by omega, by omega⟩, ?_⟩⟩
      refine q _ _ ?_ ?_ s5 (((k1.trans k2).new hl).trans (k4.trans k5))
      · unfold Big
        rcases he with rfl | rfl <;> omega
      · unfold Big
        rcases he with rfl | rfl <;> omega
    refine ⟨_, rfl, rfl, _, rfl, ?_⟩
    refine ite2 (fun _ => ?_) (fun _ => ?_)
    · refine ⟨_, rfl, 10, 40, rfl, rfl, ⟨by decide, by decide, by decide⟩, _, _, rfl, rfl, _, rfl, a, 1000, rfl, (by decide), (by decide), s2, fun d3 H4 g0 g1 s5 k5 => ⟨_, _, rfl, rfl, _, _, rfl, rfl, .inl ⟨by omega, by omega⟩, ?_⟩⟩
      have e40 : (10 : Int) ^ (40 : Int).toNat = 10000000000000000000000000000000000000000 := by decide
      refine q _ _ ?_ ?_ s5 ((k1.trans k2).trans k5)
      · show -Big < (1 - 2 * e) * ((10 : Int) ^ (40 : Int).toNat - 7 - d3)
        rw [e40]
        unfold Big
        rcases he with rfl | rfl <;> omega
      · show (1 - 2 * e) * ((10 : Int) ^ (40 : Int).toNat - 7 - d3) < Big
        rw [e40]
        unfold Big
        rcases he with rfl | rfl <;> omega
    have e9 : (10 : Int) ^ (9 : Int).toNat = 1000000000 := by decide
    have e30 : (10 : Int) ^ (30 : Int).toNat = 1000000000000000000000000000000 := by decide
    have e15 : (10 : Int) ^ (15 : Int).toNat = 1000000000000000 := by decide
    refine ⟨_, rfl, 10, 9, rfl, rfl, ⟨by decide, by decide, by decide⟩, a, _, rfl, (by decide), (by decide), s2, fun x H4 x0 x1 s4 k4 => ?_⟩
    refine ⟨_, rfl, 10, 9, rfl, rfl, ⟨by decide, by decide, by decide⟩, a, _, rfl, (by decide), (by decide), s4, fun y H5 y0 y1 s5 k5 => ?_⟩
    refine ⟨_, rfl, 10, 9, rfl, rfl, ⟨by decide, by decide, by decide⟩, a, _, rfl, (by decide), (by decide), s5, fun z H6 z0 z1 s6 k6 => ⟨(by show 3 ≤ sizeLine; decide), fun l hl => ?_⟩⟩
    rw [e9] at x1 y1 z1
    refine ⟨_, rfl, _, rfl, l, [.int x, .int y, .int z], 0, .int x, rfl, rfl, SqL.of upd_same, (by rfl), 10, 30, rfl, rfl, ⟨by decide, by decide, by decide⟩, _, _, rfl, rfl, .inl ⟨by omega, by omega⟩,
      _, rfl, l, [.int x, .int y, .int z], 1, .int y, rfl, rfl, SqL.of upd_same, (by rfl), 10, 15, rfl, rfl, ⟨by decide, by decide, by decide⟩, _, _, rfl, rfl, .inl ⟨by omega, by omega⟩, _, _, rfl, rfl,
      _, rfl, l, [.int x, .int y, .int z], 2, .int z, rfl, rfl, SqL.of upd_same, (by rfl), _, _, rfl, rfl, _, _, rfl, rfl, .inl ⟨by omega, by omega⟩, ?_⟩
    refine q _ _ ?_ ?_ ?_ (((((k1.trans k2).trans k4).trans k5).trans k6).new hl)
    · show -Big < (1 - 2 * e) * (x * (10 : Int) ^ (30 : Int).toNat + y * (10 : Int) ^ (15 : Int).toNat + z)
      rw [e30, e15]
      unfold Big
      rcases he with rfl | rfl <;> omega
    · show (1 - 2 * e) * (x * (10 : Int) ^ (30 : Int).toNat + y * (10 : Int) ^ (15 : Int).toNat + z) < Big
      rw [e30, e15]
      unfold Big
      rcases he with rfl | rfl <;> omega
    · obtain ⟨u1, u2, u3, es⟩ := s6
      exact ⟨u1, u2, u3, by rw [upd_ne (ne_of_none es hl)]; exact es⟩
end

/-! ### a fraction as a pair -/
section
variable {P : Program} {w : World} {K : PySem.W.Frag} {mg : Str → Option Value} {base : Heap} {C : Addr}
theorem RQ.but {H H' : Hp} {a p : Addr} {n : Nat} {q : Rat} (r : RQ C H p n q) (h : SrcAt H a) (k : But a H H') : RQ C H' p n q := by
  obtain ⟨⟨dx, e⟩, s⟩ := r
  obtain ⟨x, y, z, es⟩ := h
  exact ⟨⟨dx, k p _ (fun z => by rw [z, es] at e; cases e) e⟩, s⟩
theorem SrcAt.same {H H' : Hp} {a : Addr} (h : SrcAt H a) (s : Same H H') : SrcAt H' a := let ⟨x, y, z, e⟩ := h; ⟨x, y, z, s _ _ e⟩
theorem But.same {H H1 H2 : Hp} {a : Addr} (k : But a H H1) (s : Same H1 H2) : But a H H2 := fun b o n e => s b o (k b o n e)
theorem tup_but {H H' : Hp} {a p : Addr} {xs : List V} (e : H p = some (.tup xs)) (h : SrcAt H a) (k : But a H H') : H' p = some (.tup xs) := by
  obtain ⟨x, y, z, es⟩ := h
  exact k p _ (fun z => by rw [z, es] at e; cases e) e
theorem lst_but {H H' : Hp} {a p : Addr} {o : HO} (e : H p = some o) (n : p ≠ a) (k : But a H H') : H' p = some o := k p _ n e
def PN : Nat := 133
theorem big_pn {n : Int} (h0 : -Big < n) (h1 : n < Big) : n.natAbs < 2 ^ PN := by
  have : n.natAbs < 10000000000000000000000000000000000000000 := by unfold Big at h0 h1; omega
  exact Nat.lt_of_lt_of_le this (by decide)
def spPair : Sp := fun vs H Q _ => ∃ a : Addr, vs = [.ref a] ∧ SrcAt H a ∧ ∀ q p H', Sz PN q → H' p = some (.tup [.int q.num, .int (q.den : Int)]) → SrcAt H' a → But a H H' → Q (.ref p) H'
theorem ok_pair (T : Tx K mg C) : FnOk P w K mg base CX0 3 T.aPair T.dPair ["_law_source_here"] spPair := by
  have GD : FnOk P w K mg base CX0 2 T.aDraw T.dDraw ["_law_source_here", "_law_many"] spDraw := (ok_draw T.FDraw T.blt).mono (by decide)
  have GW : FnOk P w K mg base CX0 2 T.aWho T.dWho ["_law_source_here"] spWhole := ok_whole T.FWho T.FDraw T.bDraw T.gDraw T.blt
  have GL : FnOk P w K mg base CX0 2 T.aLow T.dLow ["_law_upper", "_law_lower"] spLowest := ok_lowest T.FLow T.FCom T.bCom T.gCom T.blt
  refine T.FPair.ok scPair (fun vs H Q E h => ?_) (fun cdv A outer s H vs Q E hr h => ?_)
  · obtain ⟨a, rfl, _⟩ := h
    rfl
  · obtain ⟨a, rfl, hs, q⟩ := h
    refine ⟨_, (pss_cons (ps_set (i := 1) scPair.nd rfl (.inl rfl) (pe_call GD hr (by rfl) T.gDraw T.FDraw.kp T.bDraw .nil pass0 (pa_cons (pv 0) (pa_cons pe_int pa_nil))))
      (pss_cons (ps_if (pt_cmpR op_eq (pv 1) pe_int (nomark _)) (pss_one (ps_ret (pe_tup (pa_cons (pe_call GW hr (by rfl) T.gWho T.FWho.kp T.bWho .nil pass0 (pa_cons (pv 0) pa_nil)) (pa_cons pe_int pa_nil))))) pss_nil)
      (pss_cons (ps_if (pt_cmpR op_eq (pv 1) pe_int (nomark _)) (pss_cons (ps_set (i := 2) scPair.nd rfl (.inl rfl) (pe_call GW hr (by rfl) T.gWho T.FWho.kp T.bWho .nil pass0 (pa_cons (pv 0) pa_nil)))
        (pss_one (ps_ret (pe_call GL hr (by rfl) T.gLow T.FLow.kp T.bLow .nil pass0 (pa_cons (pe_call GW hr (by rfl) T.gWho T.FWho.kp T.bWho .nil pass0 (pa_cons (pv 0) pa_nil)) (pa_cons (pe_ifExp (pt_cmpR op_ne (pv 2) pe_int (nomark _)) (pv 2) pe_int) pa_nil)))))) pss_nil)
      (pss_one (ps_ret (pe_call GL hr (by rfl) T.gLow T.FLow.kp T.bLow .nil pass0 (pa_cons (pe_op op_sub (pe_call GD hr (by rfl) T.gDraw T.FDraw.kp T.bDraw .nil pass0 (pa_cons (pv 0) (pa_cons pe_int pa_nil))) pe_int) (pa_cons (pe_op op_add pe_int (pe_call GD hr (by rfl) T.gDraw T.FDraw.kp T.bDraw .nil pass0 (pa_cons (pv 0) (pa_cons pe_int pa_nil)))) pa_nil)))))))), ?_⟩
    have low : ∀ {u l : Int} {H1 : Hp}, u.natAbs < 2 ^ PN → l.natAbs < 2 ^ PN → l ≠ 0 → SrcAt H1 a → But a H H1 → spLowest [.int u, .int l] H1 Q E0 := fun {u l H1} hu hl h0 s1 k1 => by
      refine ⟨u, l, rfl, h0, Nat.lt_of_lt_of_le hl (two_le (by decide)), fun p hp => ?_⟩
      rw [nt_rat h0, nb_rat h0]
      exact q _ p _ (Sz.of h0 hu hl) upd_same (s1.same (same_new (Same.refl _) hp)) (k1.new hp)
    refine ⟨_, rfl, a, 4, rfl, (by decide), (by decide), hs, fun d H1 d0 d1 s1 k1 => ?_⟩
    refine ⟨_, rfl, rfl, _, rfl, ?_⟩
    refine ite2 (fun _ => ?_) (fun _ => ?_)
    · refine ⟨_, rfl, a, rfl, s1, fun n H2 n0 n1 s2 k2 => ⟨(by show 2 ≤ sizeLine; decide), fun p hp => ?_⟩⟩
      exact q (n : Rat) p _ (Sz.int (big_pn n0 n1) (by decide)) upd_same (s2.same (same_new (Same.refl _) hp)) ((k1.trans k2).new hp)
    refine ⟨_, rfl, rfl, _, rfl, ?_⟩
    refine ite2 (fun _ => ?_) (fun _ => ?_)
    · refine ⟨_, rfl, a, rfl, s1, fun n H2 n0 n1 s2 k2 => ?_⟩
      refine ⟨_, rfl, a, rfl, s2, fun m H3 m0 m1 s3 k3 => ?_⟩
      refine ⟨_, rfl, rfl, _, rfl, ?_⟩
      refine ite2 (fun hc => ?_) (fun hc => ?_)
      · have hn : n ≠ 0 := fun z => by rw [z] at hc; exact absurd hc (by decide)
        exact ⟨_, rfl, low (big_pn m0 m1) (big_pn n0 n1) hn s3 ((k1.trans k2).trans k3)⟩
      · exact low (big_pn m0 m1) (by decide) (by decide) s3 ((k1.trans k2).trans k3)
    refine ⟨_, rfl, a, 61, rfl, (by decide), (by decide), s1, fun e H2 e0 e1 s2 k2 => ⟨_, _, rfl, rfl, ?_⟩⟩
    refine ⟨_, rfl, a, 12, rfl, (by decide), (by decide), s2, fun g H3 g0 g1 s3 k3 => ⟨_, _, rfl, rfl, ?_⟩⟩
    exact low (big_pn (by unfold Big; omega) (by unfold Big; omega)) (big_pn (by unfold Big; omega) (by unfold Big; omega)) (by omega) s3 ((k1.trans k2).trans k3)
end
end T04

namespace T04
open PySem PySem.Spec PyProof.Rows L2 SF SQ
section
variable {P : Program} {w : World} {K : PySem.W.Frag} {mg : Str → Option Value} {base : Heap} {C : Addr}
def spNum (C : Addr) : Sp := fun vs H Q _ => ∃ p n q, vs = [.ref p] ∧ H p = some (.tup [.int q.num, .int (q.den : Int)]) ∧ Sz n q ∧ n ≤ LIM ∧ ∀ a H', Same H H' → RQ C H' a n q → Q (.ref a) H'
theorem ok_num (T : Tx K mg C) : FnOk P w K mg base CX0 4 T.aNum T.dNum ["_law_pair_here"] (spNum C) := by
  have GI : FnOk P w K mg base CX0 2 T.aIni T.dIni ["self", "top", "bottom"] (spInit C) := ok_init T
  refine T.FNum.ok scNum (fun vs H Q E h => ?_) (fun cdv A outer s H vs Q E hr h => ?_)
  · obtain ⟨p, n, q, rfl, _⟩ := h
    rfl
  · obtain ⟨p, n, x, rfl, hp, hs, hl, q⟩ := h
    refine ⟨_, (pss_one (ps_ret (pe_make T.M GI hr (by rfl) T.rc.mgC T.b2 .nil pass0 (pa_cons (pe_ix ix_tup (pv 0) pe_int (fun _ _ => rfl)) (pa_cons (pe_ix ix_tup (pv 0) pe_int (fun _ _ => rfl)) pa_nil))))), ?_⟩
    refine ⟨_, rfl, p, _, 0, _, rfl, rfl, SqT.of hp, (by rfl), _, rfl, p, _, 1, _, rfl, rfl, SqT.of hp, (by rfl), ?_⟩
    intro a dx ha hd hn
    refine mk_fin ha hd hn (denZ x) hs.1 (show (x.den : Int).natAbs < 2 ^ n from hs.2) hl fun H2 S2 rq => ⟨rfl, q _ H2 S2 ?_⟩
    rw [Rat.num_divInt_den] at rq
    exact rq
theorem pss_weak {X : Cx} {st : List Stmt} {t t' : TS} (h : PSs X st t) (i : ∀ D σ H, t' D σ H → t D σ H) : PSs X st t' := ⟨fun pins s σ H D I x => h.run pins s σ H D I (i _ _ _ x)⟩
def pr (q : Rat) : HO := .tup [.int q.num, .int (q.den : Int)]
/-- behind the three pairs -/
def TriT (C a : Addr) : TS := fun D σ H => ∃ p1 p2 p3 d x y z, σ = [some (.ref a), some (.ref p1), some (.ref p2), some (.ref p3), some (.int d)] ∧ H p1 = some (pr x) ∧ H p2 = some (pr y) ∧ H p3 = some (pr z) ∧ Sz PN x ∧ Sz PN y ∧ Sz PN z ∧
  ∀ l a1 a2 a3 x y z H', Same H H' → H' l = some (.lst [.ref a1, .ref a2, .ref a3]) → RQ C H' a1 PN x → RQ C H' a2 PN y → RQ C H' a3 PN z → D.rt (.ref l) H'
def spTri (C : Addr) : Sp := fun vs H Q _ => ∃ a, vs = [.ref a] ∧ SrcAt H a ∧ ∀ l a1 a2 a3 x y z H', H' l = some (.lst [.ref a1, .ref a2, .ref a3]) → RQ C H' a1 PN x → RQ C H' a2 PN y → RQ C H' a3 PN z → SrcAt H' a → But a H H' → Q (.ref l) H'
theorem sz_neg_pr {x : Rat} (s : Sz PN x) : pr (-x) = .tup [.int (-x.num), .int (x.den : Int)] := rfl
theorem ok_tri (T : Tx K mg C) : FnOk P w K mg base CX0 5 T.aTri T.dTri ["_law_source_here"] (spTri C) := by
  have GP : FnOk P w K mg base CX0 4 T.aPair T.dPair ["_law_source_here"] spPair := (ok_pair T).mono (by decide)
  have GD : FnOk P w K mg base CX0 4 T.aDraw T.dDraw ["_law_source_here", "_law_many"] spDraw := (ok_draw T.FDraw T.blt).mono (by decide)
  have GN : FnOk P w K mg base CX0 4 T.aNum T.dNum ["_law_pair_here"] (spNum C) := ok_num T
  refine T.FTri.ok scTri (fun vs H Q E h => ?_) (fun cdv A outer s H vs Q E hr h => ?_)
  · obtain ⟨a, rfl, _⟩ := h
    rfl
  · obtain ⟨a, rfl, hs, q⟩ := h
    have new3 : ∀ {D : Ends} {H1 H2 : Hp}, (∀ l a1 a2 a3 x y z H', Same H1 H' → H' l = some (.lst [.ref a1, .ref a2, .ref a3]) → RQ C H' a1 PN x → RQ C H' a2 PN y → RQ C H' a3 PN z → D.rt (.ref l) H') → Same H1 H2 → (∀ l a1 a2 a3 x y z H', Same H2 H' → H' l = some (.lst [.ref a1, .ref a2, .ref a3]) → RQ C H' a1 PN x → RQ C H' a2 PN y → RQ C H' a3 PN z → D.rt (.ref l) H') :=
      fun f S l a1 a2 a3 x y z H' s => f l a1 a2 a3 x y z H' (S.trans s)
    refine ⟨_, (pss_cons (ps_par (i := 1) (j := 2) (by rfl) scTri.nd rfl rfl (by decide) rfl rfl (pa_cons (pe_call GP hr (by rfl) T.gPair T.FPair.kp T.bPair .nil pass0 (pa_cons (pv 0) pa_nil)) (pa_cons (pe_call GP hr (by rfl) T.gPair T.FPair.kp T.bPair .nil pass0 (pa_cons (pv 0) pa_nil)) pa_nil)) (by rfl))
      (pss_cons (ps_set (i := 3) scTri.nd rfl (.inl rfl) (pe_call GP hr (by rfl) T.gPair T.FPair.kp T.bPair .nil pass0 (pa_cons (pv 0) pa_nil)))
      (pss_cons (ps_set (i := 4) scTri.nd rfl (.inl rfl) (pe_call GD hr (by rfl) T.gDraw T.FDraw.kp T.bDraw .nil pass0 (pa_cons (pv 0) (pa_cons pe_int pa_nil))))
      (pss_weak (t' := TriT C a) (pss_cons (ps_if (pt_cmpR op_eq (pv 4) pe_int (nomark _)) (pss_one (ps_set (i := 2) scTri.nd rfl (.inl rfl) (pv 1))) pss_nil)
      (pss_weak (t' := TriT C a) (pss_cons (ps_if (pt_cmpR op_eq (pv 4) pe_int (nomark _)) (pss_one (ps_set (i := 2) scTri.nd rfl (.inl rfl) (pe_tup (pa_cons (pe_un un_neg (pe_ix ix_tup (pv 1) pe_int (fun _ _ => rfl))) (pa_cons (pe_ix ix_tup (pv 1) pe_int (fun _ _ => rfl)) pa_nil))))) pss_nil)
      (pss_weak (t' := TriT C a) (pss_cons (ps_if (pt_cmpR op_eq (pv 4) pe_int (nomark _)) (pss_one (ps_set (i := 3) scTri.nd rfl (.inl rfl) (pe_tup (pa_cons (pe_ix ix_tup (pv 2) pe_int (fun _ _ => rfl)) (pa_cons (pe_ix ix_tup (pv 2) pe_int (fun _ _ => rfl)) pa_nil))))) pss_nil)
      (pss_weak (t' := TriT C a) (pss_one (ps_ret (pe_lst (pa_cons (pe_call GN hr (by rfl) T.gNum T.FNum.kp T.bNum .nil pass0 (pa_cons (pv 1) pa_nil)) (pa_cons (pe_call GN hr (by rfl) T.gNum T.FNum.kp T.bNum .nil pass0 (pa_cons (pv 2) pa_nil)) (pa_cons (pe_call GN hr (by rfl) T.gNum T.FNum.kp T.bNum .nil pass0 (pa_cons (pv 3) pa_nil)) pa_nil))))))
        (fun D σ H1 ⟨p1, p2, p3, d, x, y, z, e, h1, h2, h3, s1, s2, s3, f⟩ => by
          subst e
          refine ⟨_, rfl, p1, PN, x, rfl, h1, s1, by decide, fun a1 H2 S2 r1 => ⟨_, rfl, p2, PN, y, rfl, S2 _ _ h2, s2, by decide, fun a2 H3 S3 r2 => ⟨_, rfl, p3, PN, z, rfl, S3 _ _ (S2 _ _ h3), s3, by decide, fun a3 H4 S4 r3 => ⟨(by show 3 ≤ sizeLine; decide), fun l hl => ?_⟩⟩⟩⟩
          have S5 : Same H4 (upd H4 l (.lst [.ref a1, .ref a2, .ref a3])) := same_new (Same.refl _) hl
          exact f l a1 a2 a3 x y z _ (((S2.trans S3).trans S4).trans S5) upd_same (((r1.same S3).same S4).same S5) ((r2.same S4).same S5) (r3.same S5))))
        (fun D σ H1 ⟨p1, p2, p3, d, x, y, z, e, h1, h2, h3, s1, s2, s3, f⟩ => by
          subst e
          refine ⟨_, rfl, rfl, _, rfl, ?_⟩
          refine ite2 (fun _ => ?_) (fun _ => ?_)
          · refine ⟨_, rfl, p2, _, 0, _, rfl, rfl, SqT.of h2, (by rfl), _, rfl, p2, _, 1, _, rfl, rfl, SqT.of h2, (by rfl), (by show 2 ≤ sizeLine; decide), fun t nt => ?_⟩
            have S5 : Same H1 (upd H1 t (pr y)) := same_new (Same.refl _) nt
            exact ⟨p1, p2, t, d, x, y, y, rfl, S5 _ _ h1, S5 _ _ h2, upd_same, s1, s2, s2, new3 f S5⟩
          · exact ⟨p1, p2, p3, d, x, y, z, rfl, h1, h2, h3, s1, s2, s3, f⟩)))
        (fun D σ H1 ⟨p1, p2, p3, d, x, y, z, e, h1, h2, h3, s1, s2, s3, f⟩ => by
          subst e
          refine ⟨_, rfl, rfl, _, rfl, ?_⟩
          refine ite2 (fun _ => ?_) (fun _ => ?_)
          · refine ⟨_, rfl, p1, _, 0, _, rfl, rfl, SqT.of h1, (by rfl), _, rfl, _, rfl, p1, _, 1, _, rfl, rfl, SqT.of h1, (by rfl), (by show 2 ≤ sizeLine; decide), fun t nt => ?_⟩
            have S5 : Same H1 (upd H1 t (pr (-x))) := same_new (Same.refl _) nt
            exact ⟨p1, t, p3, d, x, -x, z, rfl, S5 _ _ h1, upd_same, S5 _ _ h3, s1, s1.neg, s3, new3 f S5⟩
          · exact ⟨p1, p2, p3, d, x, y, z, rfl, h1, h2, h3, s1, s2, s3, f⟩)))
        (fun D σ H1 ⟨p1, p2, p3, d, x, y, z, e, h1, h2, h3, s1, s2, s3, f⟩ => by
          subst e
          refine ⟨_, rfl, rfl, _, rfl, ?_⟩
          refine ite2 (fun _ => ?_) (fun _ => ?_)
          · exact ⟨_, rfl, p1, p1, p3, d, x, x, z, rfl, h1, h1, h3, s1, s1, s3, f⟩
          · exact ⟨p1, p2, p3, d, x, y, z, rfl, h1, h2, h3, s1, s2, s3, f⟩))))), ?_⟩
    refine ⟨_, rfl, a, rfl, hs, fun x p1 H1 z1 e1 s1 k1 => ⟨_, rfl, a, rfl, s1, fun y p2 H2 z2 e2 s2 k2 => ⟨_, _, rfl, ?_⟩⟩⟩
    refine ⟨_, rfl, a, rfl, s2, fun z p3 H3 z3 e3 s3 k3 => ?_⟩
    refine ⟨_, rfl, a, 6, rfl, (by decide), (by decide), s3, fun d H4 d0 d1 s4 k4 => ?_⟩
    refine ⟨p1, p2, p3, d, x, y, z, rfl, tup_but (tup_but (tup_but e1 s1 k2) s2 k3) s3 k4, tup_but (tup_but e2 s2 k3) s3 k4, tup_but e3 s3 k4, z1, z2, z3, fun l a1 a2 a3 x y z H' S e r1 r2 r3 => ?_⟩
    exact q l a1 a2 a3 x y z H' e r1 r2 r3 (s4.same S) (((((k1.trans k2).trans k3).trans k4)).same S)

def spRing (C : Addr) : Sp := fun vs H Q _ => ∃ a b c x y z, vs = [.ref a, .ref b, .ref c] ∧ RQ C H a 269 x ∧ RQ C H b 269 y ∧ RQ C H c 269 z ∧ ∀ H', Same H H' → Q (.bl true) H'
theorem ok_ring (T : Tx K mg C) : FnOk P w K mg base CX0 7 T.aRing T.dRing ["_law_a", "_law_b", "_law_c"] (spRing C) := by
  refine T.FRing.ok scRing (fun vs H Q E h => ?_) (fun cdv A outer s H vs Q E hr h => ?_)
  · obtain ⟨a, b, c, x, y, z, rfl, _⟩ := h
    rfl
  · obtain ⟨a, b, c, x, y, z, rfl, ra, rb, rc, q⟩ := h
    let L : List Sl := [.fr 269 x, .fr 269 y, .fr 269 z]
    have env : ∀ {H1 : Hp}, Same H H1 → SQ.Env C L [some (.ref a), some (.ref b), some (.ref c)] H1 := fun S => ⟨⟨a, rfl, ra.same S⟩, ⟨b, rfl, rb.same S⟩, ⟨c, rfl, rc.same S⟩, trivial⟩
    refine ⟨_, (pss_cons (ps_if (id (PW.pt (pb_or Env.gs (pq_cmpT (op_neq T.rc T.sIC (DEq T) T.hNe T.hEq (hr.mono (show 4 ≤ 6 by decide))) Env.gs (nomark _) (pq_op (op_q (DAdd T) (oAdd T) (hr.mono (show 5 ≤ 6 by decide))) Env.gs (pq_op (op_q (DAdd T) (oAdd T) (hr.mono (show 5 ≤ 6 by decide))) Env.gs (vq L 0 (pv 0) rfl) (vq L 1 (pv 1) rfl)) (vq L 2 (pv 2) rfl)) (pq_op (op_q (DAdd T) (oAdd T) (hr.mono (show 5 ≤ 6 by decide))) Env.gs (vq L 0 (pv 0) rfl) (pq_op (op_q (DAdd T) (oAdd T) (hr.mono (show 5 ≤ 6 by decide))) Env.gs (vq L 1 (pv 1) rfl) (vq L 2 (pv 2) rfl)))) (pb_or Env.gs (pq_cmpT (op_neq T.rc T.sIC (DEq T) T.hNe T.hEq (hr.mono (show 4 ≤ 6 by decide))) Env.gs (nomark _) (pq_op (op_q (DAdd T) (oAdd T) (hr.mono (show 5 ≤ 6 by decide))) Env.gs (vq L 0 (pv 0) rfl) (vq L 1 (pv 1) rfl)) (pq_op (op_q (DAdd T) (oAdd T) (hr.mono (show 5 ≤ 6 by decide))) Env.gs (vq L 1 (pv 1) rfl) (vq L 0 (pv 0) rfl))) (pb_or Env.gs (pq_cmpT (op_neq T.rc T.sIC (DEq T) T.hNe T.hEq (hr.mono (show 4 ≤ 6 by decide))) Env.gs (nomark _) (pq_op (op_q (DAdd T) (oAdd T) (hr.mono (show 5 ≤ 6 by decide))) Env.gs (vq L 0 (pv 0) rfl) (pq_int (n := 1) (by decide) (by decide))) (vq L 0 (pv 0) rfl)) (pb_or1 (pq_cmpT (op_neq T.rc T.sIC (DEq T) T.hNe T.hEq (hr.mono (show 4 ≤ 6 by decide))) Env.gs (nomark _) (pq_op (op_qR (side := yes2) (f := (fun q r => q + r)) (g := gA) no_add (DRadd T) (oRadd T) (hr.mono (show 5 ≤ 6 by decide)) (fun _ _ h => h) (fun _ _ => rfl) (fun _ _ => rfl)) Env.gs (pq_int (n := 1) (by decide) (by decide)) (vq L 0 (pv 0) rfl)) (vq L 0 (pv 0) rfl)))))))) (pss_one (ps_ret pe_bl)) pss_nil)
      (pss_cons (ps_if (PW.pt (pb_or Env.gs (pq_cmpT (op_neq T.rc T.sIC (DEq T) T.hNe T.hEq (hr.mono (show 4 ≤ 6 by decide))) Env.gs (nomark _) (pq_op (op_q (DMul T) (oMul T) (hr.mono (show 5 ≤ 6 by decide))) Env.gs (pq_op (op_q (DMul T) (oMul T) (hr.mono (show 5 ≤ 6 by decide))) Env.gs (vq L 0 (pv 0) rfl) (vq L 1 (pv 1) rfl)) (vq L 2 (pv 2) rfl)) (pq_op (op_q (DMul T) (oMul T) (hr.mono (show 5 ≤ 6 by decide))) Env.gs (vq L 0 (pv 0) rfl) (pq_op (op_q (DMul T) (oMul T) (hr.mono (show 5 ≤ 6 by decide))) Env.gs (vq L 1 (pv 1) rfl) (vq L 2 (pv 2) rfl)))) (pb_or Env.gs (pq_cmpT (op_neq T.rc T.sIC (DEq T) T.hNe T.hEq (hr.mono (show 4 ≤ 6 by decide))) Env.gs (nomark _) (pq_op (op_q (DMul T) (oMul T) (hr.mono (show 5 ≤ 6 by decide))) Env.gs (vq L 0 (pv 0) rfl) (vq L 1 (pv 1) rfl)) (pq_op (op_q (DMul T) (oMul T) (hr.mono (show 5 ≤ 6 by decide))) Env.gs (vq L 1 (pv 1) rfl) (vq L 0 (pv 0) rfl))) (pb_or Env.gs (pq_cmpT (op_neq T.rc T.sIC (DEq T) T.hNe T.hEq (hr.mono (show 4 ≤ 6 by decide))) Env.gs (nomark _) (pq_op (op_q (DMul T) (oMul T) (hr.mono (show 5 ≤ 6 by decide))) Env.gs (vq L 0 (pv 0) rfl) (pq_int (n := 1) (by decide) (by decide))) (vq L 0 (pv 0) rfl)) (pb_or1 (pq_cmpT (op_neq T.rc T.sIC (DEq T) T.hNe T.hEq (hr.mono (show 4 ≤ 6 by decide))) Env.gs (nomark _) (pq_op (op_qR (side := yes2) (f := (fun q r => q * r)) (g := gM) no_mul (DRmul T) (oRmul T) (hr.mono (show 5 ≤ 6 by decide)) (fun _ _ h => h) (fun _ _ => rfl) (fun _ _ => rfl)) Env.gs (pq_int (n := 1) (by decide) (by decide)) (vq L 0 (pv 0) rfl)) (vq L 0 (pv 0) rfl))))))) (pss_one (ps_ret pe_bl)) pss_nil)
      (pss_cons (ps_if (PW.pt (pb_or Env.gs (pq_cmpT (op_neq T.rc T.sIC (DEq T) T.hNe T.hEq (hr.mono (show 4 ≤ 6 by decide))) Env.gs (nomark _) (pq_op (op_q (DMul T) (oMul T) (hr.mono (show 5 ≤ 6 by decide))) Env.gs (vq L 0 (pv 0) rfl) (pq_op (op_q (DAdd T) (oAdd T) (hr.mono (show 5 ≤ 6 by decide))) Env.gs (vq L 1 (pv 1) rfl) (vq L 2 (pv 2) rfl))) (pq_op (op_q (DAdd T) (oAdd T) (hr.mono (show 5 ≤ 6 by decide))) Env.gs (pq_op (op_q (DMul T) (oMul T) (hr.mono (show 5 ≤ 6 by decide))) Env.gs (vq L 0 (pv 0) rfl) (vq L 1 (pv 1) rfl)) (pq_op (op_q (DMul T) (oMul T) (hr.mono (show 5 ≤ 6 by decide))) Env.gs (vq L 0 (pv 0) rfl) (vq L 2 (pv 2) rfl)))) (pb_or Env.gs (pq_cmpT (op_neq T.rc T.sIC (DEq T) T.hNe T.hEq (hr.mono (show 4 ≤ 6 by decide))) Env.gs (nomark _) (pq_op (op_q (DSub T) (oSub T) (hr.mono (show 5 ≤ 6 by decide))) Env.gs (pq_op (op_q (DAdd T) (oAdd T) (hr.mono (show 5 ≤ 6 by decide))) Env.gs (vq L 0 (pv 0) rfl) (vq L 1 (pv 1) rfl)) (vq L 1 (pv 1) rfl)) (vq L 0 (pv 0) rfl)) (pb_or1 (pq_cmpT (op_neq T.rc T.sIC (DEq T) T.hNe T.hEq (hr.mono (show 4 ≤ 6 by decide))) Env.gs (nomark _) (pq_op (op_q (DSub T) (oSub T) (hr.mono (show 5 ≤ 6 by decide))) Env.gs (vq L 0 (pv 0) rfl) (vq L 1 (pv 1) rfl)) (pq_un (un_q (DNeg T) T.hNeg (hr.mono (show 4 ≤ 6 by decide))) (pq_op (op_q (DSub T) (oSub T) (hr.mono (show 5 ≤ 6 by decide))) Env.gs (vq L 1 (pv 1) rfl) (vq L 0 (pv 0) rfl)))))))) (pss_one (ps_ret pe_bl)) pss_nil)
      (pss_cons (ps_if (PW.pt (pb_or Env.gs (pq_cmpT (op_neq T.rc T.sIC (DEq T) T.hNe T.hEq (hr.mono (show 4 ≤ 6 by decide))) Env.gs (nomark _) (pq_un (un_q (DNeg T) T.hNeg (hr.mono (show 4 ≤ 6 by decide))) (pq_un (un_q (DNeg T) T.hNeg (hr.mono (show 4 ≤ 6 by decide))) (vq L 0 (pv 0) rfl))) (vq L 0 (pv 0) rfl)) (pb_or Env.gs (pq_cmpT (op_neq T.rc T.sIC (DEq T) T.hNe T.hEq (hr.mono (show 4 ≤ 6 by decide))) Env.gs (nomark _) (pq_op (op_q (DMul T) (oMul T) (hr.mono (show 5 ≤ 6 by decide))) Env.gs (vq L 0 (pv 0) rfl) (pq_int (n := 1) (by decide) (by decide))) (pq_int (n := 1) (by decide) (by decide))) (pb_or Env.gs (pq_cmpT (op_neq T.rc T.sIC (DEq T) T.hNe T.hEq (hr.mono (show 4 ≤ 6 by decide))) Env.gs (nomark _) (pq_op (op_q (DSub T) (oSub T) (hr.mono (show 5 ≤ 6 by decide))) Env.gs (vq L 0 (pv 0) rfl) (vq L 0 (pv 0) rfl)) (pq_int (n := 1) (by decide) (by decide))) (pb_or1 (pq_cmpT (op_neq T.rc T.sIC (DEq T) T.hNe T.hEq (hr.mono (show 4 ≤ 6 by decide))) Env.gs (nomark _) (pq_op (op_qR (side := yes2) (f := (fun q r => q - r)) (g := gA) no_sub (DRsub T) (oRsub T) (hr.mono (show 5 ≤ 6 by decide)) (fun _ _ h => h) (fun _ _ => rfl) (fun _ _ => rfl)) Env.gs (pq_int (n := 1) (by decide) (by decide)) (vq L 0 (pv 0) rfl)) (pq_un (un_q (DNeg T) T.hNeg (hr.mono (show 4 ≤ 6 by decide))) (vq L 0 (pv 0) rfl)))))))) (pss_one (ps_ret pe_bl)) pss_nil)
      (pss_one (ps_ret (pv_and Env.gs (pq_cmp (op_eqq T.rc T.sIC (DEq T) T.hEq (hr.mono (show 3 ≤ 6 by decide))) Env.gs (nomark _) (pq_abs (DAbs T) T.hAbs (hr.mono (show 5 ≤ 6 by decide)) (by rfl) T.rc.abs_ (by decide +kernel) (pq_op (op_q (DMul T) (oMul T) (hr.mono (show 5 ≤ 6 by decide))) Env.gs (vq L 0 (pv 0) rfl) (vq L 1 (pv 1) rfl))) (pq_op (op_q (DMul T) (oMul T) (hr.mono (show 5 ≤ 6 by decide))) Env.gs (pq_abs (DAbs T) T.hAbs (hr.mono (show 5 ≤ 6 by decide)) (by rfl) T.rc.abs_ (by decide +kernel) (vq L 0 (pv 0) rfl)) (pq_abs (DAbs T) T.hAbs (hr.mono (show 5 ≤ 6 by decide)) (by rfl) T.rc.abs_ (by decide +kernel) (vq L 1 (pv 1) rfl)))) (pv_and1 (pq_cmp (op_eqq T.rc T.sIC (DEq T) T.hEq (hr.mono (show 3 ≤ 6 by decide))) Env.gs (nomark _) (pq_abs (DAbs T) T.hAbs (hr.mono (show 5 ≤ 6 by decide)) (by rfl) T.rc.abs_ (by decide +kernel) (pq_un (un_q (DNeg T) T.hNeg (hr.mono (show 4 ≤ 6 by decide))) (vq L 0 (pv 0) rfl))) (pq_abs (DAbs T) T.hAbs (hr.mono (show 5 ≤ 6 by decide)) (by rfl) T.rc.abs_ (by decide +kernel) (vq L 0 (pv 0) rfl))))))))))), ?_⟩
    refine ⟨env (Same.refl _), (by (repeat' (first | apply And.intro | intro _)) <;> first | exact trivial | decide | assumption), fun H1 S1 => iteF_of ?_ ?_⟩
    · have c0 : ((0 : Int) : Rat) = 0 := rfl
      simp only [Bool.or_eq_false_iff]
      exact ⟨ndF (by grind), ndF (by grind), ndF (by rw [c0]; grind), ndF (by rw [c0]; grind)⟩
    refine ⟨env S1, (by (repeat' (first | apply And.intro | intro _)) <;> first | exact trivial | decide | assumption), fun H2 S2 => iteF_of ?_ ?_⟩
    · have c0 : ((1 : Int) : Rat) = 1 := rfl
      simp only [Bool.or_eq_false_iff]
      exact ⟨ndF (by grind), ndF (by grind), ndF (by rw [c0]; grind), ndF (by rw [c0]; grind)⟩
    refine ⟨env (S1.trans S2), (by (repeat' (first | apply And.intro | intro _)) <;> first | exact trivial | decide | assumption), fun H3 S3 => iteF_of ?_ ?_⟩
    · simp only [Bool.or_eq_false_iff]
      exact ⟨ndF (by grind), ndF (by grind), ndF (by grind)⟩
    refine ⟨env ((S1.trans S2).trans S3), (by (repeat' (first | apply And.intro | intro _)) <;> first | exact trivial | decide | assumption), fun H4 S4 => iteF_of ?_ ?_⟩
    · have c0 : ((0 : Int) : Rat) = 0 := rfl
      simp only [Bool.or_eq_false_iff]
      exact ⟨ndF (by grind), ndF (by rw [c0]; grind), ndF (by rw [c0]; grind), ndF (by rw [c0]; grind)⟩
    refine ⟨env (((S1.trans S2).trans S3).trans S4), (by (repeat' (first | apply And.intro | intro _)) <;> first | exact trivial | decide | assumption), fun H5 S5 => ?_⟩
    have e : (decide ((x * y).abs = x.abs * y.abs) && decide ((-x).abs = x.abs)) = true := by
      rw [decide_eq_true (abs_mul x y), decide_eq_true Rat.abs_neg]
      rfl
    have q := q H5 ((((S1.trans S2).trans S3).trans S4).trans S5)
    rw [← e] at q
    exact q

end
end T04

namespace T04
open PySem PySem.Spec PyProof.Rows L2 SF SQ
section
variable {P : Program} {w : World} {K : PySem.W.Frag} {mg : Str → Option Value} {base : Heap} {C : Addr}
theorem sub0 (x : Rat) : x - ((0 : Int) : Rat) = x := by
  have c0 : ((0 : Int) : Rat) = 0 := rfl
  rw [c0]; grind
def spDown (C : Addr) : Sp := fun vs H Q _ => ∃ a b x y, vs = [.ref a, .ref b] ∧ RQ C H a 269 x ∧ RQ C H b 269 y ∧ y ≠ 0 ∧ ∀ H', Same H H' → Q (.bl true) H'
theorem ok_down (T : Tx K mg C) : FnOk P w K mg base CX0 8 T.aDown T.dDown ["_law_a", "_law_b"] (spDown C) := by
  refine T.FDown.ok scDown (fun vs H Q E h => ?_) (fun cdv A outer s H vs Q E hr h => ?_)
  · obtain ⟨a, b, x, y, rfl, _⟩ := h
    rfl
  · obtain ⟨a, b, x, y, rfl, ra, rb, h0, q⟩ := h
    let L : List Sl := [.fr 269 x, .fr 269 y]
    let L1 : List Sl := [.fr 269 x, .fr 269 y, .fr 538 (fFl x y), .fr 1081 (fRem (x - ((0 : Int) : Rat)) y)]
    let L2 : List Sl := [.fr 269 x, .fr 269 y, .fr 538 (fFl x y), .fr 1081 (fRem (x - ((0 : Int) : Rat)) y), .fr 1351 (y.abs - (fRem (x - ((0 : Int) : Rat)) y).abs)]
    refine ⟨_, (pss_cons (ps_par (i := 2) (j := 3) (by rfl) scDown.nd rfl rfl (by decide) rfl rfl (pa_cons (pq_op (op_q (DFDi T) (oFDi T) (hr.mono (show 6 ≤ 7 by decide))) Env.gs (vq L 0 (pv 0) rfl) (vq L 1 (pv 1) rfl)) (pa_cons (pq_op (op_q (DMod T) (oMod T) hr) Env.gs (pq_op (op_q (DSub T) (oSub T) (hr.mono (show 5 ≤ 7 by decide))) Env.gs (vq L 0 (pv 0) rfl) (pq_int (n := 1) (by decide) (by decide))) (vq L 1 (pv 1) rfl)) pa_nil)) (by rfl))
      (pss_cons (ps_if (PW.pt (pb_or Env.gs (pq_cmpT (op_neq T.rc T.sIC (DEq T) T.hNe T.hEq (hr.mono (show 4 ≤ 7 by decide))) Env.gs (nomark _) (pq_op (op_q (DAdd T) (oAdd T) (hr.mono (show 5 ≤ 7 by decide))) Env.gs (pq_op (op_q (DMul T) (oMul T) (hr.mono (show 5 ≤ 7 by decide))) Env.gs (vq L1 2 (pv 2) rfl) (vq L1 1 (pv 1) rfl)) (vq L1 3 (pv 3) rfl)) (vq L1 0 (pv 0) rfl)) (pb_or Env.gs (pI_neT Env.gs (nomark _) (pI_bot T.rc.cl (DBot T) T.PBot (hr.mono (show 2 ≤ 7 by decide)) (vq L1 2 (pv 2) rfl)) pI_int) (pb_or Env.gs (pq_cmpT (op_neq T.rc T.sIC (DEq T) T.hNe T.hEq (hr.mono (show 4 ≤ 7 by decide))) Env.gs (nomark _) (pq_over T.rc.cl (DOver T) (mOver T) (hr.mono (show 5 ≤ 7 by decide)) Env.gs (pq_op (op_q (DMul T) (oMul T) (hr.mono (show 5 ≤ 7 by decide))) Env.gs (vq L1 0 (pv 0) rfl) (vq L1 1 (pv 1) rfl)) (vq L1 1 (pv 1) rfl)) (vq L1 0 (pv 0) rfl)) (pb_or1 (pq_cmpT (op_neq T.rc T.sIC (DEq T) T.hNe T.hEq (hr.mono (show 4 ≤ 7 by decide))) Env.gs (nomark _) (pq_op (op_q (DMul T) (oMul T) (hr.mono (show 5 ≤ 7 by decide))) Env.gs (pq_over T.rc.cl (DOver T) (mOver T) (hr.mono (show 5 ≤ 7 by decide)) Env.gs (vq L1 0 (pv 0) rfl) (vq L1 1 (pv 1) rfl)) (vq L1 1 (pv 1) rfl)) (vq L1 0 (pv 0) rfl))))))) (pss_one (ps_ret pe_bl)) pss_nil)
      (pss_cons (ps_set (i := 4) scDown.nd rfl (.inl rfl) (pq_op (op_q (DSub T) (oSub T) (hr.mono (show 5 ≤ 7 by decide))) Env.gs (pq_abs (DAbs T) T.hAbs (hr.mono (show 5 ≤ 7 by decide)) (by rfl) T.rc.abs_ (by decide +kernel) (vq L1 1 (pv 1) rfl)) (pq_abs (DAbs T) T.hAbs (hr.mono (show 5 ≤ 7 by decide)) (by rfl) T.rc.abs_ (by decide +kernel) (vq L1 3 (pv 3) rfl))))
      (pss_cons (ps_if (pI_leT Env.gs (nomark _) (pI_top T.rc.cl (DTop T) T.PTop (hr.mono (show 2 ≤ 7 by decide)) (vq L2 4 (pv 4) rfl)) pI_int) (pss_one (ps_ret pe_bl)) pss_nil)
      (pss_one (ps_ret (pv_or Env.gs (pq_cmp (op_eqq T.rc T.sIC (DEq T) T.hEq (hr.mono (show 3 ≤ 7 by decide))) Env.gs (nomark _) (vq L2 3 (pv 3) rfl) (pq_int (n := 1) (by decide) (by decide))) (pv_or1 (pb_eq Env.gs (nomark _) (pI_gt Env.gs (nomark _) (pI_top T.rc.cl (DTop T) T.PTop (hr.mono (show 2 ≤ 7 by decide)) (vq L2 3 (pv 3) rfl)) pI_int) (pI_gt Env.gs (nomark _) (pI_top T.rc.cl (DTop T) T.PTop (hr.mono (show 2 ≤ 7 by decide)) (vq L2 1 (pv 1) rfl)) pI_int)))))))))), ?_⟩
    refine ⟨⟨⟨a, rfl, ra⟩, ⟨b, rfl, rb⟩, trivial⟩, (by (repeat' (first | exact h0 | apply And.intro | intro _)) <;> first | exact trivial | decide | assumption), fun v H1 S1 nv => ?_⟩
    refine ⟨⟨⟨a, rfl, ra.same S1⟩, ⟨b, rfl, rb.same S1⟩, trivial⟩, (by (repeat' (first | exact h0 | apply And.intro | intro _)) <;> first | exact trivial | decide | assumption), fun v2 H2 S2 nv2 => ⟨_, _, rfl, ?_⟩⟩
    have S12 := S1.trans S2
    obtain ⟨d, e1, rd⟩ := nv_true (nv.same S2)
    obtain ⟨t, e2, rt⟩ := nv_true nv2
    subst e1
    subst e2
    have env : ∀ {H' : Hp}, Same H2 H' → SQ.Env C L1 [some (.ref a), some (.ref b), some (.ref d), some (.ref t), none] H' := fun S => ⟨⟨a, rfl, ra.same (S12.trans S)⟩, ⟨b, rfl, rb.same (S12.trans S)⟩, ⟨d, rfl, rd.same S⟩, ⟨t, rfl, rt.same S⟩, trivial⟩
    have dr := div_rem (a := x) h0
    have er : fRem (x - ((0 : Int) : Rat)) y = x - y * ((x / y).floor : Rat) := by unfold fRem; rw [sub0]
    refine ⟨env (Same.refl _), (by (repeat' (first | exact h0 | apply And.intro | intro _)) <;> first | exact trivial | decide | assumption), fun H3 S3 => iteF_of ?_ ?_⟩
    · simp only [Bool.or_eq_false_iff]
      refine ⟨ndF ?_, ?_, ndF ?_, ndF ?_⟩
      · show fFl x y * y + fRem (x - ((0 : Int) : Rat)) y = x
        rw [er]; unfold fFl; grind
      · show (!decide (((fFl x y).den : Int) = 1)) = false
        rfl
      · exact Rat.mul_div_cancel h0
      · exact Rat.div_mul_cancel h0
    refine ⟨env S3, (by (repeat' (first | exact h0 | apply And.intro | intro _)) <;> first | exact trivial | decide | assumption), fun v H4 S4 nv => ?_⟩
    obtain ⟨u, e3, ru⟩ := nv_true nv
    subst e3
    have env2 : ∀ {H' : Hp}, Same H4 H' → SQ.Env C L2 [some (.ref a), some (.ref b), some (.ref d), some (.ref t), some (.ref u)] H' := fun S => ⟨⟨a, rfl, ra.same (((S12.trans S3).trans S4).trans S)⟩, ⟨b, rfl, rb.same (((S12.trans S3).trans S4).trans S)⟩, ⟨d, rfl, rd.same ((S3.trans S4).trans S)⟩, ⟨t, rfl, rt.same ((S3.trans S4).trans S)⟩, ⟨u, rfl, ru.same S⟩, trivial⟩
    have key : 0 < y.abs - (fRem (x - ((0 : Int) : Rat)) y).abs := by
      rw [er]
      generalize x - y * ((x / y).floor : Rat) = r at dr
      rcases Rat.le_total (a := 0) (b := y) with hy | hy
      · obtain ⟨h1, h2⟩ := dr.1 (by grind)
        rw [Rat.abs_of_nonneg hy, Rat.abs_of_nonneg h1]
        grind
      · obtain ⟨h1, h2⟩ := dr.2 (by grind)
        rw [Rat.abs_of_nonpos hy, Rat.abs_of_nonpos h1]
        grind
    refine ⟨env2 (Same.refl _), (by (repeat' (first | exact h0 | apply And.intro | intro _)) <;> first | exact trivial | decide | assumption), fun H5 S5 => iteF_of ?_ ?_⟩
    · refine decide_eq_false fun z => ?_
      have := pos_num.mpr key
      have z : (y.abs - (fRem (x - ((0 : Int) : Rat)) y).abs).num ≤ 0 := z
      omega
    refine ⟨env2 S5, (by (repeat' (first | exact h0 | apply And.intro | intro _)) <;> first | exact trivial | decide | assumption), fun H6 S6 => ?_⟩
    have e : (decide (fRem (x - ((0 : Int) : Rat)) y = ((0 : Int) : Rat)) || decide (decide ((fRem (x - ((0 : Int) : Rat)) y).num > 0) = decide (y.num > 0))) = true := by
      rw [er]
      generalize x - y * ((x / y).floor : Rat) = r at dr
      by_cases hr0 : r = 0
      · rw [hr0]; rfl
      · have c : decide (r.num > 0) = decide (y.num > 0) := by
          rcases Rat.le_total (a := 0) (b := y) with hy | hy
          · have hy' : 0 < y := by grind
            obtain ⟨h1, h2⟩ := dr.1 hy'
            have hr' : 0 < r := by grind
            rw [decide_eq_true (show r.num > 0 from pos_num.mpr hr'), decide_eq_true (show y.num > 0 from pos_num.mpr hy')]
          · have hy' : y < 0 := by grind
            obtain ⟨h1, h2⟩ := dr.2 hy'
            rw [decide_eq_false (fun z => absurd (pos_num.mp z) (by grind)), decide_eq_false (fun z => absurd (pos_num.mp z) (by grind))]
        rw [c, decide_eq_true rfl, Bool.or_true]
    have q := q H6 (((((S12.trans S3).trans S4).trans S5)).trans S6)
    rw [← e] at q
    exact q

def LP (x : Rat) (i j : Int) : List Sl := [.any, .fr 133 x, .i i, .i j]
def spPows (C : Addr) : Sp := fun vs H Q _ => ∃ s a x, vs = [.ref s, .ref a] ∧ SrcAt H s ∧ RQ C H a 133 x ∧ ∀ H', SrcAt H' s → But s H H' → Q (.bl true) H'
def PowT (C a s : Addr) (x : Rat) : L2.TS := fun D σ H => ∃ i j, σ = [some (.ref s), some (.ref a), some (.int i), some (.int j)] ∧ RQ C H a 133 x ∧ -10 ≤ i ∧ i ≤ 10 ∧ -10 ≤ j ∧ j ≤ 10 ∧ (x ≠ 0 ∨ (0 ≤ i ∧ 0 ≤ j)) ∧ ∀ H', Same H H' → D.rt (.bl true) H'
theorem ok_pows (T : Tx K mg C) : FnOk P w K mg base CX0 8 T.aPows T.dPows ["_law_source_here", "_law_a"] (spPows C) := by
  have GD : FnOk P w K mg base CX0 7 T.aDraw T.dDraw ["_law_source_here", "_law_many"] spDraw := (ok_draw T.FDraw T.blt).mono (by decide)
  refine T.FPows.ok scPows (fun vs H Q E h => ?_) (fun cdv A outer s H vs Q E hr h => ?_)
  · obtain ⟨s, a, x, rfl, _⟩ := h
    rfl
  · obtain ⟨so, a, x, rfl, hs, ra, q⟩ := h
    let L0 : List Sl := [.any, .fr 133 x, .any, .any]
    refine ⟨_, (pss_cons (ps_par (i := 2) (j := 3) (by rfl) scPows.nd rfl rfl (by decide) rfl rfl (pa_cons (pe_op op_sub (pe_call GD hr (by rfl) T.gDraw T.FDraw.kp T.bDraw .nil pass0 (pa_cons (pv 0) (pa_cons pe_int pa_nil))) pe_int) (pa_cons (pe_op op_sub (pe_call GD hr (by rfl) T.gDraw T.FDraw.kp T.bDraw .nil pass0 (pa_cons (pv 0) (pa_cons pe_int pa_nil))) pe_int) pa_nil)) (by rfl))
      (pss_cons (ps_if (pq_cmpT (op_eqq T.rc T.sIC (DEq T) T.hEq (hr.mono (show 3 ≤ 7 by decide))) Env.gs (nomark _) (vq L0 1 (pv 1) rfl) (pq_int (n := 1) (by decide) (by decide))) (pss_one (ps_par (i := 2) (j := 3) (by rfl) scPows.nd rfl rfl (by decide) rfl rfl (pa_cons (pe_callB call_abs (by rfl) T.rc.abs_ (by decide +kernel) (pa_cons (pv 2) pa_nil)) (pa_cons (pe_callB call_abs (by rfl) T.rc.abs_ (by decide +kernel) (pa_cons (pv 3) pa_nil)) pa_nil)) (by rfl))) pss_nil)
      (pss_weak (t' := PowT C a so x) (pss_ex (α := Int × Int) fun ij => (pss_cons (ps_if (PW.pt (pb_or Env.gs (pq_cmpT (op_neq T.rc T.sIC (DEq T) T.hNe T.hEq (hr.mono (show 4 ≤ 7 by decide))) Env.gs (nomark _) (pq_op (op_q (DMul T) (oMul T) (hr.mono (show 5 ≤ 7 by decide))) Env.gs (pq_power T.rc.cl (DPower T) (mPower T) (hr.mono (show 5 ≤ 7 by decide)) Env.gs (vq (LP x ij.1 ij.2) 1 (pv 1) rfl) (vi (LP x ij.1 ij.2) 2 (pv 2) rfl)) (pq_power T.rc.cl (DPower T) (mPower T) (hr.mono (show 5 ≤ 7 by decide)) Env.gs (vq (LP x ij.1 ij.2) 1 (pv 1) rfl) (vi (LP x ij.1 ij.2) 3 (pv 3) rfl))) (pq_power T.rc.cl (DPower T) (mPower T) (hr.mono (show 5 ≤ 7 by decide)) Env.gs (vq (LP x ij.1 ij.2) 1 (pv 1) rfl) (pI_add Env.gs (vi (LP x ij.1 ij.2) 2 (pv 2) rfl) (vi (LP x ij.1 ij.2) 3 (pv 3) rfl)))) (pb_or1 (pq_cmpT (op_neq T.rc T.sIC (DEq T) T.hNe T.hEq (hr.mono (show 4 ≤ 7 by decide))) Env.gs (nomark _) (pq_power T.rc.cl (DPower T) (mPower T) (hr.mono (show 5 ≤ 7 by decide)) Env.gs (vq (LP x ij.1 ij.2) 1 (pv 1) rfl) pI_int) (vq (LP x ij.1 ij.2) 1 (pv 1) rfl))))) (pss_one (ps_ret pe_bl)) pss_nil)
      (pss_one (ps_ret (pv_and Env.gs (pq_cmp (op_eqq T.rc T.sIC (DEq T) T.hEq (hr.mono (show 3 ≤ 7 by decide))) Env.gs (nomark _) (pq_pow (DPow T) (oPow T) (hr.mono (show 6 ≤ 7 by decide)) Env.gs (vq (LP x ij.1 ij.2) 1 (pv 1) rfl) pI_int) (pq_op (op_q (DMul T) (oMul T) (hr.mono (show 5 ≤ 7 by decide))) Env.gs (vq (LP x ij.1 ij.2) 1 (pv 1) rfl) (vq (LP x ij.1 ij.2) 1 (pv 1) rfl))) (pv_and Env.gs (pq_cmp (op_eqq T.rc T.sIC (DEq T) T.hEq (hr.mono (show 3 ≤ 7 by decide))) Env.gs (nomark _) (pq_pow (DPow T) (oPow T) (hr.mono (show 6 ≤ 7 by decide)) Env.gs (vq (LP x ij.1 ij.2) 1 (pv 1) rfl) pI_int) (pq_op (op_q (DMul T) (oMul T) (hr.mono (show 5 ≤ 7 by decide))) Env.gs (pq_op (op_q (DMul T) (oMul T) (hr.mono (show 5 ≤ 7 by decide))) Env.gs (vq (LP x ij.1 ij.2) 1 (pv 1) rfl) (vq (LP x ij.1 ij.2) 1 (pv 1) rfl)) (vq (LP x ij.1 ij.2) 1 (pv 1) rfl))) (pv_and1 (pq_cmp (op_eqq T.rc T.sIC (DEq T) T.hEq (hr.mono (show 3 ≤ 7 by decide))) Env.gs (nomark _) (pq_pow (DPow T) (oPow T) (hr.mono (show 6 ≤ 7 by decide)) Env.gs (vq (LP x ij.1 ij.2) 1 (pv 1) rfl) pI_int) (pq_int (n := 1) (by decide) (by decide))))))))))
        (fun D σ H ⟨i, j, e, ra, i0, i1, j0, j1, h0, f⟩ => by
          subst e
          refine ⟨(i, j), ?_⟩
          have b1 : i.natAbs ≤ 10 := by omega
          have b2 : j.natAbs ≤ 10 := by omega
          have b3 : (i + j).natAbs ≤ 20 := by omega
          have o1 : x ≠ 0 ∨ 0 ≤ i := h0.imp id (·.1)
          have o2 : x ≠ 0 ∨ 0 ≤ j := h0.imp id (·.2)
          have o3 : x ≠ 0 ∨ 0 ≤ i + j := h0.imp id (fun h => by omega)
          refine ⟨⟨trivial, ⟨a, rfl, ra⟩, rfl, rfl, trivial⟩, ?_, fun H1 S1 => iteF_of ?_ ?_⟩
          · refine ⟨⟨⟨⟨trivial, trivial, by show -20 ≤ i; omega, by show i ≤ 20; omega, o1, by show 133 * i.natAbs + 1 ≤ 8900; omega, by decide⟩, ⟨trivial, trivial, by show -20 ≤ j; omega, by show j ≤ 20; omega, o2, by show 133 * j.natAbs + 1 ≤ 8900; omega, by decide⟩, trivial, by show 133 * i.natAbs + 1 + (133 * j.natAbs + 1) ≤ 8900; omega⟩, ⟨trivial, ⟨trivial, trivial⟩, by show -20 ≤ i + j; omega, by show i + j ≤ 20; omega, o3, by show 133 * (i + j).natAbs + 1 ≤ 8900; omega, by decide⟩⟩, fun _ => ⟨⟨trivial, trivial, by decide, by decide, .inr (by decide), by decide, by decide⟩, trivial⟩⟩
          · simp only [Bool.or_eq_false_iff]
            exact ⟨ndF (rat_zpow_add h0), ndF (zpow1 x)⟩
          refine ⟨⟨trivial, ⟨a, rfl, ra.same S1⟩, rfl, rfl, trivial⟩, ?_, fun H2 S2 => ?_⟩
          · exact ⟨⟨⟨trivial, trivial, by decide, by decide, .inr (by decide), by decide, by decide⟩, trivial, trivial, trivial, by decide⟩, fun _ => ⟨⟨⟨trivial, trivial, by decide, by decide, .inr (by decide), by decide, by decide⟩, ⟨trivial, trivial, trivial, by decide⟩, trivial, trivial, by decide⟩, fun _ => ⟨⟨trivial, trivial, by decide, by decide, .inr (by decide), by decide, by decide⟩, trivial⟩⟩⟩
          · have e : (decide (x ^ (2 : Int) = x * x) && (decide (x ^ (3 : Int) = x * x * x) && decide (x ^ (0 : Int) = ((1 : Int) : Rat)))) = true := by
              rw [decide_eq_true (zpow2 x), decide_eq_true (zpow3 x), decide_eq_true (show x ^ (0 : Int) = ((1 : Int) : Rat) from zpow0 x)]
              rfl
            have f := f H2 (S1.trans S2)
            rw [← e] at f
            exact f)))), ?_⟩
    refine ⟨_, rfl, so, 21, rfl, (by decide), (by decide), hs, fun d H1 d0 d1 s1 k1 => ⟨_, _, rfl, rfl, ?_⟩⟩
    refine ⟨_, rfl, so, 21, rfl, (by decide), (by decide), s1, fun e H2 e0 e1 s2 k2 => ⟨_, _, rfl, rfl, _, _, rfl, ?_⟩⟩
    have r2 := RQ.but (RQ.but ra hs k1) s1 k2
    have fin : ∀ H3 H', Same H2 H3 → Same H3 H' → Q (.bl true) H' := fun H3 H' S3 S => q H' ((s2.same S3).same S) (((k1.trans k2).same S3).same S)
    refine ⟨⟨trivial, ⟨a, rfl, r2⟩, trivial, trivial, trivial⟩, ⟨trivial, trivial⟩, fun H3 S3 => ?_⟩
    refine ite2 (fun hc => ?_) (fun hc => ?_)
    · refine ⟨_, rfl, _, rfl, _, rfl, _, rfl, _, _, rfl, ?_⟩
      refine ⟨_, _, rfl, r2.same S3, ?_, ?_, ?_, ?_, .inr ⟨?_, ?_⟩, fun H' S => fin H3 H' S3 S⟩ <;> split <;> omega
    · have hx : x ≠ 0 := fun z => hc (decide_eq_true z)
      exact ⟨_, _, rfl, r2.same S3, by omega, by omega, by omega, by omega, .inl hx, fun H' S => fin H3 H' S3 S⟩

def spAlike (C : Addr) : Sp := fun vs H Q _ => ∃ a b x y, vs = [.ref a, .ref b] ∧ RQ C H a 269 x ∧ RQ C H b 269 y ∧ ∀ H', Same H H' → Q (.bl true) H'
theorem ok_alike (T : Tx K mg C) : FnOk P w K mg base CX0 8 T.aAlike T.dAlike ["_law_a", "_law_b"] (spAlike C) := by
  refine T.FAlike.ok scAlike (fun vs H Q E h => ?_) (fun cdv A outer s H vs Q E hr h => ?_)
  · obtain ⟨a, b, x, y, rfl, _⟩ := h
    rfl
  · obtain ⟨a, b, x, y, rfl, ra, rb, q⟩ := h
    let L : List Sl := [.fr 269 x, .fr 269 y]
    have env : ∀ {H1 : Hp}, Same H H1 → SQ.Env C L [some (.ref a), some (.ref b)] H1 := fun S => ⟨⟨a, rfl, ra.same S⟩, ⟨b, rfl, rb.same S⟩, trivial⟩
    refine ⟨_, (pss_cons (ps_if (PW.pt (pb_or Env.gs (pb_neT Env.gs (nomark _) (pq_cmp (op_eqq T.rc T.sIC (DEq T) T.hEq (hr.mono (show 3 ≤ 7 by decide))) Env.gs (nomark _) (vq L 0 (pv 0) rfl) (vq L 1 (pv 1) rfl)) (pq_cmp (op_eqq T.rc T.sIC (DEq T) T.hEq (hr.mono (show 3 ≤ 7 by decide))) Env.gs (nomark _) (pq_op (op_q (DSub T) (oSub T) (hr.mono (show 5 ≤ 7 by decide))) Env.gs (vq L 0 (pv 0) rfl) (vq L 1 (pv 1) rfl)) (pq_int (n := 1) (by decide) (by decide)))) (pb_or Env.gs (pb_neT Env.gs (nomark _) (pq_cmp (op_eqq T.rc T.sIC (DEq T) T.hEq (hr.mono (show 3 ≤ 7 by decide))) Env.gs (nomark _) (vq L 0 (pv 0) rfl) (vq L 1 (pv 1) rfl)) (pS_eq Env.gs (nomark _) (pS_str (DStr T) T.hStr (hr.mono (show 3 ≤ 7 by decide)) (by rfl) T.rc.str_ (by decide +kernel) (vq L 0 (pv 0) rfl)) (pS_str (DStr T) T.hStr (hr.mono (show 3 ≤ 7 by decide)) (by rfl) T.rc.str_ (by decide +kernel) (vq L 1 (pv 1) rfl)))) (pb_or1 (pb_neT Env.gs (nomark _) (pq_cmp (op_eqq T.rc T.sIC (DEq T) T.hEq (hr.mono (show 3 ≤ 7 by decide))) Env.gs (nomark _) (vq L 0 (pv 0) rfl) (vq L 1 (pv 1) rfl)) (pS_eq Env.gs (nomark _) (pS_repr (DRepr T) T.hRepr (hr.mono (show 2 ≤ 7 by decide)) (by rfl) T.rc.repr_ (by decide +kernel) (vq L 0 (pv 0) rfl)) (pS_repr (DRepr T) T.hRepr (hr.mono (show 2 ≤ 7 by decide)) (by rfl) T.rc.repr_ (by decide +kernel) (vq L 1 (pv 1) rfl)))))))) (pss_one (ps_ret pe_bl)) pss_nil)
      (pss_cons (ps_if (PW.pt (pb_or Env.gs (pb_neT Env.gs (nomark _) (pq_cmp (op_eqq T.rc T.sIC (DEq T) T.hEq (hr.mono (show 3 ≤ 7 by decide))) Env.gs (nomark _) (vq L 0 (pv 0) rfl) (vq L 1 (pv 1) rfl)) (pT_eq (hr.units) Env.gs (nomark _) (pI_top T.rc.cl (DTop T) T.PTop (hr.mono (show 2 ≤ 7 by decide)) (vq L 0 (pv 0) rfl)) (pI_bot T.rc.cl (DBot T) T.PBot (hr.mono (show 2 ≤ 7 by decide)) (vq L 0 (pv 0) rfl)) (pI_top T.rc.cl (DTop T) T.PTop (hr.mono (show 2 ≤ 7 by decide)) (vq L 1 (pv 1) rfl)) (pI_bot T.rc.cl (DBot T) T.PBot (hr.mono (show 2 ≤ 7 by decide)) (vq L 1 (pv 1) rfl)))) (pb_or1 (pb_eqT Env.gs (nomark _) (pq_cmp (op_neq T.rc T.sIC (DEq T) T.hNe T.hEq (hr.mono (show 4 ≤ 7 by decide))) Env.gs (nomark _) (vq L 0 (pv 0) rfl) (vq L 1 (pv 1) rfl)) (pq_cmp (op_eqq T.rc T.sIC (DEq T) T.hEq (hr.mono (show 3 ≤ 7 by decide))) Env.gs (nomark _) (vq L 0 (pv 0) rfl) (vq L 1 (pv 1) rfl)))))) (pss_one (ps_ret pe_bl)) pss_nil)
      (pss_one (ps_ret (pv_and Env.gs (pq_cmp (op_eqq T.rc T.sIC (DEq T) T.hEq (hr.mono (show 3 ≤ 7 by decide))) Env.gs (nomark _) (pq_read (pe_glob (v := .ref C) (by rfl) T.rc.mgC rfl) T.rRd T.cRd (ok_Rd T) T.bRd (hr.mono (show 4 ≤ 7 by decide)) (pS_str (DStr T) T.hStr (hr.mono (show 3 ≤ 7 by decide)) (by rfl) T.rc.str_ (by decide +kernel) (vq L 0 (pv 0) rfl))) (vq L 0 (pv 0) rfl)) (pv_and Env.gs (pq_cmp (op_eqq T.rc T.sIC (DEq T) T.hEq (hr.mono (show 3 ≤ 7 by decide))) Env.gs (nomark _) (pq_make (n := 269) T.M (ok_init T) T.b2 (hr.mono (show 3 ≤ 7 by decide)) (by rfl) T.rc.mgC Env.gs (pI_top T.rc.cl (DTop T) T.PTop (hr.mono (show 2 ≤ 7 by decide)) (vq L 0 (pv 0) rfl)) (pI_bot T.rc.cl (DBot T) T.PBot (hr.mono (show 2 ≤ 7 by decide)) (vq L 0 (pv 0) rfl)) ra.2.1 (show (x.den : Int).natAbs < 2 ^ 269 from ra.2.2)) (vq L 0 (pv 0) rfl)) (pv_and1 (pb_eq Env.gs (nomark _) (pb_bool (DBool T) T.hBool (hr.mono (show 3 ≤ 7 by decide)) (by rfl) T.rc.bool_ (by decide +kernel) (vq L 0 (pv 0) rfl)) (pq_cmp (op_neq T.rc T.sIC (DEq T) T.hNe T.hEq (hr.mono (show 4 ≤ 7 by decide))) Env.gs (nomark _) (vq L 0 (pv 0) rfl) (pq_int (n := 1) (by decide) (by decide))))))))))), ?_⟩
    have h0 := ra
    have sl : x.num.natAbs < 2 ^ 800 := Nat.lt_of_lt_of_le ra.2.1 (two_le (by decide))
    have sd : ((x.den : Int)).natAbs < 2 ^ 800 := Nat.lt_of_lt_of_le ra.2.2 (two_le (by decide))
    have t1 := tx_short sl
    have t2 := tx_short sd
    have sub : decide (x - y = ((0 : Int) : Rat)) = decide (x = y) := by
      have c0 : ((0 : Int) : Rat) = 0 := rfl
      rw [c0]
      by_cases h : x = y
      · rw [decide_eq_true h, decide_eq_true (by grind)]
      · rw [decide_eq_false h, decide_eq_false (fun z => h (by grind))]
    refine ⟨env (Same.refl _), (by (repeat' (first | exact h0 | apply And.intro | intro _)) <;> first | exact trivial | decide | assumption), fun H1 S1 => iteF_of ?_ ?_⟩
    · simp only [Bool.or_eq_false_iff]
      refine ⟨?_, ?_, ?_⟩
      · show (!decide (decide (x = y) = decide (x - y = ((0 : Int) : Rat)))) = false
        rw [sub]; simp
      · show (!decide (decide (x = y) = decide (rstr x = rstr y))) = false
        rw [rstr_inj]; simp
      · show (!decide (decide (x = y) = decide (rrepr x = rrepr y))) = false
        rw [rrepr_inj]; simp
    refine ⟨env S1, (by (repeat' (first | exact h0 | apply And.intro | intro _)) <;> first | exact trivial | decide | assumption), fun H2 S2 => iteF_of ?_ ?_⟩
    · simp only [Bool.or_eq_false_iff]
      refine ⟨?_, ?_⟩
      · show (!decide (decide (x = y) = (decide (x.num = y.num) && decide ((x.den : Int) = y.den)))) = false
        rw [eq_bools]; simp
      · show decide ((!decide (x = y)) = decide (x = y)) = false
        cases decide (x = y) <;> rfl
    have i1 := isTx_rstr x (by omega) (by omega)
    have i2 := rstr_len t1 t2
    refine ⟨env (S1.trans S2), ⟨⟨⟨⟨trivial, by decide⟩, i1, by omega⟩, trivial⟩, fun _ => ⟨⟨⟨trivial, trivial, denZ x, by decide⟩, trivial⟩, fun _ => ⟨trivial, trivial, trivial⟩⟩⟩, fun H3 S3 => ?_⟩
    have e : (decide (rdq (rstr x) = x) && (decide (Rat.divInt x.num x.den = x) && decide (decide (x ≠ 0) = !decide (x = ((0 : Int) : Rat))))) = true := by
      have c0 : ((0 : Int) : Rat) = 0 := rfl
      rw [rdq_rstr x (by omega) (by omega), Rat.num_divInt_den, c0]
      simp
    have q := q H3 ((S1.trans S2).trans S3)
    rw [← e] at q
    exact q

end
end T04

namespace T04
open PySem PySem.Spec PyProof.Rows L2 SF SQ
section
variable {P : Program} {w : World} {K : PySem.W.Frag} {mg : Str → Option Value} {base : Heap} {C : Addr}
def spRight : Sp := fun vs H Q _ => ∃ s, vs = [.ref s] ∧ SrcAt H s ∧ ∀ H', SrcAt H' s → But s H H' → Q (.bl true) H'
theorem But.of {H H' : Hp} {a : Addr} (s : Same H H') : But a H H' := fun b o _ e => s b o e
theorem ok_right (T : Tx K mg C) : FnOk P w K mg base CX0 9 T.aRight T.dRight ["_law_source_here"] spRight := by
  have GT : FnOk P w K mg base CX0 5 T.aTri T.dTri ["_law_source_here"] (spTri C) := ok_tri T
  have GR : FnOk P w K mg base CX0 7 T.aRing T.dRing ["_law_a", "_law_b", "_law_c"] (spRing C) := ok_ring T
  have GA : FnOk P w K mg base CX0 8 T.aAlike T.dAlike ["_law_a", "_law_b"] (spAlike C) := ok_alike T
  have GD : FnOk P w K mg base CX0 8 T.aDown T.dDown ["_law_a", "_law_b"] (spDown C) := ok_down T
  have GP : FnOk P w K mg base CX0 8 T.aPows T.dPows ["_law_source_here", "_law_a"] (spPows C) := ok_pows T
  refine T.FRight.ok scRight (fun vs H Q E h => ?_) (fun cdv A outer s H vs Q E hr h => ?_)
  · obtain ⟨s, rfl, _⟩ := h
    rfl
  · obtain ⟨so, rfl, hs, q⟩ := h
    have hr5 := hr.mono (show 5 ≤ 8 by decide)
    have hr4 := hr.mono (show 4 ≤ 8 by decide)
    have hr7 := hr.mono (show 7 ≤ 8 by decide)
    refine ⟨_, (pss_cons (ps_asg (pe_call GT hr5 (by rfl) T.gTri T.FTri.kp T.bTri .nil pass0 (pa_cons (pv 0) pa_nil)) (pg_unl rfl (pgs_cons (pg_name (i := 1) scRight.nd rfl (.inl rfl)) (pgs_cons (pg_name (i := 2) scRight.nd rfl (.inl rfl)) (pgs_cons (pg_name (i := 3) scRight.nd rfl (.inl rfl)) pgs_nil)))))
      (pss_cons (ps_for PassesOwn.never rfl (pi_list (pe_lst (pa_cons (pe_tup (pa_cons (pv 1) (pa_cons (pv 2) (pa_cons (pv 3) pa_nil)))) (pa_cons (pe_tup (pa_cons (pv 2) (pa_cons (pv 3) (pa_cons (pv 1) pa_nil)))) (pa_cons (pe_tup (pa_cons (pe_op (op_q (k2 := true) (DAdd T) (oAdd T) hr5) (pv 1) (pv 2)) (pa_cons (pv 3) (pa_cons (pe_op (op_q (k2 := true) (DMul T) (oMul T) hr5) (pv 2) (pv 3)) pa_nil)))) pa_nil)))))
        (pg_tup rfl (pgs_cons (pg_name (i := 4) scRight.nd rfl (.inl rfl)) (pgs_cons (pg_name (i := 5) scRight.nd rfl (.inl rfl)) (pgs_cons (pg_name (i := 6) scRight.nd rfl (.inl rfl)) pgs_nil))))
        (pss_cons (ps_if (PW.pt (pw_or (pt_not (pt_val (pe_call GR hr7 (by rfl) T.gRing T.FRing.kp T.bRing .nil pass0 (pa_cons (pv 4) (pa_cons (pv 5) (pa_cons (pv 6) pa_nil)))))) (pw_or1 (pt_not (pt_val (pe_call GA hr (by rfl) T.gAlike T.FAlike.kp T.bAlike .nil pass0 (pa_cons (pv 4) (pa_cons (pv 5) pa_nil)))))))) (pss_one (ps_ret pe_bl)) pss_nil)
        (pss_one (ps_if (PW.pt (pw_and (pt_cmpR (op_neq (k2 := false) T.rc T.sIC (DEq T) T.hNe T.hEq hr4) (pv 5) pe_int (nomark _)) (pw_and1 (pt_not (pt_val (pe_call GD hr (by rfl) T.gDown T.FDown.kp T.bDown .nil pass0 (pa_cons (pv 4) (pa_cons (pv 5) pa_nil)))))))) (pss_one (ps_ret pe_bl)) pss_nil))))
      (pss_one (ps_ret (pe_and (pe_call GP hr (by rfl) T.gPows T.FPows.kp T.bPows .nil pass0 (pa_cons (pv 0) (pa_cons (pv 1) pa_nil))) (pe_one (pe_call GP hr (by rfl) T.gPows T.FPows.kp T.bPows .nil pass0 (pa_cons (pv 0) (pa_cons (pv 2) pa_nil))))))))), ?_⟩
    refine ⟨_, rfl, so, rfl, hs, fun l a b c x y z H1 hl ra rb rc s1 k1 => ?_⟩
    refine ⟨l, _, rfl, SqL.of hl, rfl, _, _, rfl, _, _, rfl, _, _, rfl, rfl, ?_⟩
    refine ⟨_, rfl, _, rfl, _, rfl, (by show 3 ≤ sizeLine; decide), fun t1 n1 => ?_⟩
    generalize hE1 : upd H1 t1 _ = J1
    have g1 := upd_got hE1
    have u1 := upd_stay hE1 n1
    refine ⟨_, rfl, _, rfl, _, rfl, (by show 3 ≤ sizeLine; decide), fun t2 n2 => ?_⟩
    generalize hE2 : upd J1 t2 _ = J2
    have g2 := upd_got hE2
    have u2 := upd_stay hE2 n2
    have u12 := u1.trans u2
    refine ⟨_, rfl, _, rfl, PN, PN, x, y, (ra.same u12).nv, (rb.same u12).nv, trivial, by decide, fun d J3 u3 rd => ⟨_, rfl, _, rfl, _, rfl, PN, PN, y, z, ((rb.same u12).same u3).nv, ((rc.same u12).same u3).nv, trivial, by decide, fun e J4 u4 re => ⟨(by show 3 ≤ sizeLine; decide), fun t3 n3 => ?_⟩⟩⟩
    generalize hE3 : upd J4 t3 _ = J5
    have g3 := upd_got hE3
    have u5 := upd_stay hE3 n3
    refine ⟨(by show 3 ≤ sizeLine; decide), fun l3 nl => ?_⟩
    generalize hE4 : upd J5 l3 _ = J
    have g4 := upd_got hE4
    have u6 := upd_stay hE4 nl
    have u2J := ((u3.trans u4).trans u5).trans u6
    have uJ := u12.trans u2J
    have ra' := (ra.same uJ).mono (show PN ≤ 269 by decide)
    have rb' := (rb.same uJ).mono (show PN ≤ 269 by decide)
    have rc' := (rc.same uJ).mono (show PN ≤ 269 by decide)
    have rd' := (rd.same ((u4.trans u5).trans u6)).mono (show gA PN PN ≤ 269 by decide)
    have re' := (re.same (u5.trans u6)).mono (show gM PN PN ≤ 269 by decide)
    have e1 : J t1 = some (.tup [.ref a, .ref b, .ref c]) := u2J _ _ (u2 _ _ g1)
    have e2 : J t2 = some (.tup [.ref b, .ref c, .ref a]) := u2J _ _ g2
    have e3 : J t3 = some (.tup [.ref d, .ref c, .ref e]) := u6 _ _ g3
    have item : ∀ v ∈ [V.ref t1, V.ref t2, V.ref t3], ∃ t a b c x y z, v = .ref t ∧ J t = some (.tup [.ref a, .ref b, .ref c]) ∧ RQ C J a 269 x ∧ RQ C J b 269 y ∧ RQ C J c 269 z := by
      intro v hv
      simp only [List.mem_cons, List.not_mem_nil, or_false] at hv
      rcases hv with rfl | rfl | rfl
      · exact ⟨t1, a, b, c, x, y, z, rfl, e1, ra', rb', rc'⟩
      · exact ⟨t2, b, c, a, y, z, x, rfl, e2, rb', rc', ra'⟩
      · exact ⟨t3, d, c, e, _, z, _, rfl, e3, rd', rc', re'⟩
    have sJ := s1.same uJ
    have kJ : But so H J := k1.same uJ
    refine ⟨l3, rfl, ⟨_, SqL.of g4⟩, for_list (K := K) (a := l3) (xs := [V.ref t1, V.ref t2, V.ref t3]) (fun i σ H' => Same J H' ∧ ∃ w4 w5 w6, σ = [some (.ref so), some (.ref a), some (.ref b), some (.ref c), w4, w5, w6]) ⟨Same.refl _, none, none, none, rfl⟩ (fun i σ H' _ ⟨S, _⟩ => SqL.of (S _ _ g4)) ?_ ?_⟩
    · rintro i v σ H' hi ⟨S, w4, w5, w6, rfl⟩
      obtain ⟨t, a1, b1, c1, x1, y1, z1, rfl, et, r1, r2, r3⟩ := item v (List.mem_of_getElem? hi)
      refine ⟨t, _, rfl, SqT.of (S _ _ et), rfl, _, _, rfl, _, _, rfl, _, _, rfl, rfl, ?_⟩
      refine ⟨_, rfl, _, rfl, _, rfl, a1, b1, c1, x1, y1, z1, rfl, r1.same S, r2.same S, r3.same S, fun J6 S6 => ⟨_, rfl, iteF ?_⟩⟩
      have S7 := S.trans S6
      refine ⟨_, rfl, _, rfl, a1, b1, x1, y1, rfl, r1.same S7, r2.same S7, fun J7 S8 => ⟨_, rfl, iteF ?_⟩⟩
      have S9 := S7.trans S8
      refine ⟨_, rfl, 269, 1, y1, ((0 : Int) : Rat), (r2.same S9).nv, nvI (by decide) (by decide), _, rfl, ?_⟩
      refine ite2 (fun hc => ?_) (fun _ => ?_)
      · have hy : y1 ≠ 0 := fun z => by
          have hc' : (!decide (y1 = ((0 : Int) : Rat))) = true := hc
          rw [z] at hc'
          exact absurd hc' (by decide)
        exact ⟨_, rfl, _, rfl, a1, b1, x1, y1, rfl, r1.same S9, r2.same S9, hy, fun J8 S10 => ⟨_, rfl, iteF ⟨S9.trans S10, _, _, _, rfl⟩⟩⟩
      · exact iteF ⟨S9, _, _, _, rfl⟩
    · rintro σ H' ⟨S, w4, w5, w6, rfl⟩
      have sH := sJ.same S
      have pa : RQ C H' a 133 x := (ra.same uJ).same S
      have pb : RQ C H' b 133 y := (rb.same uJ).same S
      refine ⟨_, rfl, _, rfl, so, a, x, rfl, sH, pa, fun J9 s9 k9 => ⟨_, rfl, iteT ?_⟩⟩
      exact ⟨_, rfl, _, rfl, so, b, y, rfl, s9, RQ.but pb sH k9, fun J10 s10 k10 => q J10 s10 (((kJ.same S).trans k9).trans k10)⟩
def spLaw (K : PySem.W.Frag) : Sp := fun vs H Q _ => ∃ (a : Addr) (ns : List Int), vs = [.ref a] ∧ SqL K H a (ns.map V.int) ∧ ns.length ≤ 63 ∧ ∀ H', Q (.bl true) H'
theorem ok_law (T : Tx K mg C) : FnOk P w K mg base CX0 10 T.aLaw T.dLaw ["_law_cells"] (spLaw K) := by
  have GC : FnOk P w K mg base CX0 9 T.aCell T.dCell ["_law_cells", "_law_k"] (spCell K) := (ok_cell T.FCell T.blt).mono (by decide)
  have GS' : FnOk P w K mg base CX0 9 T.aSrc T.dSrc ["_law_cell_here"] spSource := (ok_source T.FSrc T.blt).mono (by decide)
  have GR : FnOk P w K mg base CX0 9 T.aRight T.dRight ["_law_source_here"] spRight := ok_right T
  refine T.FLaw.ok scLaw (fun vs H Q E h => ?_) (fun cdv A outer s H vs Q E hr h => ?_)
  · obtain ⟨a, ns, rfl, _⟩ := h
    rfl
  · obtain ⟨a, ns, rfl, hS, hlen, q⟩ := h
    refine ⟨_, (pss_cons (ps_for PassesOwn.never rfl (pi_range1 rfl T.rc.range_ (pa_cons (pe_callB (call_max2 rfl) (by rfl) T.max_ (by decide +kernel) (pa_cons pe_int (pa_cons (pe_callB (call_min2 rfl) (by rfl) T.min_ (by decide +kernel) (pa_cons (pe_callB call_len_seq (by rfl) T.len PySem.boot_len (pa_cons (pv 0) pa_nil)) (pa_cons pe_int pa_nil))) pa_nil))) pa_nil)) (pg_name (i := 1) scLaw.nd rfl (.inl rfl))
        (pss_cons (ps_set (i := 2) scLaw.nd rfl (.inl rfl) (pe_call GS' hr (by rfl) T.gSrc T.FSrc.kp T.bSrc .nil pass0 (pa_cons (pe_call GC hr (by rfl) T.gCell T.FCell.kp T.bCell .nil pass0 (pa_cons (pv 0) (pa_cons (pv 1) pa_nil))) pa_nil)))
        (pss_one (ps_if (PW.pt (pw_or (pt_not (pt_val (pe_call GR hr (by rfl) T.gRight T.FRight.kp T.bRight .nil pass0 (pa_cons (pv 2) pa_nil)))) (pw_or1 (pt_not (pt_val (pe_call GR hr (by rfl) T.gRight T.FRight.kp T.bRight .nil pass0 (pa_cons (pv 2) pa_nil))))))) (pss_one (ps_ret pe_bl)) pss_nil))))
      (pss_one (ps_ret pe_bl))), ?_⟩
    have eln : ((ns.map V.int).length : Int) = (ns.length : Int) := by rw [List.length_map]
    obtain ⟨N, hN, n0, n8⟩ : ∃ N : Int, (if (if (6 : Int) < ((ns.map V.int).length : Int) then (6 : Int) else ((ns.map V.int).length : Int)) > 2 then (if (6 : Int) < ((ns.map V.int).length : Int) then (6 : Int) else ((ns.map V.int).length : Int)) else 2) = N ∧ 0 ≤ N ∧ N ≤ 6 := by
      refine ⟨_, rfl, ?_, ?_⟩
      · split <;> split <;> omega
      · split <;> split <;> omega
    refine ⟨_, rfl, a, _, rfl, .inl hS, _, _, rfl, 2, _, rfl, N, by rw [← hN], by omega, by omega, for_range (lo := 0) (n := N.toNat) (fun i σ H' => Same H H' ∧ ∃ w1 w2, σ = [some (.ref a), w1, w2]) ⟨Same.refl _, none, none, rfl⟩ ?_ ?_⟩
    · rintro i σ H' hi ⟨zH, w1, w2, rfl⟩
      have hi8 : (i : Int) < 6 := by omega
      refine ⟨_, rfl, _, rfl, a, ns, 0 + (i : Int), rfl, zH.seq hS, hlen, by omega, by omega, fun c J1 zc => ?_⟩
      refine ⟨c, rfl, fun p J2 hp zs hsrc => ?_⟩
      have hp0 : H p = none := (zH.trans zc).free hp
      refine ⟨_, rfl, p, rfl, hsrc, fun J3 s3 k3 => ⟨_, rfl, iteF ?_⟩⟩
      refine ⟨_, rfl, p, rfl, s3, fun J4 s4 k4 => ⟨_, rfl, iteF ⟨fun c u e => ?_, _, _, rfl⟩⟩⟩
      exact k4 c u (ne_of_none e hp0) (k3 c u (ne_of_none e hp0) (((zH.trans zc).trans zs) c u e))
    · rintro σ H' ⟨zH, w1, w2, rfl⟩
      exact q _
end
end T04

namespace T04
open PySem PySem.Spec PyProof.Rows L2 SF SQ
theorem fnG_of {CX : CXT} {P : Program} {w : World} {K : PySem.W.Frag} {mg : Str → Option Value} {base : Heap} {k : Nat} {f : Addr} {fd : FuncData} {ps : List Str} {sp : Sp} (F : FnOk P w K mg base CX k f fd ps sp) : FnG P w K mg base CX k f fd ps sp :=
  ⟨F.len, fun A outer s H args us vs Q E _ => F.run A outer s H args us vs Q E⟩
theorem mem7 {p : String → Prop} (a : p "int") (b : p "bool") (c : p "str") (d : p "NoneType") (e : p "list") (f : p "tuple") (g : p "dict") : ∀ T ∈ kinds, p T := by
  intro T h
  simp only [kinds, List.mem_cons, List.not_mem_nil, or_false] at h
  rcases h with rfl | rfl | rfl | rfl | rfl | rfl | rfl <;> assumption
theorem all_mk {P : Program} {w : World} {K : PySem.W.Frag} {h : Heap} {mg : Str → Option Value} {fa C T0 fIsW fIsN fAs fSum fProd fInv fFlo fRem fWPo fIsT fIsP fTop fBot fAdd fRadd fSub fRsub fMul fRmul fFDi fMod fPow fNeg fAbs fBool fEq fStr fRepr fOver fPower fCell fSrc fDraw fCom fLow fWho fPair fNum fTri fRing fDown fPows fAlike fRight fLaw fRd fI pTop pBot pRd xfloordiv xmod  : Addr} (X : K.In h) (G : h.Ns mainGlobals mg) (hfa : mg "law" = some (.ref fa))
    {odD odIsW anIsW odIsN anIsN odAs anAs odSum anSum odProd anProd odInv anInv odFlo anFlo odRem anRem odWPo anWPo odIsT anIsT odIsP anIsP odTop anTop odBot anBot odAdd anAdd odRadd anRadd odSub anSub odRsub anRsub odMul anMul odRmul anRmul odFDi anFDi odMod anMod odPow anPow odNeg anNeg odAbs anAbs odBool anBool odEq anEq odStr anStr odRepr anRepr odOver anOver odPower anPower odCell anCell odSrc anSrc odDraw anDraw odCom anCom odLow anLow odWho anWho odPair anPair odNum anNum odTri anTri odRing anRing odDown anDown odPows anPows odAlike anAlike odRight anRight odLaw anLaw odRd anRd odI anI : Option Addr} {slD slIsW slIsN slAs slSum slProd slInv slFlo slRem slWPo slIsT slIsP slTop slBot slAdd slRadd slSub slRsub slMul slRmul slFDi slMod slPow slNeg slAbs slBool slEq slStr slRepr slOver slPower slCell slSrc slDraw slCom slLow slWho slPair slNum slTri slRing slDown slPows slAlike slRight slLaw slRd slI : Array (Option Value)}
    {ocD ocIsW kVIsW dcIsW pmIsW cdIsW ctIsW ocIsN kVIsN dcIsN pmIsN cdIsN ctIsN ocAs kVAs dcAs pmAs cdAs ctAs ocSum kVSum dcSum pmSum cdSum ctSum ocProd kVProd dcProd pmProd cdProd ctProd ocInv kVInv dcInv pmInv cdInv ctInv ocFlo kVFlo dcFlo pmFlo cdFlo ctFlo ocRem kVRem dcRem pmRem cdRem ctRem ocWPo kVWPo dcWPo pmWPo cdWPo ctWPo ocIsT kVIsT dcIsT pmIsT cdIsT ctIsT ocIsP kVIsP dcIsP pmIsP cdIsP ctIsP ocTop kVTop dcTop pmTop cdTop ctTop ocBot kVBot dcBot pmBot cdBot ctBot ocAdd kVAdd dcAdd pmAdd cdAdd ctAdd ocRadd kVRadd dcRadd pmRadd cdRadd ctRadd ocSub kVSub dcSub pmSub cdSub ctSub ocRsub kVRsub dcRsub pmRsub cdRsub ctRsub ocMul kVMul dcMul pmMul cdMul ctMul ocRmul kVRmul dcRmul pmRmul cdRmul ctRmul ocFDi kVFDi dcFDi pmFDi cdFDi ctFDi ocMod kVMod dcMod pmMod cdMod ctMod ocPow kVPow dcPow pmPow cdPow ctPow ocNeg kVNeg dcNeg pmNeg cdNeg ctNeg ocAbs kVAbs dcAbs pmAbs cdAbs ctAbs ocBool kVBool dcBool pmBool cdBool ctBool ocEq kVEq dcEq pmEq cdEq ctEq ocStr kVStr dcStr pmStr cdStr ctStr ocRepr kVRepr dcRepr pmRepr cdRepr ctRepr ocOver kVOver dcOver pmOver cdOver ctOver ocPower kVPower dcPower pmPower cdPower ctPower ocCell kVCell dcCell pmCell cdCell ctCell ocSrc kVSrc dcSrc pmSrc cdSrc ctSrc ocDraw kVDraw dcDraw pmDraw cdDraw ctDraw ocCom kVCom dcCom pmCom cdCom ctCom ocLow kVLow dcLow pmLow cdLow ctLow ocWho kVWho dcWho pmWho cdWho ctWho ocPair kVPair dcPair pmPair cdPair ctPair ocNum kVNum dcNum pmNum cdNum ctNum ocTri kVTri dcTri pmTri cdTri ctTri ocRing kVRing dcRing pmRing cdRing ctRing ocDown kVDown dcDown pmDown cdDown ctDown ocPows kVPows dcPows pmPows cdPows ctPows ocAlike kVAlike dcAlike pmAlike cdAlike ctAlike ocRight kVRight dcRight pmRight cdRight ctRight ocLaw kVLaw dcLaw pmLaw cdLaw ctLaw ocRd kVRd dcRd pmRd cdRd ctRd ocI kVI dcI pmI cdI ctI : Value} {tkD nD : Nat} {tkP : Tok} {restTop restBot restRd : List Value} {tyadd tzadd tysub tzsub tymul tzmul tyfloordiv tzfloordiv tymod tzmod typow tzpow : Option Value}
    (aC : PySem.W.nsIn K mainGlobals "Ratio" = some (some (.ref C)))
    (aIsW : PySem.W.nsIn K mainGlobals "is_whole" = some (some (.ref fIsW)))
    (lIsW : K.lookup fIsW = some ⟨ocIsW, odIsW, .func (PySem.W.fnOf "is_whole" "is_whole" (defArgs sIsW) (defBody sIsW) (defScope sIsW) .none kVIsW dcIsW pmIsW anIsW cdIsW ctIsW), slIsW⟩)
    (cIsW : PySem.W.codeIn K cdIsW "is_whole" = true)
    (kIsW : PySem.W.keepIn K (.ref fIsW) = true)
    (aIsN : PySem.W.nsIn K mainGlobals "is_number" = some (some (.ref fIsN)))
    (lIsN : K.lookup fIsN = some ⟨ocIsN, odIsN, .func (PySem.W.fnOf "is_number" "is_number" (defArgs sIsN) (defBody sIsN) (defScope sIsN) .none kVIsN dcIsN pmIsN anIsN cdIsN ctIsN), slIsN⟩)
    (cIsN : PySem.W.codeIn K cdIsN "is_number" = true)
    (kIsN : PySem.W.keepIn K (.ref fIsN) = true)
    (aAs : PySem.W.nsIn K mainGlobals "as_ratio" = some (some (.ref fAs)))
    (lAs : K.lookup fAs = some ⟨ocAs, odAs, .func (PySem.W.fnOf "as_ratio" "as_ratio" (defArgs sAs) (defBody sAs) (defScope sAs) .none kVAs dcAs pmAs anAs cdAs ctAs), slAs⟩)
    (cAs : PySem.W.codeIn K cdAs "as_ratio" = true)
    (kAs : PySem.W.keepIn K (.ref fAs) = true)
    (aSum : PySem.W.nsIn K mainGlobals "_ratio_sum" = some (some (.ref fSum)))
    (lSum : K.lookup fSum = some ⟨ocSum, odSum, .func (PySem.W.fnOf "_ratio_sum" "_ratio_sum" (defArgs sSum) (defBody sSum) (defScope sSum) .none kVSum dcSum pmSum anSum cdSum ctSum), slSum⟩)
    (cSum : PySem.W.codeIn K cdSum "_ratio_sum" = true)
    (kSum : PySem.W.keepIn K (.ref fSum) = true)
    (aProd : PySem.W.nsIn K mainGlobals "_product" = some (some (.ref fProd)))
    (lProd : K.lookup fProd = some ⟨ocProd, odProd, .func (PySem.W.fnOf "_product" "_product" (defArgs sProd) (defBody sProd) (defScope sProd) .none kVProd dcProd pmProd anProd cdProd ctProd), slProd⟩)
    (cProd : PySem.W.codeIn K cdProd "_product" = true)
    (kProd : PySem.W.keepIn K (.ref fProd) = true)
    (aInv : PySem.W.nsIn K mainGlobals "_inverse" = some (some (.ref fInv)))
    (lInv : K.lookup fInv = some ⟨ocInv, odInv, .func (PySem.W.fnOf "_inverse" "_inverse" (defArgs sInv) (defBody sInv) (defScope sInv) .none kVInv dcInv pmInv anInv cdInv ctInv), slInv⟩)
    (cInv : PySem.W.codeIn K cdInv "_inverse" = true)
    (kInv : PySem.W.keepIn K (.ref fInv) = true)
    (aFlo : PySem.W.nsIn K mainGlobals "_floor" = some (some (.ref fFlo)))
    (lFlo : K.lookup fFlo = some ⟨ocFlo, odFlo, .func (PySem.W.fnOf "_floor" "_floor" (defArgs sFlo) (defBody sFlo) (defScope sFlo) .none kVFlo dcFlo pmFlo anFlo cdFlo ctFlo), slFlo⟩)
    (cFlo : PySem.W.codeIn K cdFlo "_floor" = true)
    (kFlo : PySem.W.keepIn K (.ref fFlo) = true)
    (aRem : PySem.W.nsIn K mainGlobals "_remainder" = some (some (.ref fRem)))
    (lRem : K.lookup fRem = some ⟨ocRem, odRem, .func (PySem.W.fnOf "_remainder" "_remainder" (defArgs sRem) (defBody sRem) (defScope sRem) .none kVRem dcRem pmRem anRem cdRem ctRem), slRem⟩)
    (cRem : PySem.W.codeIn K cdRem "_remainder" = true)
    (kRem : PySem.W.keepIn K (.ref fRem) = true)
    (aWPo : PySem.W.nsIn K mainGlobals "_whole_power" = some (some (.ref fWPo)))
    (lWPo : K.lookup fWPo = some ⟨ocWPo, odWPo, .func (PySem.W.fnOf "_whole_power" "_whole_power" (defArgs sWPo) (defBody sWPo) (defScope sWPo) .none kVWPo dcWPo pmWPo anWPo cdWPo ctWPo), slWPo⟩)
    (cWPo : PySem.W.codeIn K cdWPo "_whole_power" = true)
    (kWPo : PySem.W.keepIn K (.ref fWPo) = true)
    (aIsT : PySem.W.nsIn K mainGlobals "_is_text" = some (some (.ref fIsT)))
    (lIsT : K.lookup fIsT = some ⟨ocIsT, odIsT, .func (PySem.W.fnOf "_is_text" "_is_text" (defArgs sIsT) (defBody sIsT) (defScope sIsT) .none kVIsT dcIsT pmIsT anIsT cdIsT ctIsT), slIsT⟩)
    (cIsT : PySem.W.codeIn K cdIsT "_is_text" = true)
    (kIsT : PySem.W.keepIn K (.ref fIsT) = true)
    (aIsP : PySem.W.nsIn K mainGlobals "_is_positive_text" = some (some (.ref fIsP)))
    (lIsP : K.lookup fIsP = some ⟨ocIsP, odIsP, .func (PySem.W.fnOf "_is_positive_text" "_is_positive_text" (defArgs sIsP) (defBody sIsP) (defScope sIsP) .none kVIsP dcIsP pmIsP anIsP cdIsP ctIsP), slIsP⟩)
    (cIsP : PySem.W.codeIn K cdIsP "_is_positive_text" = true)
    (kIsP : PySem.W.keepIn K (.ref fIsP) = true)
    (aTop : PySem.W.findIn K (.ref C) "top" = some (some (.ref pTop)))
    (gTop : PySem.W.specialIn K (.ref pTop) "__get__" = some (some (.builtin "property.__get__")))
    (tTop : PySem.W.takesIn K (.ref pTop) = some true)
    (rTop : PySem.W.recIn K pTop "property" = some (.ref fTop :: restTop))
    (lTop : K.lookup fTop = some ⟨ocTop, odTop, .func (PySem.W.fnOf "top" "Ratio.top" (defArgs sTop) (defBody sTop) (defScope sTop) .none kVTop dcTop pmTop anTop cdTop ctTop), slTop⟩)
    (cTop : PySem.W.codeIn K cdTop "Ratio.top" = true)
    (kTop : PySem.W.keepIn K (.ref fTop) = true)
    (aBot : PySem.W.findIn K (.ref C) "bottom" = some (some (.ref pBot)))
    (gBot : PySem.W.specialIn K (.ref pBot) "__get__" = some (some (.builtin "property.__get__")))
    (tBot : PySem.W.takesIn K (.ref pBot) = some true)
    (rBot : PySem.W.recIn K pBot "property" = some (.ref fBot :: restBot))
    (lBot : K.lookup fBot = some ⟨ocBot, odBot, .func (PySem.W.fnOf "bottom" "Ratio.bottom" (defArgs sBot) (defBody sBot) (defScope sBot) .none kVBot dcBot pmBot anBot cdBot ctBot), slBot⟩)
    (cBot : PySem.W.codeIn K cdBot "Ratio.bottom" = true)
    (kBot : PySem.W.keepIn K (.ref fBot) = true)
    (aAdd : PySem.W.findIn K (.ref C) "__add__" = some (some (.ref fAdd)))
    (iAdd : PySem.W.isFn K (.ref fAdd) = true)
    (lAdd : K.lookup fAdd = some ⟨ocAdd, odAdd, .func (PySem.W.fnOf "__add__" "Ratio.__add__" (defArgs sAdd) (defBody sAdd) (defScope sAdd) .none kVAdd dcAdd pmAdd anAdd cdAdd ctAdd), slAdd⟩)
    (cAdd : PySem.W.codeIn K cdAdd "Ratio.__add__" = true)
    (kAdd : PySem.W.keepIn K (.ref fAdd) = true)
    (aRadd : PySem.W.findIn K (.ref C) "__radd__" = some (some (.ref fRadd)))
    (iRadd : PySem.W.isFn K (.ref fRadd) = true)
    (lRadd : K.lookup fRadd = some ⟨ocRadd, odRadd, .func (PySem.W.fnOf "__radd__" "Ratio.__radd__" (defArgs sRadd) (defBody sRadd) (defScope sRadd) .none kVRadd dcRadd pmRadd anRadd cdRadd ctRadd), slRadd⟩)
    (cRadd : PySem.W.codeIn K cdRadd "Ratio.__radd__" = true)
    (kRadd : PySem.W.keepIn K (.ref fRadd) = true)
    (aSub : PySem.W.findIn K (.ref C) "__sub__" = some (some (.ref fSub)))
    (iSub : PySem.W.isFn K (.ref fSub) = true)
    (lSub : K.lookup fSub = some ⟨ocSub, odSub, .func (PySem.W.fnOf "__sub__" "Ratio.__sub__" (defArgs sSub) (defBody sSub) (defScope sSub) .none kVSub dcSub pmSub anSub cdSub ctSub), slSub⟩)
    (cSub : PySem.W.codeIn K cdSub "Ratio.__sub__" = true)
    (kSub : PySem.W.keepIn K (.ref fSub) = true)
    (aRsub : PySem.W.findIn K (.ref C) "__rsub__" = some (some (.ref fRsub)))
    (iRsub : PySem.W.isFn K (.ref fRsub) = true)
    (lRsub : K.lookup fRsub = some ⟨ocRsub, odRsub, .func (PySem.W.fnOf "__rsub__" "Ratio.__rsub__" (defArgs sRsub) (defBody sRsub) (defScope sRsub) .none kVRsub dcRsub pmRsub anRsub cdRsub ctRsub), slRsub⟩)
    (cRsub : PySem.W.codeIn K cdRsub "Ratio.__rsub__" = true)
    (kRsub : PySem.W.keepIn K (.ref fRsub) = true)
    (aMul : PySem.W.findIn K (.ref C) "__mul__" = some (some (.ref fMul)))
    (iMul : PySem.W.isFn K (.ref fMul) = true)
    (lMul : K.lookup fMul = some ⟨ocMul, odMul, .func (PySem.W.fnOf "__mul__" "Ratio.__mul__" (defArgs sMul) (defBody sMul) (defScope sMul) .none kVMul dcMul pmMul anMul cdMul ctMul), slMul⟩)
    (cMul : PySem.W.codeIn K cdMul "Ratio.__mul__" = true)
    (kMul : PySem.W.keepIn K (.ref fMul) = true)
    (aRmul : PySem.W.findIn K (.ref C) "__rmul__" = some (some (.ref fRmul)))
    (iRmul : PySem.W.isFn K (.ref fRmul) = true)
    (lRmul : K.lookup fRmul = some ⟨ocRmul, odRmul, .func (PySem.W.fnOf "__rmul__" "Ratio.__rmul__" (defArgs sRmul) (defBody sRmul) (defScope sRmul) .none kVRmul dcRmul pmRmul anRmul cdRmul ctRmul), slRmul⟩)
    (cRmul : PySem.W.codeIn K cdRmul "Ratio.__rmul__" = true)
    (kRmul : PySem.W.keepIn K (.ref fRmul) = true)
    (aFDi : PySem.W.findIn K (.ref C) "__floordiv__" = some (some (.ref fFDi)))
    (iFDi : PySem.W.isFn K (.ref fFDi) = true)
    (lFDi : K.lookup fFDi = some ⟨ocFDi, odFDi, .func (PySem.W.fnOf "__floordiv__" "Ratio.__floordiv__" (defArgs sFDi) (defBody sFDi) (defScope sFDi) .none kVFDi dcFDi pmFDi anFDi cdFDi ctFDi), slFDi⟩)
    (cFDi : PySem.W.codeIn K cdFDi "Ratio.__floordiv__" = true)
    (kFDi : PySem.W.keepIn K (.ref fFDi) = true)
    (aMod : PySem.W.findIn K (.ref C) "__mod__" = some (some (.ref fMod)))
    (iMod : PySem.W.isFn K (.ref fMod) = true)
    (lMod : K.lookup fMod = some ⟨ocMod, odMod, .func (PySem.W.fnOf "__mod__" "Ratio.__mod__" (defArgs sMod) (defBody sMod) (defScope sMod) .none kVMod dcMod pmMod anMod cdMod ctMod), slMod⟩)
    (cMod : PySem.W.codeIn K cdMod "Ratio.__mod__" = true)
    (kMod : PySem.W.keepIn K (.ref fMod) = true)
    (aPow : PySem.W.findIn K (.ref C) "__pow__" = some (some (.ref fPow)))
    (iPow : PySem.W.isFn K (.ref fPow) = true)
    (lPow : K.lookup fPow = some ⟨ocPow, odPow, .func (PySem.W.fnOf "__pow__" "Ratio.__pow__" (defArgs sPow) (defBody sPow) (defScope sPow) .none kVPow dcPow pmPow anPow cdPow ctPow), slPow⟩)
    (cPow : PySem.W.codeIn K cdPow "Ratio.__pow__" = true)
    (kPow : PySem.W.keepIn K (.ref fPow) = true)
    (aNeg : PySem.W.findIn K (.ref C) "__neg__" = some (some (.ref fNeg)))
    (iNeg : PySem.W.isFn K (.ref fNeg) = true)
    (lNeg : K.lookup fNeg = some ⟨ocNeg, odNeg, .func (PySem.W.fnOf "__neg__" "Ratio.__neg__" (defArgs sNeg) (defBody sNeg) (defScope sNeg) .none kVNeg dcNeg pmNeg anNeg cdNeg ctNeg), slNeg⟩)
    (cNeg : PySem.W.codeIn K cdNeg "Ratio.__neg__" = true)
    (kNeg : PySem.W.keepIn K (.ref fNeg) = true)
    (aAbs : PySem.W.findIn K (.ref C) "__abs__" = some (some (.ref fAbs)))
    (iAbs : PySem.W.isFn K (.ref fAbs) = true)
    (lAbs : K.lookup fAbs = some ⟨ocAbs, odAbs, .func (PySem.W.fnOf "__abs__" "Ratio.__abs__" (defArgs sAbs) (defBody sAbs) (defScope sAbs) .none kVAbs dcAbs pmAbs anAbs cdAbs ctAbs), slAbs⟩)
    (cAbs : PySem.W.codeIn K cdAbs "Ratio.__abs__" = true)
    (kAbs : PySem.W.keepIn K (.ref fAbs) = true)
    (aBool : PySem.W.findIn K (.ref C) "__bool__" = some (some (.ref fBool)))
    (iBool : PySem.W.isFn K (.ref fBool) = true)
    (lBool : K.lookup fBool = some ⟨ocBool, odBool, .func (PySem.W.fnOf "__bool__" "Ratio.__bool__" (defArgs sBool) (defBody sBool) (defScope sBool) .none kVBool dcBool pmBool anBool cdBool ctBool), slBool⟩)
    (cBool : PySem.W.codeIn K cdBool "Ratio.__bool__" = true)
    (kBool : PySem.W.keepIn K (.ref fBool) = true)
    (aEq : PySem.W.findIn K (.ref C) "__eq__" = some (some (.ref fEq)))
    (iEq : PySem.W.isFn K (.ref fEq) = true)
    (lEq : K.lookup fEq = some ⟨ocEq, odEq, .func (PySem.W.fnOf "__eq__" "Ratio.__eq__" (defArgs sEq) (defBody sEq) (defScope sEq) .none kVEq dcEq pmEq anEq cdEq ctEq), slEq⟩)
    (cEq : PySem.W.codeIn K cdEq "Ratio.__eq__" = true)
    (kEq : PySem.W.keepIn K (.ref fEq) = true)
    (aStr : PySem.W.findIn K (.ref C) "__str__" = some (some (.ref fStr)))
    (iStr : PySem.W.isFn K (.ref fStr) = true)
    (lStr : K.lookup fStr = some ⟨ocStr, odStr, .func (PySem.W.fnOf "__str__" "Ratio.__str__" (defArgs sStr) (defBody sStr) (defScope sStr) .none kVStr dcStr pmStr anStr cdStr ctStr), slStr⟩)
    (cStr : PySem.W.codeIn K cdStr "Ratio.__str__" = true)
    (kStr : PySem.W.keepIn K (.ref fStr) = true)
    (aRepr : PySem.W.findIn K (.ref C) "__repr__" = some (some (.ref fRepr)))
    (iRepr : PySem.W.isFn K (.ref fRepr) = true)
    (lRepr : K.lookup fRepr = some ⟨ocRepr, odRepr, .func (PySem.W.fnOf "__repr__" "Ratio.__repr__" (defArgs sRepr) (defBody sRepr) (defScope sRepr) .none kVRepr dcRepr pmRepr anRepr cdRepr ctRepr), slRepr⟩)
    (cRepr : PySem.W.codeIn K cdRepr "Ratio.__repr__" = true)
    (kRepr : PySem.W.keepIn K (.ref fRepr) = true)
    (aOver : PySem.W.findIn K (.ref C) "over" = some (some (.ref fOver)))
    (iOver : PySem.W.isFn K (.ref fOver) = true)
    (lOver : K.lookup fOver = some ⟨ocOver, odOver, .func (PySem.W.fnOf "over" "Ratio.over" (defArgs sOver) (defBody sOver) (defScope sOver) .none kVOver dcOver pmOver anOver cdOver ctOver), slOver⟩)
    (cOver : PySem.W.codeIn K cdOver "Ratio.over" = true)
    (kOver : PySem.W.keepIn K (.ref fOver) = true)
    (aPower : PySem.W.findIn K (.ref C) "power" = some (some (.ref fPower)))
    (iPower : PySem.W.isFn K (.ref fPower) = true)
    (lPower : K.lookup fPower = some ⟨ocPower, odPower, .func (PySem.W.fnOf "power" "Ratio.power" (defArgs sPower) (defBody sPower) (defScope sPower) .none kVPower dcPower pmPower anPower cdPower ctPower), slPower⟩)
    (cPower : PySem.W.codeIn K cdPower "Ratio.power" = true)
    (kPower : PySem.W.keepIn K (.ref fPower) = true)
    (aCell : PySem.W.nsIn K mainGlobals "_law_cell" = some (some (.ref fCell)))
    (lCell : K.lookup fCell = some ⟨ocCell, odCell, .func (PySem.W.fnOf "_law_cell" "_law_cell" (defArgs sCell) (defBody sCell) (defScope sCell) .none kVCell dcCell pmCell anCell cdCell ctCell), slCell⟩)
    (cCell : PySem.W.codeIn K cdCell "_law_cell" = true)
    (kCell : PySem.W.keepIn K (.ref fCell) = true)
    (aSrc : PySem.W.nsIn K mainGlobals "_law_source" = some (some (.ref fSrc)))
    (lSrc : K.lookup fSrc = some ⟨ocSrc, odSrc, .func (PySem.W.fnOf "_law_source" "_law_source" (defArgs sSrc) (defBody sSrc) (defScope sSrc) .none kVSrc dcSrc pmSrc anSrc cdSrc ctSrc), slSrc⟩)
    (cSrc : PySem.W.codeIn K cdSrc "_law_source" = true)
    (kSrc : PySem.W.keepIn K (.ref fSrc) = true)
    (aDraw : PySem.W.nsIn K mainGlobals "_law_draw" = some (some (.ref fDraw)))
    (lDraw : K.lookup fDraw = some ⟨ocDraw, odDraw, .func (PySem.W.fnOf "_law_draw" "_law_draw" (defArgs sDraw) (defBody sDraw) (defScope sDraw) .none kVDraw dcDraw pmDraw anDraw cdDraw ctDraw), slDraw⟩)
    (cDraw : PySem.W.codeIn K cdDraw "_law_draw" = true)
    (kDraw : PySem.W.keepIn K (.ref fDraw) = true)
    (aCom : PySem.W.nsIn K mainGlobals "_law_common" = some (some (.ref fCom)))
    (lCom : K.lookup fCom = some ⟨ocCom, odCom, .func (PySem.W.fnOf "_law_common" "_law_common" (defArgs sCom) (defBody sCom) (defScope sCom) .none kVCom dcCom pmCom anCom cdCom ctCom), slCom⟩)
    (cCom : PySem.W.codeIn K cdCom "_law_common" = true)
    (kCom : PySem.W.keepIn K (.ref fCom) = true)
    (aLow : PySem.W.nsIn K mainGlobals "_law_lowest" = some (some (.ref fLow)))
    (lLow : K.lookup fLow = some ⟨ocLow, odLow, .func (PySem.W.fnOf "_law_lowest" "_law_lowest" (defArgs sLow) (defBody sLow) (defScope sLow) .none kVLow dcLow pmLow anLow cdLow ctLow), slLow⟩)
    (cLow : PySem.W.codeIn K cdLow "_law_lowest" = true)
    (kLow : PySem.W.keepIn K (.ref fLow) = true)
    (aWho : PySem.W.nsIn K mainGlobals "_law_whole" = some (some (.ref fWho)))
    (lWho : K.lookup fWho = some ⟨ocWho, odWho, .func (PySem.W.fnOf "_law_whole" "_law_whole" (defArgs sWho) (defBody sWho) (defScope sWho) .none kVWho dcWho pmWho anWho cdWho ctWho), slWho⟩)
    (cWho : PySem.W.codeIn K cdWho "_law_whole" = true)
    (kWho : PySem.W.keepIn K (.ref fWho) = true)
    (aPair : PySem.W.nsIn K mainGlobals "_law_pair" = some (some (.ref fPair)))
    (lPair : K.lookup fPair = some ⟨ocPair, odPair, .func (PySem.W.fnOf "_law_pair" "_law_pair" (defArgs sPair) (defBody sPair) (defScope sPair) .none kVPair dcPair pmPair anPair cdPair ctPair), slPair⟩)
    (cPair : PySem.W.codeIn K cdPair "_law_pair" = true)
    (kPair : PySem.W.keepIn K (.ref fPair) = true)
    (aNum : PySem.W.nsIn K mainGlobals "_law_number" = some (some (.ref fNum)))
    (lNum : K.lookup fNum = some ⟨ocNum, odNum, .func (PySem.W.fnOf "_law_number" "_law_number" (defArgs sNum) (defBody sNum) (defScope sNum) .none kVNum dcNum pmNum anNum cdNum ctNum), slNum⟩)
    (cNum : PySem.W.codeIn K cdNum "_law_number" = true)
    (kNum : PySem.W.keepIn K (.ref fNum) = true)
    (aTri : PySem.W.nsIn K mainGlobals "_law_triple" = some (some (.ref fTri)))
    (lTri : K.lookup fTri = some ⟨ocTri, odTri, .func (PySem.W.fnOf "_law_triple" "_law_triple" (defArgs sTri) (defBody sTri) (defScope sTri) .none kVTri dcTri pmTri anTri cdTri ctTri), slTri⟩)
    (cTri : PySem.W.codeIn K cdTri "_law_triple" = true)
    (kTri : PySem.W.keepIn K (.ref fTri) = true)
    (aRing : PySem.W.nsIn K mainGlobals "_law_ring_right" = some (some (.ref fRing)))
    (lRing : K.lookup fRing = some ⟨ocRing, odRing, .func (PySem.W.fnOf "_law_ring_right" "_law_ring_right" (defArgs sRing) (defBody sRing) (defScope sRing) .none kVRing dcRing pmRing anRing cdRing ctRing), slRing⟩)
    (cRing : PySem.W.codeIn K cdRing "_law_ring_right" = true)
    (kRing : PySem.W.keepIn K (.ref fRing) = true)
    (aDown : PySem.W.nsIn K mainGlobals "_law_down_right" = some (some (.ref fDown)))
    (lDown : K.lookup fDown = some ⟨ocDown, odDown, .func (PySem.W.fnOf "_law_down_right" "_law_down_right" (defArgs sDown) (defBody sDown) (defScope sDown) .none kVDown dcDown pmDown anDown cdDown ctDown), slDown⟩)
    (cDown : PySem.W.codeIn K cdDown "_law_down_right" = true)
    (kDown : PySem.W.keepIn K (.ref fDown) = true)
    (aPows : PySem.W.nsIn K mainGlobals "_law_powers_right" = some (some (.ref fPows)))
    (lPows : K.lookup fPows = some ⟨ocPows, odPows, .func (PySem.W.fnOf "_law_powers_right" "_law_powers_right" (defArgs sPows) (defBody sPows) (defScope sPows) .none kVPows dcPows pmPows anPows cdPows ctPows), slPows⟩)
    (cPows : PySem.W.codeIn K cdPows "_law_powers_right" = true)
    (kPows : PySem.W.keepIn K (.ref fPows) = true)
    (aAlike : PySem.W.nsIn K mainGlobals "_law_alike_right" = some (some (.ref fAlike)))
    (lAlike : K.lookup fAlike = some ⟨ocAlike, odAlike, .func (PySem.W.fnOf "_law_alike_right" "_law_alike_right" (defArgs sAlike) (defBody sAlike) (defScope sAlike) .none kVAlike dcAlike pmAlike anAlike cdAlike ctAlike), slAlike⟩)
    (cAlike : PySem.W.codeIn K cdAlike "_law_alike_right" = true)
    (kAlike : PySem.W.keepIn K (.ref fAlike) = true)
    (aRight : PySem.W.nsIn K mainGlobals "_law_right" = some (some (.ref fRight)))
    (lRight : K.lookup fRight = some ⟨ocRight, odRight, .func (PySem.W.fnOf "_law_right" "_law_right" (defArgs sRight) (defBody sRight) (defScope sRight) .none kVRight dcRight pmRight anRight cdRight ctRight), slRight⟩)
    (cRight : PySem.W.codeIn K cdRight "_law_right" = true)
    (kRight : PySem.W.keepIn K (.ref fRight) = true)
    (aLaw : PySem.W.nsIn K mainGlobals "law" = some (some (.ref fLaw)))
    (lLaw : K.lookup fLaw = some ⟨ocLaw, odLaw, .func (PySem.W.fnOf "law" "law" (defArgs sLaw) (defBody sLaw) (defScope sLaw) .none kVLaw dcLaw pmLaw anLaw cdLaw ctLaw), slLaw⟩)
    (cLaw : PySem.W.codeIn K cdLaw "law" = true)
    (kLaw : PySem.W.keepIn K (.ref fLaw) = true)
    (aRd : PySem.W.findCls K (.ref C) (.type "type") "read" = some (.get (.builtin "classmethod.__get__") (.ref pRd) .none (.ref C)))
    (rRd : PySem.W.recIn K pRd "classmethod" = some (.ref fRd :: restRd))
    (iRd : PySem.W.fnIn K fRd = true)
    (rRd_ : PySem.W.readsIn K C (.type "type") = true)
    (gRd_ : PySem.W.specialIn K (.ref C) "__getattribute__" = some (some (.builtin "type.__getattribute__")))
    (lRd : K.lookup fRd = some ⟨ocRd, odRd, .func (PySem.W.fnOf "read" "Ratio.read" (defArgs sRd) (defBody sRd) (defScope sRd) .none kVRd dcRd pmRd anRd cdRd ctRd), slRd⟩)
    (cRd : PySem.W.codeIn K cdRd "Ratio.read" = true)
    (kRd : PySem.W.keepIn K (.ref fRd) = true)
    (aI : PySem.W.findIn K (.ref C) "__init__" = some (some (.ref fI)))
    (iI : PySem.W.isFn K (.ref fI) = true)
    (lI : K.lookup fI = some ⟨ocI, odI, .func (PySem.W.fnOf "__init__" "Ratio.__init__" (defArgs sIni) (defBody sIni) (defScope sIni) (.ref T0) kVI dcI pmI anI cdI ctI), slI⟩)
    (cI : PySem.W.codeIn K cdI "Ratio.__init__" = true)
    (kI : PySem.W.keepIn K (.ref fI) = true)
    (lD : K.lookup T0 = some ⟨ocD, odD, .seq #[.int 1 tkD] nD, slD⟩)
    (aNe : PySem.W.findIn K (.ref C) "__ne__" = some (some (.builtin "object.__ne__")))
    (mk : PySem.W.makesIn K C = true)
    (kc : PySem.W.keepIn K (.ref C) = true)
    (pg : PySem.W.plainGet K C Str.empty = true)
    (hd : PySem.W.hasDictIn K C = true)
    (po : PySem.W.plainOver K C = true)
    (sa : PySem.W.findIn K (.ref C) "__setattr__" = some (some (.builtin "object.__setattr__")))
    (nT : PySem.W.findIn K (.ref C) "_top" = some none)
    (nB : PySem.W.findIn K (.ref C) "_bottom" = some none)
    (q0 : PySem.W.kitOne K (.type "int") (.ref C) = some false)
    (q1 : PySem.W.kitOne K (.type "bool") (.ref C) = some false)
    (q2 : PySem.W.kitOne K (.type "str") (.ref C) = some false)
    (q3 : PySem.W.kitOne K (.type "NoneType") (.ref C) = some false)
    (q4 : PySem.W.kitOne K (.type "list") (.ref C) = some false)
    (q5 : PySem.W.kitOne K (.type "tuple") (.ref C) = some false)
    (q6 : PySem.W.kitOne K (.type "dict") (.ref C) = some false)
    (qC : PySem.W.kitOne K (.ref C) (.ref C) = some true)
    (qI : PySem.W.kitOne K (.ref C) (.type "int") = some false)
    (ca : PySem.W.findIn K (.ref C) "__class__" = some (some (.builtin "object.__class__")))
    (cn : PySem.W.specialIn K (.builtin "object.__class__") "__get__" = some (some (.builtin "getset_descriptor.__get__")))
    (ct : PySem.W.takesIn K (.builtin "object.__class__") = some true)
    (cm : PySem.W.mroIn K C (.type "object") = some true)
    (aG : PySem.W.nsIn K mainGlobals "gcd" = some (some (.builtin "math.gcd")))
    (aMP : PySem.W.nsIn K mainGlobals "MOST_POWER" = some (some (.int 20 tkP)))
    (sf : PySem.W.selfFirst K C = true)
    (sIC : PySem.W.subIn K (.type "int") (.ref C) = some false)
    (sCI : PySem.W.subIn K (.ref C) (.type "int") = some false)
    (rp : PySem.W.findIn K (.ref C) "__rpow__" = some none)
    (rrfloordiv : PySem.W.findIn K (.ref C) "__rfloordiv__" = some (some (.ref xfloordiv)))
    (rrmod : PySem.W.findIn K (.ref C) "__rmod__" = some (some (.ref xmod)))
    (tadd : PySem.W.findIn K (.type "int") "__add__" = some tyadd)
    (uadd : PySem.W.findIn K (.type "int") "__radd__" = some tzadd)
    (tsub : PySem.W.findIn K (.type "int") "__sub__" = some tysub)
    (usub : PySem.W.findIn K (.type "int") "__rsub__" = some tzsub)
    (tmul : PySem.W.findIn K (.type "int") "__mul__" = some tymul)
    (umul : PySem.W.findIn K (.type "int") "__rmul__" = some tzmul)
    (tfloordiv : PySem.W.findIn K (.type "int") "__floordiv__" = some tyfloordiv)
    (ufloordiv : PySem.W.findIn K (.type "int") "__rfloordiv__" = some tzfloordiv)
    (tmod : PySem.W.findIn K (.type "int") "__mod__" = some tymod)
    (umod : PySem.W.findIn K (.type "int") "__rmod__" = some tzmod)
    (tpow : PySem.W.findIn K (.type "int") "__pow__" = some typow)
    (upow : PySem.W.findIn K (.type "int") "__rpow__" = some tzpow)
    (zlen : PySem.W.nsIn K mainGlobals "len" = some none)
    (zint : PySem.W.nsIn K mainGlobals "int" = some none)
    (zabs : PySem.W.nsIn K mainGlobals "abs" = some none)
    (zdivmod : PySem.W.nsIn K mainGlobals "divmod" = some none)
    (zrange : PySem.W.nsIn K mainGlobals "range" = some none)
    (zmax : PySem.W.nsIn K mainGlobals "max" = some none)
    (zmin : PySem.W.nsIn K mainGlobals "min" = some none)
    (zall : PySem.W.nsIn K mainGlobals "all" = some none)
    (zrepr : PySem.W.nsIn K mainGlobals "repr" = some none)
    (zisinstance : PySem.W.nsIn K mainGlobals "isinstance" = some none)
    (zbool : PySem.W.nsIn K mainGlobals "bool" = some none)
    (zstr : PySem.W.nsIn K mainGlobals "str" = some none) :
    ∃ fd : FuncData, (∀ (s : Shared) (u : Value), BindsTo s fd ⟨[u], []⟩ [("_law_cells", u)]) ∧ ∀ base : Heap, K.In base → base.Ns mainGlobals mg → FnG P w K mg base CX0 10 fa fd ["_law_cells"] (spLaw K) := by
  have e := hfa.symm.trans (PySem.W.mg_of X G aLaw)
  cases e
  have FIsW := fun_mk (st := sIsW) lIsW cIsW kIsW
  have bIsW := FIsW.binds (ps := ["value"]) fun _ _ _ _ _ _ us hl => match us, hl with | [_], _ => rfl
  have FIsN := fun_mk (st := sIsN) lIsN cIsN kIsN
  have bIsN := FIsN.binds (ps := ["value"]) fun _ _ _ _ _ _ us hl => match us, hl with | [_], _ => rfl
  have FAs := fun_mk (st := sAs) lAs cAs kAs
  have bAs := FAs.binds (ps := ["number"]) fun _ _ _ _ _ _ us hl => match us, hl with | [_], _ => rfl
  have FSum := fun_mk (st := sSum) lSum cSum kSum
  have bSum := FSum.binds (ps := ["left", "right"]) fun _ _ _ _ _ _ us hl => match us, hl with | [_, _], _ => rfl
  have FProd := fun_mk (st := sProd) lProd cProd kProd
  have bProd := FProd.binds (ps := ["left", "right"]) fun _ _ _ _ _ _ us hl => match us, hl with | [_, _], _ => rfl
  have FInv := fun_mk (st := sInv) lInv cInv kInv
  have bInv := FInv.binds (ps := ["ratio"]) fun _ _ _ _ _ _ us hl => match us, hl with | [_], _ => rfl
  have FFlo := fun_mk (st := sFlo) lFlo cFlo kFlo
  have bFlo := FFlo.binds (ps := ["left", "right"]) fun _ _ _ _ _ _ us hl => match us, hl with | [_, _], _ => rfl
  have FRem := fun_mk (st := sRem) lRem cRem kRem
  have bRem := FRem.binds (ps := ["left", "right"]) fun _ _ _ _ _ _ us hl => match us, hl with | [_, _], _ => rfl
  have FWPo := fun_mk (st := sWPo) lWPo cWPo kWPo
  have bWPo := FWPo.binds (ps := ["base", "times"]) fun _ _ _ _ _ _ us hl => match us, hl with | [_, _], _ => rfl
  have FIsT := fun_mk (st := sIsT) lIsT cIsT kIsT
  have bIsT := FIsT.binds (ps := ["text"]) fun _ _ _ _ _ _ us hl => match us, hl with | [_], _ => rfl
  have FIsP := fun_mk (st := sIsP) lIsP cIsP kIsP
  have bIsP := FIsP.binds (ps := ["text"]) fun _ _ _ _ _ _ us hl => match us, hl with | [_], _ => rfl
  have FTop := fun_mk (st := sTop) lTop cTop kTop
  have bTop := FTop.binds (ps := ["self"]) fun _ _ _ _ _ _ us hl => match us, hl with | [_], _ => rfl
  have FBot := fun_mk (st := sBot) lBot cBot kBot
  have bBot := FBot.binds (ps := ["self"]) fun _ _ _ _ _ _ us hl => match us, hl with | [_], _ => rfl
  have FAdd := fun_mk (st := sAdd) lAdd cAdd kAdd
  have bAdd := FAdd.binds (ps := ["self", "other"]) fun _ _ _ _ _ _ us hl => match us, hl with | [_, _], _ => rfl
  have FRadd := fun_mk (st := sRadd) lRadd cRadd kRadd
  have bRadd := FRadd.binds (ps := ["self", "other"]) fun _ _ _ _ _ _ us hl => match us, hl with | [_, _], _ => rfl
  have FSub := fun_mk (st := sSub) lSub cSub kSub
  have bSub := FSub.binds (ps := ["self", "other"]) fun _ _ _ _ _ _ us hl => match us, hl with | [_, _], _ => rfl
  have FRsub := fun_mk (st := sRsub) lRsub cRsub kRsub
  have bRsub := FRsub.binds (ps := ["self", "other"]) fun _ _ _ _ _ _ us hl => match us, hl with | [_, _], _ => rfl
  have FMul := fun_mk (st := sMul) lMul cMul kMul
  have bMul := FMul.binds (ps := ["self", "other"]) fun _ _ _ _ _ _ us hl => match us, hl with | [_, _], _ => rfl
  have FRmul := fun_mk (st := sRmul) lRmul cRmul kRmul
  have bRmul := FRmul.binds (ps := ["self", "other"]) fun _ _ _ _ _ _ us hl => match us, hl with | [_, _], _ => rfl
  have FFDi := fun_mk (st := sFDi) lFDi cFDi kFDi
  have bFDi := FFDi.binds (ps := ["self", "other"]) fun _ _ _ _ _ _ us hl => match us, hl with | [_, _], _ => rfl
  have FMod := fun_mk (st := sMod) lMod cMod kMod
  have bMod := FMod.binds (ps := ["self", "other"]) fun _ _ _ _ _ _ us hl => match us, hl with | [_, _], _ => rfl
  have FPow := fun_mk (st := sPow) lPow cPow kPow
  have bPow := FPow.binds (ps := ["self", "other"]) fun _ _ _ _ _ _ us hl => match us, hl with | [_, _], _ => rfl
  have FNeg := fun_mk (st := sNeg) lNeg cNeg kNeg
  have bNeg := FNeg.binds (ps := ["self"]) fun _ _ _ _ _ _ us hl => match us, hl with | [_], _ => rfl
  have FAbs := fun_mk (st := sAbs) lAbs cAbs kAbs
  have bAbs := FAbs.binds (ps := ["self"]) fun _ _ _ _ _ _ us hl => match us, hl with | [_], _ => rfl
  have FBool := fun_mk (st := sBool) lBool cBool kBool
  have bBool := FBool.binds (ps := ["self"]) fun _ _ _ _ _ _ us hl => match us, hl with | [_], _ => rfl
  have FEq := fun_mk (st := sEq) lEq cEq kEq
  have bEq := FEq.binds (ps := ["self", "other"]) fun _ _ _ _ _ _ us hl => match us, hl with | [_, _], _ => rfl
  have FStr := fun_mk (st := sStr) lStr cStr kStr
  have bStr := FStr.binds (ps := ["self"]) fun _ _ _ _ _ _ us hl => match us, hl with | [_], _ => rfl
  have FRepr := fun_mk (st := sRepr) lRepr cRepr kRepr
  have bRepr := FRepr.binds (ps := ["self"]) fun _ _ _ _ _ _ us hl => match us, hl with | [_], _ => rfl
  have FOver := fun_mk (st := sOver) lOver cOver kOver
  have bOver := FOver.binds (ps := ["self", "other"]) fun _ _ _ _ _ _ us hl => match us, hl with | [_, _], _ => rfl
  have FPower := fun_mk (st := sPower) lPower cPower kPower
  have bPower := FPower.binds (ps := ["self", "exponent"]) fun _ _ _ _ _ _ us hl => match us, hl with | [_, _], _ => rfl
  have FCell := fun_mk (st := sCell) lCell cCell kCell
  have bCell := FCell.binds (ps := ["_law_cells", "_law_k"]) fun _ _ _ _ _ _ us hl => match us, hl with | [_, _], _ => rfl
  have FSrc := fun_mk (st := sSrc) lSrc cSrc kSrc
  have bSrc := FSrc.binds (ps := ["_law_cell_here"]) fun _ _ _ _ _ _ us hl => match us, hl with | [_], _ => rfl
  have FDraw := fun_mk (st := sDraw) lDraw cDraw kDraw
  have bDraw := FDraw.binds (ps := ["_law_source_here", "_law_many"]) fun _ _ _ _ _ _ us hl => match us, hl with | [_, _], _ => rfl
  have FCom := fun_mk (st := sCom) lCom cCom kCom
  have bCom := FCom.binds (ps := ["_law_one", "_law_two"]) fun _ _ _ _ _ _ us hl => match us, hl with | [_, _], _ => rfl
  have FLow := fun_mk (st := sLow) lLow cLow kLow
  have bLow := FLow.binds (ps := ["_law_upper", "_law_lower"]) fun _ _ _ _ _ _ us hl => match us, hl with | [_, _], _ => rfl
  have FWho := fun_mk (st := sWho) lWho cWho kWho
  have bWho := FWho.binds (ps := ["_law_source_here"]) fun _ _ _ _ _ _ us hl => match us, hl with | [_], _ => rfl
  have FPair := fun_mk (st := sPair) lPair cPair kPair
  have bPair := FPair.binds (ps := ["_law_source_here"]) fun _ _ _ _ _ _ us hl => match us, hl with | [_], _ => rfl
  have FNum := fun_mk (st := sNum) lNum cNum kNum
  have bNum := FNum.binds (ps := ["_law_pair_here"]) fun _ _ _ _ _ _ us hl => match us, hl with | [_], _ => rfl
  have FTri := fun_mk (st := sTri) lTri cTri kTri
  have bTri := FTri.binds (ps := ["_law_source_here"]) fun _ _ _ _ _ _ us hl => match us, hl with | [_], _ => rfl
  have FRing := fun_mk (st := sRing) lRing cRing kRing
  have bRing := FRing.binds (ps := ["_law_a", "_law_b", "_law_c"]) fun _ _ _ _ _ _ us hl => match us, hl with | [_, _, _], _ => rfl
  have FDown := fun_mk (st := sDown) lDown cDown kDown
  have bDown := FDown.binds (ps := ["_law_a", "_law_b"]) fun _ _ _ _ _ _ us hl => match us, hl with | [_, _], _ => rfl
  have FPows := fun_mk (st := sPows) lPows cPows kPows
  have bPows := FPows.binds (ps := ["_law_source_here", "_law_a"]) fun _ _ _ _ _ _ us hl => match us, hl with | [_, _], _ => rfl
  have FAlike := fun_mk (st := sAlike) lAlike cAlike kAlike
  have bAlike := FAlike.binds (ps := ["_law_a", "_law_b"]) fun _ _ _ _ _ _ us hl => match us, hl with | [_, _], _ => rfl
  have FRight := fun_mk (st := sRight) lRight cRight kRight
  have bRight := FRight.binds (ps := ["_law_source_here"]) fun _ _ _ _ _ _ us hl => match us, hl with | [_], _ => rfl
  have FLaw := fun_mk (st := sLaw) lLaw cLaw kLaw
  have bLaw := FLaw.binds (ps := ["_law_cells"]) fun _ _ _ _ _ _ us hl => match us, hl with | [_], _ => rfl
  have FRd := fun_mk (st := sRd) lRd cRd kRd
  have bRd := FRd.binds (ps := ["cls", "text"]) fun _ _ _ _ _ _ us hl => match us, hl with | [_, _], _ => rfl
  have FI : FunD K "__init__" "Ratio.__init__" (defArgs sIni) (defBody sIni) (defScope sIni) [V.int 1] [] fI _ := ⟨⟨_, _, _, _, _, _, _, _, _, _, rfl, lI, cI, .inr ⟨by simp, T0, _, [.int 1 tkD], _, rfl, lD, rfl, .cons ⟨tkD, rfl⟩ .nil⟩, .inl rfl⟩, kI⟩
  obtain ⟨i0, v0, bI⟩ := FI.binds1 (ps := ["self", "top", "bottom"]) 3 1 (by simp) rfl (fun T kV doc pm an cdv ct us its h1 h2 => match us, its, h1, h2 with | [_, _, _], [_], _, _ => ⟨_, rfl, rfl⟩)
  cases v0
  obtain ⟨i1, v1, b1⟩ := FI.binds1 (ps := ["self", "top", "bottom"]) 2 0 (by simp) rfl (fun T kV doc pm an cdv ct us its h1 h2 => match us, its, h1, h2 with | [_, _], [_], _, _ => ⟨_, rfl, rfl⟩)
  have RR : RC K mg C := { cl := ⟨pg, hd, po, sa⟩, nT := nT, nB := nB, mgC := PySem.W.mg_of X G aC, isi := (PySem.W.mg_none_of X G zisinstance), int_ := (PySem.W.mg_none_of X G zint), bool_ := (PySem.W.mg_none_of X G zbool), str_ := (PySem.W.mg_none_of X G zstr), abs_ := (PySem.W.mg_none_of X G zabs), range_ := (PySem.W.mg_none_of X G zrange), repr_ := (PySem.W.mg_none_of X G zrepr), gcd := PySem.W.mg_of X G aG, kB := mem7 (p := fun T => PySem.W.kitOne K (.type T) (.ref C) = some false) q0 q1 q2 q3 q4 q5 q6, kC := qC, ca := ca, cn := cn, ct := ct, cm := cm }
  let T : Tx K mg C := { rc := RR, kI := qI, len := (PySem.W.mg_none_of X G zlen), dvm := (PySem.W.mg_none_of X G zdivmod), max_ := (PySem.W.mg_none_of X G zmax), min_ := (PySem.W.mg_none_of X G zmin), all_ := (PySem.W.mg_none_of X G zall), tkP := tkP, mp := PySem.W.mg_of X G aMP, aIni := fI, dIni := _, dv := i1, vv := v1, FIni := FI, M := ⟨mk, aI, iI, kc⟩, b2 := bI, b1 := b1, hNe := ⟨aNe⟩, sf := sf, sIC := ⟨sIC⟩, sCI := sCI, hRp := rp, r_floordiv := ⟨_, rrfloordiv, .inr ⟨_, rfl⟩⟩, r_mod := ⟨_, rrmod, .inr ⟨_, rfl⟩⟩, t_add := ⟨_, tadd⟩, t_radd := ⟨_, uadd⟩, t_sub := ⟨_, tsub⟩, t_rsub := ⟨_, usub⟩, t_mul := ⟨_, tmul⟩, t_rmul := ⟨_, umul⟩, t_floordiv := ⟨_, tfloordiv⟩, t_rfloordiv := ⟨_, ufloordiv⟩, t_mod := ⟨_, tmod⟩, t_rmod := ⟨_, umod⟩, t_pow := ⟨_, tpow⟩, t_rpow := ⟨_, upow⟩, aIsW := fIsW, dIsW := _, FIsW := FIsW, bIsW := bIsW, gIsW := PySem.W.mg_of X G aIsW, aIsN := fIsN, dIsN := _, FIsN := FIsN, bIsN := bIsN, gIsN := PySem.W.mg_of X G aIsN, aAs := fAs, dAs := _, FAs := FAs, bAs := bAs, gAs := PySem.W.mg_of X G aAs, aSum := fSum, dSum := _, FSum := FSum, bSum := bSum, gSum := PySem.W.mg_of X G aSum, aProd := fProd, dProd := _, FProd := FProd, bProd := bProd, gProd := PySem.W.mg_of X G aProd, aInv := fInv, dInv := _, FInv := FInv, bInv := bInv, gInv := PySem.W.mg_of X G aInv, aFlo := fFlo, dFlo := _, FFlo := FFlo, bFlo := bFlo, gFlo := PySem.W.mg_of X G aFlo, aRem := fRem, dRem := _, FRem := FRem, bRem := bRem, gRem := PySem.W.mg_of X G aRem, aWPo := fWPo, dWPo := _, FWPo := FWPo, bWPo := bWPo, gWPo := PySem.W.mg_of X G aWPo, aIsT := fIsT, dIsT := _, FIsT := FIsT, bIsT := bIsT, gIsT := PySem.W.mg_of X G aIsT, aIsP := fIsP, dIsP := _, FIsP := FIsP, bIsP := bIsP, gIsP := PySem.W.mg_of X G aIsP, aTop := fTop, dTop := _, FTop := FTop, bTop := bTop, pTop := pTop, PTop := ⟨aTop, gTop, tTop, ⟨_, rTop⟩⟩, aBot := fBot, dBot := _, FBot := FBot, bBot := bBot, pBot := pBot, PBot := ⟨aBot, gBot, tBot, ⟨_, rBot⟩⟩, aAdd := fAdd, dAdd := _, FAdd := FAdd, bAdd := bAdd, hAdd := ⟨aAdd, iAdd⟩, aRadd := fRadd, dRadd := _, FRadd := FRadd, bRadd := bRadd, hRadd := ⟨aRadd, iRadd⟩, aSub := fSub, dSub := _, FSub := FSub, bSub := bSub, hSub := ⟨aSub, iSub⟩, aRsub := fRsub, dRsub := _, FRsub := FRsub, bRsub := bRsub, hRsub := ⟨aRsub, iRsub⟩, aMul := fMul, dMul := _, FMul := FMul, bMul := bMul, hMul := ⟨aMul, iMul⟩, aRmul := fRmul, dRmul := _, FRmul := FRmul, bRmul := bRmul, hRmul := ⟨aRmul, iRmul⟩, aFDi := fFDi, dFDi := _, FFDi := FFDi, bFDi := bFDi, hFDi := ⟨aFDi, iFDi⟩, aMod := fMod, dMod := _, FMod := FMod, bMod := bMod, hMod := ⟨aMod, iMod⟩, aPow := fPow, dPow := _, FPow := FPow, bPow := bPow, hPow := ⟨aPow, iPow⟩, aNeg := fNeg, dNeg := _, FNeg := FNeg, bNeg := bNeg, hNeg := ⟨aNeg, iNeg⟩, aAbs := fAbs, dAbs := _, FAbs := FAbs, bAbs := bAbs, hAbs := ⟨aAbs, iAbs⟩, aBool := fBool, dBool := _, FBool := FBool, bBool := bBool, hBool := ⟨aBool, iBool⟩, aEq := fEq, dEq := _, FEq := FEq, bEq := bEq, hEq := ⟨aEq, iEq⟩, aStr := fStr, dStr := _, FStr := FStr, bStr := bStr, hStr := ⟨aStr, iStr⟩, aRepr := fRepr, dRepr := _, FRepr := FRepr, bRepr := bRepr, hRepr := ⟨aRepr, iRepr⟩, aOver := fOver, dOver := _, FOver := FOver, bOver := bOver, hOver := ⟨aOver, iOver⟩, aPower := fPower, dPower := _, FPower := FPower, bPower := bPower, hPower := ⟨aPower, iPower⟩, aCell := fCell, dCell := _, FCell := FCell, bCell := bCell, gCell := PySem.W.mg_of X G aCell, aSrc := fSrc, dSrc := _, FSrc := FSrc, bSrc := bSrc, gSrc := PySem.W.mg_of X G aSrc, aDraw := fDraw, dDraw := _, FDraw := FDraw, bDraw := bDraw, gDraw := PySem.W.mg_of X G aDraw, aCom := fCom, dCom := _, FCom := FCom, bCom := bCom, gCom := PySem.W.mg_of X G aCom, aLow := fLow, dLow := _, FLow := FLow, bLow := bLow, gLow := PySem.W.mg_of X G aLow, aWho := fWho, dWho := _, FWho := FWho, bWho := bWho, gWho := PySem.W.mg_of X G aWho, aPair := fPair, dPair := _, FPair := FPair, bPair := bPair, gPair := PySem.W.mg_of X G aPair, aNum := fNum, dNum := _, FNum := FNum, bNum := bNum, gNum := PySem.W.mg_of X G aNum, aTri := fTri, dTri := _, FTri := FTri, bTri := bTri, gTri := PySem.W.mg_of X G aTri, aRing := fRing, dRing := _, FRing := FRing, bRing := bRing, gRing := PySem.W.mg_of X G aRing, aDown := fDown, dDown := _, FDown := FDown, bDown := bDown, gDown := PySem.W.mg_of X G aDown, aPows := fPows, dPows := _, FPows := FPows, bPows := bPows, gPows := PySem.W.mg_of X G aPows, aAlike := fAlike, dAlike := _, FAlike := FAlike, bAlike := bAlike, gAlike := PySem.W.mg_of X G aAlike, aRight := fRight, dRight := _, FRight := FRight, bRight := bRight, gRight := PySem.W.mg_of X G aRight, aLaw := fa, dLaw := _, FLaw := FLaw, bLaw := bLaw, gLaw := PySem.W.mg_of X G aLaw, aRd := fRd, dRd := _, FRd := FRd, bRd := bRd, pRd := pRd, mc := .type "type", rRd := ⟨rRd_, gRd_⟩, cRd := ⟨aRd, ⟨_, rRd⟩, iRd⟩ }
  refine ⟨PySem.W.fnOf "law" "law" (defArgs sLaw) (defBody sLaw) (defScope sLaw) .none kVLaw dcLaw pmLaw anLaw cdLaw ctLaw, fun s v => .of_eq rfl, fun base _ _ => ?_⟩
  exact fnG_of (ok_law T)
end T04

open PySem PySem.W PyProof.Rows in
set_option maxRecDepth 100000 in
set_option maxHeartbeats 0 in
theorem PySem.Challenge.cw_seriesforms_k04_whole_ratio_rules_holds : PySem.Challenge.rw_seriesforms_k04_whole_ratio_rules.Holds := by
  w_on; o_law; k_head; (case hw => w_witness2)
  k_fill
  refine SF.walkG (l := PySem.Challenge.rw_seriesforms_k04_whole_ratio_rules) (n := 63) (k := 10) (sp := T04.spLaw) (x := "_law_cells") rfl (by decide) rfl ⟨rfl, by decide, by decide⟩ (fun w h Y => PySem.W.kIn_of Y) ?F (fun K H a ns hl hS => ⟨a, ns, rfl, hS, hl, fun _ => rfl⟩)
  case F =>
    intro w mg fa h KX G hmg
    refine' T04.all_mk KX G hmg ?aC ?aIsW ?lIsW ?cIsW ?kIsW ?aIsN ?lIsN ?cIsN ?kIsN ?aAs ?lAs ?cAs ?kAs ?aSum ?lSum ?cSum ?kSum ?aProd ?lProd ?cProd ?kProd ?aInv ?lInv ?cInv ?kInv ?aFlo ?lFlo ?cFlo ?kFlo ?aRem ?lRem ?cRem ?kRem ?aWPo ?lWPo ?cWPo ?kWPo ?aIsT ?lIsT ?cIsT ?kIsT ?aIsP ?lIsP ?cIsP ?kIsP ?aTop ?gTop ?tTop ?rTop ?lTop ?cTop ?kTop ?aBot ?gBot ?tBot ?rBot ?lBot ?cBot ?kBot ?aAdd ?iAdd ?lAdd ?cAdd ?kAdd ?aRadd ?iRadd ?lRadd ?cRadd ?kRadd ?aSub ?iSub ?lSub ?cSub ?kSub ?aRsub ?iRsub ?lRsub ?cRsub ?kRsub ?aMul ?iMul ?lMul ?cMul ?kMul ?aRmul ?iRmul ?lRmul ?cRmul ?kRmul ?aFDi ?iFDi ?lFDi ?cFDi ?kFDi ?aMod ?iMod ?lMod ?cMod ?kMod ?aPow ?iPow ?lPow ?cPow ?kPow ?aNeg ?iNeg ?lNeg ?cNeg ?kNeg ?aAbs ?iAbs ?lAbs ?cAbs ?kAbs ?aBool ?iBool ?lBool ?cBool ?kBool ?aEq ?iEq ?lEq ?cEq ?kEq ?aStr ?iStr ?lStr ?cStr ?kStr ?aRepr ?iRepr ?lRepr ?cRepr ?kRepr ?aOver ?iOver ?lOver ?cOver ?kOver ?aPower ?iPower ?lPower ?cPower ?kPower ?aCell ?lCell ?cCell ?kCell ?aSrc ?lSrc ?cSrc ?kSrc ?aDraw ?lDraw ?cDraw ?kDraw ?aCom ?lCom ?cCom ?kCom ?aLow ?lLow ?cLow ?kLow ?aWho ?lWho ?cWho ?kWho ?aPair ?lPair ?cPair ?kPair ?aNum ?lNum ?cNum ?kNum ?aTri ?lTri ?cTri ?kTri ?aRing ?lRing ?cRing ?kRing ?aDown ?lDown ?cDown ?kDown ?aPows ?lPows ?cPows ?kPows ?aAlike ?lAlike ?cAlike ?kAlike ?aRight ?lRight ?cRight ?kRight ?aLaw ?lLaw ?cLaw ?kLaw ?aRd ?rRd ?iRd ?rRd_ ?gRd_ ?lRd ?cRd ?kRd ?aI ?iI ?lI ?cI ?kI ?lD ?aNe ?mk ?kc ?pg ?hd ?po ?sa ?nT ?nB ?q0 ?q1 ?q2 ?q3 ?q4 ?q5 ?q6 ?qC ?qI ?ca ?cn ?ct ?cm ?aG ?aMP ?sf ?sIC ?sCI ?rp ?rrfloordiv ?rrmod ?tadd ?uadd ?tsub ?usub ?tmul ?umul ?tfloordiv ?ufloordiv ?tmod ?umod ?tpow ?upow ?zlen ?zint ?zabs ?zdivmod ?zrange ?zmax ?zmin ?zall ?zrepr ?zisinstance ?zbool ?zstr
    (case aC => k_is)
    (case aIsW => k_is)
    (case lIsW => k_is)
    (case cIsW => k_is)
    (case kIsW => k_is)
    (case aIsN => k_is)
    (case lIsN => k_is)
    (case cIsN => k_is)
    (case kIsN => k_is)
    (case aAs => k_is)
    (case lAs => k_is)
    (case cAs => k_is)
    (case kAs => k_is)
    (case aSum => k_is)
    (case lSum => k_is)
    (case cSum => k_is)
    (case kSum => k_is)
    (case aProd => k_is)
    (case lProd => k_is)
    (case cProd => k_is)
    (case kProd => k_is)
    (case aInv => k_is)
    (case lInv => k_is)
    (case cInv => k_is)
    (case kInv => k_is)
    (case aFlo => k_is)
    (case lFlo => k_is)
    (case cFlo => k_is)
    (case kFlo => k_is)
    (case aRem => k_is)
    (case lRem => k_is)
    (case cRem => k_is)
    (case kRem => k_is)
    (case aWPo => k_is)
    (case lWPo => k_is)
    (case cWPo => k_is)
    (case kWPo => k_is)
    (case aIsT => k_is)
    (case lIsT => k_is)
    (case cIsT => k_is)
    (case kIsT => k_is)
    (case aIsP => k_is)
    (case lIsP => k_is)
    (case cIsP => k_is)
    (case kIsP => k_is)
    (case aTop => k_is)
    (case gTop => k_is)
    (case tTop => k_is)
    (case rTop => k_is)
    (case lTop => k_is)
    (case cTop => k_is)
    (case kTop => k_is)
    (case aBot => k_is)
    (case gBot => k_is)
    (case tBot => k_is)
    (case rBot => k_is)
    (case lBot => k_is)
    (case cBot => k_is)
    (case kBot => k_is)
    (case aAdd => k_is)
    (case iAdd => k_is)
    (case lAdd => k_is)
    (case cAdd => k_is)
    (case kAdd => k_is)
    (case aRadd => k_is)
    (case iRadd => k_is)
    (case lRadd => k_is)
    (case cRadd => k_is)
    (case kRadd => k_is)
    (case aSub => k_is)
    (case iSub => k_is)
    (case lSub => k_is)
    (case cSub => k_is)
    (case kSub => k_is)
    (case aRsub => k_is)
    (case iRsub => k_is)
    (case lRsub => k_is)
    (case cRsub => k_is)
    (case kRsub => k_is)
    (case aMul => k_is)
    (case iMul => k_is)
    (case lMul => k_is)
    (case cMul => k_is)
    (case kMul => k_is)
    (case aRmul => k_is)
    (case iRmul => k_is)
    (case lRmul => k_is)
    (case cRmul => k_is)
    (case kRmul => k_is)
    (case aFDi => k_is)
    (case iFDi => k_is)
    (case lFDi => k_is)
    (case cFDi => k_is)
    (case kFDi => k_is)
    (case aMod => k_is)
    (case iMod => k_is)
    (case lMod => k_is)
    (case cMod => k_is)
    (case kMod => k_is)
    (case aPow => k_is)
    (case iPow => k_is)
    (case lPow => k_is)
    (case cPow => k_is)
    (case kPow => k_is)
    (case aNeg => k_is)
    (case iNeg => k_is)
    (case lNeg => k_is)
    (case cNeg => k_is)
    (case kNeg => k_is)
    (case aAbs => k_is)
    (case iAbs => k_is)
    (case lAbs => k_is)
    (case cAbs => k_is)
    (case kAbs => k_is)
    (case aBool => k_is)
    (case iBool => k_is)
    (case lBool => k_is)
    (case cBool => k_is)
    (case kBool => k_is)
    (case aEq => k_is)
    (case iEq => k_is)
    (case lEq => k_is)
    (case cEq => k_is)
    (case kEq => k_is)
    (case aStr => k_is)
    (case iStr => k_is)
    (case lStr => k_is)
    (case cStr => k_is)
    (case kStr => k_is)
    (case aRepr => k_is)
    (case iRepr => k_is)
    (case lRepr => k_is)
    (case cRepr => k_is)
    (case kRepr => k_is)
    (case aOver => k_is)
    (case iOver => k_is)
    (case lOver => k_is)
    (case cOver => k_is)
    (case kOver => k_is)
    (case aPower => k_is)
    (case iPower => k_is)
    (case lPower => k_is)
    (case cPower => k_is)
    (case kPower => k_is)
    (case aCell => k_is)
    (case lCell => k_is)
    (case cCell => k_is)
    (case kCell => k_is)
    (case aSrc => k_is)
    (case lSrc => k_is)
    (case cSrc => k_is)
    (case kSrc => k_is)
    (case aDraw => k_is)
    (case lDraw => k_is)
    (case cDraw => k_is)
    (case kDraw => k_is)
    (case aCom => k_is)
    (case lCom => k_is)
    (case cCom => k_is)
    (case kCom => k_is)
    (case aLow => k_is)
    (case lLow => k_is)
    (case cLow => k_is)
    (case kLow => k_is)
    (case aWho => k_is)
    (case lWho => k_is)
    (case cWho => k_is)
    (case kWho => k_is)
    (case aPair => k_is)
    (case lPair => k_is)
    (case cPair => k_is)
    (case kPair => k_is)
    (case aNum => k_is)
    (case lNum => k_is)
    (case cNum => k_is)
    (case kNum => k_is)
    (case aTri => k_is)
    (case lTri => k_is)
    (case cTri => k_is)
    (case kTri => k_is)
    (case aRing => k_is)
    (case lRing => k_is)
    (case cRing => k_is)
    (case kRing => k_is)
    (case aDown => k_is)
    (case lDown => k_is)
    (case cDown => k_is)
    (case kDown => k_is)
    (case aPows => k_is)
    (case lPows => k_is)
    (case cPows => k_is)
    (case kPows => k_is)
    (case aAlike => k_is)
    (case lAlike => k_is)
    (case cAlike => k_is)
    (case kAlike => k_is)
    (case aRight => k_is)
    (case lRight => k_is)
    (case cRight => k_is)
    (case kRight => k_is)
    (case aLaw => k_is)
    (case lLaw => k_is)
    (case cLaw => k_is)
    (case kLaw => k_is)
    (case aRd => k_is)
    (case rRd => k_is)
    (case iRd => k_is)
    (case rRd_ => k_is)
    (case gRd_ => k_is)
    (case lRd => k_is)
    (case cRd => k_is)
    (case kRd => k_is)
    (case aI => k_is)
    (case iI => k_is)
    (case lI => k_is)
    (case cI => k_is)
    (case kI => k_is)
    (case lD => k_is)
    (case aNe => k_is)
    (case mk => k_is)
    (case kc => k_is)
    (case pg => k_is)
    (case hd => k_is)
    (case po => k_is)
    (case sa => k_is)
    (case nT => k_is)
    (case nB => k_is)
    (case q0 => kit_is)
    (case q1 => kit_is)
    (case q2 => kit_is)
    (case q3 => kit_is)
    (case q4 => kit_is)
    (case q5 => kit_is)
    (case q6 => kit_is)
    (case qC => kit_is)
    (case qI => kit_is)
    (case ca => k_is)
    (case cn => k_is)
    (case ct => k_is)
    (case cm => k_is)
    (case aG => k_is)
    (case aMP => k_is)
    (case sf => k_is)
    (case sIC => k_is)
    (case sCI => k_is)
    (case rp => k_is)
    (case rrfloordiv => k_is)
    (case rrmod => k_is)
    (case tadd => k_is)
    (case uadd => k_is)
    (case tsub => k_is)
    (case usub => k_is)
    (case tmul => k_is)
    (case umul => k_is)
    (case tfloordiv => k_is)
    (case ufloordiv => k_is)
    (case tmod => k_is)
    (case umod => k_is)
    (case tpow => k_is)
    (case upow => k_is)
    (case zlen => k_is)
    (case zint => k_is)
    (case zabs => k_is)
    (case zdivmod => k_is)
    (case zrange => k_is)
    (case zmax => k_is)
    (case zmin => k_is)
    (case zall => k_is)
    (case zrepr => k_is)
    (case zisinstance => k_is)
    (case zbool => k_is)
    (case zstr => k_is)
